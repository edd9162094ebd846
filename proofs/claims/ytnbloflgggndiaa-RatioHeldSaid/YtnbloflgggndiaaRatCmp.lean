/- The contracts of Div and Cmp. -/
import Derived.Test.YtnbloflgggndiaaRatMul
import Derived.Test.YtnbloflgggndiaaRatEq
namespace Go.Proofs.Ytnbloflgggndiaa
open Go.RowKit Rt

set_option maxHeartbeats 1000000 in
theorem div_no (N1 D1 N2 D2 : Int) (w : World) (h2 : Is64 N2 D2) (hm : mayB N2 D2 = false) :
    Calls Try.prog 13 #[.agg #[.int .i64 N1, .int .i64 D1], .agg #[.int .i64 N2, .int .i64 D2]] w (RatO none w) := by
  have HM := Lib.hid (may_of h2 hm)
  clear hm
  go_enter Try.func13, Try.ntmps13
  go_wp2_with fail
  refine (HM.out _).mono ?_
  rintro e w1 ⟨rfl, hb1⟩
  have F1 := Fr.start hb1
  clear hb1
  obtain ⟨-, hz1, g11, g21, g31, g41, g51, g61, hf1⟩ := id F1
  go_wp2_with fail
  refine bodyPost_ret (v := .tuple #[.agg #[.int .i64 0, .int .i64 0], .bool false]) (by simp [results, Try.results13, go_sem, g51, g61]) rfl ⟨rfl, F1.done _ _⟩

set_option maxHeartbeats 1000000 in
theorem div_zero (N1 D1 D2 : Int) (w : World) (h2 : Is64 0 D2) (hm : mayB 0 D2 = true) :
    Calls Try.prog 13 #[.agg #[.int .i64 N1, .int .i64 D1], .agg #[.int .i64 0, .int .i64 D2]] w (RatO none w) := by
  have HM := Lib.hid (may_of h2 hm)
  clear hm
  go_enter Try.func13, Try.ntmps13
  go_wp2_with fail
  refine (HM.out _).mono ?_
  rintro e w1 ⟨rfl, hb1⟩
  have F1 := Fr.start hb1
  clear hb1
  obtain ⟨-, hz1, g11, g21, g31, g41, g51, g61, hf1⟩ := id F1
  go_wp2_with fail
  refine bodyPost_ret (v := .tuple #[.agg #[.int .i64 0, .int .i64 0], .bool false]) (by simp [results, Try.results13, go_sem, g51, g61]) rfl ⟨rfl, F1.done _ _⟩

set_option maxHeartbeats 1000000 in
theorem div_neg (o : Option Rat) (N1 D1 N2 D2 : Int) (w : World) (h2 : Is64 N2 D2) (hm : mayB N2 D2 = true) (hn : N2 < 0)
    (HA : Hid (∀ w, Calls Try.prog 12 #[.agg #[.int .i64 N1, .int .i64 D1], .agg #[.int .i64 (-D2), .int .i64 (-N2)]] w (RatO o w))) :
    Calls Try.prog 13 #[.agg #[.int .i64 N1, .int .i64 D1], .agg #[.int .i64 N2, .int .i64 D2]] w (RatO o w) := by
  have HM := Lib.hid (may_of h2 hm)
  have hp := (mayB_iff _ _).1 hm
  have n0 : (N2 == 0) = false := by simp; omega
  have l1 := h2.n1
  have l2 : 0 < D2 := hp.1
  have l3 := h2.d2
  have l4 : -9223372036854775807 ≤ N2 := by omega
  clear hm hp
  go_enter Try.func13, Try.ntmps13
  go_wp2_with fail
  refine (HM.out _).mono ?_
  rintro e w1 ⟨rfl, hb1⟩
  have F1 := Fr.start hb1
  clear hb1
  obtain ⟨-, hz1, g11, g21, g31, g41, g51, g61, hf1⟩ := id F1
  go_wp2_with fail
  refine (HA.out _).mono ?_
  rintro e w2 ⟨rfl, hb2⟩
  have F2 := F1.next hb2
  obtain ⟨-, hz2, g12, g22, g32, g42, g52, g62, hf2⟩ := id F2
  go_wp2_with fail
  refine bodyPost_ret (v := .tuple #[.agg #[.int .i64 (numO o), .int .i64 (denO o)], .bool (okO o)]) (by simp [results, Try.results13, go_sem, g52, g62]) rfl ⟨rfl, F2.done _ _⟩

set_option maxHeartbeats 1000000 in
theorem div_pos (o : Option Rat) (N1 D1 N2 D2 : Int) (w : World) (h2 : Is64 N2 D2) (hm : mayB N2 D2 = true) (hn : 0 < N2)
    (HA : Hid (∀ w, Calls Try.prog 12 #[.agg #[.int .i64 N1, .int .i64 D1], .agg #[.int .i64 D2, .int .i64 N2]] w (RatO o w))) :
    Calls Try.prog 13 #[.agg #[.int .i64 N1, .int .i64 D1], .agg #[.int .i64 N2, .int .i64 D2]] w (RatO o w) := by
  have HM := Lib.hid (may_of h2 hm)
  have n0 : (N2 == 0) = false := by simp; omega
  clear hm
  go_enter Try.func13, Try.ntmps13
  go_wp2_with fail
  refine (HM.out _).mono ?_
  rintro e w1 ⟨rfl, hb1⟩
  have F1 := Fr.start hb1
  clear hb1
  obtain ⟨-, hz1, g11, g21, g31, g41, g51, g61, hf1⟩ := id F1
  go_wp2_with fail
  refine (HA.out _).mono ?_
  rintro e w2 ⟨rfl, hb2⟩
  have F2 := F1.next hb2
  obtain ⟨-, hz2, g12, g22, g32, g42, g52, g62, hf2⟩ := id F2
  go_wp2_with fail
  refine bodyPost_ret (v := .tuple #[.agg #[.int .i64 (numO o), .int .i64 (denO o)], .bool (okO o)]) (by simp [results, Try.results13, go_sem, g52, g62]) rfl ⟨rfl, F2.done _ _⟩

theorem divO_none (a : Option Rat) : divO a none = none := by cases a <;> rfl
theorem divO_zero (a : Option Rat) : divO a (some 0) = none := by cases a <;> simp [divO]
theorem div_any (N1 D1 N2 D2 : Int) (w : World) (h1 : Is64 N1 D1) (h2 : Is64 N2 D2) :
    Calls Try.prog 13 #[.agg #[.int .i64 N1, .int .i64 D1], .agg #[.int .i64 N2, .int .i64 D2]] w (RatO (cutQ (divO (rawO N1 D1) (rawO N2 D2))) w) := by
  cases hm : mayB N2 D2
  · rw [rawO_none hm, divO_none]
    exact div_no N1 D1 N2 D2 w h2 hm
  · obtain ⟨q, hq⟩ := rawO_is hm
    have hp := (mayB_iff _ _).1 hm
    by_cases h0 : N2 = 0
    · subst h0
      rw [hq, raw_zero hq, divO_zero]
      exact div_zero N1 D1 D2 w h2 hm
    · have hn := raw_nonzero hq h0
      rw [hq, div_mul hn]
      by_cases hs : N2 < 0
      · refine div_neg _ N1 D1 N2 D2 w h2 hm hs (Lib.hid fun w => ?_)
        rw [← rawO_inv_neg hq hs h2.d2]
        exact mul_any N1 D1 (-D2) (-N2) w h1 ⟨by have := h2.d2; omega, by omega, by omega, by have := h2.n1; omega⟩
      · refine div_pos _ N1 D1 N2 D2 w h2 hm (by omega) (Lib.hid fun w => ?_)
        rw [← rawO_inv_pos hq (by omega) h2.d2]
        exact mul_any N1 D1 D2 N2 w h1 ⟨by omega, h2.d2, by omega, h2.n2⟩


/-- What is known of a world within a call of two ratios that answers a number. -/
structure Fr2 (w : World) (N1 D1 N2 D2 : Int) (W : World) : Prop where
  bel : Below w.heap.size w W
  size : w.heap.size + 1 + 1 ≤ W.heap.size
  c1 : W.cell? ⟨w.heap.size, 0, none⟩ = some (.int .i64 N1)
  c2 : W.cell? ⟨w.heap.size, 1, none⟩ = some (.int .i64 D1)
  c3 : W.cell? ⟨w.heap.size + 1, 0, none⟩ = some (.int .i64 N2)
  c4 : W.cell? ⟨w.heap.size + 1, 1, none⟩ = some (.int .i64 D2)
theorem Fr2.first (w : World) (N1 D1 N2 D2 : Int) (T : TypeId) : Fr2 w N1 D1 N2 D2 ((w.alloc (.cells #[.int .i64 N1, .int .i64 D1] T)).alloc (.cells #[.int .i64 N2, .int .i64 D2] T)) where
  bel := ((Below.refl _ _).alloc (Nat.le_refl _) _).alloc (by simp) _
  size := by simp
  c1 := by simp [go_sem]
  c2 := by simp [go_sem]
  c3 := by simp [go_sem]
  c4 := by simp [go_sem]
theorem Fr2.next {w W W' : World} {N1 D1 N2 D2 : Int} (h : Fr2 w N1 D1 N2 D2 W) (hb : Below W.heap.size W W') : Fr2 w N1 D1 N2 D2 W' where
  bel := h.bel.trans (hb.mono h.bel.size)
  size := Nat.le_trans h.size hb.size
  c1 := by rw [hb.cell (by have := h.size; simp; omega)]; exact h.c1
  c2 := by rw [hb.cell (by have := h.size; simp; omega)]; exact h.c2
  c3 := by rw [hb.cell (by have := h.size; simp; omega)]; exact h.c3
  c4 := by rw [hb.cell (by have := h.size; simp; omega)]; exact h.c4
theorem Fr2.start {w W : World} {N1 D1 N2 D2 : Int} {T : TypeId} (hb : Below ((w.alloc (.cells #[.int .i64 N1, .int .i64 D1] T)).alloc (.cells #[.int .i64 N2, .int .i64 D2] T)).heap.size ((w.alloc (.cells #[.int .i64 N1, .int .i64 D1] T)).alloc (.cells #[.int .i64 N2, .int .i64 D2] T)) W) : Fr2 w N1 D1 N2 D2 W :=
  (Fr2.first w N1 D1 N2 D2 T).next hb
theorem Fr2.drew {w W : World} {N1 D1 N2 D2 : Int} (h : Fr2 w N1 D1 N2 D2 W) : Fr2 w N1 D1 N2 D2 W.drew := h.next (Below.refl _ _).drew
theorem Fr2.alloc {w W : World} {N1 D1 N2 D2 : Int} (h : Fr2 w N1 D1 N2 D2 W) (o : Obj) : Fr2 w N1 D1 N2 D2 (W.alloc o) := h.next ((Below.refl _ _).alloc (Nat.le_refl _) _)
theorem Fr2.setCell {w W : World} {N1 D1 N2 D2 : Int} (h : Fr2 w N1 D1 N2 D2 W) (p : Addr) (hp : w.heap.size + 1 + 1 ≤ p.block) (u : Value) : Fr2 w N1 D1 N2 D2 (W.setCell p u) := by
  have hb : Below (w.heap.size + 1 + 1) W (W.setCell p u) := (Below.refl _ _).setCell hp u
  have hz := h.size
  have hz2 := hb.size
  exact { bel := h.bel.setCell (by omega) u
          size := Nat.le_trans hz hz2
          c1 := by rw [hb.cell (by simp; omega)]; exact h.c1
          c2 := by rw [hb.cell (by simp; omega)]; exact h.c2
          c3 := by rw [hb.cell (by simp)]; exact h.c3
          c4 := by rw [hb.cell (by simp)]; exact h.c4 }
theorem keepN2 {w W : World} {N1 D1 N2 D2 : Int} (h : Fr2 w N1 D1 N2 D2 W) : Fr2 w N1 D1 N2 D2 W ∧ W.cell? ⟨w.heap.size, 0, none⟩ = some (.int .i64 N1) ∧ W.cell? ⟨w.heap.size, 1, none⟩ = some (.int .i64 D1) ∧ W.cell? ⟨w.heap.size + 1, 0, none⟩ = some (.int .i64 N2) ∧ W.cell? ⟨w.heap.size + 1, 1, none⟩ = some (.int .i64 D2) := ⟨h, h.c1, h.c2, h.c3, h.c4⟩

/-- A call answers an int, and makes memory at most. -/
def IntIs (n : Int) (w : World) (e : Ending) (w' : World) : Prop := e = .returned (.int .i64 n) ∧ Below w.heap.size w w'
theorem ret_i64 {a b : Int} (h : a = b) : Ending.returned (.int .i64 a) = .returned (.int .i64 b) := by rw [h]

set_option maxHeartbeats 1000000 in
theorem cmp_no1 (N1 D1 N2 D2 : Int) (w : World) (h1 : Is64 N1 D1) (hm : mayB N1 D1 = false) :
    Calls Try.prog 15 #[.agg #[.int .i64 N1, .int .i64 D1], .agg #[.int .i64 N2, .int .i64 D2]] w (IntIs 0 w) := by
  have HM := Lib.hid (may_of h1 hm)
  clear hm
  go_enter Try.func15, Try.ntmps15
  go_wp2_with fail
  refine (HM.out _).mono ?_
  rintro e w1 ⟨rfl, hb1⟩
  have F1 := Fr2.start hb1
  clear hb1
  obtain ⟨-, hz1, g11, g21, g31, g41⟩ := id F1
  go_wp2_with fail
  go_ret
  exact ⟨rfl, F1.bel⟩

set_option maxHeartbeats 1000000 in
theorem cmp_no2 (N1 D1 N2 D2 : Int) (w : World) (h1 : Is64 N1 D1) (hm : mayB N1 D1 = true) (h2 : Is64 N2 D2) (hm2 : mayB N2 D2 = false) :
    Calls Try.prog 15 #[.agg #[.int .i64 N1, .int .i64 D1], .agg #[.int .i64 N2, .int .i64 D2]] w (IntIs 0 w) := by
  have HM := Lib.hid (may_of h1 hm)
  have HM2 := Lib.hid (may_of h2 hm2)
  clear hm hm2
  go_enter Try.func15, Try.ntmps15
  go_wp2_with fail
  refine (HM.out _).mono ?_
  rintro e w1 ⟨rfl, hb1⟩
  have F1 := Fr2.start hb1
  clear hb1
  obtain ⟨-, hz1, g11, g21, g31, g41⟩ := id F1
  go_wp2_with fail
  refine (HM2.out _).mono ?_
  rintro e w2 ⟨rfl, hb2⟩
  have F2 := F1.next hb2
  go_wp2_with fail
  go_ret
  exact ⟨rfl, F2.bel⟩

theorem pos_of_ne {H L x : Int} {w : World} (h : IsW H L x) (hq : (Op.equalIn 10000 41 (.agg #[.int .u64 H, .int .u64 L]) (.agg #[.int .u64 0, .int .u64 0])).run Try.prog w = .ok false w) : 0 < x := by
  have e := eq_wide H L w
  rw [hq] at e
  have hb : (H == 0 && L == 0) = false := by
    cases hc : (H == 0 && L == 0)
    · rfl
    · rw [hc] at e
      injection e with e1
      cases e1
  simp at hb
  unfold IsW at h
  by_cases h0 : H = 0
  · have := hb h0
    omega
  · omega
/-- What Cmp knows behind the difference: slot 5's block holds it. -/
def CmpCut (w : World) (N1 D1 N2 D2 t : Int) (s5 : Value) (wx : World) : Prop :=
  ∃ (g : Nat) (H L : Int) (p : Bool) (x : Int), s5 = .pointer (some ⟨g, 0, none⟩) ∧ (w.heap.size + 1 + 1 ≤ g ∧ g < wx.heap.size) ∧ Fr2 w N1 D1 N2 D2 wx ∧ wx.cell? ⟨g, 0, none⟩ = some (.int .u64 H) ∧ wx.cell? ⟨g, 1, none⟩ = some (.int .u64 L) ∧ wx.cell? ⟨g, 2, none⟩ = some (.bool p) ∧ IsW H L x ∧ sg p x = t

set_option maxHeartbeats 6000000 in
theorem cmp_yes (N1 D1 N2 D2 : Int) (w : World) (h1 : Is64 N1 D1) (hm : mayB N1 D1 = true) (h2 : Is64 N2 D2) (hm2 : mayB N2 D2 = true) :
    Calls Try.prog 15 #[.agg #[.int .i64 N1, .int .i64 D1], .agg #[.int .i64 N2, .int .i64 D2]] w (IntIs (Int.sign (N1 * D2 + -N2 * D1)) w) := by
  have HM := Lib.hid (may_of h1 hm)
  have HM2 := Lib.hid (may_of h2 hm2)
  have p1 := ((mayB_iff _ _).1 hm).1
  have p2 := ((mayB_iff _ _).1 hm2).1
  have p3 : -9223372036854775807 ≤ N2 := by have := ((mayB_iff _ _).1 hm2).2.1; have := h2.n1; omega
  obtain ⟨n1, n2, d1, d2⟩ := h1
  obtain ⟨n3, n4, d3, d4⟩ := h2
  clear hm hm2 d1 d3
  have HT1 := Lib.hid (fun w => times_any N1 D2 w n1 n2 (by omega) (by omega))
  have HT2 := Lib.hid (fun w => times_any (-N2) D1 w (by omega) (by omega) (by omega) (by omega))
  have HB1 := Lib.hid (add_bd N1 D2 n1 n2 (by omega) (by omega))
  have HB2 := Lib.hid (add_bd (-N2) D1 (by omega) (by omega) (by omega) (by omega))
  have e1 : IntKind.u64.wrap D1 = D1 := wraps_u64 _ (by omega) (by omega)
  have e2 : IntKind.u64.wrap D2 = D2 := wraps_u64 _ (by omega) (by omega)
  have e3 : IntKind.i64.wrap (-N2) = -N2 := by rw [IntKind.wrap_i64]; omega
  have e4 : wrap64 (-N2) = -N2 := by unfold wrap64; omega
  generalize decide (-N2 < 0) = P2 at HT2
  generalize hT : N1 * D2 + -N2 * D1 = T
  have HTT := Lib.hid hT
  clear hT
  go_enter Try.func15, Try.ntmps15
  go_wp2_with fail
  refine (HM.out _).mono ?_
  rintro e w1 ⟨rfl, hb1⟩
  have F1 := Fr2.start hb1
  clear hb1
  obtain ⟨-, hz1, g11, g21, g31, g41⟩ := id F1
  go_wp2_with fail
  refine (HM2.out _).mono ?_
  rintro e w3 ⟨rfl, hb2⟩
  have F3 := F1.next hb2
  clear hb2 F1 hz1 g11 g21 g31 g41
  obtain ⟨-, hz3, g13, g23, g33, g43⟩ := id F3
  go_upto_region 3 with fail
  go_cut [5] (fun s5 wx => CmpCut w N1 D1 N2 D2 T s5 wx)
  case first =>
    go_region_held3 (fun w' => Fr2 w N1 D1 N2 D2 w' ∧ w'.cell? ⟨w.heap.size, 0, none⟩ = some (.int .i64 N1) ∧ w'.cell? ⟨w.heap.size, 1, none⟩ = some (.int .i64 D1) ∧ w'.cell? ⟨w.heap.size + 1, 0, none⟩ = some (.int .i64 N2) ∧ w'.cell? ⟨w.heap.size + 1, 1, none⟩ = some (.int .i64 D2))
      (first
        | exact keepN2 (Fr2.drew (by assumption))
        | exact keepN2 (Fr2.drew (And.left (by assumption)))
        | exact keepN2 (Fr2.next (And.left (by assumption)) (by assumption))
        | exact keepN2 (Fr2.alloc (And.left (by assumption)) _)
        | exact keepN2 (Fr2.alloc (by assumption) _)
        | exact keepN2 (Fr2.setCell (Fr2.setCell (Fr2.setCell (And.left (by assumption)) _ (by simp; omega) _) _ (by simp; omega) _) _ (by simp; omega) _))
      (first
        | (go_at_call_of 30 (Value.int .i64 N1); refine (HT1.out _).mono ?_; rintro e w4 ⟨H1, L1, x1, hw1, hs1, rfl, hb1⟩; have F4 : Fr2 w N1 D1 N2 D2 w4 := Fr2.next (And.left (by assumption)) hb1; have z4 := F4.size; obtain ⟨hc1, hf1, hm1⟩ := bcell3 hb1)
        | (go_at_call_of 30 (Value.int .i64 (-N2)); refine (HT2.out _).mono ?_; rintro e w5 ⟨H2, L2, x2, hw2, hs2, rfl, hb2⟩; have F5 : Fr2 w N1 D1 N2 D2 w5 := Fr2.next (And.left (by assumption)) hb2; have z5 := F5.size; obtain ⟨hc2, hf2, hm2⟩ := bcell3 hb2; obtain ⟨hc12, hf12, hm12⟩ := bcell3 (below_via hb1 (by first | exact Below.refl _ _ | exact (Below.refl _ _).alloc (Nat.le_refl _) _) hb2))
        | (go_at_call 29; refine (plus_any _ _ _ _ x1 x2 _ _ _ (by assumption) (by assumption) (by have := HB1.out _ _ hw1.nonneg hs1; have := HB2.out _ _ hw2.nonneg hs2; omega)).mono ?_; rintro e w6 ⟨p, H, L, x, hw, hs, rfl, hb⟩; rw [hs1, hs2, HTT.out] at hs; have F6 : Fr2 w N1 D1 N2 D2 w6 := Fr2.next (And.left (by assumption)) hb; obtain ⟨hc6, hf6, hm6⟩ := bcell3 hb))
    all_goals
      have t1 := hb.size
      have t2 := hb2.size
      have t3 := hb1.size
      try simp at t1
      try simp at t2
      try simp at t3
      go_wp2_with fail
      go_meet
      refine ⟨_, H, L, p, x, rfl, ?_, And.left (by assumption), and3 ?_ hw hs⟩
      · have z6 := F6.size
        simp
        omega
      · first
          | (simp [go_sem]; done)
          | exact set3 (by rw [hc6 _ _ (by simp)]; simp [go_sem]; rfl) (by rw [hc6 _ _ (by simp)]; simp [go_sem]; rfl) (by rw [hc6 _ _ (by simp)]; simp [go_sem]; rfl)
          | exact set3 (by rw [hc6 _ _ (by omega), hc2 _ _ (by simp)]; simp [go_sem]; rfl) (by rw [hc6 _ _ (by omega), hc2 _ _ (by simp)]; simp [go_sem]; rfl) (by rw [hc6 _ _ (by omega), hc2 _ _ (by simp)]; simp [go_sem]; rfl)
          | exact set3 (by rw [hc6 _ _ (by omega), hc12 _ _ (by simp)]; simp [go_sem]; rfl) (by rw [hc6 _ _ (by omega), hc12 _ _ (by simp)]; simp [go_sem]; rfl) (by rw [hc6 _ _ (by omega), hc12 _ _ (by simp)]; simp [go_sem]; rfl)
  case rest =>
    obtain ⟨g, H, L, p, x, rfl, ⟨hgB, hgz⟩, F5, k1, k2, k3, hw, hs⟩ := hcut
    have HW := Lib.hid hw
    have HS := Lib.hid hs
    by_cases h0 : H = 0 ∧ L = 0
    · obtain ⟨rfl, rfl⟩ := h0
      have hq := eq_wide 0 0
      simp only [beq_self_eq_true, Bool.and_self] at hq
      clear hw hs
      go_wp2_with fail
      go_ret
      have hx := HW.out
      have hs := HS.out
      unfold IsW at hx
      obtain rfl : x = 0 := by omega
      refine ⟨ret_i64 ?_, F5.bel⟩
      rw [← hs]
      cases p <;> rfl
    · have hq := eq_wide H L
      have hb : (H == 0 && L == 0) = false := by simpa using h0
      rw [hb] at hq
      clear hw hs h0 hb
      cases p
      · go_wp2_with fail
        go_ret
        have hx := HW.out
        have hs := HS.out
        refine ⟨ret_i64 ?_, F5.bel⟩
        rw [← hs, sg_false, Int.sign_eq_one_of_pos (pos_of_ne hx (hq wc))]
      · go_wp2_with fail
        go_ret
        have hx := HW.out
        have hs := HS.out
        refine ⟨ret_i64 ?_, F5.bel⟩
        rw [← hs, sg_true, Int.sign_eq_neg_one_of_neg (by have := pos_of_ne hx (hq wc); omega)]

/-- How two rationals stand to each other. -/
def Rt.cmpO (a b : Option Rat) : Int := match a, b with | some x, some y => Int.sign (x.num * y.den + -y.num * x.den) | _, _ => 0
theorem cmp_any (N1 D1 N2 D2 : Int) (w : World) (h1 : Is64 N1 D1) (h2 : Is64 N2 D2) :
    Calls Try.prog 15 #[.agg #[.int .i64 N1, .int .i64 D1], .agg #[.int .i64 N2, .int .i64 D2]] w (IntIs (cmpO (rawO N1 D1) (rawO N2 D2)) w) := by
  cases hm : mayB N1 D1
  · rw [rawO_none hm]
    exact cmp_no1 N1 D1 N2 D2 w h1 hm
  · obtain ⟨a, ha⟩ := rawO_is hm
    have qa := rawO_some ha
    cases hm2 : mayB N2 D2
    · rw [rawO_none hm2, ha]
      exact cmp_no2 N1 D1 N2 D2 w h1 hm h2 hm2
    · obtain ⟨b, hb⟩ := rawO_is hm2
      have qb := rawO_some hb
      rw [ha, hb]
      simp only [cmpO]
      rw [qa.1, qa.2.1, qb.1, qb.2.1]
      exact cmp_yes N1 D1 N2 D2 w h1 hm h2 hm2

end Go.Proofs.Ytnbloflgggndiaa
