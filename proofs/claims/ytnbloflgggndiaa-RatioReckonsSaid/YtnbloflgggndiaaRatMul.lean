/- The contracts of Sub, Mul, Div. -/
import Derived.Test.YtnbloflgggndiaaRatAdd
import Derived.Deep.DeepCutAuto
namespace Go.Proofs.Ytnbloflgggndiaa
open Go.RowKit Rt

set_option maxHeartbeats 1000000 in
theorem sub_any (N1 D1 N2 D2 : Int) (w : World) (h1 : Is64 N1 D1) (h2 : Is64 N2 D2) :
    Calls Try.prog 11 #[.agg #[.int .i64 N1, .int .i64 D1], .agg #[.int .i64 N2, .int .i64 D2]] w (RatO (cutQ (subO (rawO N1 D1) (rawO N2 D2))) w) := by
  have hb : Is64 (neg64 N2) D2 := ⟨by unfold neg64; have := h2.n1; have := h2.n2; split <;> omega, by unfold neg64; have := h2.n1; have := h2.n2; split <;> omega, h2.d1, h2.d2⟩
  have HA := Lib.hid (fun w => add_any N1 D1 (neg64 N2) D2 w h1 hb)
  rw [rawO_neg _ _ h2.n2, ← sub_add] at HA
  generalize cutQ (subO (rawO N1 D1) (rawO N2 D2)) = o at *
  have e1 : IntKind.i64.wrap (-N2) = neg64 N2 := by
    unfold neg64
    have := h2.n1
    have := h2.n2
    rw [IntKind.wrap_i64]
    split <;> omega
  have e2 : wrap64 (-N2) = neg64 N2 := by
    unfold neg64 wrap64
    have := h2.n1
    have := h2.n2
    split <;> omega
  generalize neg64 N2 = M at *
  go_enter Try.func11, Try.ntmps11
  go_wp2_with fail
  refine (HA.out _).mono ?_
  rintro e w1 ⟨rfl, hb1⟩
  have F1 := Fr.start hb1
  clear hb1
  obtain ⟨-, hz1, g11, g21, g31, g41, g51, g61, hf1⟩ := id F1
  go_wp2_with fail
  refine bodyPost_ret (v := .tuple #[.agg #[.int .i64 (numO o), .int .i64 (denO o)], .bool (okO o)]) (by simp [results, Try.results11, go_sem, g51, g61]) rfl ⟨rfl, F1.done _ _⟩

set_option maxHeartbeats 1000000 in
theorem mul_no1 (N1 D1 N2 D2 : Int) (w : World) (h1 : Is64 N1 D1) (hm : mayB N1 D1 = false) :
    Calls Try.prog 12 #[.agg #[.int .i64 N1, .int .i64 D1], .agg #[.int .i64 N2, .int .i64 D2]] w (RatO none w) := by
  have HM := Lib.hid (may_of h1 hm)
  clear hm
  go_enter Try.func12, Try.ntmps12
  go_wp2_with fail
  refine (HM.out _).mono ?_
  rintro e w1 ⟨rfl, hb1⟩
  have F1 := Fr.start hb1
  clear hb1
  obtain ⟨-, hz1, g11, g21, g31, g41, g51, g61, hf1⟩ := id F1
  go_wp2_with fail
  refine bodyPost_ret (v := .tuple #[.agg #[.int .i64 0, .int .i64 0], .bool false]) (by simp [results, Try.results12, go_sem, g51, g61]) rfl ⟨rfl, F1.done _ _⟩

set_option maxHeartbeats 1000000 in
theorem mul_no2 (N1 D1 N2 D2 : Int) (w : World) (h1 : Is64 N1 D1) (hm : mayB N1 D1 = true) (h2 : Is64 N2 D2) (hm2 : mayB N2 D2 = false) :
    Calls Try.prog 12 #[.agg #[.int .i64 N1, .int .i64 D1], .agg #[.int .i64 N2, .int .i64 D2]] w (RatO none w) := by
  have HM := Lib.hid (may_of h1 hm)
  have HM2 := Lib.hid (may_of h2 hm2)
  clear hm hm2
  go_enter Try.func12, Try.ntmps12
  go_wp2_with fail
  refine (HM.out _).mono ?_
  rintro e w1 ⟨rfl, hb1⟩
  have F1 := Fr.start hb1
  clear hb1
  obtain ⟨-, hz1, g11, g21, g31, g41, g51, g61, hf1⟩ := id F1
  go_wp2_with fail
  refine (HM2.out _).mono ?_
  rintro e w2 ⟨rfl, hb2⟩
  have F2 := F1.next hb2
  clear hb2 F1 hz1 g11 g21 g31 g41 g51 g61 hf1
  obtain ⟨-, hz2, g12, g22, g32, g42, g52, g62, hf2⟩ := id F2
  go_wp2_with fail
  refine bodyPost_ret (v := .tuple #[.agg #[.int .i64 0, .int .i64 0], .bool false]) (by simp [results, Try.results12, go_sem, g52, g62]) rfl ⟨rfl, F2.done _ _⟩

theorem and2 {A B D : Prop} (h : A ∧ B) (d : D) : A ∧ B ∧ D := ⟨h.1, h.2, d⟩
/-- Two cells of a block, stored one behind the other. -/
theorem set2 {W : World} {g : Nat} {u0 u1 v0 v1 : Value} (h0 : W.cell? ⟨g, 0, none⟩ = some u0) (h1 : W.cell? ⟨g, 1, none⟩ = some u1) :
    ((W.setCell ⟨g, 0, none⟩ v0).setCell ⟨g, 1, none⟩ v1).cell? ⟨g, 0, none⟩ = some v0 ∧ ((W.setCell ⟨g, 0, none⟩ v0).setCell ⟨g, 1, none⟩ v1).cell? ⟨g, 1, none⟩ = some v1 := by
  refine ⟨?_, ?_⟩ <;> simp [go_sem, h0, h1]
/-- Six cells stay as they are behind a call; and where the result is stored. -/
theorem keepP {W W' : World} {g B : Nat} {u0 u1 u2 u3 u4 u5 : Option Value} (h : (g < W.heap.size ∧ B + 1 + 1 + 1 ≤ W.heap.size) ∧ W.cell? ⟨g, 0, none⟩ = u0 ∧ W.cell? ⟨g, 1, none⟩ = u1 ∧ W.cell? ⟨B, 0, none⟩ = u2 ∧ W.cell? ⟨B, 1, none⟩ = u3 ∧ W.cell? ⟨B + 1, 0, none⟩ = u4 ∧ W.cell? ⟨B + 1, 1, none⟩ = u5) (hb : Below W.heap.size W W') :
    (g < W'.heap.size ∧ B + 1 + 1 + 1 ≤ W'.heap.size) ∧ W'.cell? ⟨g, 0, none⟩ = u0 ∧ W'.cell? ⟨g, 1, none⟩ = u1 ∧ W'.cell? ⟨B, 0, none⟩ = u2 ∧ W'.cell? ⟨B, 1, none⟩ = u3 ∧ W'.cell? ⟨B + 1, 0, none⟩ = u4 ∧ W'.cell? ⟨B + 1, 1, none⟩ = u5 := by
  obtain ⟨⟨h1, h2⟩, c0, c1, c2, c3, c4, c5⟩ := h
  have hz := hb.size
  exact ⟨⟨by omega, by omega⟩, by rw [hb.cell (p := ⟨g, 0, none⟩) h1, c0], by rw [hb.cell (p := ⟨g, 1, none⟩) h1, c1], by rw [hb.cell (p := ⟨B, 0, none⟩) (by simp; omega), c2], by rw [hb.cell (p := ⟨B, 1, none⟩) (by simp; omega), c3], by rw [hb.cell (p := ⟨B + 1, 0, none⟩) (by simp; omega), c4], by rw [hb.cell (p := ⟨B + 1, 1, none⟩) (by simp; omega), c5]⟩
theorem keepP2 {W : World} {g B : Nat} {u0 u1 u2 u3 u4 u5 : Option Value} (h : (g < W.heap.size ∧ B + 1 + 1 + 1 ≤ W.heap.size) ∧ W.cell? ⟨g, 0, none⟩ = u0 ∧ W.cell? ⟨g, 1, none⟩ = u1 ∧ W.cell? ⟨B, 0, none⟩ = u2 ∧ W.cell? ⟨B, 1, none⟩ = u3 ∧ W.cell? ⟨B + 1, 0, none⟩ = u4 ∧ W.cell? ⟨B + 1, 1, none⟩ = u5) (hg : B + 1 + 1 + 1 ≤ g) (x y : Value) :
    (g < ((W.setCell ⟨B + 1 + 1, 0, none⟩ x).setCell ⟨B + 1 + 1, 1, none⟩ y).heap.size ∧ B + 1 + 1 + 1 ≤ ((W.setCell ⟨B + 1 + 1, 0, none⟩ x).setCell ⟨B + 1 + 1, 1, none⟩ y).heap.size) ∧ ((W.setCell ⟨B + 1 + 1, 0, none⟩ x).setCell ⟨B + 1 + 1, 1, none⟩ y).cell? ⟨g, 0, none⟩ = u0 ∧ ((W.setCell ⟨B + 1 + 1, 0, none⟩ x).setCell ⟨B + 1 + 1, 1, none⟩ y).cell? ⟨g, 1, none⟩ = u1 ∧ ((W.setCell ⟨B + 1 + 1, 0, none⟩ x).setCell ⟨B + 1 + 1, 1, none⟩ y).cell? ⟨B, 0, none⟩ = u2 ∧ ((W.setCell ⟨B + 1 + 1, 0, none⟩ x).setCell ⟨B + 1 + 1, 1, none⟩ y).cell? ⟨B, 1, none⟩ = u3 ∧ ((W.setCell ⟨B + 1 + 1, 0, none⟩ x).setCell ⟨B + 1 + 1, 1, none⟩ y).cell? ⟨B + 1, 0, none⟩ = u4 ∧ ((W.setCell ⟨B + 1 + 1, 0, none⟩ x).setCell ⟨B + 1 + 1, 1, none⟩ y).cell? ⟨B + 1, 1, none⟩ = u5 := by
  obtain ⟨⟨h1, h2⟩, c0, c1, c2, c3, c4, c5⟩ := h
  have e : ∀ a : Addr, a.block ≠ B + 1 + 1 → ((W.setCell ⟨B + 1 + 1, 0, none⟩ x).setCell ⟨B + 1 + 1, 1, none⟩ y).cell? a = W.cell? a := fun a ha => by
    rw [World.cell?_of_block (w := W.setCell ⟨B + 1 + 1, 0, none⟩ x) (Below.heap_setCell _ _ _ _ ha), World.cell?_of_block (w := W) (Below.heap_setCell _ _ _ _ ha)]
  refine ⟨?_, by rw [e _ (by simp; omega), c0], by rw [e _ (by simp; omega), c1], by rw [e _ (by simp; omega), c2], by rw [e _ (by simp; omega), c3], by rw [e _ (by simp), c4], by rw [e _ (by simp), c5]⟩
  simp
  omega
/-- What Mul knows behind the product: slot 8's block holds it. -/
def MulCut (w : World) (N1 D1 N2 D2 t : Int) (s8 : Value) (wx : World) : Prop :=
  ∃ (g : Nat) (H L : Int), s8 = .pointer (some ⟨g, 0, none⟩) ∧ (w.heap.size + 1 + 1 + 1 ≤ g ∧ g < wx.heap.size) ∧ Fr w N1 D1 N2 D2 wx ∧ wx.cell? ⟨g, 0, none⟩ = some (.int .u64 H) ∧ wx.cell? ⟨g, 1, none⟩ = some (.int .u64 L) ∧ IsW H L t

set_option maxHeartbeats 6000000 in
theorem mul_yes (a b : Rat) (N1 D1 N2 D2 : Int) (w : World) (h1 : Is64 N1 D1) (hm : mayB N1 D1 = true) (h2 : Is64 N2 D2) (hm2 : mayB N2 D2 = true)
    (q1 : a.num = N1) (q2 : (a.den : Int) = D1) (q3 : b.num = N2) (q4 : (b.den : Int) = D2) :
    Calls Try.prog 12 #[.agg #[.int .i64 N1, .int .i64 D1], .agg #[.int .i64 N2, .int .i64 D2]] w (RatO (cutQ (some (a * b))) w) := by
  have HM := Lib.hid (may_of h1 hm)
  have HM2 := Lib.hid (may_of h2 hm2)
  have p1 := ((mayB_iff _ _).1 hm).1
  have p2 := ((mayB_iff _ _).1 hm2).1
  obtain ⟨n1, n2, d1, d2⟩ := h1
  obtain ⟨n3, n4, d3, d4⟩ := h2
  clear hm hm2 d1 d3
  have HA1 := Lib.hid (mag_any N1 · n1 n2)
  have HA2 := Lib.hid (mag_any N2 · n3 n4)
  have m1 := mg_bd N1 n1 n2
  have m2 := mg_bd N2 n3 n4
  have hE := mul_end a b (mg N1) (mg N2) _ _ (by rw [q1]; exact mg_natAbs N1) (by rw [q3]; exact mg_natAbs N2) rfl rfl
  rw [q1, q2, q3, q4] at hE
  clear q1 q2 q3 q4
  generalize mg N1 = x1 at *
  generalize mg N2 = x2 at *
  have HG1 := Lib.hid (fun w => divisor_any x1 D2 w m1.1 (by omega) (by omega) (by omega))
  have HG2 := Lib.hid (fun w => divisor_any x2 D1 w m2.1 (by omega) (by omega) (by omega))
  have c1 : 0 < (Int.gcd x1 D2 : Int) := by
    have : 0 < Int.gcd x1 D2 := Int.gcd_pos_of_ne_zero_right _ (by omega)
    omega
  have c2 : 0 < (Int.gcd x2 D1 : Int) := by
    have : 0 < Int.gcd x2 D1 := Int.gcd_pos_of_ne_zero_right _ (by omega)
    omega
  generalize (Int.gcd x1 D2 : Int) = k1 at *
  generalize (Int.gcd x2 D1 : Int) = k2 at *
  have e1 : IntKind.u64.wrap (x1.tdiv k1) = x1 / k1 := tdiv_u64 x1 k1 (by omega) (by omega) c1
  have e2 : IntKind.u64.wrap (x2.tdiv k2) = x2 / k2 := tdiv_u64 x2 k2 (by omega) (by omega) c2
  have e3 : IntKind.u64.wrap (D1.tdiv k2) = D1 / k2 := tdiv_u64 D1 k2 (by omega) (by omega) c2
  have e4 : IntKind.u64.wrap (D2.tdiv k1) = D2 / k1 := tdiv_u64 D2 k1 (by omega) (by omega) c1
  have y1 : 0 ≤ x1 / k1 ∧ x1 / k1 ≤ x1 := ⟨Int.ediv_nonneg (by omega) (by omega), Int.ediv_le_self _ (by omega)⟩
  have y2 : 0 ≤ x2 / k2 ∧ x2 / k2 ≤ x2 := ⟨Int.ediv_nonneg (by omega) (by omega), Int.ediv_le_self _ (by omega)⟩
  have y3 : 0 ≤ D1 / k2 ∧ D1 / k2 ≤ D1 := ⟨Int.ediv_nonneg (by omega) (by omega), Int.ediv_le_self _ (by omega)⟩
  have y4 : 0 ≤ D2 / k1 ∧ D2 / k1 ≤ D2 := ⟨Int.ediv_nonneg (by omega) (by omega), Int.ediv_le_self _ (by omega)⟩
  generalize x1 / k1 = u1 at *
  generalize x2 / k2 = u2 at *
  generalize D1 / k2 = v1 at *
  generalize D2 / k1 = v2 at *
  have e5 : IntKind.u64.wrap D1 = D1 := wraps_u64 _ (by omega) (by omega)
  have e6 : IntKind.u64.wrap D2 = D2 := wraps_u64 _ (by omega) (by omega)
  have f1 : (k1 == 0) = false := by simp; omega
  have f2 : (k2 == 0) = false := by simp; omega
  have f3 : ¬ k1 = 0 := by omega
  have f4 : ¬ k2 = 0 := by omega
  have HP1 := Lib.hid (fun w => product_any u1 u2 w (by omega) (by omega) (by omega) (by omega))
  have HP2 := Lib.hid (fun w => product_any v1 v2 w (by omega) (by omega) (by omega) (by omega))
  have HT := Lib.hid (fun H L H9 L9 w hw hw9 => tell_q H L (u1 * u2) H9 L9 (v1 * v2) (decide (N1 < 0) != decide (N2 < 0)) (a * b) w hw hw9 hE.1 hE.2)
  clear hE
  generalize cutQ (some (a * b)) = o at *
  go_enter Try.func12, Try.ntmps12
  go_wp2_with fail
  refine (HM.out _).mono ?_
  rintro e w1 ⟨rfl, hb1⟩
  have F1 := Fr.start hb1
  clear hb1
  obtain ⟨-, hz1, g11, g21, g31, g41, g51, g61, hf1⟩ := id F1
  go_wp2_with fail
  refine (HM2.out _).mono ?_
  rintro e w2 ⟨rfl, hb2⟩
  have F2 := F1.next hb2
  clear hb2 F1 hz1 g11 g21 g31 g41 g51 g61 hf1
  obtain ⟨-, hz2, g12, g22, g32, g42, g52, g62, hf2⟩ := id F2
  go_wp2_with fail
  go_quiet ((first | (go_at_call 23; exact Calls.quiet_of_same ((HA1.out _).mono fun e w' h => ⟨h.1, h.2.symm⟩)) | (go_at_call 24; exact Calls.quiet_of (HG1.out _))))
  go_upto_region 4 with fail
  have F3 := F2.drewN nq
  obtain ⟨w3, hw3⟩ : ∃ w3, w3 = w2.drewN nq := ⟨_, rfl⟩
  rw [← hw3] at F3 ⊢
  clear hw3 F2 hz2 g12 g22 g32 g42 g52 g62 hf2
  obtain ⟨-, hz3, g13, g23, g33, g43, g53, g63, hf3⟩ := id F3
  go_quiet ((first | (go_at_call 23; exact Calls.quiet_of_same ((HA2.out _).mono fun e w' h => ⟨h.1, h.2.symm⟩)) | (go_at_call 24; exact Calls.quiet_of (HG2.out _))))
  go_upto_region 5 with fail
  have F4 := F3.drewN nq
  obtain ⟨w4, hw4⟩ : ∃ w4, w4 = w3.drewN nq := ⟨_, rfl⟩
  rw [← hw4] at F4 ⊢
  clear hw4 F3 hz3 g13 g23 g33 g43 g53 g63 hf3
  obtain ⟨-, hz4, g14, g24, g34, g44, g54, g64, hf4⟩ := id F4
  go_cut [8] (fun s8 wx => MulCut w N1 D1 N2 D2 (u1 * u2) s8 wx)
  case first =>
    go_region_held3 (fun w' => Fr w N1 D1 N2 D2 w' ∧ w'.cell? ⟨w.heap.size, 0, none⟩ = some (.int .i64 N1) ∧ w'.cell? ⟨w.heap.size + 1, 0, none⟩ = some (.int .i64 N2))
      (first
        | exact keepN (Fr.drew (by assumption))
        | exact keepN (Fr.drew (And.left (by assumption)))
        | assumption
        | exact keepN (Fr.next (And.left (by assumption)) (by assumption))
        | exact keepN (Fr.alloc (And.left (by assumption)) _)
        | exact keepN (Fr.alloc (by assumption) _)
        | exact keepN (Fr.setCell (Fr.setCell (And.left (by assumption)) _ (by simp; omega) _) _ (by simp; omega) _))
      (first
        | (go_at_call_of 23 (Value.int .i64 N1); refine (HA1.out _).mono ?_; rintro e w5 ⟨rfl, rfl⟩)
        | (go_at_call_of 23 (Value.int .i64 N2); refine (HA2.out _).mono ?_; rintro e w5 ⟨rfl, rfl⟩)
        | (go_at_call 32; refine (HP1.out _).mono ?_; rintro e w6 ⟨H, L, hw, rfl, hb⟩; have F6 : Fr w N1 D1 N2 D2 w6 := Fr.next (And.left (by assumption)) hb; obtain ⟨hc6, hf6, hm6⟩ := bcell3 hb))
    all_goals
      have t1 := hb.size
      try simp at t1
      have z6 := F6.size
      go_wp2_with fail
      go_meet
      refine ⟨_, H, L, rfl, ?_, And.left (by assumption), and2 ?_ hw⟩
      · simp
        omega
      · first
          | (simp [go_sem]; done)
          | exact set2 (by rw [hc6 _ _ (by simp)]; simp [go_sem]; rfl) (by rw [hc6 _ _ (by simp)]; simp [go_sem]; rfl)
  case rest =>
    obtain ⟨g, H, L, rfl, ⟨hgB, hgz⟩, F5, k1', k2', hw⟩ := hcut
    have M5 : (g < wc.heap.size ∧ w.heap.size + 1 + 1 + 1 ≤ wc.heap.size) ∧ wc.cell? ⟨g, 0, none⟩ = some (.int .u64 H) ∧ wc.cell? ⟨g, 1, none⟩ = some (.int .u64 L) ∧ wc.cell? ⟨w.heap.size, 0, none⟩ = some (.int .i64 N1) ∧ wc.cell? ⟨w.heap.size, 1, none⟩ = some (.int .i64 D1) ∧ wc.cell? ⟨w.heap.size + 1, 0, none⟩ = some (.int .i64 N2) ∧ wc.cell? ⟨w.heap.size + 1, 1, none⟩ = some (.int .i64 D2) := ⟨⟨hgz, F5.size⟩, k1', k2', F5.c1, F5.c2, F5.c3, F5.c4⟩
    clear F4 hz4 g14 g24 g34 g44 g54 g64 hf4
    obtain ⟨b5, z5, g15, g25, g35, g45, g55, g65, hf5⟩ := id F5
    go_wp2_with fail
    go_region_held3 (fun w' => (g < w'.heap.size ∧ w.heap.size + 1 + 1 + 1 ≤ w'.heap.size) ∧ w'.cell? ⟨g, 0, none⟩ = some (.int .u64 H) ∧ w'.cell? ⟨g, 1, none⟩ = some (.int .u64 L) ∧ w'.cell? ⟨w.heap.size, 0, none⟩ = some (.int .i64 N1) ∧ w'.cell? ⟨w.heap.size, 1, none⟩ = some (.int .i64 D1) ∧ w'.cell? ⟨w.heap.size + 1, 0, none⟩ = some (.int .i64 N2) ∧ w'.cell? ⟨w.heap.size + 1, 1, none⟩ = some (.int .i64 D2))
      (first
        | exact keepP M5 (Below.refl _ _).drew
        | exact keepP (by assumption) (by assumption)
        | exact keepP2 (by assumption) hgB _ _)
      (first
        | (go_at_call 32; refine (HP2.out _).mono ?_; rintro e w9 ⟨H9, L9, hw9, rfl, hb9⟩; have F9 := F5.drew.next hb9)
        | (go_at_call 25; refine (HT.out _ _ _ _ _ hw hw9).mono ?_; rintro e w10 ⟨rfl, hb10⟩; have F10 := F9.next hb10; obtain ⟨-, -, -, -, -, -, s5, s6, sf⟩ := id F10))
    go_wp2_with fail
    refine bodyPost_ret (v := .tuple #[.agg #[.int .i64 (numO o), .int .i64 (denO o)], .bool (okO o)]) (by simp [results, Try.results12, go_sem, s5, s6]) rfl ⟨rfl, F10.done _ _⟩

theorem mul_any (N1 D1 N2 D2 : Int) (w : World) (h1 : Is64 N1 D1) (h2 : Is64 N2 D2) :
    Calls Try.prog 12 #[.agg #[.int .i64 N1, .int .i64 D1], .agg #[.int .i64 N2, .int .i64 D2]] w (RatO (cutQ (mulO (rawO N1 D1) (rawO N2 D2))) w) := by
  cases hm : mayB N1 D1
  · rw [rawO_none hm]
    exact mul_no1 N1 D1 N2 D2 w h1 hm
  · obtain ⟨a, ha⟩ := rawO_is hm
    have qa := rawO_some ha
    cases hm2 : mayB N2 D2
    · rw [rawO_none hm2, ha]
      exact mul_no2 N1 D1 N2 D2 w h1 hm h2 hm2
    · obtain ⟨b, hb⟩ := rawO_is hm2
      have qb := rawO_some hb
      rw [ha, hb]
      exact mul_yes a b N1 D1 N2 D2 w h1 hm h2 hm2 qa.1 qa.2.1 qb.1 qb.2.1

end Go.Proofs.Ytnbloflgggndiaa
