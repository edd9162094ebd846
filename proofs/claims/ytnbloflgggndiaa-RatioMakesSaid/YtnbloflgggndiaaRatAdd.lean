/- The contracts of Add and Sub. -/
import Derived.Test.YtnbloflgggndiaaRatMake
import Derived.Deep.DeepCutAuto
namespace Go.Proofs.Ytnbloflgggndiaa
open Go.RowKit Rt

/-- A ratio's numbers are int64's. -/
structure Is64 (N D : Int) : Prop where
  n1 : -9223372036854775808 ≤ N
  n2 : N ≤ 9223372036854775807
  d1 : -9223372036854775808 ≤ D
  d2 : D ≤ 9223372036854775807

theorem may_of {N D : Int} {b : Bool} (h : Is64 N D) (hm : mayB N D = b) (w : World) :
    Calls Try.prog 28 #[.agg #[.int .i64 N, .int .i64 D]] w fun e w' => e = .returned (.bool b) ∧ Below w.heap.size w w' := by
  rw [← hm]
  exact may_any N D w h.n1 h.n2 h.d1 h.d2

/-- What is known of a world within a call of two ratios: where they and the result lie, and that nothing older has changed. -/
structure Fr (w : World) (N1 D1 N2 D2 : Int) (W : World) : Prop where
  bel : Below w.heap.size w W
  size : w.heap.size + 1 + 1 + 1 ≤ W.heap.size
  c1 : W.cell? ⟨w.heap.size, 0, none⟩ = some (.int .i64 N1)
  c2 : W.cell? ⟨w.heap.size, 1, none⟩ = some (.int .i64 D1)
  c3 : W.cell? ⟨w.heap.size + 1, 0, none⟩ = some (.int .i64 N2)
  c4 : W.cell? ⟨w.heap.size + 1, 1, none⟩ = some (.int .i64 D2)
  c5 : W.cell? ⟨w.heap.size + 1 + 1, 0, none⟩ = some (.int .i64 0)
  c6 : W.cell? ⟨w.heap.size + 1 + 1, 1, none⟩ = some (.int .i64 0)
  fz : ∀ o, W.frozen? ⟨w.heap.size + 1 + 1, o, none⟩ = false

theorem Fr.first (w : World) (N1 D1 N2 D2 : Int) (T : TypeId) : Fr w N1 D1 N2 D2 (((w.alloc (.cells #[.int .i64 N1, .int .i64 D1] T)).alloc (.cells #[.int .i64 N2, .int .i64 D2] T)).alloc (.cells #[.int .i64 0, .int .i64 0] T)) where
  bel := (((Below.refl _ _).alloc (Nat.le_refl _) _).alloc (by simp) _).alloc (by simp; omega) _
  size := by simp
  c1 := by simp [go_sem]
  c2 := by simp [go_sem]
  c3 := by simp [go_sem]
  c4 := by simp [go_sem]
  c5 := by simp [go_sem]
  c6 := by simp [go_sem]
  fz := fun o => by simp [go_sem]
theorem Fr.next {w W W' : World} {N1 D1 N2 D2 : Int} (h : Fr w N1 D1 N2 D2 W) (hb : Below W.heap.size W W') : Fr w N1 D1 N2 D2 W' where
  bel := h.bel.trans (hb.mono h.bel.size)
  size := Nat.le_trans h.size hb.size
  c1 := by rw [hb.cell (by have := h.size; simp; omega)]; exact h.c1
  c2 := by rw [hb.cell (by have := h.size; simp; omega)]; exact h.c2
  c3 := by rw [hb.cell (by have := h.size; simp; omega)]; exact h.c3
  c4 := by rw [hb.cell (by have := h.size; simp; omega)]; exact h.c4
  c5 := by rw [hb.cell (by have := h.size; simp; omega)]; exact h.c5
  c6 := by rw [hb.cell (by have := h.size; simp; omega)]; exact h.c6
  fz := fun o => by rw [hb.frozen (by have := h.size; simp; omega)]; exact h.fz o
theorem Fr.start {w W : World} {N1 D1 N2 D2 : Int} {T : TypeId} (hb : Below (((w.alloc (.cells #[.int .i64 N1, .int .i64 D1] T)).alloc (.cells #[.int .i64 N2, .int .i64 D2] T)).alloc (.cells #[.int .i64 0, .int .i64 0] T)).heap.size (((w.alloc (.cells #[.int .i64 N1, .int .i64 D1] T)).alloc (.cells #[.int .i64 N2, .int .i64 D2] T)).alloc (.cells #[.int .i64 0, .int .i64 0] T)) W) : Fr w N1 D1 N2 D2 W :=
  (Fr.first w N1 D1 N2 D2 T).next hb
theorem Fr.drewN {w W : World} {N1 D1 N2 D2 : Int} (h : Fr w N1 D1 N2 D2 W) (n : Nat) : Fr w N1 D1 N2 D2 (W.drewN n) := h.next (below_drewN (Below.refl _ _) n)
theorem Fr.drew {w W : World} {N1 D1 N2 D2 : Int} (h : Fr w N1 D1 N2 D2 W) : Fr w N1 D1 N2 D2 W.drew := h.drewN 1
theorem Fr.alloc {w W : World} {N1 D1 N2 D2 : Int} (h : Fr w N1 D1 N2 D2 W) (o : Obj) : Fr w N1 D1 N2 D2 (W.alloc o) := h.next ((Below.refl _ _).alloc (Nat.le_refl _) _)
/-- The result is stored: what is older stays. -/
theorem Fr.done {w W : World} {N1 D1 N2 D2 : Int} (h : Fr w N1 D1 N2 D2 W) (u v : Value) : Below w.heap.size w ((W.setCell ⟨w.heap.size + 1 + 1, 0, none⟩ u).setCell ⟨w.heap.size + 1 + 1, 1, none⟩ v) :=
  (h.bel.setCell (by simp; omega) _).setCell (by simp; omega) _

set_option maxHeartbeats 1000000 in
theorem add_no1 (N1 D1 N2 D2 : Int) (w : World) (h1 : Is64 N1 D1) (hm : mayB N1 D1 = false) :
    Calls Try.prog 10 #[.agg #[.int .i64 N1, .int .i64 D1], .agg #[.int .i64 N2, .int .i64 D2]] w (RatO none w) := by
  have HM := Lib.hid (may_of h1 hm)
  clear hm
  go_enter Try.func10, Try.ntmps10
  go_wp2_with fail
  refine (HM.out _).mono ?_
  rintro e w1 ⟨rfl, hb1⟩
  have F1 := Fr.start hb1
  clear hb1
  obtain ⟨-, hz1, g11, g21, g31, g41, g51, g61, hf1⟩ := id F1
  go_wp2_with fail
  refine bodyPost_ret (v := .tuple #[.agg #[.int .i64 0, .int .i64 0], .bool false]) (by simp [results, Try.results10, go_sem, g51, g61]) rfl ⟨rfl, F1.done _ _⟩

set_option maxHeartbeats 1000000 in
theorem add_no2 (N1 D1 N2 D2 : Int) (w : World) (h1 : Is64 N1 D1) (hm : mayB N1 D1 = true) (h2 : Is64 N2 D2) (hm2 : mayB N2 D2 = false) :
    Calls Try.prog 10 #[.agg #[.int .i64 N1, .int .i64 D1], .agg #[.int .i64 N2, .int .i64 D2]] w (RatO none w) := by
  have HM := Lib.hid (may_of h1 hm)
  have HM2 := Lib.hid (may_of h2 hm2)
  clear hm hm2
  go_enter Try.func10, Try.ntmps10
  go_wp2_with fail
  refine (HM.out _).mono ?_
  rintro e w1 ⟨rfl, hb1⟩
  have F1 := Fr.start hb1
  clear hb1
  obtain ⟨-, hz1, g11, g21, g31, g41, g51, g61, hf1⟩ := id F1
  go_wp2_with fail
  refine (HM2.out _).mono ?_
  rintro e w2 ⟨rfl, hb2⟩
  have F2 := F1.next hb2
  clear hb2 F1 hz1 g11 g21 g31 g41 g51 g61 hf1
  obtain ⟨-, hz2, g12, g22, g32, g42, g52, g62, hf2⟩ := id F2
  go_wp2_with fail
  refine bodyPost_ret (v := .tuple #[.agg #[.int .i64 0, .int .i64 0], .bool false]) (by simp [results, Try.results10, go_sem, g52, g62]) rfl ⟨rfl, F2.done _ _⟩

/-! What stays known over the steps of a region. -/
theorem bcell3 {W w1 : World} (hb : Below W.heap.size W w1) : (∀ b o, b < W.heap.size → w1.cell? ⟨b, o, none⟩ = W.cell? ⟨b, o, none⟩) ∧ (∀ b o, b < W.heap.size → w1.frozen? ⟨b, o, none⟩ = W.frozen? ⟨b, o, none⟩) ∧ (∀ b, b < W.heap.size → b < w1.heap.size) :=
  ⟨fun b o h => hb.cell (p := ⟨b, o, none⟩) h, fun b o h => hb.frozen (p := ⟨b, o, none⟩) h, fun _ h => Nat.lt_of_lt_of_le h hb.size⟩
theorem Fr.setCell {w W : World} {N1 D1 N2 D2 : Int} (h : Fr w N1 D1 N2 D2 W) (p : Addr) (hp : w.heap.size + 1 + 1 + 1 ≤ p.block) (u : Value) : Fr w N1 D1 N2 D2 (W.setCell p u) := by
  have hb : Below (w.heap.size + 1 + 1 + 1) W (W.setCell p u) := (Below.refl _ _).setCell hp u
  have hz := h.size
  have hz2 := hb.size
  exact { bel := h.bel.setCell (by omega) u
          size := Nat.le_trans hz hz2
          c1 := by rw [hb.cell (by simp; omega)]; exact h.c1
          c2 := by rw [hb.cell (by simp; omega)]; exact h.c2
          c3 := by rw [hb.cell (by simp)]; exact h.c3
          c4 := by rw [hb.cell (by simp)]; exact h.c4
          c5 := by rw [hb.cell (by simp)]; exact h.c5
          c6 := by rw [hb.cell (by simp)]; exact h.c6
          fz := fun o => by rw [hb.frozen (by simp)]; exact h.fz o }
theorem and3 {A B C D E : Prop} (h : A ∧ B ∧ C) (d : D) (e : E) : A ∧ B ∧ C ∧ D ∧ E := ⟨h.1, h.2.1, h.2.2, d, e⟩
/-- Three cells of a block, stored one behind the other. -/
theorem set3 {W : World} {g : Nat} {u0 u1 u2 v0 v1 v2 : Value} (h0 : W.cell? ⟨g, 0, none⟩ = some u0) (h1 : W.cell? ⟨g, 1, none⟩ = some u1) (h2 : W.cell? ⟨g, 2, none⟩ = some u2) :
    (((W.setCell ⟨g, 0, none⟩ v0).setCell ⟨g, 1, none⟩ v1).setCell ⟨g, 2, none⟩ v2).cell? ⟨g, 0, none⟩ = some v0 ∧ (((W.setCell ⟨g, 0, none⟩ v0).setCell ⟨g, 1, none⟩ v1).setCell ⟨g, 2, none⟩ v2).cell? ⟨g, 1, none⟩ = some v1 ∧ (((W.setCell ⟨g, 0, none⟩ v0).setCell ⟨g, 1, none⟩ v1).setCell ⟨g, 2, none⟩ v2).cell? ⟨g, 2, none⟩ = some v2 := by
  refine ⟨?_, ?_, ?_⟩ <;> simp [go_sem, h0, h1, h2]
/-- Four cells stay as they are behind a call; and where the result is stored. -/
theorem keepM {W W' : World} {gb g B : Nat} {u0 u1 u2 u3 : Option Value} (h : (gb < W.heap.size ∧ g < W.heap.size ∧ B + 1 + 1 + 1 ≤ W.heap.size) ∧ W.cell? ⟨gb, 0, none⟩ = u0 ∧ W.cell? ⟨gb, 1, none⟩ = u1 ∧ W.cell? ⟨g, 2, none⟩ = u2 ∧ W.cell? ⟨B + 1, 1, none⟩ = u3) (hb : Below W.heap.size W W') :
    (gb < W'.heap.size ∧ g < W'.heap.size ∧ B + 1 + 1 + 1 ≤ W'.heap.size) ∧ W'.cell? ⟨gb, 0, none⟩ = u0 ∧ W'.cell? ⟨gb, 1, none⟩ = u1 ∧ W'.cell? ⟨g, 2, none⟩ = u2 ∧ W'.cell? ⟨B + 1, 1, none⟩ = u3 := by
  obtain ⟨⟨h1, h2, h3⟩, c0, c1, c2, c3⟩ := h
  have hz := hb.size
  exact ⟨⟨by omega, by omega, by omega⟩, by rw [hb.cell (p := ⟨gb, 0, none⟩) h1, c0], by rw [hb.cell (p := ⟨gb, 1, none⟩) h1, c1], by rw [hb.cell (p := ⟨g, 2, none⟩) h2, c2], by rw [hb.cell (p := ⟨B + 1, 1, none⟩) (by simp; omega), c3]⟩
theorem keepM2 {W : World} {gb g B : Nat} {u0 u1 u2 u3 : Option Value} (h : (gb < W.heap.size ∧ g < W.heap.size ∧ B + 1 + 1 + 1 ≤ W.heap.size) ∧ W.cell? ⟨gb, 0, none⟩ = u0 ∧ W.cell? ⟨gb, 1, none⟩ = u1 ∧ W.cell? ⟨g, 2, none⟩ = u2 ∧ W.cell? ⟨B + 1, 1, none⟩ = u3) (hg : B + 1 + 1 + 1 ≤ g) (hgb : B + 1 + 1 + 1 ≤ gb) (x y : Value) :
    (gb < ((W.setCell ⟨B + 1 + 1, 0, none⟩ x).setCell ⟨B + 1 + 1, 1, none⟩ y).heap.size ∧ g < ((W.setCell ⟨B + 1 + 1, 0, none⟩ x).setCell ⟨B + 1 + 1, 1, none⟩ y).heap.size ∧ B + 1 + 1 + 1 ≤ ((W.setCell ⟨B + 1 + 1, 0, none⟩ x).setCell ⟨B + 1 + 1, 1, none⟩ y).heap.size) ∧ ((W.setCell ⟨B + 1 + 1, 0, none⟩ x).setCell ⟨B + 1 + 1, 1, none⟩ y).cell? ⟨gb, 0, none⟩ = u0 ∧ ((W.setCell ⟨B + 1 + 1, 0, none⟩ x).setCell ⟨B + 1 + 1, 1, none⟩ y).cell? ⟨gb, 1, none⟩ = u1 ∧ ((W.setCell ⟨B + 1 + 1, 0, none⟩ x).setCell ⟨B + 1 + 1, 1, none⟩ y).cell? ⟨g, 2, none⟩ = u2 ∧ ((W.setCell ⟨B + 1 + 1, 0, none⟩ x).setCell ⟨B + 1 + 1, 1, none⟩ y).cell? ⟨B + 1, 1, none⟩ = u3 := by
  obtain ⟨⟨h1, h2, h3⟩, c0, c1, c2, c3⟩ := h
  have e : ∀ a : Addr, a.block ≠ B + 1 + 1 → ((W.setCell ⟨B + 1 + 1, 0, none⟩ x).setCell ⟨B + 1 + 1, 1, none⟩ y).cell? a = W.cell? a := fun a ha => by
    rw [World.cell?_of_block (w := W.setCell ⟨B + 1 + 1, 0, none⟩ x) (Below.heap_setCell _ _ _ _ ha), World.cell?_of_block (w := W) (Below.heap_setCell _ _ _ _ ha)]
  refine ⟨?_, by rw [e _ (by simp; omega), c0], by rw [e _ (by simp; omega), c1], by rw [e _ (by simp; omega), c2], by rw [e _ (by simp), c3]⟩
  simp
  omega
theorem below_via {X w4 Y w5 : World} (h1 : Below X.heap.size X w4) (h2 : Below w4.heap.size w4 Y) (h3 : Below Y.heap.size Y w5) : Below X.heap.size X w5 :=
  (h1.trans (h2.mono h1.size)).trans (h3.mono (Nat.le_trans h1.size h2.size))
theorem keepN {w W : World} {N1 D1 N2 D2 : Int} (h : Fr w N1 D1 N2 D2 W) : Fr w N1 D1 N2 D2 W ∧ W.cell? ⟨w.heap.size, 0, none⟩ = some (.int .i64 N1) ∧ W.cell? ⟨w.heap.size + 1, 0, none⟩ = some (.int .i64 N2) := ⟨h, h.c1, h.c3⟩
/-- What Add knows behind the sum: slot 9's block holds it. -/
def AddCut (w : World) (N1 D1 N2 D2 t : Int) (s9 : Value) (wx : World) : Prop :=
  ∃ (g : Nat) (H L : Int) (p : Bool) (x : Int), s9 = .pointer (some ⟨g, 0, none⟩) ∧ (w.heap.size + 1 + 1 + 1 ≤ g ∧ g < wx.heap.size) ∧ Fr w N1 D1 N2 D2 wx ∧ wx.cell? ⟨g, 0, none⟩ = some (.int .u64 H) ∧ wx.cell? ⟨g, 1, none⟩ = some (.int .u64 L) ∧ wx.cell? ⟨g, 2, none⟩ = some (.bool p) ∧ IsW H L x ∧ sg p x = t

set_option maxHeartbeats 6000000 in
theorem add_yes (a b : Rat) (N1 D1 N2 D2 : Int) (w : World) (h1 : Is64 N1 D1) (hm : mayB N1 D1 = true) (h2 : Is64 N2 D2) (hm2 : mayB N2 D2 = true)
    (q1 : a.num = N1) (q2 : (a.den : Int) = D1) (q3 : b.num = N2) (q4 : (b.den : Int) = D2) :
    Calls Try.prog 10 #[.agg #[.int .i64 N1, .int .i64 D1], .agg #[.int .i64 N2, .int .i64 D2]] w (RatO (cutQ (some (a + b))) w) := by
  have HM := Lib.hid (may_of h1 hm)
  have HM2 := Lib.hid (may_of h2 hm2)
  have p1 := ((mayB_iff _ _).1 hm).1
  have p2 := ((mayB_iff _ _).1 hm2).1
  obtain ⟨n1, n2, d1, d2⟩ := h1
  obtain ⟨n3, n4, d3, d4⟩ := h2
  clear hm hm2 d1 d3
  have HG := Lib.hid (fun w => divisor_any D1 D2 w (by omega) (by omega) (by omega) (by omega))
  have hc : 0 < (Int.gcd D1 D2 : Int) := by
    have : 0 < Int.gcd D1 D2 := Int.gcd_pos_of_ne_zero_right _ (by omega)
    omega
  have hcd : (Int.gcd D1 D2 : Int) ≤ D1 := Int.le_of_dvd p1 (Int.gcd_dvd_left ..)
  generalize ho : cutQ (some (a + b)) = o
  have HO := Lib.hid ho
  clear ho
  have b1 : 0 ≤ D1 / (Int.gcd D1 D2 : Int) ∧ D1 / (Int.gcd D1 D2 : Int) ≤ D1 := ⟨Int.ediv_nonneg (by omega) (by omega), Int.ediv_le_self _ (by omega)⟩
  have b2 : 0 ≤ D2 / (Int.gcd D1 D2 : Int) ∧ D2 / (Int.gcd D1 D2 : Int) ≤ D2 := ⟨Int.ediv_nonneg (by omega) (by omega), Int.ediv_le_self _ (by omega)⟩
  have HE := Lib.hid (fun t x g p => add_end a b (Int.gcd D1 D2 : Int) (D1 / (Int.gcd D1 D2 : Int)) (D2 / (Int.gcd D1 D2 : Int)) t x g p (by rw [q2, q4]) (by rw [q2]) (by rw [q4]))
  rw [q1, q3, q4] at HE
  clear q1 q2 q3 q4
  generalize (Int.gcd D1 D2 : Int) = c at *
  have e1 : IntKind.u64.wrap (D1.tdiv c) = D1 / c := tdiv_u64 D1 c (by omega) (by omega) hc
  have e2 : IntKind.u64.wrap (D2.tdiv c) = D2 / c := tdiv_u64 D2 c (by omega) (by omega) hc
  generalize D1 / c = u at *
  generalize D2 / c = v at *
  have HT1 := Lib.hid (fun w => times_any N1 v w n1 n2 b2.1 (by omega))
  have HT2 := Lib.hid (fun w => times_any N2 u w n3 n4 b1.1 (by omega))
  have HB1 := Lib.hid (add_bd N1 v n1 n2 b2.1 (by omega))
  have HB2 := Lib.hid (add_bd N2 u n3 n4 b1.1 (by omega))
  have c0 : (c == 0) = false := by simp; omega
  have c1 : ¬ c = 0 := by omega
  go_enter Try.func10, Try.ntmps10
  go_wp2_with fail
  refine (HM.out _).mono ?_
  rintro e w1 ⟨rfl, hb1⟩
  have F1 := Fr.start hb1
  clear hb1
  obtain ⟨-, hz1, g11, g21, g31, g41, g51, g61, hf1⟩ := id F1
  go_wp2_with fail
  refine (HM2.out _).mono ?_
  rintro e w2 ⟨rfl, hb2⟩
  have F2 := F1.next hb2
  clear hb2 F1 hz1 g11 g21 g31 g41 g51 g61 hf1
  obtain ⟨-, hz2, g12, g22, g32, g42, g52, g62, hf2⟩ := id F2
  go_wp2_with fail
  refine (HG.out _).mono ?_
  rintro e w3 ⟨rfl, nd, rfl⟩
  go_wp2_with fail
  go_quiet (fail)
  go_upto_region 5 with fail
  have F3 := (F2.drewN nd).drewN nq
  obtain ⟨w3, hw3⟩ : ∃ w3, w3 = (w2.drewN nd).drewN nq := ⟨_, rfl⟩
  rw [← hw3] at F3 ⊢
  clear hw3 F2 hz2 g12 g22 g32 g42 g52 g62 hf2
  obtain ⟨-, hz3, g13, g23, g33, g43, g53, g63, hf3⟩ := id F3
  go_cut [9] (fun s9 wx => AddCut w N1 D1 N2 D2 (N1 * v + N2 * u) s9 wx)
  case first =>
    go_region_held3 (fun w' => Fr w N1 D1 N2 D2 w' ∧ w'.cell? ⟨w.heap.size, 0, none⟩ = some (.int .i64 N1) ∧ w'.cell? ⟨w.heap.size + 1, 0, none⟩ = some (.int .i64 N2))
      (first
        | exact keepN (Fr.drew (by assumption))
        | exact keepN (Fr.drew (And.left (by assumption)))
        | exact keepN (Fr.next (And.left (by assumption)) (by assumption))
        | exact keepN (Fr.alloc (And.left (by assumption)) _)
        | exact keepN (Fr.alloc (by assumption) _)
        | exact keepN (Fr.setCell (Fr.setCell (Fr.setCell (And.left (by assumption)) _ (by simp; omega) _) _ (by simp; omega) _) _ (by simp; omega) _))
      (first
        | (go_at_call_of 30 (Value.int .i64 N1); refine (HT1.out _).mono ?_; rintro e w4 ⟨H1, L1, x1, hw1, hs1, rfl, hb1⟩; have F4 : Fr w N1 D1 N2 D2 w4 := Fr.next (And.left (by assumption)) hb1; have z4 := F4.size; obtain ⟨hc1, hf1, hm1⟩ := bcell3 hb1)
        | (go_at_call_of 30 (Value.int .i64 N2); refine (HT2.out _).mono ?_; rintro e w5 ⟨H2, L2, x2, hw2, hs2, rfl, hb2⟩; have F5 : Fr w N1 D1 N2 D2 w5 := Fr.next (And.left (by assumption)) hb2; have z5 := F5.size; obtain ⟨hc2, hf2, hm2⟩ := bcell3 hb2; obtain ⟨hc12, hf12, hm12⟩ := bcell3 (below_via hb1 (by first | exact Below.refl _ _ | exact (Below.refl _ _).alloc (Nat.le_refl _) _) hb2))
        | (go_at_call 29; refine (plus_any _ _ _ _ x1 x2 _ _ _ (by assumption) (by assumption) (by have := HB1.out _ _ hw1.nonneg hs1; have := HB2.out _ _ hw2.nonneg hs2; omega)).mono ?_; rintro e w6 ⟨p, H, L, x, hw, hs, rfl, hb⟩; rw [hs1, hs2] at hs; have F6 : Fr w N1 D1 N2 D2 w6 := Fr.next (And.left (by assumption)) hb; obtain ⟨hc6, hf6, hm6⟩ := bcell3 hb))
    all_goals
      have t1 := hb.size
      have t2 := hb2.size
      have t3 := hb1.size
      try simp at t1
      try simp at t2
      try simp at t3
      go_wp2_with fail
      go_meet
      refine ⟨_, H, L, p, x, rfl, ?_, And.left (by assumption), and3 ?_ hw hs⟩
      · have z6 := F6.size
        simp
        omega
      · first
          | (simp [go_sem]; done)
          | exact set3 (by rw [hc6 _ _ (by simp)]; simp [go_sem]; rfl) (by rw [hc6 _ _ (by simp)]; simp [go_sem]; rfl) (by rw [hc6 _ _ (by simp)]; simp [go_sem]; rfl)
          | exact set3 (by rw [hc6 _ _ (by omega), hc2 _ _ (by simp)]; simp [go_sem]; rfl) (by rw [hc6 _ _ (by omega), hc2 _ _ (by simp)]; simp [go_sem]; rfl) (by rw [hc6 _ _ (by omega), hc2 _ _ (by simp)]; simp [go_sem]; rfl)
          | exact set3 (by rw [hc6 _ _ (by omega), hc12 _ _ (by simp)]; simp [go_sem]; rfl) (by rw [hc6 _ _ (by omega), hc12 _ _ (by simp)]; simp [go_sem]; rfl) (by rw [hc6 _ _ (by omega), hc12 _ _ (by simp)]; simp [go_sem]; rfl)
  case rest =>
    obtain ⟨g, H, L, p, x, rfl, ⟨hgB, hgz⟩, F4, k1, k2, k3, hw, hs⟩ := hcut
    have HD1 := Lib.hid (fun w => divide_any H L x c w hw hc (by omega))
    have F4' := F4.size
    obtain ⟨-, hz4, g14, g24, g34, g44, g54, g64, hf4⟩ := id F4
    clear F3 hz3 g13 g23 g33 g43 g53 g63 hf3
    go_wp2_with fail
    refine (HD1.out _).mono ?_
    rintro e w5 ⟨H5, L5, hw5, rfl, hb5⟩
    have F5 := F4.next hb5
    obtain ⟨hc5, hf5, hm5⟩ := bcell3 hb5
    have k15 : w5.cell? ⟨g, 0, none⟩ = some (.int .u64 H) := by rw [hc5 _ _ hgz, k1]
    have k25 : w5.cell? ⟨g, 1, none⟩ = some (.int .u64 L) := by rw [hc5 _ _ hgz, k2]
    have k35 : w5.cell? ⟨g, 2, none⟩ = some (.bool p) := by rw [hc5 _ _ hgz, k3]
    have gz5 := hm5 _ hgz
    have x0 := hw.nonneg
    have r0 := Int.emod_nonneg x c1
    have r1 := Int.emod_lt_of_pos x hc
    have HG2 := Lib.hid (fun w => divisor_any (x % c) c w r0 (by omega) (by omega) (by omega))
    have hE := HE.out _ x _ p rfl x0 hs rfl
    have q0 : 0 < (Int.gcd (x % c) c : Int) := by
      have : 0 < Int.gcd (x % c) c := Int.gcd_pos_of_ne_zero_right _ c1
      omega
    have q1 : (Int.gcd (x % c) c : Int) ≤ c := Int.le_of_dvd hc (Int.gcd_dvd_right ..)
    generalize (Int.gcd (x % c) c : Int) = q at *
    have HE2 := Lib.hid hE
    clear hE HE hc5 hf5 hm5 hb5 k1 k2 k3 F4 F4' hz4 g14 g24 g34 g44 g54 g64 hf4 HB1 HB2 HT1 HT2
    have y1 : 0 ≤ D2 / q ∧ D2 / q ≤ D2 := ⟨Int.ediv_nonneg (by omega) (by omega), Int.ediv_le_self _ (by omega)⟩
    have e3 : IntKind.u64.wrap (D2.tdiv q) = D2 / q := tdiv_u64 D2 q (by omega) (by omega) q0
    generalize D2 / q = y at *
    have q2 : (q == 0) = false := by simp; omega
    have q3 : ¬ q = 0 := by omega
    have HD2 := Lib.hid (fun w => divide_any H L x q w hw q0 (by omega))
    have HP := Lib.hid (fun w => product_any u y w (by omega) (by omega) y1.1 (by omega))
    have HWx := Lib.hid hw
    have HSx := Lib.hid hs
    clear hw hs
    go_wp2_with fail
    refine (HG2.out _).mono ?_
    rintro e w6 ⟨rfl, n6, rfl⟩
    have F6 := (F5.alloc (.cells #[.int .u64 H5, .int .u64 L5] 41)).drewN n6
    go_wp2_with fail
    have i5 : g < ((w5.alloc (.cells #[.int .u64 H5, .int .u64 L5] 41)).drewN n6).heap.size := by simp; omega
    refine (HD2.out _).mono ?_
    rintro e w7 ⟨H7, L7, hw7, rfl, hb7⟩
    have k37 : w7.cell? ⟨g, 2, none⟩ = some (.bool p) := by
      rw [hb7.cell (p := ⟨g, 2, none⟩) i5, World.cell?_drewN, ((Below.refl w5.heap.size w5).alloc (Nat.le_refl _) _).cell (p := ⟨g, 2, none⟩) gz5, k35]
    have gz7 : g < w7.heap.size := Nat.lt_of_lt_of_le i5 hb7.size
    have F7 := (F6.next hb7).alloc (.cells #[.int .u64 H7, .int .u64 L7] 41)
    have z7 := (F6.next hb7).size
    have HT := Lib.hid (fun H9 L9 w hw9 => tell_q H7 L7 (x / q) H9 L9 (u * y) p (a + b) w hw7 hw9 HE2.out.1 HE2.out.2)
    rw [HO.out] at HT
    clear HE2 HSx HWx hw7 hb7 i5 k15 k25 k35 F5 F6 gz5
    go_wp2_with fail
    have M8 : (w7.heap.size < (w7.alloc (.cells #[.int .u64 H7, .int .u64 L7] 41)).heap.size ∧ g < (w7.alloc (.cells #[.int .u64 H7, .int .u64 L7] 41)).heap.size ∧ w.heap.size + 1 + 1 + 1 ≤ (w7.alloc (.cells #[.int .u64 H7, .int .u64 L7] 41)).heap.size) ∧ (w7.alloc (.cells #[.int .u64 H7, .int .u64 L7] 41)).cell? ⟨w7.heap.size, 0, none⟩ = some (.int .u64 H7) ∧ (w7.alloc (.cells #[.int .u64 H7, .int .u64 L7] 41)).cell? ⟨w7.heap.size, 1, none⟩ = some (.int .u64 L7) ∧ (w7.alloc (.cells #[.int .u64 H7, .int .u64 L7] 41)).cell? ⟨g, 2, none⟩ = some (.bool p) ∧ (w7.alloc (.cells #[.int .u64 H7, .int .u64 L7] 41)).cell? ⟨w.heap.size + 1, 1, none⟩ = some (.int .i64 D2) := by
      exact ⟨⟨by simp, by simp; omega, by simp; omega⟩, by simp [go_sem], by simp [go_sem], by rw [((Below.refl w7.heap.size w7).alloc (Nat.le_refl _) _).cell (p := ⟨g, 2, none⟩) gz7, k37], F7.c4⟩
    obtain ⟨w8, hw8⟩ : ∃ w8, w8 = w7.alloc (.cells #[.int .u64 H7, .int .u64 L7] 41) := ⟨_, rfl⟩
    rw [← hw8] at F7 M8 ⊢
    have gb7 : w.heap.size + 1 + 1 + 1 ≤ w7.heap.size := z7
    generalize w7.heap.size = gb at *
    clear hw8 k37 gz7 z7
    obtain ⟨b8, z8, g18, g28, g38, g48, g58, g68, hf8⟩ := id F7
    have M9 := M8
    obtain ⟨⟨m1, m2, m3⟩, m4, m5, m6, m7⟩ := M9
    have r8 : w.heap.size + 1 + 1 < w8.heap.size := by omega
    have e4 : IntKind.u64.wrap D2 = D2 := wraps_u64 _ (by omega) (by omega)
    go_region_held3 (fun w' => (gb < w'.heap.size ∧ g < w'.heap.size ∧ w.heap.size + 1 + 1 + 1 ≤ w'.heap.size) ∧ w'.cell? ⟨gb, 0, none⟩ = some (.int .u64 H7) ∧ w'.cell? ⟨gb, 1, none⟩ = some (.int .u64 L7) ∧ w'.cell? ⟨g, 2, none⟩ = some (.bool p) ∧ w'.cell? ⟨w.heap.size + 1, 1, none⟩ = some (.int .i64 D2))
      (first
        | exact keepM M8 (Below.refl _ _).drew
        | exact keepM (by assumption) (by assumption)
        | exact keepM2 (by assumption) hgB gb7 _ _)
      (first
        | (go_at_call 32; refine (HP.out _).mono ?_; rintro e w9 ⟨H9, L9, hw9, rfl, hb9⟩; have F9 := F7.drew.next hb9)
        | (go_at_call 25; refine (HT.out _ _ _ hw9).mono ?_; rintro e w10 ⟨rfl, hb10⟩; have F10 := F9.next hb10; obtain ⟨-, -, -, -, -, -, s5, s6, sf⟩ := id F10))
    go_wp2_with fail
    refine bodyPost_ret (v := .tuple #[.agg #[.int .i64 (numO o), .int .i64 (denO o)], .bool (okO o)]) (by simp [results, Try.results10, go_sem, s5, s6]) rfl ⟨rfl, F10.done _ _⟩

theorem add_any (N1 D1 N2 D2 : Int) (w : World) (h1 : Is64 N1 D1) (h2 : Is64 N2 D2) :
    Calls Try.prog 10 #[.agg #[.int .i64 N1, .int .i64 D1], .agg #[.int .i64 N2, .int .i64 D2]] w (RatO (cutQ (addO (rawO N1 D1) (rawO N2 D2))) w) := by
  cases hm : mayB N1 D1
  · rw [rawO_none hm]
    exact add_no1 N1 D1 N2 D2 w h1 hm
  · obtain ⟨a, ha⟩ := rawO_is hm
    have qa := rawO_some ha
    cases hm2 : mayB N2 D2
    · rw [rawO_none hm2, ha]
      exact add_no2 N1 D1 N2 D2 w h1 hm h2 hm2
    · obtain ⟨b, hb⟩ := rawO_is hm2
      have qb := rawO_some hb
      rw [ha, hb]
      exact add_yes a b N1 D1 N2 D2 w h1 hm h2 hm2 qa.1 qa.2.1 qb.1 qb.2.1

end Go.Proofs.Ytnbloflgggndiaa
