/- The contract of the reference's Scale. -/
import Derived.Test.YtnbloflgggndiaaRefFloor
namespace Go.Proofs.Ytnbloflgggndiaa
open Go.RowKit Rf Rt

/-- Two numbers in boxes of a call's own. -/
structure B2 (w : World) (g1 g2 : Nat) (u1 v1 u2 v2 : Value) (W : World) : Prop where
  bel : Below w.heap.size w W
  l1 : w.heap.size ≤ g1
  l12 : g1 < g2
  l2 : g2 < W.heap.size
  c1 : W.cell? ⟨g1, 0, none⟩ = some u1
  c2 : W.cell? ⟨g1, 1, none⟩ = some v1
  c3 : W.cell? ⟨g2, 0, none⟩ = some u2
  c4 : W.cell? ⟨g2, 1, none⟩ = some v2
  f1 : ∀ o, W.frozen? ⟨g1, o, none⟩ = false
  f2 : ∀ o, W.frozen? ⟨g2, o, none⟩ = false
theorem B2.next {w W W' : World} {g1 g2 : Nat} {u1 v1 u2 v2 : Value} (h : B2 w g1 g2 u1 v1 u2 v2 W) (hb : Below W.heap.size W W') : B2 w g1 g2 u1 v1 u2 v2 W' := by
  have := h.l12
  have := h.l2
  exact ⟨h.bel.trans (hb.mono h.bel.size), h.l1, h.l12, Nat.lt_of_lt_of_le h.l2 hb.size, by rw [hb.cell (by simp; omega)]; exact h.c1, by rw [hb.cell (by simp; omega)]; exact h.c2, by rw [hb.cell (by simp; omega)]; exact h.c3, by rw [hb.cell (by simp; omega)]; exact h.c4,
    fun o => by rw [hb.frozen (by simp; omega)]; exact h.f1 o, fun o => by rw [hb.frozen (by simp; omega)]; exact h.f2 o⟩
theorem B2.put1 {w W : World} {g1 g2 : Nat} {u1 v1 u2 v2 : Value} (h : B2 w g1 g2 u1 v1 u2 v2 W) (u v : Value) : B2 w g1 g2 u v u2 v2 ((W.setCell ⟨g1, 0, none⟩ u).setCell ⟨g1, 1, none⟩ v) := by
  obtain ⟨h0, l1, l12, l2, c1, c2, c3, c4, f1, f2⟩ := h
  have n : g1 ≠ g2 := by omega
  exact ⟨(h0.setCell (by simpa using l1) _).setCell (by simpa using l1) _, l1, l12, by simpa using l2, by simp [go_sem, c1], by simp [go_sem, c2], by rw [World.cell?_setCell_far _ _ _ _ n, World.cell?_setCell_far _ _ _ _ n]; exact c3, by rw [World.cell?_setCell_far _ _ _ _ n, World.cell?_setCell_far _ _ _ _ n]; exact c4, fun o => by simp [go_sem, f1], fun o => by simp [go_sem, f2]⟩
theorem B2.put2 {w W : World} {g1 g2 : Nat} {u1 v1 u2 v2 : Value} (h : B2 w g1 g2 u1 v1 u2 v2 W) (u v : Value) : B2 w g1 g2 u1 v1 u v ((W.setCell ⟨g2, 0, none⟩ u).setCell ⟨g2, 1, none⟩ v) := by
  obtain ⟨h0, l1, l12, l2, c1, c2, c3, c4, f1, f2⟩ := h
  have n : g2 ≠ g1 := by omega
  exact ⟨(h0.setCell (by simp; omega) _).setCell (by simp; omega) _, l1, l12, by simpa using l2, by rw [World.cell?_setCell_far _ _ _ _ n, World.cell?_setCell_far _ _ _ _ n]; exact c1, by rw [World.cell?_setCell_far _ _ _ _ n, World.cell?_setCell_far _ _ _ _ n]; exact c2, by simp [go_sem, c3], by simp [go_sem, c4], fun o => by simp [go_sem, f1], fun o => by simp [go_sem, f2]⟩

theorem big2 : 100 * 85070591730234615865843651857942052864 + 100 < 65536 ^ 100 := by decide
theorem mul_small2 {n m : Int} (h1 : n.natAbs ≤ 9223372036854775808) (h2 : m.natAbs ≤ 9223372036854775808) : (n * m).natAbs ≤ 85070591730234615865843651857942052864 := by
  rw [Int.natAbs_mul]
  exact Nat.le_trans (Nat.mul_le_mul h1 h2) (by decide)
theorem lt100 {n : Nat} (h : n ≤ 85070591730234615865843651857942052864) : n < 65536 ^ 100 := Nat.lt_of_le_of_lt h (by decide)

set_option maxHeartbeats 1000000 in
theorem rscale_zero (n a : Int) (w : World) : Calls Try.prog 22 #[.int .i64 n, .int .i64 a, .int .i64 0] w (TupIs 0 false w) := by
  go_enter Try.func22, Try.ntmps22
  go_wp2_with fail
  refine bodyPost_ret (v := .tuple #[.int .i64 0, .bool false]) (by simp [results, Try.results22, go_sem]) rfl ⟨rfl, Below.refl _ _⟩

set_option maxHeartbeats 4000000 in
theorem rscale_pos (n a b v : Int) (w : World) (n1 : -9223372036854775808 ≤ n) (n2 : n ≤ 9223372036854775807) (a1 : -9223372036854775808 ≤ a) (a2 : a ≤ 9223372036854775807)
    (b2 : b ≤ 9223372036854775807) (h0 : 0 < b) (hv : Hid ((2 * (n * a) + b) / (2 * b) = v)) : Calls Try.prog 22 #[.int .i64 n, .int .i64 a, .int .i64 b] w (TupIs (toldN v) (toldB v) w) := by
  have m1 := mul_small2 (small99 n1 n2) (small99 a1 a2)
  have hb0 : (b == 0) = false := by simp; omega
  go_enter Try.func22, Try.ntmps22
  go_wp2_with fail
  refine (rof_any _ n n1 n2).mono ?_
  rintro e w1 ⟨x, rfl, hx, hb1⟩
  go_wp2_with fail
  refine (rof_any _ a a1 a2).mono ?_
  rintro e w2 ⟨y, rfl, hy, hb2⟩
  go_wp2_with fail
  refine (rtimesE ⟨_, hx.on hb2 (Nat.le_refl _)⟩ ⟨_, hy⟩ (lt100 (Nat.le_trans (small99 n1 n2) (by decide))) (lt100 (Nat.le_trans (small99 a1 a2) (by decide)))).mono ?_
  rintro e w3 ⟨z, rfl, hz, hb3⟩
  obtain ⟨bz, pz, lz, cz, rfl⟩ := hz.parts
  have B3 : Below w.heap.size w w3 := hb1.trans ((hb2.trans (hb3.mono hb2.size)).mono hb1.size)
  clear hx hy hb1 hb2 hb3
  go_wp2_with fail
  refine (rof_any _ b (by omega) b2).mono ?_
  rintro e w4 ⟨y, rfl, hy, hb4⟩
  obtain ⟨by', py, ly, cy, rfl⟩ := hy.parts
  have s4 := hb4.size
  have z3 := B3.size
  simp at s4
  have Q : B2 w w3.heap.size w4.heap.size (.bool bz) (.slice pz lz cz) (.bool by') (.slice py ly cy) (w4.alloc (.cells #[.bool by', .slice py ly cy] 47)) :=
    ⟨(((B3.alloc z3 _).trans (hb4.mono (by simp; omega)))).alloc (by omega) _, z3, by omega, by simp,
      al_cell ((hb4.cell (p := ⟨w3.heap.size, 0, none⟩) (by simp)).trans (by simp [go_sem])) _, al_cell ((hb4.cell (p := ⟨w3.heap.size, 1, none⟩) (by simp)).trans (by simp [go_sem])) _, by simp [go_sem], by simp [go_sem],
      fun o => by rw [World.frozen?_alloc_past _ _ _ (by omega), hb4.frozen (by simp)]; simp [go_sem], fun o => by simp [go_sem]⟩
  have ez : NumE (n * a) (w4.alloc (.cells #[.bool by', .slice py ly cy] 47)) (.agg #[.bool bz, .slice pz lz cz]) := ((NumE.alloc ⟨_, hz⟩ _).on hb4).alloc _
  have ey : NumE b (w4.alloc (.cells #[.bool by', .slice py ly cy] 47)) (.agg #[.bool by', .slice py ly cy]) := NumE.alloc ⟨_, hy⟩ _
  have HH := Lib.hid (rhalfE ez ey hv.out h0 85070591730234615865843651857942052864 big2 m1 (Nat.le_trans (small99 (by omega) b2) (by decide)))
  obtain ⟨hB, l1, l12, l2, k1, k2, k3, k4, -, -⟩ := id Q
  clear hz hy hb4 ez ey Q B3 m1
  have l3 : w3.heap.size < w4.heap.size := l12
  have k1' : w4.cell? ⟨w3.heap.size, 0, none⟩ = some (.bool bz) := by rw [← k1, World.cell?_alloc_past _ _ _ l3]
  have k2' : w4.cell? ⟨w3.heap.size, 1, none⟩ = some (.slice pz lz cz) := by rw [← k2, World.cell?_alloc_past _ _ _ l3]
  go_wp2_with fail
  refine (HH.out).mono ?_
  rintro e w5 ⟨rfl, hb5⟩
  have B5 := hB.trans (hb5.mono hB.size)
  clear hB hb5 k1 k2 k3 k4 k1' k2'
  go_wp2_with fail
  refine bodyPost_ret (v := .tuple #[.int .i64 (toldN v), .bool (toldB v)]) (by simp [results, Try.results22, go_sem]) rfl ⟨rfl, B5⟩

set_option maxHeartbeats 4000000 in
theorem rscale_neg (n a b v : Int) (w : World) (n1 : -9223372036854775808 ≤ n) (n2 : n ≤ 9223372036854775807) (a1 : -9223372036854775808 ≤ a) (a2 : a ≤ 9223372036854775807)
    (b1 : -9223372036854775808 ≤ b) (h0 : b < 0) (hv : Hid ((2 * -(n * a) + -b) / (2 * -b) = v)) : Calls Try.prog 22 #[.int .i64 n, .int .i64 a, .int .i64 b] w (TupIs (toldN v) (toldB v) w) := by
  have m1 := mul_small2 (small99 n1 n2) (small99 a1 a2)
  have hb0 : (b == 0) = false := by simp; omega
  go_enter Try.func22, Try.ntmps22
  go_wp2_with fail
  refine (rof_any _ n n1 n2).mono ?_
  rintro e w1 ⟨x, rfl, hx, hb1⟩
  go_wp2_with fail
  refine (rof_any _ a a1 a2).mono ?_
  rintro e w2 ⟨y, rfl, hy, hb2⟩
  go_wp2_with fail
  refine (rtimesE ⟨_, hx.on hb2 (Nat.le_refl _)⟩ ⟨_, hy⟩ (lt100 (Nat.le_trans (small99 n1 n2) (by decide))) (lt100 (Nat.le_trans (small99 a1 a2) (by decide)))).mono ?_
  rintro e w3 ⟨z, rfl, hz, hb3⟩
  obtain ⟨bz, pz, lz, cz, rfl⟩ := hz.parts
  have B3 : Below w.heap.size w w3 := hb1.trans ((hb2.trans (hb3.mono hb2.size)).mono hb1.size)
  clear hx hy hb1 hb2 hb3
  go_wp2_with fail
  refine (rof_any _ b b1 (by omega)).mono ?_
  rintro e w4 ⟨y, rfl, hy, hb4⟩
  obtain ⟨by', py, ly, cy, rfl⟩ := hy.parts
  have s4 := hb4.size
  have z3 := B3.size
  simp at s4
  have Q : B2 w w3.heap.size w4.heap.size (.bool bz) (.slice pz lz cz) (.bool by') (.slice py ly cy) (w4.alloc (.cells #[.bool by', .slice py ly cy] 47)) :=
    ⟨(((B3.alloc z3 _).trans (hb4.mono (by simp; omega)))).alloc (by omega) _, z3, by omega, by simp,
      al_cell ((hb4.cell (p := ⟨w3.heap.size, 0, none⟩) (by simp)).trans (by simp [go_sem])) _, al_cell ((hb4.cell (p := ⟨w3.heap.size, 1, none⟩) (by simp)).trans (by simp [go_sem])) _, by simp [go_sem], by simp [go_sem],
      fun o => by rw [World.frozen?_alloc_past _ _ _ (by omega), hb4.frozen (by simp)]; simp [go_sem], fun o => by simp [go_sem]⟩
  have ez : NumE (n * a) (w4.alloc (.cells #[.bool by', .slice py ly cy] 47)) (.agg #[.bool bz, .slice pz lz cz]) := ((NumE.alloc ⟨_, hz⟩ _).on hb4).alloc _
  have hy4 : NumIs b (w3.heap.size + 1) (w4.alloc (.cells #[.bool by', .slice py ly cy] 47)) (.agg #[.bool by', .slice py ly cy]) := num_alloc (hy.mono (by simp)) _
  have HN1 := Lib.hid (rnegE ez (lt100 m1))
  obtain ⟨hB, l1, l12, l2, k1, k2, k3, k4, -, -⟩ := id Q
  clear hz hy ez hb4
  have l3 : w3.heap.size < w4.heap.size := l12
  have k1' : w4.cell? ⟨w3.heap.size, 0, none⟩ = some (.bool bz) := by rw [← k1, World.cell?_alloc_past _ _ _ l3]
  have k2' : w4.cell? ⟨w3.heap.size, 1, none⟩ = some (.slice pz lz cz) := by rw [← k2, World.cell?_alloc_past _ _ _ l3]
  go_wp2_with fail
  refine (HN1.out).mono ?_
  rintro e w5 ⟨x, rfl, hx, hb5⟩
  obtain ⟨bx, px, lx, cx, rfl⟩ := hx.parts
  have Q5 := Q.next hb5
  have hy5 := ((hy4.on hb5 (Nat.le_refl _)).put (a := ⟨w3.heap.size, 0, none⟩) (by simp) (.bool bx)).put (a := ⟨w3.heap.size, 1, none⟩) (by simp) (.slice px lx cx)
  have hx5 := ((hx.mono (C := w4.heap.size + 1) (by simp)).put (a := ⟨w3.heap.size, 0, none⟩) (by simp; omega) (.bool bx)).put (a := ⟨w3.heap.size, 1, none⟩) (by simp; omega) (.slice px lx cx)
  have P5 := Q5.put1 (.bool bx) (.slice px lx cx)
  clear k1 k2 k3 k4 k1' k2' hx hy4 hb5 Q HN1 hB
  obtain ⟨hB, -, -, l5, k1, k2, k3, k4, f1, f2⟩ := id Q5
  have n12 : ¬ w3.heap.size = w4.heap.size := by omega
  have n21 : ¬ w4.heap.size = w3.heap.size := by omega
  have HN2 := Lib.hid (rneg_any _ b _ _ hy5 (lt100 (Nat.le_trans (small99 b1 (by omega)) (by decide))))
  clear hy5
  go_wp2_with fail
  refine (HN2.out).mono ?_
  rintro e w6 ⟨y, rfl, hy, hb6⟩
  obtain ⟨b6, p6, l6, c6, rfl⟩ := hy.parts
  have Q6 := P5.next hb6
  have hx6 := ((hx5.on hb6 (Nat.le_refl _)).put (a := ⟨w4.heap.size, 0, none⟩) (by simp) (.bool b6)).put (a := ⟨w4.heap.size, 1, none⟩) (by simp) (.slice p6 l6 c6)
  have hy6 := (hy.put (a := ⟨w4.heap.size, 0, none⟩) (by simp; omega) (.bool b6)).put (a := ⟨w4.heap.size, 1, none⟩) (by simp; omega) (.slice p6 l6 c6)
  have P6 := Q6.put2 (.bool b6) (.slice p6 l6 c6)
  clear k1 k2 k3 k4 f1 f2 hx5 hy hb6 P5 HN2 hB Q5 l5
  obtain ⟨hB0, -, -, l5, k1, k2, k3, k4, f1, f2⟩ := id Q6
  have HH := Lib.hid (rhalfE ⟨_, hx6⟩ ⟨_, hy6⟩ hv.out (by omega) 85070591730234615865843651857942052864 big2 (by rw [Int.natAbs_neg]; exact m1) (by rw [Int.natAbs_neg]; exact (Nat.le_trans (small99 b1 (by omega)) (by decide))))
  have hB := P6.bel
  clear hx6 hy6 P6 Q6 hB0 m1
  go_wp2_with fail
  refine (HH.out).mono ?_
  rintro e w7 ⟨rfl, hb7⟩
  have B7 := hB.trans (hb7.mono hB.size)
  clear hB hb7 k1 k2 k3 k4 f1 f2
  go_wp2_with fail
  refine bodyPost_ret (v := .tuple #[.int .i64 (toldN v), .bool (toldB v)]) (by simp [results, Try.results22, go_sem]) rfl ⟨rfl, B7⟩

theorem rscale_any (n a b : Int) (w : World) (n1 : -9223372036854775808 ≤ n) (n2 : n ≤ 9223372036854775807) (a1 : -9223372036854775808 ≤ a) (a2 : a ≤ 9223372036854775807)
    (b1 : -9223372036854775808 ≤ b) (b2 : b ≤ 9223372036854775807) :
    Calls Try.prog 22 #[.int .i64 n, .int .i64 a, .int .i64 b] w (TupIs (if b = 0 then 0 else toldN (scaleV n a b)) (if b = 0 then false else toldB (scaleV n a b)) w) := by
  by_cases h0 : b = 0
  · subst h0
    exact rscale_zero n a w
  · rw [if_neg h0, if_neg h0]
    by_cases hp : 0 < b
    · refine rscale_pos n a b _ w n1 n2 a1 a2 b2 hp (Lib.hid ?_)
      unfold scaleV
      rw [Int.sign_eq_one_of_pos hp, Int.mul_one, show ((b.natAbs : Nat) : Int) = b by omega]
    · refine rscale_neg n a b _ w n1 n2 a1 a2 b1 (by omega) (Lib.hid ?_)
      unfold scaleV
      rw [Int.sign_eq_neg_one_of_neg (by omega), show n * a * (-1 : Int) = -(n * a) by rw [Int.mul_neg, Int.mul_one], show ((b.natAbs : Nat) : Int) = -b by omega]
end Go.Proofs.Ytnbloflgggndiaa
