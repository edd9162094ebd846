/- Division bit by bit, plainly. -/
import Derived.Test.YtnbloflgggndiaaRefMul
namespace Go.Proofs.Ytnbloflgggndiaa.Rf

theorem ev_cut (f : Nat → Nat) (k j : Nat) : ∃ r, ev f (k + 1 + j) = ev f k + 65536 ^ k * (f k + 65536 * r) := by
  induction j with
  | zero => exact ⟨0, by rw [Nat.add_zero, ev]; simp⟩
  | succ j ih =>
    obtain ⟨r, hr⟩ := ih
    refine ⟨r + 65536 ^ j * f (k + 1 + j), ?_⟩
    have e : 65536 ^ (k + 1 + j) = 65536 ^ k * (65536 * 65536 ^ j) := by rw [Nat.pow_add, Nat.pow_succ, Nat.mul_assoc]
    rw [← Nat.add_assoc, ev, hr, e]
    simp only [Nat.mul_add, Nat.mul_assoc, Nat.add_assoc]
theorem dig_at {ds : List Nat} (hd : Dig ds) (k : Nat) : dv ds / 65536 ^ k % 65536 = dd ds k := by
  obtain ⟨r, hr⟩ := ev_cut (dd ds) k ds.length
  rw [← ev_far ds (k + 1 + ds.length) (by omega), hr, Nat.add_mul_div_left _ _ (Nat.pow_pos (by omega)), Nat.div_eq_of_lt (ev_lt hd k)]
  have := hd k
  omega
theorem low_bit (x j : Nat) (hj : j < 16) : x % 65536 / 2 ^ j % 2 = x / 2 ^ j % 2 := by
  have h : j = 0 ∨ j = 1 ∨ j = 2 ∨ j = 3 ∨ j = 4 ∨ j = 5 ∨ j = 6 ∨ j = 7 ∨ j = 8 ∨ j = 9 ∨ j = 10 ∨ j = 11 ∨ j = 12 ∨ j = 13 ∨ j = 14 ∨ j = 15 := by omega
  rcases h with rfl | rfl | rfl | rfl | rfl | rfl | rfl | rfl | rfl | rfl | rfl | rfl | rfl | rfl | rfl | rfl <;> simp <;> omega
theorem bit_at {ds : List Nat} (hd : Dig ds) (i : Nat) : dd ds (i / 16) / 2 ^ (i % 16) % 2 = dv ds / 2 ^ i % 2 := by
  have e : 2 ^ i = 65536 ^ (i / 16) * 2 ^ (i % 16) := by
    have h : (65536 : Nat) = 2 ^ 16 := by decide
    rw [h, ← Nat.pow_mul, ← Nat.pow_add, Nat.div_add_mod]
  rw [e, ← Nat.div_div_eq_div_mul, ← dig_at hd, low_bit _ _ (Nat.mod_lt _ (by omega))]

/-- What is so far of a division: the bits from i on. -/
structure Cut (V D i q r : Nat) : Prop where
  quot : q = V / 2 ^ i / D
  rest : r = V / 2 ^ i % D
theorem divmod_of {x D q r : Nat} (h : x = D * q + r) (hr : r < D) : q = x / D ∧ r = x % D := by
  subst h
  constructor
  · rw [Nat.mul_add_div (by omega), Nat.div_eq_of_lt hr, Nat.add_zero]
  · rw [Nat.mul_add_mod, Nat.mod_eq_of_lt hr]
theorem Cut.first {ds : List Nat} (hd : Dig ds) (D : Nat) : Cut (dv ds) D (16 * ds.length) 0 0 := by
  have h1 := ev_lt hd ds.length
  have h : (65536 : Nat) = 2 ^ 16 := by decide
  rw [h, ← Nat.pow_mul] at h1
  have h2 : dv ds / 2 ^ (16 * ds.length) = 0 := Nat.div_eq_of_lt h1
  exact ⟨by rw [h2]; simp, by rw [h2]; simp⟩
theorem cut_step (V i : Nat) : V / 2 ^ i = 2 * (V / 2 ^ (i + 1)) + V / 2 ^ i % 2 := by
  rw [Nat.pow_succ, ← Nat.div_div_eq_div_mul]
  omega
theorem Cut.more {V D i q r t : Nat} (hD : 0 < D) (h : Cut V D (i + 1) q r) (ht : t = V / 2 ^ i % 2) (hge : D ≤ r + r + t) : Cut V D i (q + q + 1) (r + r + t - D) := by
  obtain ⟨h1, h2⟩ := h
  have h3 := cut_step V i
  have h4 := Nat.div_add_mod (V / 2 ^ (i + 1)) D
  have h5 := Nat.mod_lt (V / 2 ^ (i + 1)) hD
  rw [← h1, ← h2] at h4
  rw [← h2] at h5
  rw [← ht, ← h4] at h3
  have e : D * (q + q + 1) = D * q + D * q + D := by rw [Nat.mul_add, Nat.mul_add, Nat.mul_one]
  obtain ⟨a, b⟩ := divmod_of (x := V / 2 ^ i) (D := D) (q := q + q + 1) (r := r + r + t - D) (by omega) (by omega)
  exact ⟨a, b⟩
theorem Cut.less {V D i q r t : Nat} (h : Cut V D (i + 1) q r) (ht : t = V / 2 ^ i % 2) (hlt : r + r + t < D) : Cut V D i (q + q) (r + r + t) := by
  obtain ⟨h1, h2⟩ := h
  have h3 := cut_step V i
  have h4 := Nat.div_add_mod (V / 2 ^ (i + 1)) D
  rw [← h1, ← h2] at h4
  rw [← ht, ← h4] at h3
  have e : D * (q + q) = D * q + D * q := by rw [Nat.mul_add]
  obtain ⟨a, b⟩ := divmod_of (x := V / 2 ^ i) (D := D) (q := q + q) (r := r + r + t) (by omega) (by omega)
  exact ⟨a, b⟩
theorem Cut.lt {V D i q r : Nat} (hD : 0 < D) (h : Cut V D i q r) : r < D := by
  rw [h.rest]; exact Nat.mod_lt _ hD
theorem Cut.le {V D i q r : Nat} (h : Cut V D i q r) : q ≤ V := by
  rw [h.quot]; exact Nat.le_trans (Nat.div_le_self _ _) (Nat.div_le_self _ _)

theorem parts_up (n : Int) (D q r : Nat) (h0 : 0 ≤ n) (h : Cut n.natAbs D 0 q r) : (q : Int) = n / D ∧ (r : Int) = n % D := by
  obtain ⟨h1, h2⟩ := h
  obtain ⟨m, rfl⟩ : ∃ m : Nat, n = m := ⟨n.natAbs, by omega⟩
  simp at h1 h2
  rw [h1, h2]
  exact ⟨by simp, by simp⟩
theorem parts_even (n : Int) (D q r : Nat) (h0 : n < 0) (hD : 0 < D) (h : Cut n.natAbs D 0 q r) (hr : r = 0) : -(q : Int) = n / D ∧ (0 : Int) = n % D := by
  obtain ⟨h1, h2⟩ := h
  simp at h1 h2
  have h3 := Nat.div_add_mod n.natAbs D
  rw [← h1, ← h2, hr] at h3
  have h4 : (D : Int) * q = n.natAbs := by rw [← h3]; simp
  obtain ⟨a, b⟩ := (Int.ediv_emod_unique (a := n) (b := D) (q := -(q : Int)) (r := 0) (by omega)).2 ⟨by rw [Int.mul_neg, h4]; omega, by omega, by omega⟩
  exact ⟨a.symm, b.symm⟩
theorem parts_odd (n : Int) (D q r : Nat) (h0 : n < 0) (hD : 0 < D) (h : Cut n.natAbs D 0 q r) (hr : r ≠ 0) : -((q : Int) + 1) = n / D ∧ (D : Int) - r = n % D := by
  have hlt := h.lt hD
  obtain ⟨h1, h2⟩ := h
  simp at h1 h2
  have h3 := Nat.div_add_mod n.natAbs D
  rw [← h1, ← h2] at h3
  have h4 : (D : Int) * q + r = n.natAbs := by rw [← h3]; simp
  obtain ⟨a, b⟩ := (Int.ediv_emod_unique (a := n) (b := D) (q := -((q : Int) + 1)) (r := (D : Int) - r) (by omega)).2 ⟨by rw [Int.mul_neg, Int.mul_add]; omega, by omega, by omega⟩
  exact ⟨a.symm, b.symm⟩
end Go.Proofs.Ytnbloflgggndiaa.Rf
