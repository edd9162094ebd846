/- Products of digits, plainly. -/
import Derived.Test.YtnbloflgggndiaaRefNum
namespace Go.Proofs.Ytnbloflgggndiaa.Rf

theorem dd_set (os : List Nat) (j y i : Nat) (hj : j < os.length) : dd (os.set j y) i = if i = j then y else dd os i := by
  unfold dd
  rw [List.getElem?_set]
  by_cases h : j = i
  · subst h
    simp [hj]
  · rw [if_neg h, if_neg (fun e => h e.symm)]
theorem ev_set (os : List Nat) (j y : Nat) (hj : j < os.length) (k : Nat) (hk : j < k) : ev (dd (os.set j y)) k + 65536 ^ j * dd os j = ev (dd os) k + 65536 ^ j * y := by
  induction k with
  | zero => omega
  | succ k ih =>
    rw [ev, ev, dd_set os j y k hj]
    by_cases e : k = j
    · subst e
      rw [if_pos rfl, ev_congr (g := dd os) fun i hi => by rw [dd_set os k y i hj, if_neg (by omega)]]
      omega
    · rw [if_neg e]
      have := ih (by omega)
      omega
theorem dv_set (os : List Nat) (j y : Nat) (hj : j < os.length) : dv (os.set j y) + 65536 ^ j * dd os j = dv os + 65536 ^ j * y := by
  unfold dv
  rw [List.length_set]
  exact ev_set os j y hj os.length hj
theorem dig_set {os : List Nat} {j y : Nat} (h : Dig os) (hj : j < os.length) (hy : y < 65536) : Dig (os.set j y) := fun i => by
  rw [dd_set os j y i hj]
  split
  · exact hy
  · exact h i

/-- What is so far of a product: rows below i, and of row i the first k places. -/
structure Mul (xs ys : List Nat) (i k : Nat) (os : List Nat) (C : Nat) : Prop where
  dig : Dig os
  len : os.length = xs.length + ys.length + 1
  low : C < 65536
  mul : dv os + 65536 ^ (i + k) * C = ev (dd xs) i * dv ys + 65536 ^ i * (dd xs i * ev (dd ys) k)
theorem Mul.next {xs ys : List Nat} (d1 : Dig xs) (d2 : Dig ys) {i k : Nat} {os : List Nat} {C x : Nat} (h : Mul xs ys i k os C) (hj : i + k < xs.length + ys.length + 1) (hx : x = dd os (i + k) + dd xs i * dd ys k + C) :
    Mul xs ys i (k + 1) (os.set (i + k) (x % 65536)) (x / 65536) where
  dig := dig_set h.dig (by rw [h.len]; exact hj) (by omega)
  len := by rw [List.length_set, h.len]
  low := by
    have h1 := d1 i
    have h2 := d2 k
    have h3 := h.dig (i + k)
    have h4 := h.low
    have h5 : dd xs i * dd ys k ≤ 65535 * 65535 := Nat.mul_le_mul (by omega) (by omega)
    omega
  mul := by
    have h1 := h.mul
    have h2 := dv_set os (i + k) (x % 65536) (by rw [h.len]; exact hj)
    have h3 := Nat.div_add_mod x 65536
    have e1 : 65536 ^ (i + (k + 1)) = 65536 ^ (i + k) * 65536 := by rw [← Nat.add_assoc, Nat.pow_succ]
    have e2 : 65536 ^ (i + k) = 65536 ^ i * 65536 ^ k := Nat.pow_add ..
    rw [e1, ev]
    have h4 : 65536 ^ (i + k) * x = 65536 ^ (i + k) * dd os (i + k) + 65536 ^ (i + k) * (dd xs i * dd ys k) + 65536 ^ (i + k) * C := by rw [hx, Nat.mul_add, Nat.mul_add]
    have h5 : 65536 ^ (i + k) * x = 65536 ^ (i + k) * (65536 * (x / 65536)) + 65536 ^ (i + k) * (x % 65536) := by rw [← Nat.mul_add, h3]
    have h6 : 65536 ^ i * (dd xs i * (ev (dd ys) k + 65536 ^ k * dd ys k)) = 65536 ^ i * (dd xs i * ev (dd ys) k) + 65536 ^ (i + k) * (dd xs i * dd ys k) := by
      rw [e2, Nat.mul_add, Nat.mul_add]
      congr 1
      rw [Nat.mul_assoc, Nat.mul_left_comm (dd xs i)]
    rw [h6, Nat.mul_assoc]
    omega
/-- A row ends. -/
theorem Mul.row {xs ys : List Nat} {i k : Nat} {os : List Nat} (h : Mul xs ys i k os 0) (hk : ys.length ≤ k) : Mul xs ys (i + 1) 0 os 0 where
  dig := h.dig
  len := h.len
  low := by omega
  mul := by
    have := h.mul
    rw [ev_far ys k hk] at this
    rw [ev, ev]
    simp only [Nat.mul_zero, Nat.add_zero] at this ⊢
    rw [this, Nat.add_mul, Nat.mul_assoc]
/-- There is nothing left to carry behind one place more. -/
theorem Mul.none {xs ys : List Nat} (d1 : Dig xs) (d2 : Dig ys) {i : Nat} {os : List Nat} {C : Nat} (h : Mul xs ys i (ys.length + 1) os C) : C = 0 := by
  have h1 := h.mul
  rw [ev_far ys _ (by omega)] at h1
  have h2 := ev_lt d1 (i + 1)
  have h3 := ev_lt d2 ys.length
  rw [ev_far ys _ (Nat.le_refl _)] at h3
  have e : ev (dd xs) i * dv ys + 65536 ^ i * (dd xs i * dv ys) = ev (dd xs) (i + 1) * dv ys := by
    rw [ev, Nat.add_mul, Nat.mul_assoc]
  rw [e] at h1
  have h4 : ev (dd xs) (i + 1) * dv ys < 65536 ^ (i + (ys.length + 1)) := by
    rw [show i + (ys.length + 1) = (i + 1) + ys.length by omega, Nat.pow_add]
    exact Nat.mul_lt_mul'' h2 h3
  by_cases c : C = 0
  · exact c
  · exfalso
    have : 65536 ^ (i + (ys.length + 1)) * 1 ≤ 65536 ^ (i + (ys.length + 1)) * C := Nat.mul_le_mul_left _ (by omega)
    omega
theorem Mul.first (xs ys : List Nat) : Mul xs ys 0 0 (List.replicate (xs.length + ys.length + 1) 0) 0 where
  dig := fun i => by
    unfold dd
    rw [List.getElem?_replicate]
    split <;> simp
  len := by simp
  low := by omega
  mul := by
    have : ∀ n k, ev (dd (List.replicate n 0)) k = 0 := by
      intro n k
      induction k with
      | zero => rfl
      | succ k ih =>
        rw [ev, ih]
        unfold dd
        rw [List.getElem?_replicate]
        split <;> simp
    simp [dv, this, ev]
theorem Mul.last {xs ys : List Nat} {os : List Nat} (h : Mul xs ys xs.length 0 os 0) : dv os = dv xs * dv ys := by
  have := h.mul
  rw [ev_far xs _ (Nat.le_refl _)] at this
  simp only [ev, Nat.mul_zero, Nat.add_zero] at this
  exact this

end Go.Proofs.Ytnbloflgggndiaa.Rf
