/- Whole numbers as digits to base 65536, plainly; and where they lie in a world. -/
import Derived.Test.YtnbloflgggndiaaRatShown
import Derived.Laws.AppendOwn
import Derived.Laws.AppendOwnNone
import Derived.Laws.OwnMore
import Derived.Below
namespace Go.Proofs.Ytnbloflgggndiaa.Rf

/-- The i-th digit, 0 beyond. -/
def dd (ds : List Nat) (i : Nat) : Nat := ds[i]?.getD 0
/-- What the first k digits are. -/
def ev (f : Nat → Nat) : Nat → Nat
  | 0 => 0
  | k + 1 => ev f k + 65536 ^ k * f k
def dv (ds : List Nat) : Nat := ev (dd ds) ds.length
/-- Digits. -/
def Dig (ds : List Nat) : Prop := ∀ i, dd ds i < 65536

theorem dd_nil (i : Nat) : dd [] i = 0 := by simp [dd]
theorem dd_ge (ds : List Nat) (i : Nat) (h : ds.length ≤ i) : dd ds i = 0 := by simp [dd, List.getElem?_eq_none h]
theorem dd_lt (ds : List Nat) (i : Nat) (h : i < ds.length) : dd ds i = ds[i] := by simp [dd, List.getElem?_eq_getElem h]
theorem dig_nil : Dig [] := fun i => by rw [dd_nil]; omega
theorem dd_snoc (ds : List Nat) (x i : Nat) : dd (ds ++ [x]) i = if i = ds.length then x else dd ds i := by
  unfold dd
  by_cases h : i < ds.length
  · rw [List.getElem?_append_left h, if_neg (by omega)]
  · rw [List.getElem?_append_right (by omega)]
    by_cases e : i = ds.length
    · subst e
      simp
    · rw [if_neg e, List.getElem?_eq_none (by simp; omega), List.getElem?_eq_none (by omega)]
theorem dig_snoc {ds : List Nat} {x : Nat} (h : Dig ds) (hx : x < 65536) : Dig (ds ++ [x]) := fun i => by
  rw [dd_snoc]
  split
  · exact hx
  · exact h i
theorem ev_congr {f g : Nat → Nat} {k : Nat} (h : ∀ i, i < k → f i = g i) : ev f k = ev g k := by
  induction k with
  | zero => rfl
  | succ k ih => rw [ev, ev, ih (fun i hi => h i (by omega)), h k (by omega)]
theorem ev_far (ds : List Nat) (k : Nat) (h : ds.length ≤ k) : ev (dd ds) k = dv ds := by
  induction k with
  | zero => unfold dv; rw [show ds.length = 0 by omega]
  | succ k ih =>
    by_cases e : ds.length = k + 1
    · unfold dv
      rw [e]
    · rw [ev, ih (by omega), dd_ge ds k (by omega)]
      simp
theorem dv_snoc (ds : List Nat) (x : Nat) : dv (ds ++ [x]) = dv ds + 65536 ^ ds.length * x := by
  unfold dv
  rw [List.length_append, List.length_singleton, ev, dd_snoc, if_pos rfl]
  congr 1
  exact ev_congr fun i hi => by rw [dd_snoc, if_neg (by omega)]
theorem ev_lt {f : Nat → Nat} (h : ∀ i, f i < 65536) (k : Nat) : ev f k < 65536 ^ k := by
  induction k with
  | zero => simp [ev]
  | succ k ih =>
    rw [ev, Nat.pow_succ]
    have := h k
    have h2 : 65536 ^ k * f k ≤ 65536 ^ k * 65535 := Nat.mul_le_mul_left _ (by omega)
    omega
theorem ev_take (ds : List Nat) (k : Nat) (hk : k ≤ ds.length) : dv (ds.take k) = ev (dd ds) k := by
  unfold dv
  rw [List.length_take, Nat.min_eq_left hk]
  exact ev_congr fun i hi => by simp [dd, hi]
/-- What is noughts from k on is the first k digits. -/
theorem ev_up (ds : List Nat) (k : Nat) (hk : k ≤ ds.length) (hz : ∀ i, k ≤ i → dd ds i = 0) : dv (ds.take k) = dv ds := by
  rw [ev_take ds k hk, ← ev_far ds ds.length (Nat.le_refl _)]
  obtain ⟨j, hj⟩ : ∃ j, ds.length = k + j := ⟨ds.length - k, by omega⟩
  rw [hj]
  clear hj
  induction j with
  | zero => rfl
  | succ j ih => rw [← Nat.add_assoc, ev, ← ih, hz (k + j) (by omega)]; simp

/-- Digits without noughts ahead. -/
structure Norm (ds : List Nat) : Prop where
  dig : Dig ds
  top : ds ≠ [] → dd ds (ds.length - 1) ≠ 0
theorem Norm.zero {ds : List Nat} (h : Norm ds) : dv ds = 0 ↔ ds = [] := by
  constructor
  · intro h0
    by_cases e : ds = []
    · exact e
    · exfalso
      have ht := h.top e
      have hl : 0 < ds.length := List.length_pos_iff.2 e
      unfold dv at h0
      rw [show ds.length = (ds.length - 1) + 1 by omega, ev] at h0
      have : 65536 ^ (ds.length - 1) * dd ds (ds.length - 1) = 0 := by omega
      rcases Nat.mul_eq_zero.1 this with h | h
      · exact absurd h (by have := Nat.pow_pos (n := ds.length - 1) (show 0 < 65536 by omega); omega)
      · exact ht h
  · rintro rfl
    rfl
theorem Norm.least {ds : List Nat} (h : Norm ds) (e : ds ≠ []) : 65536 ^ (ds.length - 1) ≤ dv ds := by
  have ht := h.top e
  have hl : 0 < ds.length := List.length_pos_iff.2 e
  unfold dv
  rw [show ds.length = (ds.length - 1) + 1 by omega, ev, Nat.add_sub_cancel]
  have : 65536 ^ (ds.length - 1) * 1 ≤ 65536 ^ (ds.length - 1) * dd ds (ds.length - 1) := Nat.mul_le_mul_left _ (by omega)
  omega
theorem Norm.len {ds : List Nat} (h : Norm ds) {L : Nat} (hb : dv ds < 65536 ^ L) : ds.length ≤ L := by
  by_cases e : ds = []
  · rw [e]; simp
  · have h1 := h.least e
    by_cases c : ds.length ≤ L
    · exact c
    · exfalso
      have : 65536 ^ L ≤ 65536 ^ (ds.length - 1) := Nat.pow_le_pow_right (by omega) (by omega)
      omega
theorem Norm.take {ds : List Nat} {k : Nat} (h : Dig ds) (hk : k ≤ ds.length) (ht : k = 0 ∨ dd ds (k - 1) ≠ 0) : Norm (ds.take k) where
  dig := fun i => by
    unfold dd
    rw [List.getElem?_take]
    split
    · exact h i
    · simp
  top := fun e => by
    have : 0 < k := by
      by_cases c : k = 0
      · rw [c] at e; simp at e
      · omega
    rcases ht with ht | ht
    · omega
    · rw [List.length_take, Nat.min_eq_left hk]
      unfold dd at ht ⊢
      rw [List.getElem?_take, if_pos (by omega)]
      exact ht

/-- How two are compared: at the first place from above that differs. -/
theorem ev_le_of {f g : Nat → Nat} (hf : ∀ i, f i < 65536) (k n : Nat) (hk : k < n) (he : ∀ i, k < i → f i = g i) (hlt : f k < g k) : ev f n < ev g n := by
  obtain ⟨j, hj⟩ : ∃ j, n = k + 1 + j := ⟨n - (k + 1), by omega⟩
  rw [hj]
  clear hj
  induction j with
  | zero =>
    rw [Nat.add_zero, ev, ev]
    have h1 := ev_lt hf k
    have h2 : 65536 ^ k * (f k + 1) ≤ 65536 ^ k * g k := Nat.mul_le_mul_left _ (by omega)
    rw [Nat.mul_add, Nat.mul_one] at h2
    omega
  | succ j ih =>
    rw [← Nat.add_assoc, ev, ev, he (k + 1 + j) (by omega)]
    omega

end Go.Proofs.Ytnbloflgggndiaa.Rf
