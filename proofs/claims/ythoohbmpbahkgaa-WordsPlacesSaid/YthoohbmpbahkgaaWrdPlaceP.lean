/- Where words stand, plainly. -/
import Derived.Test.YthoohbmpbahkgaaWrdRefPlain
namespace Go.Proofs.Ythoohbmpbahkgaa
open Go.RowKit

theorem bt_extract (s : ByteArray) (a b j : Nat) (h : a + j < b) (hb : b ≤ s.size) : bt (s.extract a b) j = bt s (a + j) := by
  have hs : (s.extract a b).size = b - a := by rw [ByteArray.size_extract]; omega
  rw [← bt_get (s.extract a b) j (by omega), ← bt_get s (a + j) (by omega)]
  simp [ByteArray.getElem_extract]
theorem wEnd_in (s : ByteArray) (f k j : Nat) (h1 : k ≤ j) (h2 : j < wEnd s f k) : blB (bt s j) = false := by
  induction f generalizing k with
  | zero => simp [wEnd] at h2; omega
  | succ f ih =>
    rw [wEnd_succ] at h2
    cases hb : blB (bt s k) with
    | true => rw [hb] at h2; simp at h2; omega
    | false =>
      rw [hb] at h2
      simp only [Bool.false_eq_true, if_false] at h2
      by_cases e : j = k
      · rw [e]; exact hb
      · exact ih (k + 1) (by omega) h2
theorem stB_not (s : ByteArray) (k : Nat) (h : stB s k = true) : blB (bt s k) = false ∧ (0 < k → blB (bt s (k - 1)) = true) := by
  cases k with
  | zero => simp [stB] at h; exact ⟨h, fun h => by omega⟩
  | succ k => simp [stB] at h; exact ⟨h.1, fun _ => h.2⟩
theorem wEnd_pos (s : ByteArray) (n k : Nat) (hk : k < n) (h : stB s k = true) : k < wEnd s (n - k) k := by
  obtain ⟨f, hf⟩ : ∃ f, n - k = f + 1 := ⟨n - k - 1, by omega⟩
  rw [hf, wEnd_succ, (stB_not s k h).1]
  have := (wEnd_bd s f (k + 1)).1
  simp only [Bool.false_eq_true, if_false]
  omega
theorem wEnd_before (s : ByteArray) (n i j : Nat) (hij : i < j) (h : stB s j = true) : wEnd s (n - i) i < j := by
  have h2 := (stB_not s j h).2 (by omega)
  by_cases hc : j - 1 < wEnd s (n - i) i
  · have := wEnd_in s (n - i) i (j - 1) (by omega) hc
    rw [this] at h2
    cases h2
  · have := (wEnd_bd s (n - i) i).1
    omega
theorem hashF_no (s : ByteArray) (f k j : Nat) (h1 : k ≤ j) (h2 : j < hashF s f k) : bt s j ≠ 35 := by
  induction f generalizing k with
  | zero => simp [hashF] at h2; omega
  | succ f ih =>
    rw [hashF_succ] at h2
    by_cases e : bt s k = 35
    · rw [if_pos e] at h2; omega
    · rw [if_neg e] at h2
      by_cases e2 : j = k
      · rw [e2]; exact e
      · exact ih (k + 1) (by omega) h2
/-- A word of a line, by itself. -/
def WordIn (num : Int) (l : ByteArray) (x : Wd) : Prop :=
  x.line = num ∧ ∃ p e : Nat, x.pos = p ∧ p < e ∧ e ≤ l.size ∧ x.text = l.extract p e ∧ (0 < p → blB (bt l (p - 1)) = true) ∧ ∀ j, p ≤ j → j < e → blB (bt l j) = false ∧ bt l j ≠ 35
def endI (x : Wd) : Int := x.pos + x.text.size
theorem rfK_each (num : Int) (l : ByteArray) (i : Nat) (h : i ≤ hashAt l) :
    (∀ x ∈ rfK num l (hashAt l) i, WordIn num l x) ∧ (∀ (m : Nat) (x y : Wd), (rfK num l (hashAt l) i)[m]? = some x → (rfK num l (hashAt l) i)[m + 1]? = some y → endI x < y.pos) ∧
    (∀ x ∈ rfK num l (hashAt l) i, ∀ j : Nat, i ≤ j → stB l j = true → endI x < j) := by
  have hN := hashAt_le l
  induction i with
  | zero => exact ⟨fun x hx => by simp [rfK] at hx, fun m x y hx => by simp [rfK] at hx, fun x hx => by simp [rfK] at hx⟩
  | succ i ih =>
    obtain ⟨i1, i2, i3⟩ := ih (by omega)
    rw [rfK_succ]
    cases hst : stB l i with
    | false =>
      simp only [Bool.false_eq_true, if_false]
      exact ⟨i1, i2, fun x hx j hj => i3 x hx j (by omega)⟩
    | true =>
      simp only [if_true]
      have hb := wEnd_bd l (hashAt l - i) i
      have hp := wEnd_pos l (hashAt l) i (by omega) hst
      have hbef := fun j hj hs => wEnd_before l (hashAt l) i j hj hs
      have hin := fun j h1 h2 => wEnd_in l (hashAt l - i) i j h1 h2
      obtain ⟨E, hE⟩ : ∃ E, wEnd l (hashAt l - i) i = E := ⟨_, rfl⟩
      simp only [hE] at hb hp hbef hin ⊢
      have hsz : (l.extract i E).size = E - i := by rw [ByteArray.size_extract]; omega
      have hend : endI ⟨num, i, l.extract i E⟩ = E := by unfold endI; simp only; omega
      refine ⟨fun x hx => ?_, fun m x y hx hy => ?_, fun x hx j hj hs => ?_⟩
      · rcases List.mem_append.1 hx with hx | hx
        · exact i1 x hx
        · simp only [List.mem_singleton] at hx
          subst hx
          exact ⟨rfl, i, E, rfl, hp, by omega, rfl, (stB_not l i hst).2, fun j h1 h2 => ⟨hin j h1 h2, hashF_no l l.size 0 j (by omega) (by show j < hashAt l; omega)⟩⟩
      · by_cases hm : m + 1 < (rfK num l (hashAt l) i).length
        · rw [List.getElem?_append_left (by omega)] at hx
          rw [List.getElem?_append_left hm] at hy
          exact i2 m x y hx hy
        · have hm2 : m + 1 = (rfK num l (hashAt l) i).length := by
            have := (List.getElem?_eq_some_iff.1 hy).1
            simp at this
            omega
          rw [List.getElem?_append_left (by omega)] at hx
          rw [List.getElem?_append_right (by omega), show m + 1 - (rfK num l (hashAt l) i).length = 0 by omega] at hy
          simp only [List.getElem?_cons_zero, Option.some.injEq] at hy
          subst hy
          exact i3 x (List.mem_of_getElem? hx) i (Nat.le_refl _) hst
      · rcases List.mem_append.1 hx with hx | hx
        · exact i3 x hx j (by omega) hs
        · simp only [List.mem_singleton] at hx
          subst hx
          rw [hend]
          have := hbef j (by omega) hs
          omega
/-- Where lines begin. -/
def startsK (s : ByteArray) : Nat → List Nat
  | 0 => [0]
  | k + 1 => if bt s k = 10 then startsK s k ++ [k + 1] else startsK s k
theorem startsK_succ (s : ByteArray) (k : Nat) : startsK s (k + 1) = if bt s k = 10 then startsK s k ++ [k + 1] else startsK s k := rfl
theorem startsK_le (s : ByteArray) (k : Nat) : ∀ x ∈ startsK s k, x ≤ k := by
  induction k with
  | zero => intro x hx; simp [startsK] at hx; omega
  | succ k ih =>
    intro x hx
    rw [startsK_succ] at hx
    split at hx
    · rcases List.mem_append.1 hx with hx | hx
      · have := ih x hx; omega
      · simp at hx; omega
    · have := ih x hx; omega
/-- A row of words of a source, with the number of its line. -/
structure RowOf (s : ByteArray) (st : List Nat) (num : Nat) (r : List Wd) : Prop where
  ne : r.length ≠ 0
  n1 : 1 ≤ num
  n2 : num ≤ st.length
  each : ∀ x ∈ r, x.line = num ∧ ∃ p : Nat, x.pos = p ∧ 0 < x.text.size ∧ (st[num - 1]?.getD 0) + p + x.text.size ≤ s.size ∧ x.text = s.extract ((st[num - 1]?.getD 0) + p) ((st[num - 1]?.getD 0) + p + x.text.size) ∧ (0 < p → blB (bt s ((st[num - 1]?.getD 0) + p - 1)) = true) ∧ ∀ j, j < x.text.size → blB (bt x.text j) = false ∧ bt x.text j ≠ 35 ∧ bt x.text j ≠ 10
  mono : ∀ (m : Nat) (x y : Wd), r[m]? = some x → r[m + 1]? = some y → endI x < y.pos
theorem RowOf.more {s : ByteArray} {st : List Nat} {num : Nat} {r : List Wd} (h : RowOf s st num r) (x : Nat) : RowOf s (st ++ [x]) num r := by
  have e : (st ++ [x])[num - 1]? = st[num - 1]? := List.getElem?_append_left (by have := h.n1; have := h.n2; omega)
  refine ⟨h.ne, h.n1, by have := h.n2; simp; omega, ?_, h.mono⟩
  rw [e]
  exact h.each
/-- The rows that a line of a source has. -/
theorem RowOf.words (s : ByteArray) (st : List Nat) (num b e : Nat) (h1 : 1 ≤ num) (h2 : num ≤ st.length) (hb : st[num - 1]?.getD 0 = b) (he : e ≤ s.size) (hbe : b ≤ e) (hno : ∀ j, b ≤ j → j < e → bt s j ≠ 10) (hne : (wordsP num (s.extract b e)).length ≠ 0) :
    RowOf s st num (wordsP num (s.extract b e)) := by
  rw [← rfK_words] at hne ⊢
  obtain ⟨w1, w2, -⟩ := rfK_each (num : Int) (s.extract b e) _ (Nat.le_refl _)
  refine ⟨hne, h1, h2, fun x hx => ?_, w2⟩
  have hsz : (s.extract b e).size = e - b := by rw [ByteArray.size_extract]; omega
  obtain ⟨x1, p, q, x2, x3, x4, x5, x6, x7⟩ := w1 x hx
  rw [hsz] at x4
  have ht : x.text = s.extract (b + p) (b + q) := by rw [x5, ByteArray.extract_extract]; congr 1; omega
  have hts : x.text.size = q - p := by rw [ht, ByteArray.size_extract]; omega
  rw [hb]
  refine ⟨x1, p, x2, by omega, by omega, by rw [hts, show b + p + (q - p) = b + q by omega]; exact ht, fun h0 => ?_, fun j hj => ?_⟩
  · have := x6 h0
    rw [bt_extract _ _ _ _ (by omega) he] at this
    rwa [show b + p - 1 = b + (p - 1) by omega]
  · rw [ht, bt_extract _ _ _ _ (by omega) (by omega)]
    obtain ⟨y1, y2⟩ := x7 (p + j) (by omega) (by omega)
    rw [bt_extract _ _ _ _ (by omega) he] at y1 y2
    rw [show b + p + j = b + (p + j) by omega]
    exact ⟨y1, y2, hno _ (by omega) (by omega)⟩
/-- Rows, each of a line of its own, in order. -/
structure RowsOf (s : ByteArray) (st : List Nat) (top : Nat) (rs : List (List Wd)) : Prop where
  each : ∀ (i : Nat) (r : List Wd), rs[i]? = some r → ∃ num, RowOf s st num r ∧ num ≤ top
  mono : ∀ (i : Nat) (r r' : List Wd) (num num' : Nat), rs[i]? = some r → rs[i + 1]? = some r' → RowOf s st num r → RowOf s st num' r' → num < num'
theorem RowOf.num {s : ByteArray} {st : List Nat} {num : Nat} {r : List Wd} (h : RowOf s st num r) : ∃ x, r[0]? = some x ∧ x.line = (num : Int) := by
  have := h.ne
  have h0 : 0 < r.length := by omega
  exact ⟨r[0], List.getElem?_eq_getElem h0, (h.each _ (List.getElem_mem h0)).1⟩
theorem RowOf.same {s : ByteArray} {st st' : List Nat} {num num' : Nat} {r : List Wd} (h : RowOf s st num r) (h' : RowOf s st' num' r) : num = num' := by
  obtain ⟨x, x1, x2⟩ := h.num
  obtain ⟨y, y1, y2⟩ := h'.num
  rw [x1] at y1
  cases y1
  omega
theorem RowsOf.add {s : ByteArray} {st : List Nat} {top num : Nat} {rs : List (List Wd)} {r : List Wd} (h : RowsOf s st top rs) (hr : RowOf s st num r) (hn : top < num) : RowsOf s st num (rs ++ [r]) := by
  refine ⟨fun i y hy => ?_, fun i y z n n' hy hz hyo hzo => ?_⟩
  · by_cases hi : i < rs.length
    · rw [List.getElem?_append_left hi] at hy
      obtain ⟨m, m1, m2⟩ := h.each i y hy
      exact ⟨m, m1, by omega⟩
    · rw [List.getElem?_append_right (by omega)] at hy
      have : i - rs.length = 0 := by have := (List.getElem?_eq_some_iff.1 hy).1; simpa using this
      rw [this] at hy
      simp at hy
      subst hy
      exact ⟨num, hr, Nat.le_refl _⟩
  · by_cases hi : i + 1 < rs.length
    · rw [List.getElem?_append_left (by omega)] at hy
      rw [List.getElem?_append_left hi] at hz
      exact h.mono i y z n n' hy hz hyo hzo
    · have hi2 : i + 1 = rs.length := by have := (List.getElem?_eq_some_iff.1 hz).1; simp at this; omega
      rw [List.getElem?_append_left (by omega)] at hy
      rw [List.getElem?_append_right (by omega), show i + 1 - rs.length = 0 by omega] at hz
      simp at hz
      subst hz
      obtain ⟨m, m1, m2⟩ := h.each i y hy
      have := m1.same hyo
      have := hr.same hzo
      omega
theorem RowsOf.grow {s : ByteArray} {st : List Nat} {top : Nat} {rs : List (List Wd)} (h : RowsOf s st top rs) (x : Nat) : RowsOf s (st ++ [x]) top rs := by
  refine ⟨fun i r hr => ?_, fun i r r' n n' hr hr' ho ho' => ?_⟩
  · obtain ⟨m, m1, m2⟩ := h.each i r hr
    exact ⟨m, m1.more x, m2⟩
  · obtain ⟨m, m1, -⟩ := h.each i r hr
    obtain ⟨m', m1', -⟩ := h.each (i + 1) r' hr'
    have := h.mono i r r' m m' hr hr' m1 m1'
    have := m1.same ho
    have := m1'.same ho'
    omega
theorem endL_r (s : ByteArray) (k : Nat) (x : Nat × Nat × List (List Wd)) : (endL s k x).2.2 = addNE x.2.2 (wordsP x.1 (s.extract x.2.1 k)) := by unfold endL; rfl
theorem endL_1 (s : ByteArray) (k : Nat) (x : Nat × Nat × List (List Wd)) : (endL s k x).1 = x.1 + 1 := by unfold endL; rfl
theorem endL_2 (s : ByteArray) (k : Nat) (x : Nat × Nat × List (List Wd)) : (endL s k x).2.1 = k + 1 := by unfold endL; rfl
theorem linesP_e (s : ByteArray) : linesP s = addNE (lnK s s.size).2.2 (wordsP (lnK s s.size).1 (s.extract (lnK s s.size).2.1 s.size)) := by unfold linesP; rw [endL_r]
/-- What is known of lines so far. -/
theorem lnK_rows (s : ByteArray) (k : Nat) (h : k ≤ s.size) :
    (startsK s k).length = (lnK s k).1 ∧ (startsK s k)[(lnK s k).1 - 1]?.getD 0 = (lnK s k).2.1 ∧ 1 ≤ (lnK s k).1 ∧ (∀ j, (lnK s k).2.1 ≤ j → j < k → bt s j ≠ 10) ∧ RowsOf s (startsK s k) ((lnK s k).1 - 1) (lnK s k).2.2 := by
  induction k with
  | zero => exact ⟨rfl, rfl, Nat.le_refl _, fun j h1 h2 => by omega, ⟨fun i r hr => by simp [lnK] at hr, fun i r r' n n' hr => by simp [lnK] at hr⟩⟩
  | succ k ih =>
    obtain ⟨i1, i2, i3, i4, i5⟩ := ih (by omega)
    have hbd := (lnK_bd s k).2.1
    rw [startsK_succ, lnK_succ]
    obtain ⟨x, hx⟩ : ∃ x, lnK s k = x := ⟨_, rfl⟩
    rw [hx] at i1 i2 i3 i4 i5 hbd ⊢
    by_cases h10 : bt s k = 10
    · rw [if_pos h10, if_pos h10]
      have e : ((startsK s k ++ [k + 1])[x.1]?).getD 0 = k + 1 := by rw [List.getElem?_append_right (by omega), show x.1 - (startsK s k).length = 0 by omega]; rfl
      rw [endL_r, endL_1, endL_2, Nat.add_sub_cancel]
      refine ⟨by simp [i1], e, by omega, fun j h1 h2 => by omega, ?_⟩
      unfold addNE
      split
      · refine ⟨fun i r hr => ?_, (i5.grow (k + 1)).mono⟩
        obtain ⟨m, m1, m2⟩ := (i5.grow (k + 1)).each i r hr
        exact ⟨m, m1, by omega⟩
      · rename_i hne
        exact (i5.grow (k + 1)).add ((RowOf.words s (startsK s k) x.1 x.2.1 k i3 (by omega) i2 (by omega) hbd i4 hne).more _) (by omega)
    · rw [if_neg h10, if_neg h10]
      refine ⟨i1, i2, i3, fun j h1 h2 => ?_, i5⟩
      by_cases hj : j = k
      · rw [hj]; exact h10
      · exact i4 j h1 (by omega)
theorem linesP_rows (s : ByteArray) : RowsOf s (startsK s s.size) (startsK s s.size).length (linesP s) := by
  obtain ⟨i1, i2, i3, i4, i5⟩ := lnK_rows s s.size (Nat.le_refl _)
  have hbd := (lnK_bd s s.size).2.1
  rw [linesP_e]
  obtain ⟨x, hx⟩ : ∃ x, lnK s s.size = x := ⟨_, rfl⟩
  rw [hx] at i1 i2 i3 i4 i5 hbd ⊢
  unfold addNE
  rw [i1]
  split
  · refine ⟨fun i r hr => ?_, i5.mono⟩
    obtain ⟨m, m1, m2⟩ := i5.each i r hr
    exact ⟨m, m1, by omega⟩
  · rename_i hne
    exact i5.add (RowOf.words s _ x.1 x.2.1 s.size i3 (by omega) i2 (Nat.le_refl _) hbd i4 hne) (by omega)
end Go.Proofs.Ythoohbmpbahkgaa
