/- Sets under way: rows of words of the call's own, apart from one another. -/
import Derived.Test.YthoohbmpbahkgaaWrdLine1
namespace Go.Proofs.Ythoohbmpbahkgaa
open Go.RowKit

def isO (x : Wd) : Bool := x.text.toList == [91]
def isC (x : Wd) : Bool := x.text.toList == [93]
def addLast (acc : List (List Wd)) (x : Wd) : List (List Wd) := acc.set (acc.length - 1) ((acc[acc.length - 1]?.getD []) ++ [x])
def setsK : Bool → List (List Wd) → List Wd → Option (List (List Wd))
  | op, acc, [] => if op then none else some acc
  | op, acc, x :: xs => if isO x then (if op then none else setsK true (acc ++ [[]]) xs) else if isC x then (if op then setsK false acc xs else none) else setsK op (addLast (if op then acc else acc ++ [[]]) x) xs
def setsP (ws : List Wd) : Option (List (List Wd)) := setsK false [] ws

/-- Rows of words, each in a block of its own. -/
def SetsM (W : World) (B : Nat) (v : Value) (acc : List (List Wd)) : Prop :=
  ∃ vs : List Value, W.ownsRow B 34 1 v vs.length vs ∧ vs.length = acc.length ∧
    (∀ i, i < vs.length → ∃ u, vs[i]? = some u ∧ OwnR enW 37 3 W B u (acc[i]?.getD []) ∧ (∀ g, u.ownBlock = some g → v.ownBlock ≠ some g)) ∧
    (∀ (i j : Nat) (u u' : Value), i ≠ j → vs[i]? = some u → vs[j]? = some u' → ∀ g, u.ownBlock = some g → u'.ownBlock ≠ some g)
theorem SetsM.nil (W : World) (B : Nat) : SetsM W B (.slice none 0 0) [] := ⟨[], World.ownsRow_nil _ _ _ _, rfl, fun i hi => by simp at hi, fun i j u u' _ h => by simp at h⟩
theorem SetsM.on {W W' : World} {B : Nat} {v : Value} {acc : List (List Wd)} (h : SetsM W B v acc) (hb : Below W.heap.size W W') : SetsM W' B v acc := by
  obtain ⟨vs, h1, h2, h3, h4⟩ := h
  exact ⟨vs, own_on h1 hb (Nat.le_refl _), h2, fun i hi => by obtain ⟨u, u1, u2, u3⟩ := h3 i hi; exact ⟨u, u1, own_on u2 hb (Nat.le_refl _), u3⟩, h4⟩
theorem SetsM.rows {W : World} {B : Nat} {v : Value} {acc : List (List Wd)} (h : SetsM W B v acc) : RowsR enW 34 W B v acc := by
  obtain ⟨vs, h1, h2, h3, h4⟩ := h
  refine ⟨vs, h1, h2, fun i hi => ?_⟩
  obtain ⟨u, u1, u2, u3⟩ := h3 i hi
  refine ⟨u, u1, u2.at, fun a l c e => ?_⟩
  rcases own_form u2 with ⟨e1, -⟩ | ⟨g, c', e1, e2, -⟩
  · rw [e1] at e; simp at e
  · rw [e1] at e
    simp only [Value.slice.injEq, Option.some.injEq] at e
    rw [← e.1]
    exact ⟨e2, u3 g (by rw [e1]; rfl)⟩
/-- An empty row more. -/
theorem SetsM.more {W W' : World} {B g c : Nat} {v : Value} {acc : List (List Wd)} {vs : List Value} (h2 : vs.length = acc.length)
    (h3 : ∀ i, i < vs.length → ∃ u, vs[i]? = some u ∧ OwnR enW 37 3 W B u (acc[i]?.getD []) ∧ (∀ g, u.ownBlock = some g → v.ownBlock ≠ some g))
    (h4 : ∀ (i j : Nat) (u u' : Value), i ≠ j → vs[i]? = some u → vs[j]? = some u' → ∀ g, u.ownBlock = some g → u'.ownBlock ≠ some g)
    (hown : W'.ownsRow B 34 1 (.slice (some ⟨g, 0, none⟩) (acc.length + 1) c) (acc.length + 1) (vs ++ [.slice none 0 0])) (hg : W.grownBy W' v.ownBlock) (hat : v.ownBlock = some g ∨ W.heap.size ≤ g) :
    SetsM W' B (.slice (some ⟨g, 0, none⟩) (acc.length + 1) c) (acc ++ [[]]) := by
  refine ⟨vs ++ [.slice none 0 0], by rw [List.length_append, List.length_singleton, h2]; exact hown, by simp [h2], fun i hi => ?_, fun i j u u' hij hi hj k hk => ?_⟩
  · rw [List.length_append, List.length_singleton] at hi
    by_cases hlt : i < vs.length
    · obtain ⟨u, u1, u2, u3⟩ := h3 i hlt
      refine ⟨u, by rw [List.getElem?_append_left hlt]; exact u1, ?_, fun k hk => ?_⟩
      · rw [List.getElem?_append_left (by omega)]
        refine own_same u2 fun k hk => hg.block k (own_lt u2 k hk).2 (fun e => u3 k hk e.symm)
      · simp only [Value.ownBlock, ne_eq, Option.some.injEq]
        intro e
        rcases hat with h | h
        · exact u3 k hk (by rw [h, e])
        · have := (own_lt u2 k hk).2
          omega
    · obtain rfl : i = vs.length := by omega
      refine ⟨.slice none 0 0, by simp, ?_, fun k hk => by simp [Value.ownBlock] at hk⟩
      rw [h2, List.getElem?_append_right (Nat.le_refl _), Nat.sub_self]
      exact World.ownsRow_nil _ _ _ _
  · by_cases hi2 : i < vs.length
    · rw [List.getElem?_append_left hi2] at hi
      by_cases hj2 : j < vs.length
      · rw [List.getElem?_append_left hj2] at hj
        exact h4 i j u u' hij hi hj k hk
      · rw [List.getElem?_append_right (by omega)] at hj
        have hj0 : j - vs.length = 0 := by have := (List.getElem?_eq_some_iff.1 hj).1; simpa using this
        rw [hj0] at hj
        simp only [List.getElem?_cons_zero, Option.some.injEq] at hj
        rw [← hj]
        simp [Value.ownBlock]
    · rw [List.getElem?_append_right (by omega)] at hi
      have hi0 : i - vs.length = 0 := by have := (List.getElem?_eq_some_iff.1 hi).1; simpa using this
      rw [hi0] at hi
      simp only [List.getElem?_cons_zero, Option.some.injEq] at hi
      rw [← hi] at hk
      simp [Value.ownBlock] at hk
/-- The last row has a word more: it lies anew, or where it lay; and it is laid into the outer one. -/
theorem SetsM.last {W W' : World} {B G cG g c K : Nat} {u : Value} {x : Wd} {acc : List (List Wd)} {vs : List Value} (hK : acc.length = K + 1) (h1 : W.ownsRow B 34 1 (.slice (some ⟨G, 0, none⟩) (K + 1) cG) (K + 1) vs) (h2 : vs.length = acc.length)
    (h3 : ∀ i, i < vs.length → ∃ u, vs[i]? = some u ∧ OwnR enW 37 3 W B u (acc[i]?.getD []) ∧ (∀ g, u.ownBlock = some g → (Value.slice (some ⟨G, 0, none⟩) (K + 1) cG).ownBlock ≠ some g))
    (h4 : ∀ (i j : Nat) (u u' : Value), i ≠ j → vs[i]? = some u → vs[j]? = some u' → ∀ g, u.ownBlock = some g → u'.ownBlock ≠ some g)
    (hu : vs[K]? = some u) (hown : OwnR enW 37 3 W' B (.slice (some ⟨g, 0, none⟩) ((acc[K]?.getD []).length + 1) c) ((acc[K]?.getD []) ++ [x])) (hg : W.grownBy W' u.ownBlock) (hat : u.ownBlock = some g ∨ W.heap.size ≤ g) :
    SetsM (W'.setCell ⟨G, K, none⟩ (.slice (some ⟨g, 0, none⟩) ((acc[K]?.getD []).length + 1) c)) B (.slice (some ⟨G, 0, none⟩) (K + 1) cG) (addLast acc x) := by
  obtain ⟨y, y1, y2, y3⟩ := h3 K (by omega)
  obtain rfl : u = y := Option.some.inj (hu.symm.trans y1)
  have hG := own_lt h1 G rfl
  have hGg : G ≠ g := by
    intro e
    rcases hat with h | h
    · exact y3 g h (by simp [Value.ownBlock, e])
    · omega
  have hst : W'.ownsRow B 34 1 (.slice (some ⟨G, 0, none⟩) (K + 1) cG) (K + 1) vs := own_same h1 fun k hk => hg.block k (own_lt h1 k hk).2 (fun e => y3 k e.symm hk)
  have ho2 := (World.ownsRow.stored hst K (.slice (some ⟨g, 0, none⟩) ((acc[K]?.getD []).length + 1) c)).1
  have haL : addLast acc x = acc.set K ((acc[K]?.getD []) ++ [x]) := by unfold addLast; rw [hK]; rfl
  rw [haL]
  obtain ⟨L, hL⟩ : ∃ L, acc[K]?.getD [] = L := ⟨_, rfl⟩
  rw [hL] at ho2 hown ⊢
  refine ⟨vs.set K (.slice (some ⟨g, 0, none⟩) (L.length + 1) c), by rw [List.length_set]; rw [show vs.length = K + 1 by omega]; exact ho2, by simp [h2], fun i hi => ?_, fun i j z z' hij hi hj k hk => ?_⟩
  · rw [List.length_set] at hi
    by_cases hiK : i = K
    · subst hiK
      refine ⟨_, by rw [List.getElem?_set_self (by omega)], ?_, fun k hk => ?_⟩
      · rw [List.getElem?_set_self (by omega)]
        exact ownsRow_setCell_other hown (by simp [Value.ownBlock]; omega) _
      · simp only [Value.ownBlock, Option.some.injEq] at hk
        subst hk
        simpa [Value.ownBlock] using hGg
    · obtain ⟨z, z1, z2, z3⟩ := h3 i hi
      refine ⟨z, by rw [List.getElem?_set_ne (fun e => hiK e.symm)]; exact z1, ?_, z3⟩
      rw [List.getElem?_set_ne (fun e => hiK e.symm)]
      refine ownsRow_setCell_other (own_same z2 fun k hk => hg.block k (own_lt z2 k hk).2 (fun e => h4 i K z u hiK z1 hu k hk e.symm)) (fun e => z3 G e rfl) _
  · by_cases hiK : i = K
    · subst hiK
      rw [List.getElem?_set_self (by omega)] at hi
      simp only [Option.some.injEq] at hi
      rw [← hi] at hk
      simp only [Value.ownBlock, Option.some.injEq] at hk
      subst hk
      rw [List.getElem?_set_ne hij] at hj
      intro e
      rcases hat with h | h
      · exact h4 j i z' u (Ne.symm hij) hj hu g e h
      · obtain ⟨b, b1, b2, b3⟩ := h3 j (List.getElem?_eq_some_iff.1 hj).1
        obtain rfl : z' = b := Option.some.inj (hj.symm.trans b1)
        have := (own_lt b2 g e).2
        omega
    · rw [List.getElem?_set_ne (fun e => hiK e.symm)] at hi
      by_cases hjK : j = K
      · subst hjK
        rw [List.getElem?_set_self (by omega)] at hj
        simp only [Option.some.injEq] at hj
        rw [← hj]
        simp only [Value.ownBlock, ne_eq, Option.some.injEq]
        intro e
        subst e
        rcases hat with h | h
        · exact h4 i j z u hij hi hu g hk h
        · obtain ⟨b, b1, b2, b3⟩ := h3 i (List.getElem?_eq_some_iff.1 hi).1
          obtain rfl : z = b := Option.some.inj (hi.symm.trans b1)
          have := (own_lt b2 g hk).2
          omega
      · rw [List.getElem?_set_ne (fun e => hjK e.symm)] at hj
        exact h4 i j z z' hij hi hj k hk
/-- What is known where a word is put to the last row. -/
structure LO (B : Nat) (W : World) (A G K N cG : Nat) (acc : List (List Wd)) (vs : List Value) (pu : Option Addr) (cu : Nat) (L : List Wd) : Prop where
  hK : acc.length = N
  hN : N = K + 1
  v1 : W.ownsRow B 34 1 (.slice (some ⟨G, 0, none⟩) N cG) N vs
  v2 : vs.length = acc.length
  v3 : ∀ i, i < vs.length → ∃ u, vs[i]? = some u ∧ OwnR enW 37 3 W B u (acc[i]?.getD []) ∧ (∀ g, u.ownBlock = some g → (Value.slice (some ⟨G, 0, none⟩) N cG).ownBlock ≠ some g)
  v4 : ∀ (i j : Nat) (u u' : Value), i ≠ j → vs[i]? = some u → vs[j]? = some u' → ∀ g, u.ownBlock = some g → u'.ownBlock ≠ some g
  hu : vs[K]? = some (.slice pu L.length cu)
  lo : W.ownsRow B 37 3 (.slice pu L.length cu) L.length (flat enW L)
  ld : acc[K]?.getD [] = L
  ua : (Value.slice pu L.length cu).ownBlock ≠ some A
  ug : (Value.slice pu L.length cu).ownBlock ≠ some G
  ga : G ≠ A
theorem LO.of_some {B : Nat} {wr W : World} {v : Value} {acc : List (List Wd)} (h : SetsM wr B v acc) (hne : acc ≠ []) (hb : Below wr.heap.size wr W) : ∃ G K N cG vs pu cu L, v = .slice (some ⟨G, 0, none⟩) N cG ∧ LO B W wr.heap.size G K N cG acc vs pu cu L := by
  obtain ⟨vs, h1, h2, h3, h4⟩ := h
  have hl : 0 < acc.length := List.length_pos_iff.2 hne
  obtain ⟨K, hK⟩ : ∃ K, acc.length = K + 1 := ⟨acc.length - 1, by omega⟩
  rw [show vs.length = K + 1 by omega] at h1
  rcases own_form h1 with ⟨-, e2⟩ | ⟨G, cG, e1, -, eG, -⟩
  · omega
  · subst e1
    obtain ⟨u, u1, u2, u3⟩ := h3 K (by omega)
    obtain ⟨pu, cu, rfl, -, -⟩ := u2.at.len
    refine ⟨G, K, K + 1, cG, vs, pu, cu, _, rfl, hK, rfl, own_on h1 hb (Nat.le_refl _), h2, fun i hi => ?_, h4, u1, own_on u2 hb (Nat.le_refl _), rfl, fun e => by have := (own_lt u2 _ e).2; omega, fun e => u3 G e rfl, by omega⟩
    obtain ⟨x, x1, x2, x3⟩ := h3 i hi
    exact ⟨x, x1, own_on x2 hb (Nat.le_refl _), x3⟩
theorem LO.of_more {B : Nat} {wr W Wq : World} {v : Value} {G cG : Nat} {acc : List (List Wd)} {vs : List Value} (h1 : wr.ownsRow B 34 1 v vs.length vs) (h2 : vs.length = acc.length)
    (h3 : ∀ i, i < vs.length → ∃ u, vs[i]? = some u ∧ OwnR enW 37 3 wr B u (acc[i]?.getD []) ∧ (∀ g, u.ownBlock = some g → v.ownBlock ≠ some g))
    (h4 : ∀ (i j : Nat) (u u' : Value), i ≠ j → vs[i]? = some u → vs[j]? = some u' → ∀ g, u.ownBlock = some g → u'.ownBlock ≠ some g) (hb : Below wr.heap.size wr W) (hlt : wr.heap.size < W.heap.size)
    (hown : Wq.ownsRow B 34 1 (.slice (some ⟨G, 0, none⟩) (acc.length + 1) cG) (acc.length + 1) (vs ++ [.slice none 0 0])) (hg : W.grownBy Wq v.ownBlock) (hat : v.ownBlock = some G ∨ W.heap.size ≤ G) :
    LO B Wq wr.heap.size G acc.length (acc.length + 1) cG (acc ++ [[]]) (vs ++ [.slice none 0 0]) none 0 [] := by
  have hM := SetsM.more h2 (fun i hi => by obtain ⟨x, x1, x2, x3⟩ := h3 i hi; exact ⟨x, x1, own_on x2 hb (Nat.le_refl _), x3⟩) h4 hown hg hat
  have hGa : G ≠ wr.heap.size := by
    rcases hat with h | h
    · have := (own_lt h1 G h).2; omega
    · omega
  refine ⟨by simp, rfl, hown, by simp [h2], ?_, ?_, by rw [← h2]; simp, World.ownsRow_nil _ _ _ _, by simp, by simp [Value.ownBlock], by simp [Value.ownBlock], hGa⟩
  · intro i hi
    rw [List.length_append, List.length_singleton] at hi
    by_cases hlt2 : i < vs.length
    · obtain ⟨u, u1, u2, u3⟩ := h3 i hlt2
      have hlw := fun k hk => (own_lt u2 k hk).2
      refine ⟨u, by rw [List.getElem?_append_left hlt2]; exact u1, ?_, fun k hk => ?_⟩
      · rw [List.getElem?_append_left (by omega)]
        exact own_same (own_on u2 hb (Nat.le_refl _)) fun k hk => hg.block k (by have := hlw k hk; omega) (fun e => u3 k hk e.symm)
      · simp only [Value.ownBlock, ne_eq, Option.some.injEq]
        intro e
        rcases hat with h | h
        · exact u3 k hk (by rw [h, e])
        · have := hlw k hk
          omega
    · obtain rfl : i = vs.length := by omega
      refine ⟨.slice none 0 0, by simp, ?_, fun k hk => by simp [Value.ownBlock] at hk⟩
      rw [h2, List.getElem?_append_right (Nat.le_refl _), Nat.sub_self]
      exact World.ownsRow_nil _ _ _ _
  · intro i j u u' hij hi hj k hk
    by_cases hi2 : i < vs.length
    · rw [List.getElem?_append_left hi2] at hi
      by_cases hj2 : j < vs.length
      · rw [List.getElem?_append_left hj2] at hj
        exact h4 i j u u' hij hi hj k hk
      · rw [List.getElem?_append_right (by omega)] at hj
        have hj0 : j - vs.length = 0 := by have := (List.getElem?_eq_some_iff.1 hj).1; simpa using this
        rw [hj0] at hj
        simp only [List.getElem?_cons_zero, Option.some.injEq] at hj
        rw [← hj]
        simp [Value.ownBlock]
    · rw [List.getElem?_append_right (by omega)] at hi
      have hi0 : i - vs.length = 0 := by have := (List.getElem?_eq_some_iff.1 hi).1; simpa using this
      rw [hi0] at hi
      simp only [List.getElem?_cons_zero, Option.some.injEq] at hi
      rw [← hi] at hk
      simp [Value.ownBlock] at hk
theorem addLast_len (acc : List (List Wd)) (x : Wd) (n : Nat) (h : ∀ i : Nat, (acc[i]?.getD []).length ≤ n) : ∀ i : Nat, ((addLast acc x)[i]?.getD []).length ≤ n + 1 := by
  intro i
  unfold addLast
  rw [List.getElem?_set]
  split
  · split
    · have := h (acc.length - 1)
      simp
      omega
    · simp
  · have := h i
    omega
theorem more_len (acc : List (List Wd)) (n : Nat) (h : ∀ i : Nat, (acc[i]?.getD []).length ≤ n) : ∀ i : Nat, ((acc ++ [[]])[i]?.getD []).length ≤ n := by
  intro i
  by_cases hi : i < acc.length
  · rw [List.getElem?_append_left hi]; exact h i
  · rw [List.getElem?_append_right (by omega)]
    cases i - acc.length with
    | zero => simp
    | succ n => simp
end Go.Proofs.Ythoohbmpbahkgaa
