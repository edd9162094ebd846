/- Bracketed rows, plainly: read as they are; wrong with a bracket more. -/
import Derived.Test.YthoohbmpbahkgaaWrdName2
namespace Go.Proofs.Ythoohbmpbahkgaa
open Go.RowKit

def wdT (t : ByteArray) : Wd := ⟨0, 0, t⟩
def wO : Wd := wdT ⟨#[91]⟩
def wC : Wd := wdT ⟨#[93]⟩
theorem isO_wO : isO wO = true := by unfold isO wO wdT; rw [ByteArray.toList_eq]; rfl
theorem isO_wC : isO wC = false := by unfold isO wC wdT; rw [ByteArray.toList_eq]; rfl
theorem isC_wC : isC wC = true := by unfold isC wC wdT; rw [ByteArray.toList_eq]; rfl
theorem isC_wO : isC wO = false := by unfold isC wO wdT; rw [ByteArray.toList_eq]; rfl
/-- A row as it is written. -/
def rowW (br : Bool) (ts : List Wd) : List Wd := if br then wO :: (ts ++ [wC]) else ts
/-- Words that are no brackets. -/
def NoBr (ts : List Wd) : Prop := ∀ x ∈ ts, isO x = false ∧ isC x = false
theorem setsK_cons (op : Bool) (acc : List (List Wd)) (x : Wd) (xs : List Wd) : setsK op acc (x :: xs) = if isO x then (if op then none else setsK true (acc ++ [[]]) xs) else if isC x then (if op then setsK false acc xs else none) else setsK op (addLast (if op then acc else acc ++ [[]]) x) xs := rfl
theorem addLast_snoc (A : List (List Wd)) (l : List Wd) (x : Wd) : addLast (A ++ [l]) x = A ++ [l ++ [x]] := by
  unfold addLast
  simp
theorem setsK_in (A : List (List Wd)) (l ts rest : List Wd) (h : NoBr ts) : setsK true (A ++ [l]) (ts ++ rest) = setsK true (A ++ [l ++ ts]) rest := by
  induction ts generalizing l with
  | nil => simp
  | cons x xs ih =>
    obtain ⟨h1, h2⟩ := h x (by simp)
    rw [List.cons_append, setsK_cons, h1, h2]
    simp only [Bool.false_eq_true, if_false, if_true]
    rw [addLast_snoc, ih (l ++ [x]) (fun y hy => h y (by simp [hy]))]
    simp
theorem setsK_row (acc : List (List Wd)) (br : Bool) (ts rest : List Wd) (h : NoBr ts) (hb : br = true ∨ ts.length = 1) : setsK false acc (rowW br ts ++ rest) = setsK false (acc ++ [ts]) rest := by
  cases br with
  | true =>
    unfold rowW
    rw [if_pos rfl, List.cons_append, setsK_cons, isO_wO, if_pos rfl, List.append_assoc]
    simp only [Bool.false_eq_true, if_false]
    rw [setsK_in acc [] ts _ h, List.nil_append, List.singleton_append, setsK_cons, isO_wC, isC_wC]
    simp
  | false =>
    have h1 : ts.length = 1 := by simpa using hb
    obtain ⟨x, rfl⟩ := List.length_eq_one_iff.1 h1
    obtain ⟨e1, e2⟩ := h x (by simp)
    unfold rowW
    simp only [Bool.false_eq_true, if_false]
    rw [List.singleton_append, setsK_cons, e1, e2]
    simp only [Bool.false_eq_true, if_false]
    rw [addLast_snoc, List.nil_append]
/-- Rows written one behind the other. -/
def allW (rs : List (Bool × List Wd)) : List Wd := rs.flatMap fun r => rowW r.1 r.2
theorem allW_snoc (rs : List (Bool × List Wd)) (r : Bool × List Wd) : allW (rs ++ [r]) = allW rs ++ rowW r.1 r.2 := by simp [allW]
theorem setsP_all (rs : List (Bool × List Wd)) (h : ∀ r ∈ rs, NoBr r.2 ∧ (r.1 = true ∨ r.2.length = 1)) : setsP (allW rs) = some (rs.map (·.2)) := by
  have key : ∀ (rs : List (Bool × List Wd)) acc, (∀ r ∈ rs, NoBr r.2 ∧ (r.1 = true ∨ r.2.length = 1)) → setsK false acc (allW rs) = some (acc ++ rs.map (·.2)) := by
    intro rs
    induction rs with
    | nil => intro acc _; simp [allW, setsK]
    | cons r rs ih =>
      intro acc h
      obtain ⟨h1, h2⟩ := h r (by simp)
      rw [show allW (r :: rs) = rowW r.1 r.2 ++ allW rs from rfl, setsK_row acc r.1 r.2 _ h1 h2, ih _ (fun x hx => h x (by simp [hx]))]
      simp
  have := key rs [] h
  rwa [List.nil_append] at this
/-- How many open, how many shut. -/
def cO (ws : List Wd) : Nat := (ws.filter isO).length
def cC (ws : List Wd) : Nat := (ws.filter isC).length
theorem cO_app (a b : List Wd) : cO (a ++ b) = cO a + cO b := by simp [cO]
theorem cC_app (a b : List Wd) : cC (a ++ b) = cC a + cC b := by simp [cC]
theorem isO_not (x : Wd) (h : isO x = true) : isC x = false := by
  unfold isO at h
  unfold isC
  rw [eq_of_beq h]
  rfl
theorem setsK_count (ws : List Wd) (op : Bool) (acc r : List (List Wd)) (h : setsK op acc ws = some r) : cO ws + (if op then 1 else 0) = cC ws := by
  induction ws generalizing op acc with
  | nil => cases op <;> simp [setsK, cO, cC] at h ⊢
  | cons x xs ih =>
    rw [setsK_cons] at h
    have e1 : cO (x :: xs) = (if isO x then 1 else 0) + cO xs := by unfold cO; rw [List.filter_cons]; split <;> simp [Nat.add_comm]
    have e2 : cC (x :: xs) = (if isC x then 1 else 0) + cC xs := by unfold cC; rw [List.filter_cons]; split <;> simp [Nat.add_comm]
    rw [e1, e2]
    cases ho : isO x with
    | true =>
      rw [isO_not x ho]
      rw [ho, if_pos rfl] at h
      cases op with
      | true => simp at h
      | false =>
        simp only [Bool.false_eq_true, if_false] at h
        have := ih true _ h
        simp at this ⊢
        omega
    | false =>
      rw [ho] at h
      simp only [Bool.false_eq_true, if_false] at h
      cases hc : isC x with
      | true =>
        rw [hc, if_pos rfl] at h
        cases op with
        | true =>
          simp only [if_true] at h
          have := ih false _ h
          simp at this ⊢
          omega
        | false => simp at h
      | false =>
        rw [hc] at h
        simp only [Bool.false_eq_true, if_false] at h
        have := ih op _ h
        simp at this ⊢
        omega
theorem count_noBr (ts : List Wd) (h : NoBr ts) : cO ts = 0 ∧ cC ts = 0 := by
  unfold cO cC
  constructor
  · rw [List.length_eq_zero_iff, List.filter_eq_nil_iff]
    intro x hx
    rw [(h x hx).1]; decide
  · rw [List.length_eq_zero_iff, List.filter_eq_nil_iff]
    intro x hx
    rw [(h x hx).2]; decide
theorem count_all (rs : List (Bool × List Wd)) (h : ∀ r ∈ rs, NoBr r.2 ∧ (r.1 = true ∨ r.2.length = 1)) : cO (allW rs) = cC (allW rs) := by
  have := setsK_count (allW rs) false [] _ (setsP_all rs h)
  simpa using this
/-- With a bracket more they are wrong. -/
theorem setsP_odd (ws : List Wd) (at' : Nat) (x : Wd) (h : cO ws = cC ws) (hx : x = wO ∨ x = wC) : setsP (ws.take at' ++ [x] ++ ws.drop at') = none := by
  cases hr : setsP (ws.take at' ++ [x] ++ ws.drop at') with
  | none => rfl
  | some r =>
    exfalso
    have hc := setsK_count _ false [] r hr
    rw [cO_app, cO_app, cC_app, cC_app] at hc
    have h1 := cO_app (ws.take at') (ws.drop at')
    have h2 := cC_app (ws.take at') (ws.drop at')
    rw [List.take_append_drop] at h1 h2
    rcases hx with rfl | rfl
    · have e1 : cO [wO] = 1 := by unfold cO; rw [List.filter_cons, isO_wO]; rfl
      have e2 : cC [wO] = 0 := by unfold cC; rw [List.filter_cons, isC_wO]; rfl
      simp only [Bool.false_eq_true, if_false] at hc
      omega
    · have e1 : cO [wC] = 0 := by unfold cO; rw [List.filter_cons, isO_wC]; rfl
      have e2 : cC [wC] = 1 := by unfold cC; rw [List.filter_cons, isC_wC]; rfl
      simp only [Bool.false_eq_true, if_false] at hc
      omega
end Go.Proofs.Ythoohbmpbahkgaa
