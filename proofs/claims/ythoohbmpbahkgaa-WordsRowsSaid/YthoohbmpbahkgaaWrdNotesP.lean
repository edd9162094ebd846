/- What comments, blanks, empty lines change of a source's texts, plainly. -/
import Derived.Test.YthoohbmpbahkgaaWrdLW
namespace Go.Proofs.Ythoohbmpbahkgaa
open Go.RowKit

def tx (ws : List Wd) : List ByteArray := ws.map (·.text)
theorem tx_app (a b : List Wd) : tx (a ++ b) = tx a ++ tx b := List.map_append
theorem tx_flush (n n' : Int) (p p' : Nat) (cur : List UInt8) : tx (flushW n p cur) = tx (flushW n' p' cur) := by
  unfold flushW
  split <;> rfl
theorem tx_tk (n n' : Int) (p p' : Nat) (cur l : List UInt8) : tx (tkW n p cur l) = tx (tkW n' p' cur l) := by
  induction l generalizing p p' cur with
  | nil => exact tx_flush _ _ _ _ _
  | cons b bs ih =>
    rw [tkW_cons, tkW_cons]
    split
    · exact tx_flush _ _ _ _ _
    · split
      · rw [tx_app, tx_app, tx_flush n n' p p' cur, ih (p + 1) (p' + 1) []]
      · exact ih _ _ _
def eX (x : List ByteArray) : List (List ByteArray) := if x.length = 0 then [] else [x]
theorem map_emit (ws : List Wd) : (emit ws).map tx = eX (tx ws) := by
  unfold emit eX tx
  rw [List.length_map]
  split <;> rfl
/-- The rows' texts. -/
def LX (n : Nat) (cur l : List UInt8) : List (List ByteArray) := (LW n cur l).map tx
theorem LX_nil (n : Nat) (cur : List UInt8) : LX n cur [] = eX (tx (tkW n 0 [] cur)) := map_emit _
theorem LX_cons (n : Nat) (cur : List UInt8) (b : UInt8) (bs : List UInt8) : LX n cur (b :: bs) = if b.toNat = 10 then eX (tx (tkW n 0 [] cur)) ++ LX (n + 1) [] bs else LX n (cur ++ [b]) bs := by
  unfold LX
  rw [LW_cons]
  split
  · rw [List.map_append, map_emit]
  · rfl
theorem LX_num (n n' : Nat) (cur l : List UInt8) : LX n cur l = LX n' cur l := by
  induction l generalizing n n' cur with
  | nil => rw [LX_nil, LX_nil, tx_tk n n' 0 0]
  | cons b bs ih =>
    rw [LX_cons, LX_cons, tx_tk n n' 0 0, ih (n + 1) (n' + 1) [], ih n n' (cur ++ [b])]
theorem LX_app (n : Nat) (cur l rest : List UInt8) (h : ∀ b ∈ l, b.toNat ≠ 10) : LX n cur (l ++ rest) = LX n (cur ++ l) rest := by
  induction l generalizing cur with
  | nil => simp
  | cons b bs ih =>
    rw [List.cons_append, LX_cons, if_neg (h b (by simp)), ih (cur ++ [b]) (fun x hx => h x (by simp [hx]))]
    simp
/-- A whole line. -/
theorem LX_line (l rest : List UInt8) (b : UInt8) (hb : b.toNat = 10) (h : ∀ b ∈ l, b.toNat ≠ 10) : LX 1 [] (l ++ b :: rest) = eX (tx (tkW 1 0 [] l)) ++ LX 1 [] rest := by
  rw [LX_app 1 [] l (b :: rest) h, List.nil_append, LX_cons, if_pos hb, LX_num 2 1]
  rfl
theorem LX_last (l : List UInt8) (h : ∀ b ∈ l, b.toNat ≠ 10) : LX 1 [] l = eX (tx (tkW 1 0 [] l)) := by
  have := LX_app 1 [] l [] h
  rw [List.append_nil] at this
  rw [this, List.nil_append, LX_nil]
  rfl
theorem tx_blanks (p k : Nat) (l : List UInt8) (b : UInt8) (hb : b.toNat = 32) : tx (tkW 1 p [] (List.replicate k b ++ l)) = tx (tkW 1 0 [] l) := by
  induction k generalizing p with
  | zero => exact tx_tk _ _ _ _ _ _
  | succ k ih =>
    rw [List.replicate_succ, List.cons_append, tkW_cons, if_neg (by omega), if_pos (by unfold blU blB; rw [hb]; rfl)]
    show tx (flushW 1 p [] ++ _) = _
    rw [show flushW 1 p [] = [] from rfl, List.nil_append]
    exact ih (p + 1)
theorem tk_comment (n : Int) (p : Nat) (cur l c : List UInt8) (b1 b2 b3 : UInt8) (h1 : b1.toNat = 32) (h2 : b2.toNat = 9) (h3 : b3.toNat = 35) : tkW n p cur (l ++ b1 :: b2 :: b3 :: c) = tkW n p cur l := by
  induction l generalizing p cur with
  | nil =>
    rw [List.nil_append, tkW_cons, if_neg (by omega), if_pos (by unfold blU blB; rw [h1]; rfl), tkW_cons, if_neg (by omega), if_pos (by unfold blU blB; rw [h2]; rfl), tkW_cons, if_pos h3]
    show flushW n p cur ++ ([] ++ []) = flushW n p cur
    simp
  | cons b bs ih =>
    rw [List.cons_append, tkW_cons, tkW_cons]
    split
    · rfl
    · split
      · rw [ih (p + 1) []]
      · rw [ih (p + 1) (cur ++ [b])]
def u8 (n : Nat) : UInt8 := UInt8.ofNat n
/-- A line with blanks ahead says the same. -/
theorem LX_plain (k : Nat) (l rest : List UInt8) (h : ∀ b ∈ l, b.toNat ≠ 10) : LX 1 [] (List.replicate k (u8 32) ++ l ++ [u8 10] ++ rest) = eX (tx (tkW 1 0 [] l)) ++ LX 1 [] rest := by
  have hb : ∀ b ∈ List.replicate k (u8 32) ++ l, b.toNat ≠ 10 := fun b hb => by
    rcases List.mem_append.1 hb with hb | hb
    · rw [List.eq_of_mem_replicate hb]; decide
    · exact h b hb
  rw [List.append_assoc (List.replicate k (u8 32) ++ l), List.singleton_append, LX_line _ rest (u8 10) (by decide) hb, tx_blanks 0 k l (u8 32) (by decide)]
/-- .. with a comment behind it, and lines without words. -/
theorem LX_note (k : Nat) (l c rest : List UInt8) (h : ∀ b ∈ l, b.toNat ≠ 10) (hc : ∀ b ∈ c, b.toNat ≠ 10) :
    LX 1 [] (List.replicate k (u8 32) ++ l ++ ([u8 32, u8 9, u8 35] ++ c ++ [u8 10, u8 10, u8 32, u8 32, u8 35]) ++ [u8 10] ++ rest) = eX (tx (tkW 1 0 [] l)) ++ LX 1 [] rest := by
  have hb : ∀ b ∈ List.replicate k (u8 32) ++ (l ++ u8 32 :: u8 9 :: u8 35 :: c), b.toNat ≠ 10 := fun b hb => by
    rcases List.mem_append.1 hb with hb | hb
    · rw [List.eq_of_mem_replicate hb]; decide
    · rcases List.mem_append.1 hb with hb | hb
      · exact h b hb
      · simp only [List.mem_cons] at hb
        rcases hb with rfl | rfl | rfl | hb
        · decide
        · decide
        · decide
        · exact hc b hb
  have e : List.replicate k (u8 32) ++ l ++ ([u8 32, u8 9, u8 35] ++ c ++ [u8 10, u8 10, u8 32, u8 32, u8 35]) ++ [u8 10] ++ rest = (List.replicate k (u8 32) ++ (l ++ u8 32 :: u8 9 :: u8 35 :: c)) ++ u8 10 :: ([] ++ u8 10 :: ([u8 32, u8 32, u8 35] ++ u8 10 :: rest)) := by simp
  rw [e, LX_line _ _ (u8 10) (by decide) hb, LX_line [] _ (u8 10) (by decide) (by simp), LX_line [u8 32, u8 32, u8 35] _ (u8 10) (by decide) (by intro b hb; simp at hb; rcases hb with rfl | rfl <;> decide),
    tx_blanks 0 k _ (u8 32) (by decide), tk_comment 1 0 [] l c (u8 32) (u8 9) (u8 35) (by decide) (by decide) (by decide)]
  have e1 : eX (tx (tkW 1 0 [] [])) = [] := rfl
  have e2 : eX (tx (tkW 1 0 [] [u8 32, u8 32, u8 35])) = [] := by decide
  rw [e1, e2]
  simp
/-- Rows with the same texts. -/
theorem same_tx {A B : List (List Wd)} (h : A.map tx = B.map tx) : B.length = A.length ∧ ∀ i : Nat, (B[i]?.getD []).length = (A[i]?.getD []).length ∧ ∀ k : Nat, ((B[i]?.getD [])[k]?.getD default).text = ((A[i]?.getD [])[k]?.getD default).text := by
  refine ⟨by have := congrArg List.length h; simpa using this.symm, fun i => ?_⟩
  have hi : tx (A[i]?.getD []) = tx (B[i]?.getD []) := by
    have := congrArg (fun l => l[i]?) h
    simp only [List.getElem?_map] at this
    cases ea : A[i]? <;> cases eb : B[i]? <;> rw [ea, eb] at this <;> simp at this
    exact this
  refine ⟨by have := congrArg List.length hi; simpa [tx] using this.symm, fun k => ?_⟩
  have := congrArg (fun l => l[k]?) hi
  simp only [tx, List.getElem?_map] at this
  cases ea : (A[i]?.getD [])[k]? <;> cases eb : (B[i]?.getD [])[k]? <;> rw [ea, eb] at this <;> simp at this
  exact this.symm
end Go.Proofs.Ythoohbmpbahkgaa
