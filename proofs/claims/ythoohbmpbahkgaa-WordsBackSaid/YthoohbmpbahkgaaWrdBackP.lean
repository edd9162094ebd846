/- Words written with blanks between: what the loop keeps. -/
import Derived.Test.YthoohbmpbahkgaaWrdTame
import Derived.Test.YthoohbmpbahkgaaWrdTexts
import Derived.Test.YthoohbmpbahkgaaWrdSetsW
namespace Go.Proofs.Ythoohbmpbahkgaa
open Go.RowKit

theorem LW_app (n : Nat) (cur l rest : List UInt8) (h : ∀ b ∈ l, b.toNat ≠ 10) : LW n cur (l ++ rest) = LW n (cur ++ l) rest := by
  induction l generalizing cur with
  | nil => simp
  | cons b bs ih =>
    rw [List.cons_append, LW_cons, if_neg (h b (by simp)), ih (cur ++ [b]) (fun x hx => h x (by simp [hx]))]
    simp
theorem okC_not {b : UInt8} (h : okC b.toNat = true) : b.toNat ≠ 10 ∧ b.toNat ≠ 35 ∧ blU b = false := by
  simp only [okC, Bool.and_eq_true, Bool.not_eq_true', beq_eq_false_iff_ne] at h
  obtain ⟨⟨⟨h1, h2⟩, h3⟩, h4⟩ := h
  refine ⟨h3, h4, ?_⟩
  unfold blU blB
  simp [h1, h2]
theorem tk_clean (n : Int) (p : Nat) (cur t : List UInt8) (h : ∀ b ∈ t, okC b.toNat = true) : tkW n p cur t = flushW n (p + t.length) (cur ++ t) := by
  induction t generalizing p cur with
  | nil => simp [tkW]
  | cons b bs ih =>
    obtain ⟨h1, h2, h3⟩ := okC_not (h b (by simp))
    rw [tkW_cons, if_neg h2, if_neg (by rw [h3]; decide), ih (p + 1) (cur ++ [b]) (fun x hx => h x (by simp [hx]))]
    rw [List.length_cons, List.append_assoc, List.singleton_append, show p + 1 + bs.length = p + (bs.length + 1) by omega]
theorem tk_bl (n : Int) (p k : Nat) (t : List UInt8) (h : ∀ b ∈ t, okC b.toNat = true) (hne : t ≠ []) : tkW n p [] (List.replicate k (u8 32) ++ t) = [⟨n, ((p + k : Nat) : Int), mkB t⟩] := by
  induction k generalizing p with
  | zero =>
    rw [List.replicate_zero, List.nil_append, tk_clean n p [] t h, List.nil_append]
    unfold flushW
    rw [if_neg hne, Nat.add_sub_cancel, Nat.add_zero]
  | succ k ih =>
    rw [List.replicate_succ, List.cons_append, tkW_cons, if_neg (by decide), if_pos (by decide), ih (p + 1), show p + 1 + k = p + (k + 1) by omega]
    rfl
theorem tk_word (n : Int) (p k : Nat) (cur C t : List UInt8) (hC : ∀ b ∈ C, b.toNat ≠ 35) (h : ∀ b ∈ t, okC b.toNat = true) (hne : t ≠ []) :
    tkW n p cur (C ++ (List.replicate (k + 1) (u8 32) ++ t)) = tkW n p cur C ++ [⟨n, ((p + C.length + (k + 1) : Nat) : Int), mkB t⟩] := by
  induction C generalizing p cur with
  | nil =>
    rw [List.nil_append, List.replicate_succ, List.cons_append, tkW_cons, if_neg (by decide), if_pos (by decide), tk_bl n (p + 1) k t h hne, List.length_nil, show p + 1 + k = p + 0 + (k + 1) by omega]
    rfl
  | cons b bs ih =>
    have hb := hC b (by simp)
    rw [List.cons_append, tkW_cons, tkW_cons, if_neg hb, if_neg hb, List.length_cons]
    split
    · rw [ih (p + 1) [] (fun x hx => hC x (by simp [hx])), List.append_assoc, show p + 1 + bs.length + (k + 1) = p + (bs.length + 1) + (k + 1) by omega]
    · rw [ih (p + 1) (cur ++ [b]) (fun x hx => hC x (by simp [hx])), show p + 1 + bs.length + (k + 1) = p + (bs.length + 1) + (k + 1) by omega]
/-- What is written, the rows so far, the row that is under way, its line, where that begins. -/
def Bk (s : ByteArray) (want : List (List Wd)) (row : List Wd) (line fr : Nat) : Prop :=
  ∃ C : List UInt8, (∀ rest, LW 1 [] (bl s ++ rest) = want ++ LW line C rest) ∧ fr + C.length = s.size ∧ tkW line 0 [] C = row ∧ ∀ b ∈ C, b.toNat ≠ 35
theorem Bk.start : Bk ⟨#[]⟩ [] [] 1 0 := ⟨[], fun rest => rfl, rfl, rfl, fun b hb => by cases hb⟩
theorem Bk.le {s : ByteArray} {want : List (List Wd)} {row : List Wd} {line fr : Nat} (h : Bk s want row line fr) : fr ≤ s.size := by
  obtain ⟨C, -, h, -⟩ := h
  omega
def blanks8 : ByteArray := ⟨#[32, 32, 32, 32, 32, 32, 32, 32]⟩
theorem bl_blanks8 (k : Nat) (h : k ≤ 8) : bl (blanks8.extract 0 k) = List.replicate k (u8 32) ∧ (blanks8.extract 0 k).size = k := by
  have : k = 0 ∨ k = 1 ∨ k = 2 ∨ k = 3 ∨ k = 4 ∨ k = 5 ∨ k = 6 ∨ k = 7 ∨ k = 8 := by omega
  rcases this with rfl | rfl | rfl | rfl | rfl | rfl | rfl | rfl | rfl <;> exact ⟨rfl, rfl⟩
theorem Bk.word {s t : ByteArray} {want : List (List Wd)} {row : List Wd} {line fr m : Nat} (h : Bk s want row line fr) (hm : 1 ≤ m ∧ m ≤ 8) (ht : Clean t) (h1 : 1 ≤ t.size) :
    Bk (s ++ blanks8.extract 0 m ++ t) want (row ++ [⟨line, ((s ++ blanks8.extract 0 m).size : Int) - fr, t⟩]) line fr := by
  obtain ⟨C, c1, c2, c3, c4⟩ := h
  obtain ⟨b1, b2⟩ := bl_blanks8 m hm.2
  have hbl : bl (s ++ blanks8.extract 0 m ++ t) = bl s ++ (List.replicate m (u8 32) ++ bl t) := by rw [bl_app, bl_app, b1, List.append_assoc]
  have hne : bl t ≠ [] := fun e => by have := bl_len t; rw [e] at this; simp at this; omega
  obtain ⟨k, rfl⟩ : ∃ k, m = k + 1 := ⟨m - 1, by omega⟩
  refine ⟨C ++ (List.replicate (k + 1) (u8 32) ++ bl t), fun rest => ?_, ?_, ?_, ?_⟩
  · rw [hbl, List.append_assoc, c1, LW_app]
    intro b hb
    rcases List.mem_append.1 hb with hb | hb
    · rw [List.eq_of_mem_replicate hb]; decide
    · exact (okC_not (ht b hb)).1
  · rw [List.length_append, List.length_append, List.length_replicate, bl_len, ByteArray.size_append, ByteArray.size_append, b2]
    omega
  · rw [tk_word line 0 k [] C (bl t) c4 ht hne, c3, mk_bl, ByteArray.size_append, b2]
    congr 4
    omega
  · intro b hb
    rcases List.mem_append.1 hb with hb | hb
    · exact c4 b hb
    · rcases List.mem_append.1 hb with hb | hb
      · rw [List.eq_of_mem_replicate hb]; decide
      · exact (okC_not (ht b hb)).2.1
theorem Bk.line {s : ByteArray} {want : List (List Wd)} {row : List Wd} {line fr : Nat} (h : Bk s want row line fr) (hr : row ≠ []) : Bk (s ++ ⟨#[10]⟩) (want ++ [row]) [] (line + 1) (s ++ ⟨#[10]⟩).size := by
  obtain ⟨C, c1, c2, c3, c4⟩ := h
  refine ⟨[], fun rest => ?_, rfl, rfl, fun b hb => by cases hb⟩
  rw [bl_app, show bl ⟨#[10]⟩ = [u8 10] from rfl, List.append_assoc, c1, List.singleton_append, LW_cons, if_pos (by decide), c3]
  unfold emit
  rw [if_neg (fun e => hr (List.length_eq_zero_iff.1 e)), List.append_assoc]
theorem Bk.done {s : ByteArray} {want : List (List Wd)} {row : List Wd} {line fr : Nat} (h : Bk s want row line fr) : linesP s = want ++ emit row := by
  obtain ⟨C, c1, -, c3, -⟩ := h
  rw [linesP_LW]
  have := c1 []
  rw [List.append_nil] at this
  rw [this, show LW line C [] = emit (tkW line 0 [] C) from rfl, c3]

/-- The rows so far lie apart from the one under way. -/
def WantR (W : World) (B : Nat) (v r : Value) (rs : List (List Wd)) : Prop :=
  ∃ vs : List Value, W.ownsRow B 34 1 v vs.length vs ∧ vs.length = rs.length ∧ ∀ i, i < vs.length → ∃ u, vs[i]? = some u ∧ RowAt enW W u (rs[i]?.getD []) ∧ ∀ a l c, u = .slice (some a) l c → B ≤ a.block ∧ v.ownBlock ≠ some a.block ∧ r.ownBlock ≠ some a.block
theorem WantR.rows {W : World} {B : Nat} {v r : Value} {rs : List (List Wd)} (h : WantR W B v r rs) : RowsR enW 34 W B v rs := by
  obtain ⟨vs, h1, h2, h3⟩ := h
  exact ⟨vs, h1, h2, fun i hi => by obtain ⟨u, u1, u2, u3⟩ := h3 i hi; exact ⟨u, u1, u2, fun a l c e => ⟨(u3 a l c e).1, (u3 a l c e).2.1⟩⟩⟩
theorem WantR.of {W W' : World} {B : Nat} {v r : Value} {rs : List (List Wd)} (h : RowsR enW 34 W B v rs) (hb : Below W.heap.size W W') (hr : ∀ g, r.ownBlock = some g → W.heap.size ≤ g) : WantR W' B v r rs := by
  obtain ⟨vs, h1, h2, h3⟩ := h
  refine ⟨vs, own_on h1 hb (Nat.le_refl _), h2, fun i hi => ?_⟩
  obtain ⟨u, u1, u2, u3⟩ := h3 i hi
  exact ⟨u, u1, u2.on hb, fun a l c e => ⟨(u3 a l c e).1, (u3 a l c e).2, fun e2 => by have := hr _ e2; have := u2.lt a l c e; omega⟩⟩
theorem WantR.on {W W' : World} {B : Nat} {v r : Value} {rs : List (List Wd)} (h : WantR W B v r rs) (hb : Below W.heap.size W W') : WantR W' B v r rs := by
  obtain ⟨vs, h1, h2, h3⟩ := h
  refine ⟨vs, own_on h1 hb (Nat.le_refl _), h2, fun i hi => ?_⟩
  obtain ⟨u, u1, u2, u3⟩ := h3 i hi
  exact ⟨u, u1, u2.on hb, u3⟩
/-- The row under way has grown. -/
theorem WantR.grown {W W' : World} {B g : Nat} {v r r' : Value} {rs : List (List Wd)} (h : WantR W B v r rs) (hg : W.grownBy W' r.ownBlock) (hne : ∀ x, v.ownBlock = some x → r.ownBlock ≠ some x) (hr : r'.ownBlock = some g) (hat : r.ownBlock = some g ∨ W.heap.size ≤ g) : WantR W' B v r' rs ∧ ∀ x, v.ownBlock = some x → r'.ownBlock ≠ some x := by
  obtain ⟨vs, h1, h2, h3⟩ := h
  refine ⟨⟨vs, own_same h1 fun x hx => hg.block x (own_lt h1 x hx).2 (fun e => hne x hx e.symm), h2, fun i hi => ?_⟩, fun x hx e => ?_⟩
  · obtain ⟨u, u1, u2, u3⟩ := h3 i hi
    refine ⟨u, u1, u2.grown hg (fun a l c e => (u3 a l c e).2.2), fun a l c e => ⟨(u3 a l c e).1, (u3 a l c e).2.1, fun e2 => ?_⟩⟩
    rw [hr] at e2
    simp only [Option.some.injEq] at e2
    rcases hat with h | h
    · exact (u3 a l c e).2.2 (by rw [h, e2])
    · have := u2.lt a l c e; omega
  · rw [hr] at e
    simp only [Option.some.injEq] at e
    rcases hat with h | h
    · exact hne x hx (by rw [h, e])
    · have := (own_lt h1 x hx).2; omega
end Go.Proofs.Ythoohbmpbahkgaa
