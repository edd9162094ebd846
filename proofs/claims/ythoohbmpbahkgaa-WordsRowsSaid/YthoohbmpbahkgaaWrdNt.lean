/- The loops of the law on comments: what they keep. -/
import Derived.Test.YthoohbmpbahkgaaWrdNotesP
import Derived.Test.YthoohbmpbahkgaaWrdStr
namespace Go.Proofs.Ythoohbmpbahkgaa
open Go.RowKit

/-- Without line ends. -/
def NoNl (c : ByteArray) : Prop := ∀ b ∈ bl c, b.toNat ≠ 10
theorem NoNl.nil : NoNl ⟨#[]⟩ := fun b hb => by cases hb
theorem bl_one (s : ByteArray) (i : Nat) (h : i < s.size) : ∃ b : UInt8, bl (s.extract i (i + 1)) = [b] ∧ b.toNat = bt s i := by
  obtain ⟨b, h1, h2⟩ := drop_bt s i h
  refine ⟨b, ?_, h2⟩
  rw [bl_ext, h1, show i + 1 - i = 1 by omega]
  rfl
theorem NoNl.more {c s : ByteArray} {i : Nat} (hc : NoNl c) (h : i < s.size) (h10 : bt s i ≠ 10) : NoNl (c ++ s.extract i (i + 1)) := by
  obtain ⟨b, h1, h2⟩ := bl_one s i h
  intro x hx
  rw [bl_app, h1] at hx
  rcases List.mem_append.1 hx with hx | hx
  · exact hc x hx
  · simp at hx; subst hx; omega
/-- What the second loop keeps: the source, what is written, where the line begins, where the loop stands. -/
def Nt (w o : ByteArray) (fr i : Nat) : Prop :=
  (fr ≤ i ∧ i ≤ w.size ∧ (∀ b ∈ ((bl w).drop fr).take (i - fr), b.toNat ≠ 10) ∧ ∃ R, (∀ rest, LX 1 [] ((bl w).take fr ++ rest) = R ++ LX 1 [] rest) ∧ ∀ rest, LX 1 [] (bl o ++ rest) = R ++ LX 1 [] rest)
  ∨ (i = w.size + 1 ∧ LX 1 [] (bl o) = LX 1 [] (bl w))
theorem Nt.start (w : ByteArray) : Nt w ⟨#[]⟩ 0 0 := .inl ⟨Nat.le_refl _, Nat.zero_le _, by simp, [], by simp, fun rest => rfl⟩
theorem drop_take_more (w : ByteArray) (fr i : Nat) (h1 : fr ≤ i) (h2 : i < w.size) : ∃ b : UInt8, ((bl w).drop fr).take (i + 1 - fr) = ((bl w).drop fr).take (i - fr) ++ [b] ∧ b.toNat = bt w i ∧ (bl w).drop i = b :: (bl w).drop (i + 1) := by
  obtain ⟨b, hb1, hb2⟩ := drop_bt w i h2
  refine ⟨b, ?_, hb2, hb1⟩
  rw [show i + 1 - fr = (i - fr) + 1 by omega, List.take_add_one]
  congr 1
  rw [List.getElem?_drop, show fr + (i - fr) = i by omega]
  have h0 : ((bl w).drop i)[0]? = some b := by rw [hb1]; rfl
  rw [List.getElem?_drop, Nat.add_zero] at h0
  rw [h0]
  rfl
theorem Nt.skip {w o : ByteArray} {fr i : Nat} (h : Nt w o fr i) (hi : i < w.size) (h10 : bt w i ≠ 10) : Nt w o fr (i + 1) := by
  rcases h with ⟨h1, h2, h3, R, h4, h5⟩ | ⟨h1, -⟩
  · refine .inl ⟨by omega, by omega, ?_, R, h4, h5⟩
    obtain ⟨b, e1, e2, -⟩ := drop_take_more w fr i h1 hi
    rw [e1]
    intro x hx
    rcases List.mem_append.1 hx with hx | hx
    · exact h3 x hx
    · simp at hx; subst hx; omega
  · omega
theorem take_split (w : ByteArray) (fr i : Nat) (h : fr ≤ i) : (bl w).take i = (bl w).take fr ++ ((bl w).drop fr).take (i - fr) := by
  have := List.take_append_drop fr ((bl w).take i)
  rw [List.take_take, Nat.min_eq_left h] at this
  rw [← List.drop_take]
  exact this.symm
/-- What a line adds. -/
def Adds (w : ByteArray) (fr i : Nat) (a : List UInt8) : Prop := ∀ rest, LX 1 [] (a ++ rest) = eX (tx (tkW 1 0 [] (bl (w.extract fr i)))) ++ LX 1 [] rest
theorem Nt.line {w o o' : ByteArray} {fr i : Nat} {a : List UInt8} (h : Nt w o fr i) (hi : i < w.size) (h10 : bt w i = 10) (ho : bl o' = bl o ++ a) (ha : Adds w fr i a) : Nt w o' (i + 1) (i + 1) := by
  rcases h with ⟨h1, h2, h3, R, h4, h5⟩ | ⟨h1, -⟩
  · refine .inl ⟨Nat.le_refl _, by omega, by simp, R ++ eX (tx (tkW 1 0 [] (bl (w.extract fr i)))), fun rest => ?_, fun rest => ?_⟩
    · obtain ⟨b, e1, e2, e3⟩ := drop_take_more w fr i h1 hi
      rw [take_split w fr (i + 1) (by omega), e1, List.append_assoc, List.append_assoc, h4, List.append_assoc]
      congr 1
      rw [List.singleton_append, LX_line _ rest b (by omega) h3, bl_ext]
    · rw [ho, List.append_assoc, h5, ha, List.append_assoc]
  · omega
theorem Nt.last {w o o' : ByteArray} {fr : Nat} {a : List UInt8} (h : Nt w o fr w.size) (ho : bl o' = bl o ++ a) (ha : Adds w fr w.size a) : Nt w o' (w.size + 1) (w.size + 1) := by
  rcases h with ⟨h1, h2, h3, R, h4, h5⟩ | ⟨h1, -⟩
  · refine .inr ⟨rfl, ?_⟩
    have e0 : LX 1 [] [] = [] := rfl
    have ha0 := ha []
    rw [List.append_nil, e0, List.append_nil] at ha0
    rw [ho, h5, ha0]
    have : bl w = (bl w).take fr ++ ((bl w).drop fr).take (w.size - fr) := by rw [← take_split w fr w.size h1, ← bl_len w, List.take_length]
    rw [this, h4, LX_last _ h3, bl_ext]
  · omega
theorem Nt.done {w o : ByteArray} {fr i : Nat} (h : Nt w o fr i) (hi : i = w.size + 1) : (linesP o).map tx = (linesP w).map tx := by
  rcases h with ⟨h1, h2, -⟩ | ⟨-, h2⟩
  · omega
  · rw [linesP_LW, linesP_LW]
    exact h2
theorem Nt.clean {w o : ByteArray} {fr i : Nat} (h : Nt w o fr i) (hi : i ≤ w.size) : fr ≤ i ∧ ∀ b ∈ bl (w.extract fr i), b.toNat ≠ 10 := by
  rcases h with ⟨h1, h2, h3, -⟩ | ⟨h1, -⟩
  · exact ⟨h1, by rw [bl_ext]; exact h3⟩
  · omega
def blanks : ByteArray := ⟨#[32, 32, 32, 32, 32, 32, 32]⟩
theorem bl_blanks (k : Nat) (h : k ≤ 3) : bl (blanks.extract 0 k) = List.replicate k (u8 32) := by
  have : k = 0 ∨ k = 1 ∨ k = 2 ∨ k = 3 := by omega
  rcases this with rfl | rfl | rfl | rfl <;> rfl
theorem Adds.plain {w : ByteArray} {fr i : Nat} (k : Nat) (h : ∀ b ∈ bl (w.extract fr i), b.toNat ≠ 10) : Adds w fr i (List.replicate k (u8 32) ++ bl (w.extract fr i) ++ [u8 10]) := fun rest => LX_plain k _ rest h
theorem Adds.note {w : ByteArray} {fr i : Nat} (k : Nat) {c : ByteArray} (h : ∀ b ∈ bl (w.extract fr i), b.toNat ≠ 10) (hc : NoNl c) :
    Adds w fr i (List.replicate k (u8 32) ++ bl (w.extract fr i) ++ ([u8 32, u8 9, u8 35] ++ bl c ++ [u8 10, u8 10, u8 32, u8 32, u8 35]) ++ [u8 10]) := fun rest => LX_note k _ _ rest h hc
theorem bl_plain (o w : ByteArray) (fr i k : Nat) (hk : k ≤ 3) : bl (((o ++ blanks.extract 0 k) ++ w.extract fr i) ++ ⟨#[10]⟩) = bl o ++ (List.replicate k (u8 32) ++ bl (w.extract fr i) ++ [u8 10]) := by
  rw [bl_app, bl_app, bl_app, bl_blanks k hk, show bl ⟨#[10]⟩ = [u8 10] from rfl]
  simp
theorem bl_note (o w c : ByteArray) (fr i k : Nat) (hk : k ≤ 3) : bl ((((((o ++ blanks.extract 0 k) ++ w.extract fr i) ++ ⟨#[32, 9, 35]⟩) ++ c) ++ ⟨#[10, 10, 32, 32, 35]⟩) ++ ⟨#[10]⟩) = bl o ++ (List.replicate k (u8 32) ++ bl (w.extract fr i) ++ ([u8 32, u8 9, u8 35] ++ bl c ++ [u8 10, u8 10, u8 32, u8 32, u8 35]) ++ [u8 10]) := by
  rw [bl_app, bl_app, bl_app, bl_app, bl_app, bl_app, bl_blanks k hk, show bl ⟨#[10]⟩ = [u8 10] from rfl, show bl ⟨#[32, 9, 35]⟩ = [u8 32, u8 9, u8 35] from rfl, show bl ⟨#[10, 10, 32, 32, 35]⟩ = [u8 10, u8 10, u8 32, u8 32, u8 35] from rfl]
  simp
end Go.Proofs.Ythoohbmpbahkgaa
