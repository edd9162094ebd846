/- Lines and words, byte by byte. -/
import Derived.Test.YthoohbmpbahkgaaWrdRefPlain
namespace Go.Proofs.Ythoohbmpbahkgaa
open Go.RowKit

/-- A text's bytes. -/
def bl (s : ByteArray) : List UInt8 := s.data.toList
theorem bl_len (s : ByteArray) : (bl s).length = s.size := by unfold bl; rw [Array.length_toList]; rfl
theorem bl_app (a b : ByteArray) : bl (a ++ b) = bl a ++ bl b := by unfold bl; rw [ByteArray.data_append, Array.toList_append]
theorem bl_ext (s : ByteArray) (a b : Nat) : bl (s.extract a b) = ((bl s).drop a).take (b - a) := by
  unfold bl
  rw [ByteArray.data_extract, Array.toList_extract, List.extract_eq_drop_take']
  rw [List.drop_take]
theorem bl_get (s : ByteArray) (k : Nat) (h : k < s.size) : (bl s)[k]? = some (s.get! k) := by
  have e : s.get! k = s[k]'h := by
    simp [ByteArray.get!, getElem!_pos, h]
    rfl
  rw [e]
  unfold bl
  rw [List.getElem?_eq_getElem (by rw [Array.length_toList]; exact h), Array.getElem_toList]
  rfl
theorem bl_inj {a b : ByteArray} (h : bl a = bl b) : a = b := by
  apply ByteArray.ext
  apply Array.ext'
  exact h
def mkB (l : List UInt8) : ByteArray := ⟨l.toArray⟩
theorem bl_mk (l : List UInt8) : bl (mkB l) = l := rfl
theorem mk_bl (s : ByteArray) : mkB (bl s) = s := bl_inj rfl

def blU (b : UInt8) : Bool := blB b.toNat
def flushW (num : Int) (p : Nat) (cur : List UInt8) : List Wd := if cur = [] then [] else [⟨num, ((p - cur.length : Nat) : Int), mkB cur⟩]
/-- The words of a line, from a place on, behind what a word has so far. -/
def tkW (num : Int) : Nat → List UInt8 → List UInt8 → List Wd
  | p, cur, [] => flushW num p cur
  | p, cur, b :: bs => if b.toNat = 35 then flushW num p cur else if blU b then flushW num p cur ++ tkW num (p + 1) [] bs else tkW num (p + 1) (cur ++ [b]) bs
def emit (ws : List Wd) : List (List Wd) := if ws.length = 0 then [] else [ws]
/-- The rows of a source, behind what a line has so far. -/
def LW : Nat → List UInt8 → List UInt8 → List (List Wd)
  | num, cur, [] => emit (tkW num 0 [] cur)
  | num, cur, b :: bs => if b.toNat = 10 then emit (tkW num 0 [] cur) ++ LW (num + 1) [] bs else LW num (cur ++ [b]) bs
theorem tkW_cons (num : Int) (p : Nat) (cur : List UInt8) (b : UInt8) (bs : List UInt8) : tkW num p cur (b :: bs) = if b.toNat = 35 then flushW num p cur else if blU b then flushW num p cur ++ tkW num (p + 1) [] bs else tkW num (p + 1) (cur ++ [b]) bs := rfl
theorem LW_cons (num : Nat) (cur : List UInt8) (b : UInt8) (bs : List UInt8) : LW num cur (b :: bs) = if b.toNat = 10 then emit (tkW num 0 [] cur) ++ LW (num + 1) [] bs else LW num (cur ++ [b]) bs := rfl

theorem drop_bt (s : ByteArray) (k : Nat) (h : k < s.size) : ∃ b : UInt8, (bl s).drop k = b :: (bl s).drop (k + 1) ∧ b.toNat = bt s k := by
  have hl := bl_len s
  refine ⟨(bl s)[k], List.drop_eq_getElem_cons (by omega), ?_⟩
  have := bl_get s k h
  rw [List.getElem?_eq_getElem (by omega)] at this
  exact congrArg UInt8.toNat (Option.some.inj this)
/-- What the word that has begun has so far. -/
def curK (s : ByteArray) (k : Nat) : List UInt8 := if begK s k = -1 then [] else ((bl s).drop (begK s k).toNat).take (k - (begK s k).toNat)
theorem curK_len (s : ByteArray) (k : Nat) (h : k ≤ s.size) : begK s k ≠ -1 → (curK s k).length = k - (begK s k).toNat ∧ 0 < (curK s k).length := by
  intro hb
  have hg := begK_ge s k
  unfold curK
  rw [if_neg hb, List.length_take, List.length_drop, bl_len]
  omega
theorem curK_nil (s : ByteArray) (k : Nat) (h : begK s k = -1) : curK s k = [] := by unfold curK; rw [if_pos h]
theorem flush_end (num : Int) (s : ByteArray) (k : Nat) (h : k ≤ s.size) (ws : List Wd) : endW num s (begK s k) k ws = ws ++ flushW num k (curK s k) := by
  have hg := begK_ge s k
  unfold endW flushW
  by_cases hb : begK s k = -1
  · rw [if_pos hb, curK_nil s k hb, if_pos rfl, List.append_nil]
  · obtain ⟨h1, h2⟩ := curK_len s k h hb
    have hne : curK s k ≠ [] := fun e => by rw [e] at h2; simp at h2
    rw [if_neg hb, if_neg hne, h1]
    congr 3
    · omega
    · apply bl_inj
      rw [bl_mk, bl_ext]
      unfold curK
      rw [if_neg hb]
theorem tkW_inv (num : Int) (s : ByteArray) (k : Nat) (h : k ≤ hashAt s) : wsK num s k ++ tkW num k (curK s k) ((bl s).drop k) = tkW num 0 [] (bl s) := by
  have hN := hashAt_le s
  induction k with
  | zero => simp [wsK, curK, begK]
  | succ k ih =>
    rw [← ih (by omega)]
    obtain ⟨b, hb1, hb2⟩ := drop_bt s k (by omega)
    have hno : bt s k ≠ 35 := by
      have hno' : ∀ f a, a ≤ k → k < hashF s f a → bt s k ≠ 35 := by
        intro f
        induction f with
        | zero => intro a h1 h2; simp [hashF] at h2; omega
        | succ f ihf =>
          intro a h1 h2
          rw [hashF_succ] at h2
          by_cases e : bt s a = 35
          · rw [if_pos e] at h2; omega
          · rw [if_neg e] at h2
            by_cases e2 : a = k
            · rw [← e2]; exact e
            · exact ihf (a + 1) (by omega) h2
      exact hno' s.size 0 (Nat.zero_le _) (by show k < hashAt s; omega)
    rw [hb1, tkW_cons, hb2, if_neg hno]
    unfold blU
    rw [hb2]
    cases hbl : blB (bt s k) with
    | true =>
      have hbe : begK s (k + 1) = -1 := by rw [begK_succ, hbl]; rfl
      rw [wsK_succ, hbl, if_pos rfl, if_pos rfl, flush_end num s k (by omega), curK_nil s (k + 1) hbe, List.append_assoc]
    | false =>
      rw [wsK_succ, hbl]
      simp only [Bool.false_eq_true, if_false]
      congr 2
      have hg := begK_ge s k
      unfold curK
      rw [begK_succ, hbl]
      simp only [Bool.false_eq_true, if_false]
      by_cases hm : begK s k = -1
      · rw [if_pos hm, if_pos hm, if_neg (by omega), Int.toNat_natCast, hb1]
        simp
      · rw [if_neg hm, if_neg hm, if_neg hm]
        obtain ⟨B, hB⟩ : ∃ B, (begK s k).toNat = B := ⟨_, rfl⟩
        rw [hB, show k + 1 - B = (k - B) + 1 by omega, List.take_add_one]
        congr 1
        rw [List.getElem?_drop, show B + (k - B) = k by omega]
        have := bl_get s k (by omega)
        rw [this]
        have hb3 : (bl s)[k]? = some b := by
          have h0 : ((bl s).drop k)[0]? = some b := by rw [hb1]; rfl
          rwa [List.getElem?_drop, Nat.add_zero] at h0
        rw [hb3] at this
        rw [Option.some.inj this]
        rfl
theorem hash_hit (s : ByteArray) (h : hashAt s < s.size) : bt s (hashAt s) = 35 := by
  have key : ∀ f k, hashF s f k < k + f → bt s (hashF s f k) = 35 := by
    intro f
    induction f with
    | zero => intro k h; simp [hashF] at h
    | succ f ih =>
      intro k h
      rw [hashF_succ] at h ⊢
      by_cases e : bt s k = 35
      · rw [if_pos e]; exact e
      · rw [if_neg e] at h ⊢
        exact ih (k + 1) (by omega)
  exact key s.size 0 (by show hashAt s < _; omega)
theorem wordsP_tk (num : Int) (s : ByteArray) : wordsP num s = tkW num 0 [] (bl s) := by
  have hN := hashAt_le s
  rw [← tkW_inv num s (hashAt s) (Nat.le_refl _)]
  unfold wordsP
  rw [flush_end num s _ hN]
  congr 1
  by_cases hlt : hashAt s < s.size
  · obtain ⟨b, hb1, hb2⟩ := drop_bt s (hashAt s) hlt
    rw [hb1, tkW_cons, hb2, if_pos (hash_hit s hlt)]
  · have : (bl s).drop (hashAt s) = [] := List.drop_eq_nil_of_le (by rw [bl_len]; omega)
    rw [this]
    rfl
theorem addNE_emit (ls : List (List Wd)) (ws : List Wd) : addNE ls ws = ls ++ emit ws := by
  unfold addNE emit
  split <;> simp
theorem LW_inv (s : ByteArray) (k : Nat) (h : k ≤ s.size) : (lnK s k).2.2 ++ LW (lnK s k).1 (((bl s).drop (lnK s k).2.1).take (k - (lnK s k).2.1)) ((bl s).drop k) = LW 1 [] (bl s) := by
  induction k with
  | zero => simp [lnK]
  | succ k ih =>
    rw [← ih (by omega)]
    obtain ⟨b, hb1, hb2⟩ := drop_bt s k (by omega)
    have hbd := (lnK_bd s k).2.1
    rw [lnK_succ]
    obtain ⟨x, hx⟩ : ∃ x, lnK s k = x := ⟨_, rfl⟩
    rw [hx] at hbd ⊢
    rw [hb1, LW_cons, hb2]
    by_cases h10 : bt s k = 10
    · rw [if_pos h10, if_pos h10]
      unfold endL
      simp only
      rw [addNE_emit, wordsP_tk, bl_ext, Nat.sub_self, List.take_zero, List.append_assoc]
    · rw [if_neg h10, if_neg h10]
      congr 2
      rw [show k + 1 - x.2.1 = (k - x.2.1) + 1 by omega, List.take_add_one]
      congr 1
      rw [List.getElem?_drop, show x.2.1 + (k - x.2.1) = k by omega]
      have h0 : ((bl s).drop k)[0]? = some b := by rw [hb1]; rfl
      rw [List.getElem?_drop, Nat.add_zero] at h0
      rw [h0]
      rfl
theorem linesP_LW (s : ByteArray) : linesP s = LW 1 [] (bl s) := by
  rw [← LW_inv s s.size (Nat.le_refl _)]
  have : (bl s).drop s.size = [] := List.drop_eq_nil_of_le (by rw [bl_len]; omega)
  rw [this]
  show (endL s s.size (lnK s s.size)).2.2 = _
  unfold endL
  simp only
  rw [addNE_emit, wordsP_tk, bl_ext]
  rfl
end Go.Proofs.Ythoohbmpbahkgaa
