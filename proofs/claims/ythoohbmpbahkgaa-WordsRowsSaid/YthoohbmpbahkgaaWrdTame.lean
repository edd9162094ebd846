/- The laws' made words. -/
import Derived.Test.YthoohbmpbahkgaaWrdNt
namespace Go.Proofs.Ythoohbmpbahkgaa
open Go.RowKit

/-- A byte of a word. -/
def okC (b : Nat) : Bool := !(b == 32) && !(b == 9) && !(b == 10) && !(b == 35)
def tameF (s : ByteArray) : Nat → Nat → ByteArray → ByteArray
  | 0, _, out => out
  | f + 1, k, out => if out.size < 12 then tameF s f (k + 1) (if okC (bt s k) then out ++ s.extract k (k + 1) else out) else out
def tameP (s : ByteArray) : ByteArray := if (tameF s s.size 0 ⟨#[]⟩).size = 0 then ⟨#[120]⟩ else tameF s s.size 0 ⟨#[]⟩
theorem tameF_succ (s : ByteArray) (f k : Nat) (out : ByteArray) : tameF s (f + 1) k out = if out.size < 12 then tameF s f (k + 1) (if okC (bt s k) then out ++ s.extract k (k + 1) else out) else out := rfl
theorem tameF_full (s : ByteArray) (f k : Nat) (out : ByteArray) (h : ¬ out.size < 12) : tameF s f k out = out := by
  cases f with
  | zero => rfl
  | succ f => rw [tameF_succ, if_neg h]
/-- Only bytes of words. -/
def Clean (t : ByteArray) : Prop := ∀ b ∈ bl t, okC b.toNat = true
theorem Clean.more {c s : ByteArray} {i : Nat} (hc : Clean c) (h : i < s.size) (hk : okC (bt s i) = true) : Clean (c ++ s.extract i (i + 1)) := by
  obtain ⟨b, h1, h2⟩ := bl_one s i h
  intro x hx
  rw [bl_app, h1] at hx
  rcases List.mem_append.1 hx with hx | hx
  · exact hc x hx
  · simp at hx; subst hx; rw [h2]; exact hk
theorem tameF_ok (s : ByteArray) (f k : Nat) (out : ByteArray) (hf : k + f = s.size) (hs : out.size ≤ 12) (hc : Clean out) : (tameF s f k out).size ≤ 12 ∧ Clean (tameF s f k out) := by
  induction f generalizing k out with
  | zero => exact ⟨hs, hc⟩
  | succ f ih =>
    rw [tameF_succ]
    split
    · split
      · rename_i h1 h2
        exact ih (k + 1) _ (by omega) (by rw [ByteArray.size_append, ByteArray.size_extract]; omega) (hc.more (by omega) h2)
      · exact ih (k + 1) out (by omega) hs hc
    · exact ⟨hs, hc⟩
theorem tameP_ok (s : ByteArray) : 1 ≤ (tameP s).size ∧ (tameP s).size ≤ 12 ∧ Clean (tameP s) := by
  obtain ⟨h1, h2⟩ := tameF_ok s s.size 0 ⟨#[]⟩ (by omega) (by decide) (fun b hb => by cases hb)
  unfold tameP
  split
  · exact ⟨by decide, by decide, fun b hb => by simp [bl] at hb; subst hb; decide⟩
  · exact ⟨by omega, h1, h2⟩

set_option maxHeartbeats 4000000 in
theorem tame_any (s : ByteArray) (w : World) (hs : s.size ≤ maxLen) : Calls Try.prog 23 #[.string s] w fun e w' => e = .returned (.string (tameP s)) ∧ w = w' := by
  unfold maxLen at hs
  obtain ⟨R, hR⟩ : ∃ R, tameF s s.size 0 ⟨#[]⟩ = R := ⟨_, rfl⟩
  have hP : tameP s = if R.size = 0 then ⟨#[120]⟩ else R := by rw [← hR]; rfl
  obtain ⟨T, hT⟩ : ∃ T, tameP s = T := ⟨_, rfl⟩
  rw [hT] at hP ⊢
  clear hT
  replace hP := Lib.hid hP
  have HR : Hid (tameF s (s.size - 0) 0 ⟨#[]⟩ = R) := Lib.hid hR
  clear hR
  go_enter Try.func23, Try.ntmps23
  go_wp2_with fail
  go_loopw [3, 4] (fun cv iv wr => ∃ (c : ByteArray) (i : Nat), i ≤ s.size ∧ c.size ≤ 12 ∧ Hid (tameF s (s.size - i) i c = R) ∧ cv = .string c ∧ iv = .int .i64 i ∧ w = wr) (fun _ iv _ => (s.size - intOf iv).toNat)
  case atStart => exact ⟨⟨#[]⟩, 0, Nat.zero_le _, (by decide), HR, rfl, rfl, rfl⟩
  case round =>
    clear HR
    obtain ⟨c, i, hi, hc, HR, rfl, rfl, rfl⟩ := hrel
    have zi0 : (0 : Int) ≤ (i : Int) := by omega
    by_cases hgo : i < s.size ∧ c.size < 12
    · obtain ⟨hlt, h12⟩ := hgo
      have hb := bt_get s i hlt
      have zi1 : (i : Int) < (s.size : Int) := by omega
      have zc : (c.size : Int) < 12 := by omega
      have q1 : ¬ (9223372036854775807 : Int) < (c.size : Int) + ((s.extract i (i + 1)).size : Int) := by rw [ByteArray.size_extract]; omega
      have hR := HR.out
      rw [show s.size - i = (s.size - (i + 1)) + 1 by omega, tameF_succ, if_pos h12] at hR
      by_cases hok : okC (bt s i) = true
      · rw [if_pos hok] at hR
        have HR2 := Lib.hid hR
        have hc2 : (c ++ s.extract i (i + 1)).size ≤ 12 := by rw [ByteArray.size_append, ByteArray.size_extract]; omega
        simp only [okC, Bool.and_eq_true, Bool.not_eq_true', beq_eq_false_iff_ne] at hok
        obtain ⟨⟨⟨h1, h2⟩, h3⟩, h4⟩ := hok
        have e1 : (((bt s i : Nat) : Int) != 32) = true := by simp; omega
        have e2 : (((bt s i : Nat) : Int) != 9) = true := by simp; omega
        have e3 : (((bt s i : Nat) : Int) != 10) = true := by simp; omega
        have e4 : (((bt s i : Nat) : Int) != 35) = true := by simp; omega
        clear hR
        go_wp2_with fail
        go_roundw
        case rel => exact ⟨_, i + 1, by omega, hc2, HR2, rfl, by go_num, trivial⟩
        case measure => simp [intOf]; omega
      · rw [if_neg hok] at hR
        have HR2 := Lib.hid hR
        clear hR
        by_cases h1 : bt s i = 32
        · have e1 : (((bt s i : Nat) : Int) != 32) = false := by simp; omega
          go_wp2_with fail
          go_roundw
          case rel => exact ⟨c, i + 1, by omega, hc, HR2, rfl, by go_num, trivial⟩
          case measure => simp [intOf]; omega
        have e1 : (((bt s i : Nat) : Int) != 32) = true := by simp; omega
        by_cases h2 : bt s i = 9
        · have e2 : (((bt s i : Nat) : Int) != 9) = false := by simp; omega
          go_wp2_with fail
          go_roundw
          case rel => exact ⟨c, i + 1, by omega, hc, HR2, rfl, by go_num, trivial⟩
          case measure => simp [intOf]; omega
        have e2 : (((bt s i : Nat) : Int) != 9) = true := by simp; omega
        by_cases h3 : bt s i = 10
        · have e3 : (((bt s i : Nat) : Int) != 10) = false := by simp; omega
          go_wp2_with fail
          go_roundw
          case rel => exact ⟨c, i + 1, by omega, hc, HR2, rfl, by go_num, trivial⟩
          case measure => simp [intOf]; omega
        have e3 : (((bt s i : Nat) : Int) != 10) = true := by simp; omega
        by_cases h4 : bt s i = 35
        · have e4 : (((bt s i : Nat) : Int) != 35) = false := by simp; omega
          go_wp2_with fail
          go_roundw
          case rel => exact ⟨c, i + 1, by omega, hc, HR2, rfl, by go_num, trivial⟩
          case measure => simp [intOf]; omega
        · exfalso
          apply hok
          simp only [okC, Bool.and_eq_true, Bool.not_eq_true', beq_eq_false_iff_ne]
          exact ⟨⟨⟨h1, h2⟩, h3⟩, h4⟩
    · have hR : c = R := by
        have h := HR.out
        by_cases hlt : i < s.size
        · rw [tameF_full s _ i c (fun h12 => hgo ⟨hlt, h12⟩)] at h
          exact h
        · rw [show s.size - i = 0 by omega] at h
          exact h
      subst hR
      clear HR
      by_cases h0 : c.size = 0
      · have hc0 : c = ⟨#[]⟩ := bl_inj (List.length_eq_zero_iff.1 (by rw [bl_len]; exact h0))
        have hT := hP.out
        rw [if_pos h0] at hT
        subst hc0 hT
        have hlt : ¬ (i : Int) < (s.size : Int) := by
          intro h
          exact hgo ⟨by omega, by decide⟩
        clear h0
        go_wp2_with fail
        go_ret
        exact ⟨rfl, rfl⟩
      · have hT := hP.out
        rw [if_neg h0] at hT
        subst hT
        have hne0 : T.toList ≠ [] := fun h => by
          have h2 : T.data.toList = [] := by rw [← ByteArray.toList_eq]; exact h
          have h3 : T.size = T.data.toList.length := by rw [Array.length_toList]; rfl
          rw [h2, List.length_nil] at h3
          omega
        have k3 : (T.toList == []) = false := by rw [beq_eq_false_iff_ne]; exact hne0
        have k3' : T.toList.isEmpty = false := by rw [List.isEmpty_eq_false_iff]; exact hne0
        by_cases hlt : i < s.size
        · have z1 : (i : Int) < (s.size : Int) := by omega
          have z2 : ¬ (T.size : Int) < 12 := fun h => hgo ⟨hlt, by omega⟩
          go_wp2_with fail
          go_ret
          exact ⟨rfl, rfl⟩
        · go_wp2_with fail
          go_ret
          exact ⟨rfl, rfl⟩
end Go.Proofs.Ythoohbmpbahkgaa
