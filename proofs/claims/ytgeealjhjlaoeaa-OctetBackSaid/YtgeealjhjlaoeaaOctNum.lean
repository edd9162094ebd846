/- What the raw calls of a Reader do: number, text. -/
import Derived.Test.YtgeealjhjlaoeaaOctRd
namespace Go.Proofs.Ytgeealjhjlaoeaa
open Go.RowKit Oct

theorem After.rd {b : Nat} {w w' : World} {s : ByteArray} {p : Nat} {f : Bool} (h : After b w w' s p f) : Rd w' b s p f := h.1

set_option maxHeartbeats 400000 in
theorem number_no {w : World} {b : Nat} {s : ByteArray} {p : Nat} {f : Bool} (h : Rd w b s p f) (hp : p ≤ s.size) (hs : s.size ≤ 9223372036854775807) (n : Int) (hn : ¬ (0 ≤ n ∧ n ≤ 8) ∨ (s.size : Int) - p < n) :
    Calls Try.prog 38 #[.pointer (some ⟨b, 0, none⟩), .int .i64 n] w fun e w' => e = .returned (.tuple #[.int .i64 0, .bool false]) ∧ After b w w' s p f := by
  by_cases h8 : 0 ≤ n ∧ n ≤ 8
  · have h1 : (s.size : Int) - p < n := by omega
    obtain ⟨k, rfl⟩ := Int.eq_ofNat_of_zero_le h8.1
    have hk : k ≤ 8 := by omega
    clear hn h8
    go_enter Try.func38, Try.ntmps38
    go_wp2_with fail
    refine (right_yes k hk _).mono ?_
    rintro e w' ⟨rfl, rfl⟩
    go_wp2_with fail
    refine (next_no h hp hs k (Or.inr h1)).mono ?_
    rintro e w' ⟨rfl, H⟩
    go_wp2_with fail
    refine wp_loop_rounds 1 ?_
    rw [rounds_succ]
    go_wp2_with fail
    go_ret2
    exact ⟨rfl, H⟩
  · clear hn
    go_enter Try.func38, Try.ntmps38
    go_wp2_with fail
    refine (right_no n h8 _).mono ?_
    rintro e w' ⟨rfl, rfl⟩
    go_wp2_with fail
    go_ret2
    exact ⟨rfl, h, Other.refl _ _ _⟩

theorem num_step (l : List UInt8) (k : Nat) : bits .or .i64 (wrap64 (numI l k * 256)) (wrap64 (bAt l k)) = numI l (k + 1) := by
  have b := bAt_bd l k
  have e1 : wrap64 (bAt l k) = bAt l k := by simp only [wrap64]; omega
  have e2 : wrap64 (numI l k * 256) = IntKind.i64.wrap (numI l k * 256) := by rw [IntKind.wrap_i64]; simp only [wrap64]
  rw [e1, e2, numI_step]

set_option maxHeartbeats 400000 in
theorem number_yes {w : World} {b : Nat} {s : ByteArray} {p : Nat} {f : Bool} (h : Rd w b s p f) (hp : p ≤ s.size) (hs : s.size ≤ 9223372036854775807) (k : Nat) (hk : k ≤ 8) (hn : p + k ≤ s.size) :
    Calls Try.prog 38 #[.pointer (some ⟨b, 0, none⟩), .int .i64 k] w fun e w' => e = .returned (.tuple #[.int .i64 (numI (s.extract p (p + k)).data.toList k), .bool true]) ∧ After b w w' s (p + k) f := by
  have hy := next_yes h hp hs k hn
  have hz : (s.extract p (p + k)).size = k := by simp; omega
  generalize s.extract p (p + k) = t at *
  subst hz
  have HY := Lib.hid hy
  clear hy
  go_enter Try.func38, Try.ntmps38
  go_wp2_with fail
  refine (right_yes t.size hk _).mono ?_
  rintro e w' ⟨rfl, rfl⟩
  go_wp2_with fail
  refine HY.out.mono ?_
  rintro e w' ⟨rfl, H⟩
  go_wp2_with fail
  go_loop [8, 21] (fun v i => ∃ j : Nat, j ≤ t.size ∧ i = .int .i64 j ∧ v = .int .i64 (numI t.data.toList j)) (fun _ i => t.size - (intOf i).toNat)
  case atStart => exact ⟨0, Nat.zero_le _, rfl, rfl⟩
  case round =>
    obtain ⟨j, hj, rfl, rfl⟩ := hrel
    by_cases hlt : j < t.size
    · go_wp2_with fail
      go_round
      case rel => exact ⟨j + 1, by omega, by go_num, by rw [bAt_of t j hlt, num_step]⟩
      case measure => simp [intOf]; omega
    · obtain rfl : j = t.size := by omega
      go_wp2_with fail
      go_ret2
      exact ⟨rfl, H⟩
end Go.Proofs.Ytgeealjhjlaoeaa
