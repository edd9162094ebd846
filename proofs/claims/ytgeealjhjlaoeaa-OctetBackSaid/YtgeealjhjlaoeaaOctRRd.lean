/- The reference's Reader: the same answers. -/
import Derived.Test.YtgeealjhjlaoeaaOctText
namespace Go.Proofs.Ytgeealjhjlaoeaa
open Go.RowKit Oct

set_option maxHeartbeats 1000000 in
theorem rtake_rd {w : World} {b : Nat} {s : ByteArray} {p : Nat} {f : Bool} (h : Rd w b s p f) (hp : p ≤ s.size) (hs : s.size ≤ 9223372036854775807) (n : Int) :
    Calls Try.prog 35 #[.pointer (some ⟨b, 0, none⟩), .int .i64 n] w fun e w' => e = .returned (.string (takeM s p f n).1) ∧ After b w w' s (takeM s p f n).2.1 (takeM s p f n).2.2 := by
  have HR := Lib.hid h
  obtain ⟨c0, c1, c2, z1, z2, lt⟩ := h
  cases f with
  | true =>
    rw [show takeM s p true n = (ByteArray.empty, p, true) from by simp [takeM]]
    go_enter Try.func35, Try.ntmps35
    go_wp2_with fail
    go_quiet (fail)
    go_wp2_with fail
    go_ret
    exact ⟨rfl, (HR.out.drewN _).set2 true, ((Other.refl _ _ _).drewN _).set _ _⟩
  | false =>
    by_cases h0 : n < 0
    · rw [show takeM s p false n = (ByteArray.empty, p, true) from by unfold takeM; rw [if_neg]; rw [fitsN_iff]; omega]
      have hd : decide (n < 0) = true := by simpa using h0
      go_enter Try.func35, Try.ntmps35
      go_wp2_with fail
      go_quiet (fail)
      go_wp2_with fail
      go_ret
      exact ⟨rfl, (HR.out.drewN _).set2 true, ((Other.refl _ _ _).drewN _).set _ _⟩
    · have hd : decide (n < 0) = false := by simpa using h0
      by_cases h1 : (s.size : Int) - p < n
      · rw [show takeM s p false n = (ByteArray.empty, p, true) from by unfold takeM; rw [if_neg]; rw [fitsN_iff]; omega]
        have hd1 : decide ((s.size : Int) - p < n) = true := by simpa using h1
        go_enter Try.func35, Try.ntmps35
        go_wp2_with fail
        go_quiet (fail)
        go_wp2_with fail
        go_ret
        exact ⟨rfl, (HR.out.drewN _).set2 true, ((Other.refl _ _ _).drewN _).set _ _⟩
      · obtain ⟨k, rfl⟩ := Int.eq_ofNat_of_zero_le (show 0 ≤ n by omega)
        rw [show takeM s p false (k : Int) = (s.extract p (p + k), p + k, false) from by unfold takeM; rw [if_pos ⟨rfl, by rw [fitsN_iff]; omega⟩]; simp]
        have hd1 : decide ((s.size : Int) - p < k) = false := by simpa using h1
        have hn : p + k ≤ s.size := by omega
        go_enter Try.func35, Try.ntmps35
        go_wp2_with fail
        go_quiet (fail)
        go_wp2_with fail
        go_quiet (fail)
        go_wp2_with fail
        go_ret
        exact ⟨rfl, (HR.out.drewN _).set1 (p + k), ((Other.refl _ _ _).drewN _).set _ _⟩

theorem takeM_size (s : ByteArray) (p k : Nat) (h : fitsN s p k = true) : (s.extract p (p + k)).size = k := by
  rw [fitsN_iff] at h
  simp
  omega
theorem wrapu (n : Int) : IntKind.u64.wrap n = n % 18446744073709551616 := by simp [IntKind.wrap, IntKind.bits, IntKind.signed]
theorem rnum_step (l : List UInt8) (k : Nat) : IntKind.u64.wrap (IntKind.u64.wrap (numU l k * 256) + IntKind.u64.wrap (bAt l k)) = numU l (k + 1) := by
  rw [← numU_step, wrapu, wrapu, wrapu]
  have := bAt_bd l k
  omega
theorem wrap_numU (l : List UInt8) (k : Nat) : wrap64 (numU l k) = numI l k := by
  rw [← numU_back, IntKind.wrap_i64]
  simp only [wrap64]

set_option maxHeartbeats 1000000 in
theorem rnum_yes {w : World} {b : Nat} {s : ByteArray} {p : Nat} (h : Rd w b s p false) (hp : p ≤ s.size) (hs : s.size ≤ 9223372036854775807) (k : Nat) (hk : k ≤ 8) (hf : fitsN s p k = true) :
    Calls Try.prog 32 #[.pointer (some ⟨b, 0, none⟩), .int .i64 k] w fun e w' => e = .returned (.int .i64 (numI (s.extract p (p + k)).data.toList k)) ∧ After b w w' s (p + k) false := by
  have hc := rtake_rd h hp hs k
  rw [show takeM s p false k = (s.extract p (p + k), p + k, false) from by unfold takeM; rw [if_pos ⟨rfl, hf⟩]; simp] at hc
  have hz := takeM_size s p k hf
  generalize s.extract p (p + k) = t at *
  subst hz
  have HC := Lib.hid hc
  clear hc
  have h1 : ¬ (t.size : Int) < 0 := by omega
  have h2 : ¬ (8 : Int) < (t.size : Int) := by omega
  go_enter Try.func32, Try.ntmps32
  go_wp2_with fail
  refine HC.out.mono ?_
  rintro e w' ⟨rfl, H⟩
  go_wp2_with fail
  go_loop [6, 7] (fun v i => ∃ j : Nat, j ≤ t.size ∧ i = .int .i64 j ∧ v = .int .u64 (numU t.data.toList j)) (fun _ i => t.size - (intOf i).toNat)
  case atStart => exact ⟨0, Nat.zero_le _, rfl, rfl⟩
  case round =>
    obtain ⟨j, hj, rfl, rfl⟩ := hrel
    by_cases hlt : j < t.size
    · go_wp2_with fail
      go_round
      case rel => exact ⟨j + 1, by omega, by go_num, by rw [bAt_of t j hlt, rnum_step]⟩
      case measure => simp [intOf]; omega
    · obtain rfl : j = t.size := by omega
      go_wp2_with fail
      go_ret
      exact ⟨by rw [← wrap_numU]; rfl, H⟩

theorem takeM_true (s : ByteArray) (p : Nat) (n : Int) : takeM s p true n = (ByteArray.empty, p, true) := by simp [takeM]
theorem takeM_no (s : ByteArray) (p : Nat) (n : Int) (h : ¬ fitsN s p n = true) : takeM s p false n = (ByteArray.empty, p, true) := by
  unfold takeM
  rw [if_neg (fun c => h c.2)]

set_option maxHeartbeats 1000000 in
/-- Behind a Take that fails Num is 0. -/
theorem rnum_none {w : World} {b : Nat} {s : ByteArray} {p : Nat} {f : Bool} (h : Rd w b s p f) (hp : p ≤ s.size) (hs : s.size ≤ 9223372036854775807) (n : Int) (hf : f = true ∨ ¬ (n ≤ 8 ∧ fitsN s p n = true)) :
    Calls Try.prog 32 #[.pointer (some ⟨b, 0, none⟩), .int .i64 n] w fun e w' => e = .returned (.int .i64 0) ∧ After b w w' s p true := by
  by_cases h8 : 0 ≤ n ∧ n ≤ 8
  · have hc := rtake_rd h hp hs n
    have e : takeM s p f n = (ByteArray.empty, p, true) := by
      cases f with
      | true => exact takeM_true s p n
      | false =>
        refine takeM_no s p n ?_
        rcases hf with hf | hf
        · cases hf
        · intro c
          exact hf ⟨h8.2, c⟩
    rw [e] at hc
    have HC := Lib.hid hc
    clear hc e hf
    have h1 : ¬ n < 0 := by omega
    have h2 : ¬ 8 < n := by omega
    go_enter Try.func32, Try.ntmps32
    go_wp2_with fail
    refine HC.out.mono ?_
    rintro e w' ⟨rfl, H⟩
    go_wp2_with fail
    refine wp_loop_rounds 1 ?_
    rw [rounds_succ]
    go_wp2_with fail
    go_ret
    exact ⟨rfl, H⟩
  · have hc := rtake_rd (h.set2 true) hp hs n
    rw [takeM_true] at hc
    have HC := Lib.hid hc
    have HH := Lib.hid h
    obtain ⟨c0, c1, c2, z1, z2, lt⟩ := h
    clear hc hf
    by_cases h1 : n < 0
    · go_enter Try.func32, Try.ntmps32
      go_wp2_with fail
      refine HC.out.mono ?_
      rintro e w' ⟨rfl, H⟩
      go_wp2_with fail
      refine wp_loop_rounds 1 ?_
      rw [rounds_succ]
      go_wp2_with fail
      go_ret
      exact ⟨rfl, H.up ((Other.refl _ _ _).set _ _)⟩
    · have h2 : 8 < n := by omega
      go_enter Try.func32, Try.ntmps32
      go_wp2_with fail
      refine HC.out.mono ?_
      rintro e w' ⟨rfl, H⟩
      go_wp2_with fail
      refine wp_loop_rounds 1 ?_
      rw [rounds_succ]
      go_wp2_with fail
      go_ret
      exact ⟨rfl, H.up ((Other.refl _ _ _).set _ _)⟩

theorem numM_no (s : ByteArray) (p : Nat) (f : Bool) (n : Int) (hf : f = true ∨ ¬ (n ≤ 8 ∧ fitsN s p n = true)) : numM s p f n = (0, p, true) := by
  unfold numM
  rw [if_neg]
  rintro ⟨a, b⟩
  rcases hf with hf | hf
  · rw [a] at hf
    cases hf
  · exact hf b
theorem rnum_rd {w : World} {b : Nat} {s : ByteArray} {p : Nat} {f : Bool} (h : Rd w b s p f) (hp : p ≤ s.size) (hs : s.size ≤ 9223372036854775807) (n : Int) :
    Calls Try.prog 32 #[.pointer (some ⟨b, 0, none⟩), .int .i64 n] w fun e w' => e = .returned (.int .i64 (numM s p f n).1) ∧ After b w w' s (numM s p f n).2.1 (numM s p f n).2.2 := by
  by_cases hf : f = true ∨ ¬ (n ≤ 8 ∧ fitsN s p n = true)
  · rw [numM_no s p f n hf]
    exact rnum_none h hp hs n hf
  · have hf' : ¬ f = true ∧ (n ≤ 8 ∧ fitsN s p n = true) := by
      constructor
      · exact fun c => hf (Or.inl c)
      · exact Classical.byContradiction fun c => hf (Or.inr c)
    obtain ⟨hg, h8, hfit⟩ := hf'
    have hg2 : f = false := by simpa using hg
    subst hg2
    have hb := hfit
    rw [fitsN_iff] at hb
    obtain ⟨k, rfl⟩ := Int.eq_ofNat_of_zero_le hb.1
    rw [show numM s p false k = (numI (s.extract p (p + k)).data.toList k, p + k, false) from by unfold numM; rw [if_pos ⟨rfl, h8, hfit⟩]; simp]
    exact rnum_yes h hp hs k (by omega) hfit
end Go.Proofs.Ytgeealjhjlaoeaa
