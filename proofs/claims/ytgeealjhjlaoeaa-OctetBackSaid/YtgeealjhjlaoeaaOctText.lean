/- A Reader's Text; Read. -/
import Derived.Test.YtgeealjhjlaoeaaOctMeth
namespace Go.Proofs.Ytgeealjhjlaoeaa
open Go.RowKit Oct

set_option maxHeartbeats 400000 in
theorem rawtext_none {w : World} {b : Nat} {s : ByteArray} {p : Nat} {f : Bool} (h : Rd w b s p f) (hp : p ≤ s.size) (hs : s.size ≤ 9223372036854775807) (hn : fitsN s p 2 = false) :
    Calls Try.prog 43 #[.pointer (some ⟨b, 0, none⟩)] w fun e w' => e = .returned (.tuple #[.string ByteArray.empty, .bool false]) ∧ After b w w' s p f := by
  have hc := number_no h hp hs 2 (by
    right
    have : ¬ (0 ≤ (2 : Int) ∧ (2 : Int) ≤ (s.size : Int) - p) := by rw [← fitsN_iff, hn]; simp
    omega)
  have HC := Lib.hid hc
  clear hc hn
  go_enter Try.func43, Try.ntmps43
  go_wp2_with fail
  refine HC.out.mono ?_
  rintro e w' ⟨rfl, H⟩
  go_wp2_with fail
  go_ret2
  exact ⟨rfl, H⟩

set_option maxHeartbeats 400000 in
theorem rawtext_some {w : World} {b : Nat} {s : ByteArray} {p q : Nat} {f g : Bool} {v : ByteArray} (h : Rd w b s p f) (hp : p ≤ s.size) (hs : s.size ≤ 9223372036854775807) (hn : fitsN s p 2 = true)
    (hc : ∀ w', After b w w' s (p + 2) f → Calls Try.prog 42 #[.pointer (some ⟨b, 0, none⟩), .int .i64 (textN s p)] w' fun e w2 => e = .returned (.tuple #[.string v, .bool g]) ∧ After b w w2 s q f) :
    Calls Try.prog 43 #[.pointer (some ⟨b, 0, none⟩)] w fun e w' => e = .returned (.tuple #[.string v, .bool g]) ∧ After b w w' s q f := by
  rw [fitsN_iff] at hn
  have hy := number_yes h hp hs 2 (by omega) (by omega)
  rw [show numI (s.extract p (p + 2)).data.toList 2 = textN s p from rfl] at hy
  have bt : -9223372036854775808 ≤ textN s p ∧ textN s p ≤ 9223372036854775807 := by
    unfold textN numI
    rw [IntKind.wrap_i64]
    omega
  generalize textN s p = t at *
  have HY := Lib.hid hy
  have HC := Lib.hid hc
  clear hc hy hn
  go_enter Try.func43, Try.ntmps43
  go_wp2_with fail
  refine HY.out.mono ?_
  rintro e w1 ⟨rfl, H⟩
  go_wp2_with fail
  refine (HC.out w1 H).mono ?_
  rintro e w2 ⟨rfl, H2⟩
  go_wp2_with fail
  go_ret2
  exact ⟨rfl, H2⟩

set_option maxHeartbeats 400000 in
theorem text_rd {w : World} {b : Nat} {s : ByteArray} {p : Nat} {f : Bool} (h : Rd w b s p f) (hp : p ≤ s.size) (hs : s.size ≤ 9223372036854775807) :
    Calls Try.prog 30 #[.pointer (some ⟨b, 0, none⟩)] w fun e w' => e = .returned (.string (textM s p f).1) ∧ After b w w' s (textM s p f).2.1 (textM s p f).2.2 := by
  have hc : Calls Try.prog 40 #[.pointer (some ⟨b, 0, none⟩), .func (.func 43) #[.pointer (some ⟨b, 0, none⟩)] #[]]
      w fun e w' => e = .returned (.string (textM s p f).1) ∧ After b w w' s (textM s p f).2.1 (textM s p f).2.2 := by
    cases f with
    | true =>
      rw [show textM s p true = (ByteArray.empty, p, true) from by simp [textM]]
      exact wholeS_stop h
    | false =>
      by_cases hn : fitsN s p 2 = true
      · by_cases hm : fitsN s (p + 2) (textN s p) = true
        · rw [show textM s p false = (s.extract (p + 2) (p + 2 + (textN s p).toNat), p + 2 + (textN s p).toNat, false) from by unfold textM; rw [if_pos ⟨rfl, hn, hm⟩]]
          refine whole_text_yes h (rawtext_some h hp hs hn ?_)
          intro w' hA
          rw [fitsN_iff] at hm hn
          obtain ⟨k, hk⟩ := Int.eq_ofNat_of_zero_le hm.1
          rw [hk, Int.toNat_natCast]
          exact (next_yes hA.1 (by omega) hs k (by omega)).mono fun e w2 ⟨he, h2⟩ => ⟨he, h2.up hA.2⟩
        · rw [show textM s p false = (ByteArray.empty, p, true) from by unfold textM; rw [if_neg (fun c => hm c.2.2)]]
          refine whole_text_no (v := ByteArray.empty) (q := p + 2) h (rawtext_some h hp hs hn ?_)
          intro w' hA
          rw [fitsN_iff] at hm hn
          exact (next_no hA.1 (by omega) hs _ (by omega)).mono fun e w2 ⟨he, h2⟩ => ⟨he, h2.up hA.2⟩
      · rw [show textM s p false = (ByteArray.empty, p, true) from by unfold textM; rw [if_neg (fun c => hn c.2.1)]]
        exact whole_text_no h (rawtext_none h hp hs (by simpa using hn))
  have HC := Lib.hid hc
  clear hc
  go_enter Try.func30, Try.ntmps30
  go_wp2_with fail
  refine HC.out.mono ?_
  rintro e w' ⟨rfl, H⟩
  go_wp2_with fail
  go_ret
  exact ⟨rfl, H⟩
theorem text_nil (w : World) :
    Calls Try.prog 30 #[.pointer none] w fun e w' => e = .returned (.string ByteArray.empty) ∧ Below w.heap.size w w' := by
  go_enter Try.func30, Try.ntmps30
  go_wp2_with fail
  refine wholeS_nil.mono ?_
  rintro e w' ⟨rfl, rfl⟩
  go_wp2_with fail
  go_ret
  exact ⟨rfl, Below.refl _ _⟩

theorem read_any (s : ByteArray) (w : World) :
    Calls Try.prog 20 #[.string s] w fun e w' => e = .returned (.pointer (some ⟨w.heap.size, 0, none⟩)) ∧ Rd w' w.heap.size s 0 false ∧ Below w.heap.size w w' := by
  go_enter Try.func20, Try.ntmps20
  go_wp2_with fail
  go_ret
  refine ⟨rfl, ⟨?_, ?_, ?_, ?_, ?_, ?_⟩, (Below.refl _ _).alloc (Nat.le_refl _) _⟩
  all_goals simp
end Go.Proofs.Ytgeealjhjlaoeaa
