/- The reader's calls, case by case, over a world in which nothing that was there at first has changed. -/
import Derived.Test.YtgeealjhjlaoeaaOctOne
namespace Go.Proofs.Ytgeealjhjlaoeaa
open Go.RowKit Oct

/-- The reader's own block is newer than W0; nothing of W0 has changed. -/
structure Own (W0 w : World) (b : Nat) (s : ByteArray) (p : Nat) (f : Bool) : Prop where
  rd : Rd w b s p f
  bel : Below W0.heap.size W0 w
  new : W0.heap.size ≤ b
  hp : p ≤ s.size
  hs : s.size ≤ 9223372036854775807

theorem Own.after {W0 w w' : World} {b : Nat} {s : ByteArray} {p q : Nat} {f g : Bool} (h : Own W0 w b s p f) (ha : After b w w' s q g) (hq : q ≤ s.size) : Own W0 w' b s q g :=
  ⟨ha.1, h.bel.trans ((ha.2.mono h.bel.size).below h.new), h.new, hq, h.hs⟩
theorem Own.drewN {W0 w : World} {b : Nat} {s : ByteArray} {p : Nat} {f : Bool} (h : Own W0 w b s p f) (n : Nat) : Own W0 (w.drewN n) b s p f :=
  ⟨h.rd.drewN n, ⟨h.bel.os, h.bel.tape, h.bel.output, h.bel.size, h.bel.block⟩, h.new, h.hp, h.hs⟩
theorem Own.below {W0 w w' : World} {b : Nat} {s : ByteArray} {p : Nat} {f : Bool} (h : Own W0 w b s p f) (hb : Below w.heap.size w w') : Own W0 w' b s p f :=
  ⟨h.rd.below hb h.rd.lt, h.bel.trans (hb.mono h.bel.size), h.new, h.hp, h.hs⟩
/-- Another reader's call leaves this one as it is. -/
theorem Own.other {W0 w w' : World} {b c : Nat} {s : ByteArray} {p : Nat} {f : Bool} (h : Own W0 w b s p f) (hc : W0.heap.size ≤ c) (hne : b ≠ c) (ho : Other w.heap.size c w w') : Own W0 w' b s p f :=
  ⟨h.rd.keep (ho.block h.rd.lt hne) ho.size, h.bel.trans ((ho.mono h.bel.size).below hc), h.new, h.hp, h.hs⟩

section
variable {W0 w : World} {b : Nat} {s : ByteArray} {p : Nat} {f : Bool}

theorem read_own (x : ByteArray) (hx : x.size ≤ 9223372036854775807) (hb : Below W0.heap.size W0 w) :
    Calls Try.prog 20 #[.string x] w fun e w' => e = .returned (.pointer (some ⟨w.heap.size, 0, none⟩)) ∧ Own W0 w' w.heap.size x 0 false ∧ Below w.heap.size w w' :=
  (read_any x w).mono fun _ _ ⟨he, hr, h2⟩ => ⟨he, ⟨hr, hb.trans (h2.mono hb.size), hb.size, Nat.zero_le _, hx⟩, h2⟩

theorem take_yes (h : Own W0 w b s p false) (k : Nat) (hk : p + k ≤ s.size) :
    Calls Try.prog 29 #[.pointer (some ⟨b, 0, none⟩), .int .i64 k] w fun e w' => e = .returned (.string (s.extract p (p + k))) ∧ Own W0 w' b s (p + k) false ∧ Other w.heap.size b w w' := by
  have := take_rd h.rd h.hp h.hs k
  rw [show takeM s p false (k : Int) = (s.extract p (p + k), p + k, false) from by unfold takeM; rw [if_pos ⟨rfl, by rw [fitsN_iff]; omega⟩]; simp] at this
  exact this.mono fun _ _ ⟨he, ha⟩ => ⟨he, h.after ha hk, ha.2⟩
theorem take_fail (h : Own W0 w b s p f) (n : Int) (hn : f = true ∨ n < 0 ∨ (s.size : Int) - p < n) :
    Calls Try.prog 29 #[.pointer (some ⟨b, 0, none⟩), .int .i64 n] w fun e w' => e = .returned (.string ByteArray.empty) ∧ Own W0 w' b s p true ∧ Other w.heap.size b w w' := by
  have := take_rd h.rd h.hp h.hs n
  rw [show takeM s p f n = (ByteArray.empty, p, true) from by
    unfold takeM
    rw [if_neg]
    rintro ⟨a, c⟩
    rw [fitsN_iff] at c
    subst a
    rcases hn with hn | hn | hn
    · cases hn
    · omega
    · omega] at this
  exact this.mono fun _ _ ⟨he, ha⟩ => ⟨he, h.after ha h.hp, ha.2⟩
theorem num_yes (h : Own W0 w b s p false) (k : Nat) (h8 : k ≤ 8) (hk : p + k ≤ s.size) :
    Calls Try.prog 28 #[.pointer (some ⟨b, 0, none⟩), .int .i64 k] w fun e w' => e = .returned (.int .i64 (numI (s.extract p (p + k)).data.toList k)) ∧ Own W0 w' b s (p + k) false ∧ Other w.heap.size b w w' := by
  have := num_rd h.rd h.hp h.hs k
  rw [show numM s p false (k : Int) = (numI (s.extract p (p + k)).data.toList k, p + k, false) from by unfold numM; rw [if_pos ⟨rfl, by omega, by rw [fitsN_iff]; omega⟩]; simp] at this
  exact this.mono fun _ _ ⟨he, ha⟩ => ⟨he, h.after ha hk, ha.2⟩
theorem num_fail (h : Own W0 w b s p f) (n : Int) (hn : f = true ∨ n < 0 ∨ 8 < n ∨ (s.size : Int) - p < n) :
    Calls Try.prog 28 #[.pointer (some ⟨b, 0, none⟩), .int .i64 n] w fun e w' => e = .returned (.int .i64 0) ∧ Own W0 w' b s p true ∧ Other w.heap.size b w w' := by
  have := num_rd h.rd h.hp h.hs n
  rw [numM_no s p f n (by
    rcases hn with hn | hn
    · exact Or.inl hn
    · right
      rintro ⟨a, c⟩
      rw [fitsN_iff] at c
      omega)] at this
  exact this.mono fun _ _ ⟨he, ha⟩ => ⟨he, h.after ha h.hp, ha.2⟩
theorem int_yes (h : Own W0 w b s p false) (k : Nat) (h8 : k ≤ 8) (hk : p + k ≤ s.size) :
    Calls Try.prog 27 #[.pointer (some ⟨b, 0, none⟩), .int .i64 k] w fun e w' => e = .returned (.int .i64 (sgn (numI (s.extract p (p + k)).data.toList k) k)) ∧ Own W0 w' b s (p + k) false ∧ Other w.heap.size b w w' := by
  have := int_rd h.rd h.hp h.hs k
  rw [show intM s p false (k : Int) = (sgn (numI (s.extract p (p + k)).data.toList k) k, p + k, false) from by unfold intM; rw [if_pos ⟨rfl, by omega, by rw [fitsN_iff]; omega⟩]; simp] at this
  exact this.mono fun _ _ ⟨he, ha⟩ => ⟨he, h.after ha hk, ha.2⟩
theorem int_fail (h : Own W0 w b s p f) (n : Int) (hn : f = true ∨ n < 0 ∨ 8 < n ∨ (s.size : Int) - p < n) :
    Calls Try.prog 27 #[.pointer (some ⟨b, 0, none⟩), .int .i64 n] w fun e w' => e = .returned (.int .i64 0) ∧ Own W0 w' b s p true ∧ Other w.heap.size b w w' := by
  have := int_rd h.rd h.hp h.hs n
  rw [intM_no s p f n (by
    rcases hn with hn | hn
    · exact Or.inl hn
    · right
      rintro ⟨a, c⟩
      rw [fitsN_iff] at c
      omega)] at this
  exact this.mono fun _ _ ⟨he, ha⟩ => ⟨he, h.after ha h.hp, ha.2⟩
theorem text_dead (h : Own W0 w b s p true) :
    Calls Try.prog 30 #[.pointer (some ⟨b, 0, none⟩)] w fun e w' => e = .returned (.string ByteArray.empty) ∧ Own W0 w' b s p true ∧ Other w.heap.size b w w' := by
  have := text_rd h.rd h.hp h.hs
  rw [show textM s p true = (ByteArray.empty, p, true) from by simp [textM]] at this
  exact this.mono fun _ _ ⟨he, ha⟩ => ⟨he, h.after ha h.hp, ha.2⟩
theorem left_own (h : Own W0 w b s p f) :
    Calls Try.prog 24 #[.pointer (some ⟨b, 0, none⟩)] w fun e w' => e = .returned (.int .i64 (s.size - p)) ∧ Own W0 w' b s p f ∧ Other w.heap.size b w w' :=
  (left_rd h.rd h.hp h.hs).mono fun _ _ ⟨he, n, hw⟩ => ⟨he, hw ▸ h.drewN n, hw ▸ (Other.refl _ _ _).drewN n⟩
theorem at_own (h : Own W0 w b s p f) :
    Calls Try.prog 23 #[.pointer (some ⟨b, 0, none⟩)] w fun e w' => e = .returned (.int .i64 p) ∧ w = w' := at_rd h.rd
theorem failed_own (h : Own W0 w b s p f) :
    Calls Try.prog 26 #[.pointer (some ⟨b, 0, none⟩)] w fun e w' => e = .returned (.bool f) ∧ w = w' := failed_rd h.rd
end

set_option maxHeartbeats 2000000 in
theorem fails_walk (a : ByteArray) (n m : Nat) (w : World) (ha : a.size ≤ maxLen) (hn : n < 256) (hm : m < 256) :
    Calls Try.prog 8 #[.string a, .int .u8 n, .int .u8 m] w fun e w' => e = .returned (.bool true) ∧ Below w.heap.size w w' := by
  have f1 := fewS_size a
  generalize hx : fewS a = x at *
  have HX := Lib.hid hx
  clear hx
  go_enter Try.func8, Try.ntmps8
  go_wp2_with fail
  refine (shown_any _).mono ?_
  rintro e w1 ⟨rfl, hb1⟩
  go_wp2_with fail
  refine (few_any _ _ ha).mono ?_
  rintro e w2 ⟨rfl, rfl⟩
  rw [HX.out]
  go_wp2_with fail
  refine (read_own x (by omega) hb1).mono ?_
  rintro e w2 ⟨rfl, ho, _⟩
  go_wp2_with fail
  refine (few_any _ _ ha).mono ?_
  rintro e w3 ⟨rfl, rfl⟩
  rw [HX.out]
  go_wp2_with fail
  obtain ⟨k, hk⟩ : ∃ k, k = n % (x.size + 1) := ⟨_, rfl⟩
  have hkx : k ≤ x.size := by have := Nat.mod_lt n (show x.size + 1 > 0 by omega); omega
  have hki : (n : Int) % ((x.size : Int) + 1) = k := by rw [hk, Int.natCast_emod]; rfl
  rw [hki]
  clear hk hki
  refine (take_yes ho k (by omega)).mono ?_
  rintro e w3 ⟨rfl, ho3, _⟩
  rw [Nat.zero_add] at ho3 ⊢
  go_wp2_with fail
  refine (few_any _ _ ha).mono ?_
  rintro e w4 ⟨rfl, rfl⟩
  rw [HX.out]
  go_wp2_with fail
  refine (failed_own ho3).mono ?_
  rintro e w4 ⟨rfl, rfl⟩
  go_wp2_with fail
  refine (left_own ho3).mono ?_
  rintro e w4 ⟨rfl, ho4, _⟩
  go_wp2_with fail
  all_goals
    first
      | (go_at_call 29; refine (take_fail ho4 _ (Or.inr (by omega))).mono ?_)
      | (go_at_call 28; refine (num_fail ho4 _ (Or.inr (by omega))).mono ?_)
      | (go_at_call 27; refine (int_fail ho4 _ (Or.inr (by omega))).mono ?_)
    rintro e w5 ⟨rfl, ho5, _⟩
    go_wp2_with (first
      | (go_at_call 26; refine (failed_own (by assumption)).mono ?_; rintro e w' ⟨rfl, rfl⟩)
      | (go_at_call 23; refine (at_own (by assumption)).mono ?_; rintro e w' ⟨rfl, rfl⟩)
      | (go_at_call 24; refine (left_own (by assumption)).mono ?_; rintro e w' ⟨rfl, ho', _⟩)
      | (go_at_call 29; refine (take_fail (f := true) (by assumption) _ (Or.inl rfl)).mono ?_; rintro e w' ⟨rfl, ho', _⟩)
      | (go_at_call 28; refine (num_fail (f := true) (by assumption) _ (Or.inl rfl)).mono ?_; rintro e w' ⟨rfl, ho', _⟩)
      | (go_at_call 27; refine (int_fail (f := true) (by assumption) _ (Or.inl rfl)).mono ?_; rintro e w' ⟨rfl, ho', _⟩)
      | (go_at_call 30; refine (text_dead (by assumption)).mono ?_; rintro e w' ⟨rfl, ho', _⟩))
    go_ret
    exact ⟨rfl, Own.bel (by assumption)⟩

theorem failsV (a : ByteArray) (p q : Int) (w : World) (ha : a.size ≤ maxLen) (hp : 0 ≤ p ∧ p ≤ 255) (hq : 0 ≤ q ∧ q ≤ 255) :
    Calls Try.prog 8 #[.string a, .int .u8 p, .int .u8 q] w fun e w' => e = .returned (.bool true) ∧ Below w.heap.size w w' := by
  obtain ⟨n, rfl⟩ := Int.eq_ofNat_of_zero_le hp.1
  obtain ⟨m, rfl⟩ := Int.eq_ofNat_of_zero_le hq.1
  exact fails_walk a n m w ha (by omega) (by omega)
end Go.Proofs.Ytgeealjhjlaoeaa
