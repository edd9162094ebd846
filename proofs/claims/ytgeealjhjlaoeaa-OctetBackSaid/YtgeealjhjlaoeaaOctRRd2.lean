/- The reference's Reader: Int, Text, Left. -/
import Derived.Test.YtgeealjhjlaoeaaOctRRd
namespace Go.Proofs.Ytgeealjhjlaoeaa
open Go.RowKit Oct

set_option maxHeartbeats 1000000 in
theorem rint_mid {w : World} {b : Nat} {s : ByteArray} {p : Nat} (h : Rd w b s p false) (hp : p ≤ s.size) (hs : s.size ≤ 9223372036854775807) (k : Nat) (h1 : 1 ≤ k) (h7 : k ≤ 7) (hf : fitsN s p k = true) :
    Calls Try.prog 33 #[.pointer (some ⟨b, 0, none⟩), .int .i64 k] w fun e w' => e = .returned (.int .i64 (sgn (numI (s.extract p (p + k)).data.toList k) k)) ∧ After b w w' s (p + k) false := by
  have hc := rnum_yes h hp hs k (by omega) hf
  have hv := numI_bd (s.extract p (p + k)).data.toList k h7
  generalize numI (s.extract p (p + k)).data.toList k = v at *
  have hv0 := hv.1
  have HV := Lib.hid hv
  clear hv
  have HC := Lib.hid hc
  clear hc hf
  have e0 : ((k : Int) == 0) = false := beq_eq_false_iff_ne.2 (by omega)
  have e8 : ((k : Int) == 8) = false := beq_eq_false_iff_ne.2 (by omega)
  go_enter Try.func33, Try.ntmps33
  go_wp2_with fail
  refine HC.out.mono ?_
  rintro e w' ⟨rfl, H⟩
  have HH := Lib.hid H
  obtain ⟨⟨d0, d1, d2, y1, y2, lt2⟩, O⟩ := H
  go_wp2_with fail
  · have hl : v < wrap64 (2 ^ (8 * k - 1)) := by assumption
    go_ret
    exact ⟨congrArg (fun x => Ending.returned (.int .i64 x)) (sgn_lo v k h1 h7 hv0 hl), HH.out⟩
  · have hl : wrap64 (2 ^ (8 * k - 1)) ≤ v := by assumption
    go_ret
    exact ⟨congrArg (fun x => Ending.returned (.int .i64 x)) (sgn_hi v k h1 h7 HV.out.2 hl), HH.out⟩

set_option maxHeartbeats 1000000 in
/-- At no bytes, at eight, and behind a failure Int is Num. -/
theorem rint_end {w : World} {b : Nat} {s : ByteArray} {q : Nat} {g : Bool} {n v : Int}
    (hc : Calls Try.prog 32 #[.pointer (some ⟨b, 0, none⟩), .int .i64 n] w fun e w' => e = .returned (.int .i64 v) ∧ After b w w' s q g)
    (hg : g = true ∨ n = 0 ∨ n = 8) :
    Calls Try.prog 33 #[.pointer (some ⟨b, 0, none⟩), .int .i64 n] w fun e w' => e = .returned (.int .i64 v) ∧ After b w w' s q g := by
  have HC := Lib.hid hc
  clear hc
  cases g with
  | true =>
    clear hg
    go_enter Try.func33, Try.ntmps33
    go_wp2_with fail
    refine HC.out.mono ?_
    rintro e w' ⟨rfl, H⟩
    have HH := Lib.hid H
    obtain ⟨⟨d0, d1, d2, y1, y2, lt2⟩, O⟩ := H
    go_wp2_with fail
    go_ret
    exact ⟨rfl, HH.out⟩
  | false =>
    have hn : n = 0 ∨ n = 8 := by
      rcases hg with h | h
      · cases h
      · exact h
    rcases hn with rfl | rfl
    · clear hg
      go_enter Try.func33, Try.ntmps33
      go_wp2_with fail
      refine HC.out.mono ?_
      rintro e w' ⟨rfl, H⟩
      have HH := Lib.hid H
      obtain ⟨⟨d0, d1, d2, y1, y2, lt2⟩, O⟩ := H
      go_wp2_with fail
      go_ret
      exact ⟨rfl, HH.out⟩
    · clear hg
      go_enter Try.func33, Try.ntmps33
      go_wp2_with fail
      refine HC.out.mono ?_
      rintro e w' ⟨rfl, H⟩
      have HH := Lib.hid H
      obtain ⟨⟨d0, d1, d2, y1, y2, lt2⟩, O⟩ := H
      go_wp2_with fail
      go_ret
      exact ⟨rfl, HH.out⟩

theorem intM_no (s : ByteArray) (p : Nat) (f : Bool) (n : Int) (hf : f = true ∨ ¬ (n ≤ 8 ∧ fitsN s p n = true)) : intM s p f n = (0, p, true) := by
  unfold intM
  rw [if_neg]
  rintro ⟨a, b⟩
  rcases hf with hf | hf
  · rw [a] at hf
    cases hf
  · exact hf b
theorem rint_rd {w : World} {b : Nat} {s : ByteArray} {p : Nat} {f : Bool} (h : Rd w b s p f) (hp : p ≤ s.size) (hs : s.size ≤ 9223372036854775807) (n : Int) :
    Calls Try.prog 33 #[.pointer (some ⟨b, 0, none⟩), .int .i64 n] w fun e w' => e = .returned (.int .i64 (intM s p f n).1) ∧ After b w w' s (intM s p f n).2.1 (intM s p f n).2.2 := by
  by_cases hf : f = true ∨ ¬ (n ≤ 8 ∧ fitsN s p n = true)
  · rw [intM_no s p f n hf]
    exact rint_end (rnum_none h hp hs n hf) (Or.inl rfl)
  · have hf' : ¬ f = true ∧ (n ≤ 8 ∧ fitsN s p n = true) := by
      constructor
      · exact fun c => hf (Or.inl c)
      · exact Classical.byContradiction fun c => hf (Or.inr c)
    obtain ⟨hg, h8, hfit⟩ := hf'
    have hg2 : f = false := by simpa using hg
    subst hg2
    have hb := hfit
    rw [fitsN_iff] at hb
    obtain ⟨k, rfl⟩ := Int.eq_ofNat_of_zero_le hb.1
    rw [show intM s p false k = (sgn (numI (s.extract p (p + k)).data.toList k) k, p + k, false) from by unfold intM; rw [if_pos ⟨rfl, h8, hfit⟩]; simp]
    have hy := rnum_yes h hp hs k (by omega) hfit
    by_cases e0 : k = 0
    · subst e0
      have hr := rint_end hy (Or.inr (Or.inl rfl))
      rw [numI_zero] at hr ⊢
      rw [sgn_zero]
      exact hr
    · by_cases e8 : k = 8
      · subst e8
        have hr := rint_end hy (Or.inr (Or.inr rfl))
        have hb8 := numI_full (s.extract p (p + 8)).data.toList 8
        rw [sgn_eight _ hb8.1 hb8.2]
        exact hr
      · exact rint_mid h hp hs k (by omega) (by omega) hfit
theorem rleft_rd {w : World} {b : Nat} {s : ByteArray} {p : Nat} {f : Bool} (h : Rd w b s p f) (hp : p ≤ s.size) (hs : s.size ≤ 9223372036854775807) :
    Calls Try.prog 25 #[.pointer (some ⟨b, 0, none⟩)] w fun e w' => e = .returned (.int .i64 (s.size - p)) ∧ ∃ n, w' = w.drewN n := by
  obtain ⟨c0, c1, c2, z1, z2, lt⟩ := h
  go_enter Try.func25, Try.ntmps25
  go_wp2_with fail
  go_quiet (fail)
  go_wp2
  go_ret
  exact ⟨rfl, _, rfl⟩

theorem numM_ok (s : ByteArray) (p : Nat) (f : Bool) (n : Int) (hp : p ≤ s.size) : (numM s p f n).2.1 ≤ s.size ∧ p ≤ (numM s p f n).2.1 := by
  unfold numM
  split
  · rename_i h
    have := h.2.2
    rw [fitsN_iff] at this
    show p + n.toNat ≤ s.size ∧ p ≤ p + n.toNat
    omega
  · exact ⟨hp, Nat.le_refl _⟩
set_option maxHeartbeats 1000000 in
theorem rtext_rd {w : World} {b : Nat} {s : ByteArray} {p : Nat} {f : Bool} (h : Rd w b s p f) (hp : p ≤ s.size) (hs : s.size ≤ 9223372036854775807) :
    Calls Try.prog 34 #[.pointer (some ⟨b, 0, none⟩)] w fun e w' => e = .returned (.string (textM s p f).1) ∧ After b w w' s (textM s p f).2.1 (textM s p f).2.2 := by
  have hn := rnum_rd h hp hs 2
  by_cases ht : f = false ∧ fitsN s p 2 = true ∧ fitsN s (p + 2) (textN s p) = true
  · obtain ⟨rfl, h2, h3⟩ := ht
    rw [show textM s p false = (s.extract (p + 2) (p + 2 + (textN s p).toNat), p + 2 + (textN s p).toNat, false) from by unfold textM; rw [if_pos ⟨rfl, h2, h3⟩]]
    rw [show numM s p false 2 = (textN s p, p + 2, false) from by unfold numM; rw [if_pos ⟨rfl, by omega, h2⟩]; rfl] at hn
    have hk : ∀ w', Rd w' b s (p + 2) false → _ := fun w' hr => rtake_rd hr (by rw [fitsN_iff] at h2; omega) hs (textN s p)
    rw [show takeM s (p + 2) false (textN s p) = (s.extract (p + 2) (p + 2 + (textN s p).toNat), p + 2 + (textN s p).toNat, false) from by unfold takeM; rw [if_pos ⟨rfl, h3⟩]] at hk
    have bt := numI_full (s.extract p (p + 2)).data.toList 2
    rw [show numI (s.extract p (p + 2)).data.toList 2 = textN s p from rfl] at bt
    generalize s.extract (p + 2) (p + 2 + (textN s p).toNat) = t at *
    generalize p + 2 + (textN s p).toNat = q at *
    generalize textN s p = m at *
    have HN := Lib.hid hn
    have HK := Lib.hid hk
    obtain ⟨c0, c1, c2, z1, z2, lt⟩ := h
    clear hn hk h2 h3
    go_enter Try.func34, Try.ntmps34
    go_wp2_with fail
    refine HN.out.mono ?_
    rintro e w1 ⟨rfl, H1⟩
    go_wp2_with fail
    refine (HK.out w1 H1.1).mono ?_
    rintro e w2 ⟨rfl, H2⟩
    have HH := Lib.hid (H2.up H1.2)
    obtain ⟨⟨d0, d1, d2, y1, y2, lt2⟩, O⟩ := H2
    go_wp2_with fail
    go_ret
    exact ⟨rfl, HH.out⟩
  · rw [show textM s p f = (ByteArray.empty, p, true) from by unfold textM; rw [if_neg ht]]
    have hk : ∀ w', Rd w' b s (numM s p f 2).2.1 (numM s p f 2).2.2 → Calls Try.prog 35 #[.pointer (some ⟨b, 0, none⟩), .int .i64 (numM s p f 2).1] w' fun e w2 => e = .returned (.string ByteArray.empty) ∧ After b w' w2 s (numM s p f 2).2.1 true := by
      intro w' hr
      have hq := numM_ok s p f 2 hp
      have := rtake_rd hr hq.1 hs (numM s p f 2).1
      have e : takeM s (numM s p f 2).2.1 (numM s p f 2).2.2 (numM s p f 2).1 = (ByteArray.empty, (numM s p f 2).2.1, true) := by
        by_cases h2 : f = false ∧ fitsN s p 2 = true
        · obtain ⟨rfl, h2⟩ := h2
          rw [show numM s p false 2 = (textN s p, p + 2, false) from by unfold numM; rw [if_pos ⟨rfl, by omega, h2⟩]; rfl]
          exact takeM_no _ _ _ (fun c => ht ⟨rfl, h2, c⟩)
        · have : numM s p f 2 = (0, p, true) := by unfold numM; rw [if_neg (fun c => h2 ⟨c.1, c.2.2⟩)]
          rw [this]
          exact takeM_true _ _ _
      rw [e] at this
      exact this
    have bt : -9223372036854775808 ≤ (numM s p f 2).1 ∧ (numM s p f 2).1 ≤ 9223372036854775807 := by
      unfold numM
      split
      · exact numI_full _ _
      · show (-9223372036854775808 : Int) ≤ 0 ∧ (0 : Int) ≤ 9223372036854775807
        decide
    generalize (numM s p f 2).1 = m at *
    generalize (numM s p f 2).2.1 = q at *
    generalize (numM s p f 2).2.2 = g at *
    have HN := Lib.hid hn
    have HK := Lib.hid hk
    obtain ⟨c0, c1, c2, z1, z2, lt⟩ := h
    clear hn hk ht
    go_enter Try.func34, Try.ntmps34
    go_wp2_with fail
    refine HN.out.mono ?_
    rintro e w1 ⟨rfl, H1⟩
    go_wp2_with fail
    refine (HK.out w1 H1.1).mono ?_
    rintro e w2 ⟨rfl, H2⟩
    have HH := Lib.hid (H2.up H1.2)
    obtain ⟨⟨d0, d1, d2, y1, y2, lt2⟩, O⟩ := H2
    go_wp2_with fail
    go_ret
    exact ⟨rfl, HH.out.1.set1 p, HH.out.2.set _ _⟩
end Go.Proofs.Ytgeealjhjlaoeaa
