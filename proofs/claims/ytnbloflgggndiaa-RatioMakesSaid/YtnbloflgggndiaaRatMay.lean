/- The contracts of mayBe, tell. -/
import Derived.Test.YtnbloflgggndiaaRatDiv
namespace Go.Proofs.Ytnbloflgggndiaa
open Go.RowKit Rt

theorem Rt.mg_gcd (N D : Int) : Int.gcd (mg N) D = Int.gcd N D := by
  unfold mg
  split
  · rw [Int.neg_gcd]
  · rfl

set_option maxHeartbeats 1000000 in
theorem may_any (N D : Int) (w : World) (h1 : -9223372036854775808 ≤ N) (h2 : N ≤ 9223372036854775807) (h3 : -9223372036854775808 ≤ D) (h4 : D ≤ 9223372036854775807) :
    Calls Try.prog 28 #[.agg #[.int .i64 N, .int .i64 D]] w fun e w' => e = .returned (.bool (mayB N D)) ∧ Below w.heap.size w w' := by
  by_cases hd : 0 < D
  · have hd' : decide (0 < D) = true := by simpa using hd
    by_cases hn : N = -9223372036854775808
    · subst hn
      have HV := Lib.hid (show mayB (-9223372036854775808) D = false by unfold mayB; simp)
      rw [HV.out]
      go_enter Try.func28, Try.ntmps28
      go_wp2_with fail
      go_quiet (fail)
      go_wp2_with fail
      go_ret
      exact ⟨rfl, below_drewN ((Below.refl _ _).alloc (Nat.le_refl _) _) _⟩
    · have hn' : (N != -9223372036854775808) = true := by simpa using hn
      have hm := mg_bd N h1 h2
      have HM := Lib.hid (mag_any N · h1 h2)
      have HV := Lib.hid (show (((Int.gcd (mg N) D : Nat) : Int) == 1) = mayB N D by
        unfold mayB
        rw [mg_gcd N D, Bool.eq_iff_iff]
        simp [hd, hn]
        omega)
      generalize hg : mg N = m at *
      have HD := Lib.hid (fun w => divisor_any m D w hm.1 (by omega) (by omega) (by omega))
      clear hg
      generalize hk : (Int.gcd m D : Int) = k at *
      clear hk
      go_enter Try.func28, Try.ntmps28
      go_wp2_with fail
      go_quiet ((first | (go_at_call 23; exact Calls.quiet_of_same ((HM.out _).mono fun e w' h => ⟨h.1, h.2.symm⟩)) | (go_at_call 24; exact Calls.quiet_of (HD.out _))))
      go_wp2_with fail
      go_ret
      exact ⟨ret_bool HV.out, below_drewN ((Below.refl _ _).alloc (Nat.le_refl _) _) _⟩
  · have hd' : decide (0 < D) = false := by simpa using hd
    have HV := Lib.hid (show mayB N D = false by unfold mayB; simp [hd])
    rw [HV.out]
    go_enter Try.func28, Try.ntmps28
    go_wp2_with fail
    go_quiet (fail)
    go_wp2_with fail
    go_ret
    exact ⟨rfl, below_drewN ((Below.refl _ _).alloc (Nat.le_refl _) _) _⟩

/-- What tell answers: a ratio and whether there is one. -/
def RatIs (N D : Int) (b : Bool) (w : World) (e : Ending) (w' : World) : Prop := e = .returned (.tuple #[.agg #[.int .i64 N, .int .i64 D], .bool b]) ∧ Below w.heap.size w w'

set_option maxHeartbeats 1000000 in
theorem tell_yes (H L x H2 L2 d : Int) (p : Bool) (w : World) (hw : IsW H L x) (hw2 : IsW H2 L2 d) (h1 : -9223372036854775808 < sg p x) (h2 : sg p x ≤ 9223372036854775807) (h3 : d ≤ 9223372036854775807) :
    Calls Try.prog 25 #[.agg #[.int .u64 H, .int .u64 L, .bool p], .agg #[.int .u64 H2, .int .u64 L2]] w (RatIs (sg p x) d true w) := by
  have HT := Lib.hid (told_any H L x p · hw)
  have HT2 := Lib.hid (told_any H2 L2 d false · hw2)
  have h0 := hw2.nonneg
  rw [sg_false, toldN_in d (by omega) h3, toldB_in d (by omega) h3] at HT2
  rw [toldN_in _ (by omega) h2, toldB_in _ (by omega) h2] at HT
  generalize sg p x = v at *
  have hv : (v == -9223372036854775808) = false := by simp; omega
  clear hw hw2
  go_enter Try.func25, Try.ntmps25
  go_wp2_with fail
  refine (HT.out _).mono ?_
  rintro e w1 ⟨rfl, hb1⟩
  obtain ⟨hc1, hf1⟩ := bcell hb1
  have hz1 := hb1.size
  simp at hz1
  go_wp2_with fail
  refine (HT2.out _).mono ?_
  rintro e w2 ⟨rfl, hb2'⟩
  have hb2 := hb1.trans (hb2'.mono hb1.size)
  clear hb2' hc1 hf1 hz1
  obtain ⟨hc2, hf2⟩ := bcell hb2
  have hz2 := hb2.size
  simp at hz2
  go_wp2_with fail
  refine bodyPost_ret (v := .tuple #[.agg #[.int .i64 v, .int .i64 d], .bool true]) (by simp [results, Try.results25, go_sem, hc2]) rfl ⟨rfl, ?_⟩
  exact ((below3' hb2).setCell (by simp; omega) _).setCell (by simp; omega) _

set_option maxHeartbeats 1000000 in
theorem tell_low (H L x H2 L2 d : Int) (p : Bool) (w : World) (hw : IsW H L x) (hw2 : IsW H2 L2 d) (h1 : sg p x = -9223372036854775808) (h3 : d ≤ 9223372036854775807) :
    Calls Try.prog 25 #[.agg #[.int .u64 H, .int .u64 L, .bool p], .agg #[.int .u64 H2, .int .u64 L2]] w (RatIs 0 0 false w) := by
  have HT := Lib.hid (told_any H L x p · hw)
  have HT2 := Lib.hid (told_any H2 L2 d false · hw2)
  have h0 := hw2.nonneg
  rw [sg_false, toldN_in d (by omega) h3, toldB_in d (by omega) h3] at HT2
  rw [toldN_in _ (by omega) (by omega), toldB_in _ (by omega) (by omega), h1] at HT
  clear hw hw2 h1 h3 h0
  go_enter Try.func25, Try.ntmps25
  go_wp2_with fail
  refine (HT.out _).mono ?_
  rintro e w1 ⟨rfl, hb1⟩
  obtain ⟨hc1, hf1⟩ := bcell hb1
  have hz1 := hb1.size
  simp at hz1
  go_wp2_with fail
  refine (HT2.out _).mono ?_
  rintro e w2 ⟨rfl, hb2'⟩
  have hb2 := hb1.trans (hb2'.mono hb1.size)
  clear hb2' hc1 hf1 hz1
  obtain ⟨hc2, hf2⟩ := bcell hb2
  have hz2 := hb2.size
  simp at hz2
  go_wp2_with fail
  refine bodyPost_ret (v := .tuple #[.agg #[.int .i64 0, .int .i64 0], .bool false]) (by simp [results, Try.results25, go_sem, hc2]) rfl ⟨rfl, ?_⟩
  exact ((below3' hb2).setCell (by simp; omega) _).setCell (by simp; omega) _

set_option maxHeartbeats 1000000 in
theorem tell_over (H L x H2 L2 d : Int) (p : Bool) (w : World) (hw : IsW H L x) (hw2 : IsW H2 L2 d) (h1 : ¬ (-9223372036854775808 ≤ sg p x ∧ sg p x ≤ 9223372036854775807)) :
    Calls Try.prog 25 #[.agg #[.int .u64 H, .int .u64 L, .bool p], .agg #[.int .u64 H2, .int .u64 L2]] w (RatIs 0 0 false w) := by
  have HT := Lib.hid (told_any H L x p · hw)
  have HT2 := Lib.hid (told_any H2 L2 d false · hw2)
  rw [toldN_out _ h1, toldB_out _ h1] at HT
  generalize toldN (sg false d) = y at *
  generalize toldB (sg false d) = z at *
  clear hw hw2 h1
  go_enter Try.func25, Try.ntmps25
  go_wp2_with fail
  refine (HT.out _).mono ?_
  rintro e w1 ⟨rfl, hb1⟩
  obtain ⟨hc1, hf1⟩ := bcell hb1
  have hz1 := hb1.size
  simp at hz1
  go_wp2_with fail
  refine (HT2.out _).mono ?_
  rintro e w2 ⟨rfl, hb2'⟩
  have hb2 := hb1.trans (hb2'.mono hb1.size)
  clear hb2' hc1 hf1 hz1
  obtain ⟨hc2, hf2⟩ := bcell hb2
  have hz2 := hb2.size
  simp at hz2
  go_wp2_with fail
  refine bodyPost_ret (v := .tuple #[.agg #[.int .i64 0, .int .i64 0], .bool false]) (by simp [results, Try.results25, go_sem, hc2]) rfl ⟨rfl, ?_⟩
  exact ((below3' hb2).setCell (by simp; omega) _).setCell (by simp; omega) _

set_option maxHeartbeats 1000000 in
theorem tell_deep (H L x H2 L2 d : Int) (p : Bool) (w : World) (hw : IsW H L x) (hw2 : IsW H2 L2 d) (h1 : -9223372036854775808 ≤ sg p x ∧ sg p x ≤ 9223372036854775807) (h3 : ¬ d ≤ 9223372036854775807) :
    Calls Try.prog 25 #[.agg #[.int .u64 H, .int .u64 L, .bool p], .agg #[.int .u64 H2, .int .u64 L2]] w (RatIs 0 0 false w) := by
  have HT := Lib.hid (told_any H L x p · hw)
  have HT2 := Lib.hid (told_any H2 L2 d false · hw2)
  rw [sg_false, toldN_out d (by omega), toldB_out d (by omega)] at HT2
  rw [toldN_in _ h1.1 h1.2, toldB_in _ h1.1 h1.2] at HT
  generalize sg p x = v at *
  clear hw hw2 h1 h3
  go_enter Try.func25, Try.ntmps25
  go_wp2_with fail
  refine (HT.out _).mono ?_
  rintro e w1 ⟨rfl, hb1⟩
  obtain ⟨hc1, hf1⟩ := bcell hb1
  have hz1 := hb1.size
  simp at hz1
  go_wp2_with fail
  refine (HT2.out _).mono ?_
  rintro e w2 ⟨rfl, hb2'⟩
  have hb2 := hb1.trans (hb2'.mono hb1.size)
  clear hb2' hc1 hf1 hz1
  obtain ⟨hc2, hf2⟩ := bcell hb2
  have hz2 := hb2.size
  simp at hz2
  go_wp2_with fail
  refine bodyPost_ret (v := .tuple #[.agg #[.int .i64 0, .int .i64 0], .bool false]) (by simp [results, Try.results25, go_sem, hc2]) rfl ⟨rfl, ?_⟩
  exact ((below3' hb2).setCell (by simp; omega) _).setCell (by simp; omega) _

theorem tell_no (H L x H2 L2 d : Int) (p : Bool) (w : World) (hw : IsW H L x) (hw2 : IsW H2 L2 d) (h : ¬ (-9223372036854775808 < sg p x ∧ sg p x ≤ 9223372036854775807 ∧ d ≤ 9223372036854775807)) :
    Calls Try.prog 25 #[.agg #[.int .u64 H, .int .u64 L, .bool p], .agg #[.int .u64 H2, .int .u64 L2]] w (RatIs 0 0 false w) := by
  by_cases h1 : -9223372036854775808 ≤ sg p x ∧ sg p x ≤ 9223372036854775807
  · by_cases h3 : d ≤ 9223372036854775807
    · exact tell_low H L x H2 L2 d p w hw hw2 (by omega) h3
    · exact tell_deep H L x H2 L2 d p w hw hw2 h1 h3
  · exact tell_over H L x H2 L2 d p w hw hw2 h1

end Go.Proofs.Ytnbloflgggndiaa
