/- RatioBack's walk. -/
import Derived.Test.YtgjpmfjlcaociaaRatRingsW
namespace Go.Proofs.Ytgjpmfjlcaociaa
open Go.RowKit Rt

theorem add_nofit (x y z : Rat) (hx : fitsQ x = true) (hy : fitsQ y = true) (hz : fitsQ z = false) (e : x + y = z) (w : World) :
    Calls Try.prog 16 #[.agg #[.int .i64 x.num, .int .i64 x.den], .agg #[.int .i64 y.num, .int .i64 y.den]] w (RatIs 0 0 false w) := by
  have h := add_any x.num x.den y.num y.den w (is64_of hx) (is64_of hy)
  unfold RatO at h
  rw [raw_of hx, raw_of hy, show addO (some x) (some y) = some z by rw [← e]; rfl, cutQ_no hz] at h
  exact h
theorem mul_nofit (x y z : Rat) (hx : fitsQ x = true) (hy : fitsQ y = true) (hz : fitsQ z = false) (e : x * y = z) (w : World) :
    Calls Try.prog 18 #[.agg #[.int .i64 x.num, .int .i64 x.den], .agg #[.int .i64 y.num, .int .i64 y.den]] w (RatIs 0 0 false w) := by
  have h := mul_any x.num x.den y.num y.den w (is64_of hx) (is64_of hy)
  unfold RatO at h
  rw [raw_of hx, raw_of hy, show mulO (some x) (some y) = some z by rw [← e]; rfl, cutQ_no hz] at h
  exact h
theorem sub_fit (x y z : Rat) (hx : fitsQ x = true) (hy : fitsQ y = true) (hz : fitsQ z = true) (e : x - y = z) (w : World) :
    Calls Try.prog 17 #[.agg #[.int .i64 x.num, .int .i64 x.den], .agg #[.int .i64 y.num, .int .i64 y.den]] w (RatIs z.num z.den true w) := by
  have h := sub_any x.num x.den y.num y.den w (is64_of hx) (is64_of hy)
  unfold RatO at h
  rw [raw_of hx, raw_of hy, show subO (some x) (some y) = some z by rw [← e]; rfl, cutQ_yes hz] at h
  exact h
theorem sub_nofit (x y z : Rat) (hx : fitsQ x = true) (hy : fitsQ y = true) (hz : fitsQ z = false) (e : x - y = z) (w : World) :
    Calls Try.prog 17 #[.agg #[.int .i64 x.num, .int .i64 x.den], .agg #[.int .i64 y.num, .int .i64 y.den]] w (RatIs 0 0 false w) := by
  have h := sub_any x.num x.den y.num y.den w (is64_of hx) (is64_of hy)
  unfold RatO at h
  rw [raw_of hx, raw_of hy, show subO (some x) (some y) = some z by rw [← e]; rfl, cutQ_no hz] at h
  exact h
theorem div_fit (x y z : Rat) (hx : fitsQ x = true) (hy : fitsQ y = true) (hz : fitsQ z = true) (h0 : y ≠ 0) (e : x / y = z) (w : World) :
    Calls Try.prog 19 #[.agg #[.int .i64 x.num, .int .i64 x.den], .agg #[.int .i64 y.num, .int .i64 y.den]] w (RatIs z.num z.den true w) := by
  have h := div_any x.num x.den y.num y.den w (is64_of hx) (is64_of hy)
  unfold RatO at h
  rw [raw_of hx, raw_of hy, show divO (some x) (some y) = some z by rw [← e]; simp [divO, h0], cutQ_yes hz] at h
  exact h
theorem div_by0 (x : Rat) (hx : fitsQ x = true) (w : World) :
    Calls Try.prog 19 #[.agg #[.int .i64 x.num, .int .i64 x.den], .agg #[.int .i64 0, .int .i64 1]] w (RatIs 0 0 false w) := by
  have h := div_any x.num x.den 0 1 w (is64_of hx) ⟨by omega, by omega, by omega, by omega⟩
  unfold RatO at h
  rw [show rawO 0 1 = some 0 from rfl, divO_zero] at h
  exact h
/-- What Make answers: a rational that fits, or nothing. -/
theorem make_either (n d : Int) (h0 : -9223372036854775808 ≤ n ∧ n ≤ 9223372036854775807) (h1 : -9223372036854775808 ≤ d ∧ d ≤ 9223372036854775807) :
    (∃ q : Rat, fitsQ q = true ∧ ∀ w, Calls Try.prog 14 #[.int .i64 n, .int .i64 d] w (RatIs q.num q.den true w)) ∨ (∀ w, Calls Try.prog 14 #[.int .i64 n, .int .i64 d] w (RatIs 0 0 false w)) := by
  cases ho : cutQ (makeO n d) with
  | none =>
    right
    intro w
    have h := make_any n d w h0.1 h0.2 h1.1 h1.2
    unfold RatO at h
    rw [ho] at h
    exact h
  | some q =>
    left
    refine ⟨q, ?_, fun w => ?_⟩
    · unfold cutQ at ho
      exact (Option.filter_eq_some_iff.1 ho).2
    · have h := make_any n d w h0.1 h0.2 h1.1 h1.2
      unfold RatO at h
      rw [ho] at h
      exact h

set_option maxRecDepth 100000 in
set_option maxHeartbeats 4000000 in
theorem back_ff (x0 x1 y0 y1 : Int) (w : World)
    (HA : Hid (∀ w, Calls Try.prog 14 #[.int .i64 x0, .int .i64 x1] w (RatIs 0 0 false w)))
    (HB : Hid (∀ w, Calls Try.prog 14 #[.int .i64 y0, .int .i64 y1] w (RatIs 0 0 false w))) :
    Calls Try.prog 8 #[.agg #[.int .i64 x0, .int .i64 x1], .agg #[.int .i64 y0, .int .i64 y1]] w (BoolIs true w) := by
  have hq := eq_rat
  have HS := Lib.hid shown_any
  go_enter Try.func8, Try.ntmps8
  go_wp2_with fail
  refine (HS.out _).mono ?_
  rintro e w1 ⟨rfl, hb1⟩
  have V0 : Vars w [] w := Vars.first w
  have V1 : Vars w [(w.heap.size + 1, y0, y1), (w.heap.size, x0, x1)] w1 := by
    have h := (((V0.alloc x0 x1 39).alloc y0 y1 39).next hb1)
    simpa using h
  clear hb1 V0
  obtain ⟨kx1, kx2⟩ := V1.tl.h1
  simp only at kx1 kx2
  go_wp2_with fail
  refine (HA.out _).mono ?_
  rintro e w2 ⟨rfl, hb2⟩
  have V2 := (V1.next hb2).alloc 0 0 24
  clear hb2 V1 kx1 kx2
  obtain ⟨ky1, ky2⟩ := V2.tl.h1
  simp only at ky1 ky2
  go_wp2_with fail
  refine (HB.out _).mono ?_
  rintro e w3 ⟨rfl, hb3⟩
  have V3 := (V2.next hb3).alloc 0 0 24
  clear hb3 V2 ky1 ky2
  obtain ⟨ka1, ka2⟩ := V3.tl.h1
  simp only at ka1 ka2
  obtain ⟨kb1, kb2⟩ := V3.h1
  simp only at kb1 kb2
  go_wp2_with fail
  go_ret
  exact ⟨rfl, V3.bel⟩

set_option maxRecDepth 100000 in
set_option maxHeartbeats 4000000 in
theorem back_ft (Nb Db x0 x1 y0 y1 : Int) (w : World)
    (HA : Hid (∀ w, Calls Try.prog 14 #[.int .i64 x0, .int .i64 x1] w (RatIs 0 0 false w)))
    (HB : Hid (∀ w, Calls Try.prog 14 #[.int .i64 y0, .int .i64 y1] w (RatIs Nb Db true w))) :
    Calls Try.prog 8 #[.agg #[.int .i64 x0, .int .i64 x1], .agg #[.int .i64 y0, .int .i64 y1]] w (BoolIs true w) := by
  have hq := eq_rat
  have HS := Lib.hid shown_any
  go_enter Try.func8, Try.ntmps8
  go_wp2_with fail
  refine (HS.out _).mono ?_
  rintro e w1 ⟨rfl, hb1⟩
  have V0 : Vars w [] w := Vars.first w
  have V1 : Vars w [(w.heap.size + 1, y0, y1), (w.heap.size, x0, x1)] w1 := by
    have h := (((V0.alloc x0 x1 39).alloc y0 y1 39).next hb1)
    simpa using h
  clear hb1 V0
  obtain ⟨kx1, kx2⟩ := V1.tl.h1
  simp only at kx1 kx2
  go_wp2_with fail
  refine (HA.out _).mono ?_
  rintro e w2 ⟨rfl, hb2⟩
  have V2 := (V1.next hb2).alloc 0 0 24
  clear hb2 V1 kx1 kx2
  obtain ⟨ky1, ky2⟩ := V2.tl.h1
  simp only at ky1 ky2
  go_wp2_with fail
  refine (HB.out _).mono ?_
  rintro e w3 ⟨rfl, hb3⟩
  have V3 := (V2.next hb3).alloc Nb Db 24
  clear hb3 V2 ky1 ky2
  obtain ⟨ka1, ka2⟩ := V3.tl.h1
  simp only at ka1 ka2
  obtain ⟨kb1, kb2⟩ := V3.h1
  simp only at kb1 kb2
  go_wp2_with fail
  go_ret
  exact ⟨rfl, V3.bel⟩

set_option maxRecDepth 100000 in
set_option maxHeartbeats 4000000 in
theorem back_tf (Na Da x0 x1 y0 y1 : Int) (w : World)
    (HA : Hid (∀ w, Calls Try.prog 14 #[.int .i64 x0, .int .i64 x1] w (RatIs Na Da true w)))
    (HB : Hid (∀ w, Calls Try.prog 14 #[.int .i64 y0, .int .i64 y1] w (RatIs 0 0 false w))) :
    Calls Try.prog 8 #[.agg #[.int .i64 x0, .int .i64 x1], .agg #[.int .i64 y0, .int .i64 y1]] w (BoolIs true w) := by
  have hq := eq_rat
  have HS := Lib.hid shown_any
  go_enter Try.func8, Try.ntmps8
  go_wp2_with fail
  refine (HS.out _).mono ?_
  rintro e w1 ⟨rfl, hb1⟩
  have V0 : Vars w [] w := Vars.first w
  have V1 : Vars w [(w.heap.size + 1, y0, y1), (w.heap.size, x0, x1)] w1 := by
    have h := (((V0.alloc x0 x1 39).alloc y0 y1 39).next hb1)
    simpa using h
  clear hb1 V0
  obtain ⟨kx1, kx2⟩ := V1.tl.h1
  simp only at kx1 kx2
  go_wp2_with fail
  refine (HA.out _).mono ?_
  rintro e w2 ⟨rfl, hb2⟩
  have V2 := (V1.next hb2).alloc Na Da 24
  clear hb2 V1 kx1 kx2
  obtain ⟨ky1, ky2⟩ := V2.tl.h1
  simp only at ky1 ky2
  go_wp2_with fail
  refine (HB.out _).mono ?_
  rintro e w3 ⟨rfl, hb3⟩
  have V3 := (V2.next hb3).alloc 0 0 24
  clear hb3 V2 ky1 ky2
  obtain ⟨ka1, ka2⟩ := V3.tl.h1
  simp only at ka1 ka2
  obtain ⟨kb1, kb2⟩ := V3.h1
  simp only at kb1 kb2
  go_wp2_with fail
  go_ret
  exact ⟨rfl, V3.bel⟩

set_option maxRecDepth 100000 in
set_option maxHeartbeats 6000000 in
theorem back_n0 (a b : Rat) (x0 x1 y0 y1 : Int) (w : World) (fa : fitsQ a = true) (fb : fitsQ b = true) (fs : fitsQ (a + b) = false) (fp : fitsQ (a * b) = false)
    (HA : Hid (∀ w, Calls Try.prog 14 #[.int .i64 x0, .int .i64 x1] w (RatIs a.num a.den true w)))
    (HB : Hid (∀ w, Calls Try.prog 14 #[.int .i64 y0, .int .i64 y1] w (RatIs b.num b.den true w))) :
    Calls Try.prog 8 #[.agg #[.int .i64 x0, .int .i64 x1], .agg #[.int .i64 y0, .int .i64 y1]] w (BoolIs true w) := by
  have H1 := Lib.hid (add_nofit a b (a + b) fa fb fs rfl)
  have H3 := Lib.hid (mul_nofit a b (a * b) fa fb fp rfl)
  have H5 := Lib.hid (div_by0 a fa)
  have H6 := Lib.hid (sub_fit a a 0 fa fa (by decide +kernel) Rat.sub_self)
  simp only [Rat.zero_num, Rat.zero_den] at H6
  clear fa fb fs fp
  generalize (a + b).num = Ns at *
  generalize ((a + b).den : Int) = Ds at *
  generalize (a * b).num = Np at *
  generalize ((a * b).den : Int) = Dp at *
  generalize a.num = Na at *
  generalize (a.den : Int) = Da at *
  generalize b.num = Nb at *
  generalize (b.den : Int) = Db at *
  have hq := eq_rat
  have HS := Lib.hid shown_any
  go_enter Try.func8, Try.ntmps8
  go_wp2_with fail
  refine (HS.out _).mono ?_
  rintro e w1 ⟨rfl, hb1⟩
  have V0 : Vars w [] w := Vars.first w
  have V1 : Vars w [(w.heap.size + 1, y0, y1), (w.heap.size, x0, x1)] w1 := by
    have h := (((V0.alloc x0 x1 39).alloc y0 y1 39).next hb1)
    simpa using h
  clear hb1 V0
  obtain ⟨kx1, kx2⟩ := V1.tl.h1
  simp only at kx1 kx2
  go_wp2_with fail
  refine (HA.out _).mono ?_
  rintro e w2 ⟨rfl, hb2⟩
  have V2 := (V1.next hb2).alloc Na Da 24
  clear hb2 V1 kx1 kx2
  obtain ⟨ky1, ky2⟩ := V2.tl.h1
  simp only at ky1 ky2
  go_wp2_with fail
  refine (HB.out _).mono ?_
  rintro e w3 ⟨rfl, hb3⟩
  have V3 := (V2.next hb3).alloc Nb Db 24
  clear hb3 V2 ky1 ky2
  obtain ⟨ka1, ka2⟩ := V3.tl.h1
  simp only at ka1 ka2
  obtain ⟨kb1, kb2⟩ := V3.h1
  simp only at kb1 kb2
  go_wp2_with fail
  refine (H1.out _).mono ?_
  rintro e w4 ⟨rfl, hb4⟩
  have V4 := (V3.next hb4).alloc 0 0 24
  clear hb4 V3 ka1 ka2 kb1 kb2
  obtain ⟨ka1, ka2⟩ := V4.tl.tl.h1
  simp only at ka1 ka2
  obtain ⟨kb1, kb2⟩ := V4.tl.h1
  simp only at kb1 kb2
  go_wp2_with fail
  refine (H3.out _).mono ?_
  rintro e w5 ⟨rfl, hb5⟩
  have V5 := (V4.next hb5).alloc 0 0 24
  clear hb5 V4 ka1 ka2 kb1 kb2
  obtain ⟨ka1, ka2⟩ := V5.tl.tl.tl.h1
  simp only at ka1 ka2
  obtain ⟨kb1, kb2⟩ := V5.tl.tl.h1
  simp only at kb1 kb2
  obtain ⟨kp1, kp2⟩ := V5.h1
  simp only at kp1 kp2
  go_wp2_with fail
  refine (H5.out _).mono ?_
  rintro e w6 ⟨rfl, hb6⟩
  have V6 := (V5.next hb6).alloc 0 0 24
  clear hb6 V5 ka1 ka2 kb1 kb2 kp1 kp2
  obtain ⟨ka1, ka2⟩ := V6.tl.tl.tl.tl.h1
  simp only at ka1 ka2
  obtain ⟨kb1, kb2⟩ := V6.tl.tl.tl.h1
  simp only at kb1 kb2
  go_wp2_with fail
  refine (H6.out _).mono ?_
  rintro e w7 ⟨rfl, hb7⟩
  have V7 := (V6.next hb7).alloc 0 1 24
  clear hb7 V6 ka1 ka2 kb1 kb2
  obtain ⟨kself1, kself2⟩ := V7.h1
  simp only at kself1 kself2
  go_wp2_with fail
  go_ret
  exact ⟨rfl, V7.bel⟩

set_option maxRecDepth 100000 in
set_option maxHeartbeats 6000000 in
theorem back_n1 (a b : Rat) (x0 x1 y0 y1 : Int) (w : World) (fa : fitsQ a = true) (fb : fitsQ b = true) (fs : fitsQ (a + b) = false) (fp : fitsQ (a * b) = true) (b0 : b.num = 0)
    (HA : Hid (∀ w, Calls Try.prog 14 #[.int .i64 x0, .int .i64 x1] w (RatIs a.num a.den true w)))
    (HB : Hid (∀ w, Calls Try.prog 14 #[.int .i64 y0, .int .i64 y1] w (RatIs b.num b.den true w))) :
    Calls Try.prog 8 #[.agg #[.int .i64 x0, .int .i64 x1], .agg #[.int .i64 y0, .int .i64 y1]] w (BoolIs true w) := by
  have H1 := Lib.hid (add_nofit a b (a + b) fa fb fs rfl)
  have H3 := Lib.hid (mul_fit a b (a * b) fa fb fp rfl)
  have H5 := Lib.hid (div_by0 a fa)
  have H6 := Lib.hid (sub_fit a a 0 fa fa (by decide +kernel) Rat.sub_self)
  simp only [Rat.zero_num, Rat.zero_den] at H6
  have b1 : (b.num != 0) = false := by simpa using b0
  clear b0
  clear fa fb fs fp
  generalize (a + b).num = Ns at *
  generalize ((a + b).den : Int) = Ds at *
  generalize (a * b).num = Np at *
  generalize ((a * b).den : Int) = Dp at *
  generalize a.num = Na at *
  generalize (a.den : Int) = Da at *
  generalize b.num = Nb at *
  generalize (b.den : Int) = Db at *
  have hq := eq_rat
  have HS := Lib.hid shown_any
  go_enter Try.func8, Try.ntmps8
  go_wp2_with fail
  refine (HS.out _).mono ?_
  rintro e w1 ⟨rfl, hb1⟩
  have V0 : Vars w [] w := Vars.first w
  have V1 : Vars w [(w.heap.size + 1, y0, y1), (w.heap.size, x0, x1)] w1 := by
    have h := (((V0.alloc x0 x1 39).alloc y0 y1 39).next hb1)
    simpa using h
  clear hb1 V0
  obtain ⟨kx1, kx2⟩ := V1.tl.h1
  simp only at kx1 kx2
  go_wp2_with fail
  refine (HA.out _).mono ?_
  rintro e w2 ⟨rfl, hb2⟩
  have V2 := (V1.next hb2).alloc Na Da 24
  clear hb2 V1 kx1 kx2
  obtain ⟨ky1, ky2⟩ := V2.tl.h1
  simp only at ky1 ky2
  go_wp2_with fail
  refine (HB.out _).mono ?_
  rintro e w3 ⟨rfl, hb3⟩
  have V3 := (V2.next hb3).alloc Nb Db 24
  clear hb3 V2 ky1 ky2
  obtain ⟨ka1, ka2⟩ := V3.tl.h1
  simp only at ka1 ka2
  obtain ⟨kb1, kb2⟩ := V3.h1
  simp only at kb1 kb2
  go_wp2_with fail
  refine (H1.out _).mono ?_
  rintro e w4 ⟨rfl, hb4⟩
  have V4 := (V3.next hb4).alloc 0 0 24
  clear hb4 V3 ka1 ka2 kb1 kb2
  obtain ⟨ka1, ka2⟩ := V4.tl.tl.h1
  simp only at ka1 ka2
  obtain ⟨kb1, kb2⟩ := V4.tl.h1
  simp only at kb1 kb2
  go_wp2_with fail
  refine (H3.out _).mono ?_
  rintro e w5 ⟨rfl, hb5⟩
  have V5 := (V4.next hb5).alloc Np Dp 24
  clear hb5 V4 ka1 ka2 kb1 kb2
  obtain ⟨ka1, ka2⟩ := V5.tl.tl.tl.h1
  simp only at ka1 ka2
  obtain ⟨kb1, kb2⟩ := V5.tl.tl.h1
  simp only at kb1 kb2
  obtain ⟨kp1, kp2⟩ := V5.h1
  simp only at kp1 kp2
  go_wp2_with fail
  refine (H5.out _).mono ?_
  rintro e w6 ⟨rfl, hb6⟩
  have V6 := (V5.next hb6).alloc 0 0 24
  clear hb6 V5 ka1 ka2 kb1 kb2 kp1 kp2
  obtain ⟨ka1, ka2⟩ := V6.tl.tl.tl.tl.h1
  simp only at ka1 ka2
  obtain ⟨kb1, kb2⟩ := V6.tl.tl.tl.h1
  simp only at kb1 kb2
  go_wp2_with fail
  refine (H6.out _).mono ?_
  rintro e w7 ⟨rfl, hb7⟩
  have V7 := (V6.next hb7).alloc 0 1 24
  clear hb7 V6 ka1 ka2 kb1 kb2
  obtain ⟨kself1, kself2⟩ := V7.h1
  simp only at kself1 kself2
  go_wp2_with fail
  go_ret
  exact ⟨rfl, V7.bel⟩

set_option maxRecDepth 100000 in
set_option maxHeartbeats 6000000 in
theorem back_n2 (a b : Rat) (x0 x1 y0 y1 : Int) (w : World) (fa : fitsQ a = true) (fb : fitsQ b = true) (fs : fitsQ (a + b) = false) (fp : fitsQ (a * b) = true) (b0 : b.num ≠ 0)
    (HA : Hid (∀ w, Calls Try.prog 14 #[.int .i64 x0, .int .i64 x1] w (RatIs a.num a.den true w)))
    (HB : Hid (∀ w, Calls Try.prog 14 #[.int .i64 y0, .int .i64 y1] w (RatIs b.num b.den true w))) :
    Calls Try.prog 8 #[.agg #[.int .i64 x0, .int .i64 x1], .agg #[.int .i64 y0, .int .i64 y1]] w (BoolIs true w) := by
  have H1 := Lib.hid (add_nofit a b (a + b) fa fb fs rfl)
  have H3 := Lib.hid (mul_fit a b (a * b) fa fb fp rfl)
  have bn : b ≠ 0 := fun h => b0 (by rw [h]; rfl)
  have H4 := Lib.hid (div_fit (a * b) b a fp fb fa bn (Rat.mul_div_cancel bn))
  clear bn
  have H5 := Lib.hid (div_by0 a fa)
  have H6 := Lib.hid (sub_fit a a 0 fa fa (by decide +kernel) Rat.sub_self)
  simp only [Rat.zero_num, Rat.zero_den] at H6
  have b1 : (b.num != 0) = true := by simpa using b0
  have b2 : (b.num == 0) = false := by simpa using b0
  clear b0
  clear fa fb fs fp
  generalize (a + b).num = Ns at *
  generalize ((a + b).den : Int) = Ds at *
  generalize (a * b).num = Np at *
  generalize ((a * b).den : Int) = Dp at *
  generalize a.num = Na at *
  generalize (a.den : Int) = Da at *
  generalize b.num = Nb at *
  generalize (b.den : Int) = Db at *
  have hq := eq_rat
  have HS := Lib.hid shown_any
  go_enter Try.func8, Try.ntmps8
  go_wp2_with fail
  refine (HS.out _).mono ?_
  rintro e w1 ⟨rfl, hb1⟩
  have V0 : Vars w [] w := Vars.first w
  have V1 : Vars w [(w.heap.size + 1, y0, y1), (w.heap.size, x0, x1)] w1 := by
    have h := (((V0.alloc x0 x1 39).alloc y0 y1 39).next hb1)
    simpa using h
  clear hb1 V0
  obtain ⟨kx1, kx2⟩ := V1.tl.h1
  simp only at kx1 kx2
  go_wp2_with fail
  refine (HA.out _).mono ?_
  rintro e w2 ⟨rfl, hb2⟩
  have V2 := (V1.next hb2).alloc Na Da 24
  clear hb2 V1 kx1 kx2
  obtain ⟨ky1, ky2⟩ := V2.tl.h1
  simp only at ky1 ky2
  go_wp2_with fail
  refine (HB.out _).mono ?_
  rintro e w3 ⟨rfl, hb3⟩
  have V3 := (V2.next hb3).alloc Nb Db 24
  clear hb3 V2 ky1 ky2
  obtain ⟨ka1, ka2⟩ := V3.tl.h1
  simp only at ka1 ka2
  obtain ⟨kb1, kb2⟩ := V3.h1
  simp only at kb1 kb2
  go_wp2_with fail
  refine (H1.out _).mono ?_
  rintro e w4 ⟨rfl, hb4⟩
  have V4 := (V3.next hb4).alloc 0 0 24
  clear hb4 V3 ka1 ka2 kb1 kb2
  obtain ⟨ka1, ka2⟩ := V4.tl.tl.h1
  simp only at ka1 ka2
  obtain ⟨kb1, kb2⟩ := V4.tl.h1
  simp only at kb1 kb2
  go_wp2_with fail
  refine (H3.out _).mono ?_
  rintro e w5 ⟨rfl, hb5⟩
  have V5 := (V4.next hb5).alloc Np Dp 24
  clear hb5 V4 ka1 ka2 kb1 kb2
  obtain ⟨ka1, ka2⟩ := V5.tl.tl.tl.h1
  simp only at ka1 ka2
  obtain ⟨kb1, kb2⟩ := V5.tl.tl.h1
  simp only at kb1 kb2
  obtain ⟨kp1, kp2⟩ := V5.h1
  simp only at kp1 kp2
  go_wp2_with fail
  refine (H4.out _).mono ?_
  rintro e w6 ⟨rfl, hb6⟩
  have V6 := (V5.next hb6).alloc Na Da 24
  clear hb6 V5 ka1 ka2 kb1 kb2 kp1 kp2
  obtain ⟨ka1, ka2⟩ := V6.tl.tl.tl.tl.h1
  simp only at ka1 ka2
  obtain ⟨kb1, kb2⟩ := V6.tl.tl.tl.h1
  simp only at kb1 kb2
  obtain ⟨km1, km2⟩ := V6.h1
  simp only at km1 km2
  go_wp2_with fail
  refine (H5.out _).mono ?_
  rintro e w7 ⟨rfl, hb7⟩
  have V7 := (V6.next hb7).alloc 0 0 24
  clear hb7 V6 ka1 ka2 kb1 kb2 km1 km2
  obtain ⟨ka1, ka2⟩ := V7.tl.tl.tl.tl.tl.h1
  simp only at ka1 ka2
  obtain ⟨kb1, kb2⟩ := V7.tl.tl.tl.tl.h1
  simp only at kb1 kb2
  go_wp2_with fail
  refine (H6.out _).mono ?_
  rintro e w8 ⟨rfl, hb8⟩
  have V8 := (V7.next hb8).alloc 0 1 24
  clear hb8 V7 ka1 ka2 kb1 kb2
  obtain ⟨kself1, kself2⟩ := V8.h1
  simp only at kself1 kself2
  go_wp2_with fail
  go_ret
  exact ⟨rfl, V8.bel⟩

set_option maxRecDepth 100000 in
set_option maxHeartbeats 6000000 in
theorem back_t0 (a b : Rat) (x0 x1 y0 y1 : Int) (w : World) (fa : fitsQ a = true) (fb : fitsQ b = true) (fs : fitsQ (a + b) = true) (fp : fitsQ (a * b) = false)
    (HA : Hid (∀ w, Calls Try.prog 14 #[.int .i64 x0, .int .i64 x1] w (RatIs a.num a.den true w)))
    (HB : Hid (∀ w, Calls Try.prog 14 #[.int .i64 y0, .int .i64 y1] w (RatIs b.num b.den true w))) :
    Calls Try.prog 8 #[.agg #[.int .i64 x0, .int .i64 x1], .agg #[.int .i64 y0, .int .i64 y1]] w (BoolIs true w) := by
  have H1 := Lib.hid (add_fit a b (a + b) fa fb fs rfl)
  have H2 := Lib.hid (sub_fit (a + b) b a fs fb fa Rat.add_sub_cancel)
  have H3 := Lib.hid (mul_nofit a b (a * b) fa fb fp rfl)
  have H5 := Lib.hid (div_by0 a fa)
  have H6 := Lib.hid (sub_fit a a 0 fa fa (by decide +kernel) Rat.sub_self)
  simp only [Rat.zero_num, Rat.zero_den] at H6
  clear fa fb fs fp
  generalize (a + b).num = Ns at *
  generalize ((a + b).den : Int) = Ds at *
  generalize (a * b).num = Np at *
  generalize ((a * b).den : Int) = Dp at *
  generalize a.num = Na at *
  generalize (a.den : Int) = Da at *
  generalize b.num = Nb at *
  generalize (b.den : Int) = Db at *
  have hq := eq_rat
  have HS := Lib.hid shown_any
  go_enter Try.func8, Try.ntmps8
  go_wp2_with fail
  refine (HS.out _).mono ?_
  rintro e w1 ⟨rfl, hb1⟩
  have V0 : Vars w [] w := Vars.first w
  have V1 : Vars w [(w.heap.size + 1, y0, y1), (w.heap.size, x0, x1)] w1 := by
    have h := (((V0.alloc x0 x1 39).alloc y0 y1 39).next hb1)
    simpa using h
  clear hb1 V0
  obtain ⟨kx1, kx2⟩ := V1.tl.h1
  simp only at kx1 kx2
  go_wp2_with fail
  refine (HA.out _).mono ?_
  rintro e w2 ⟨rfl, hb2⟩
  have V2 := (V1.next hb2).alloc Na Da 24
  clear hb2 V1 kx1 kx2
  obtain ⟨ky1, ky2⟩ := V2.tl.h1
  simp only at ky1 ky2
  go_wp2_with fail
  refine (HB.out _).mono ?_
  rintro e w3 ⟨rfl, hb3⟩
  have V3 := (V2.next hb3).alloc Nb Db 24
  clear hb3 V2 ky1 ky2
  obtain ⟨ka1, ka2⟩ := V3.tl.h1
  simp only at ka1 ka2
  obtain ⟨kb1, kb2⟩ := V3.h1
  simp only at kb1 kb2
  go_wp2_with fail
  refine (H1.out _).mono ?_
  rintro e w4 ⟨rfl, hb4⟩
  have V4 := (V3.next hb4).alloc Ns Ds 24
  clear hb4 V3 ka1 ka2 kb1 kb2
  obtain ⟨ka1, ka2⟩ := V4.tl.tl.h1
  simp only at ka1 ka2
  obtain ⟨kb1, kb2⟩ := V4.tl.h1
  simp only at kb1 kb2
  obtain ⟨ks1, ks2⟩ := V4.h1
  simp only at ks1 ks2
  go_wp2_with fail
  refine (H2.out _).mono ?_
  rintro e w5 ⟨rfl, hb5⟩
  have V5 := (V4.next hb5).alloc Na Da 24
  clear hb5 V4 ka1 ka2 kb1 kb2 ks1 ks2
  obtain ⟨ka1, ka2⟩ := V5.tl.tl.tl.h1
  simp only at ka1 ka2
  obtain ⟨kb1, kb2⟩ := V5.tl.tl.h1
  simp only at kb1 kb2
  obtain ⟨kk1, kk2⟩ := V5.h1
  simp only at kk1 kk2
  go_wp2_with fail
  refine (H3.out _).mono ?_
  rintro e w6 ⟨rfl, hb6⟩
  have V6 := (V5.next hb6).alloc 0 0 24
  clear hb6 V5 ka1 ka2 kb1 kb2 kk1 kk2
  obtain ⟨ka1, ka2⟩ := V6.tl.tl.tl.tl.h1
  simp only at ka1 ka2
  obtain ⟨kb1, kb2⟩ := V6.tl.tl.tl.h1
  simp only at kb1 kb2
  obtain ⟨kp1, kp2⟩ := V6.h1
  simp only at kp1 kp2
  go_wp2_with fail
  refine (H5.out _).mono ?_
  rintro e w7 ⟨rfl, hb7⟩
  have V7 := (V6.next hb7).alloc 0 0 24
  clear hb7 V6 ka1 ka2 kb1 kb2 kp1 kp2
  obtain ⟨ka1, ka2⟩ := V7.tl.tl.tl.tl.tl.h1
  simp only at ka1 ka2
  obtain ⟨kb1, kb2⟩ := V7.tl.tl.tl.tl.h1
  simp only at kb1 kb2
  go_wp2_with fail
  refine (H6.out _).mono ?_
  rintro e w8 ⟨rfl, hb8⟩
  have V8 := (V7.next hb8).alloc 0 1 24
  clear hb8 V7 ka1 ka2 kb1 kb2
  obtain ⟨kself1, kself2⟩ := V8.h1
  simp only at kself1 kself2
  go_wp2_with fail
  go_ret
  exact ⟨rfl, V8.bel⟩

set_option maxRecDepth 100000 in
set_option maxHeartbeats 6000000 in
theorem back_t1 (a b : Rat) (x0 x1 y0 y1 : Int) (w : World) (fa : fitsQ a = true) (fb : fitsQ b = true) (fs : fitsQ (a + b) = true) (fp : fitsQ (a * b) = true) (b0 : b.num = 0)
    (HA : Hid (∀ w, Calls Try.prog 14 #[.int .i64 x0, .int .i64 x1] w (RatIs a.num a.den true w)))
    (HB : Hid (∀ w, Calls Try.prog 14 #[.int .i64 y0, .int .i64 y1] w (RatIs b.num b.den true w))) :
    Calls Try.prog 8 #[.agg #[.int .i64 x0, .int .i64 x1], .agg #[.int .i64 y0, .int .i64 y1]] w (BoolIs true w) := by
  have H1 := Lib.hid (add_fit a b (a + b) fa fb fs rfl)
  have H2 := Lib.hid (sub_fit (a + b) b a fs fb fa Rat.add_sub_cancel)
  have H3 := Lib.hid (mul_fit a b (a * b) fa fb fp rfl)
  have H5 := Lib.hid (div_by0 a fa)
  have H6 := Lib.hid (sub_fit a a 0 fa fa (by decide +kernel) Rat.sub_self)
  simp only [Rat.zero_num, Rat.zero_den] at H6
  have b1 : (b.num != 0) = false := by simpa using b0
  clear b0
  clear fa fb fs fp
  generalize (a + b).num = Ns at *
  generalize ((a + b).den : Int) = Ds at *
  generalize (a * b).num = Np at *
  generalize ((a * b).den : Int) = Dp at *
  generalize a.num = Na at *
  generalize (a.den : Int) = Da at *
  generalize b.num = Nb at *
  generalize (b.den : Int) = Db at *
  have hq := eq_rat
  have HS := Lib.hid shown_any
  go_enter Try.func8, Try.ntmps8
  go_wp2_with fail
  refine (HS.out _).mono ?_
  rintro e w1 ⟨rfl, hb1⟩
  have V0 : Vars w [] w := Vars.first w
  have V1 : Vars w [(w.heap.size + 1, y0, y1), (w.heap.size, x0, x1)] w1 := by
    have h := (((V0.alloc x0 x1 39).alloc y0 y1 39).next hb1)
    simpa using h
  clear hb1 V0
  obtain ⟨kx1, kx2⟩ := V1.tl.h1
  simp only at kx1 kx2
  go_wp2_with fail
  refine (HA.out _).mono ?_
  rintro e w2 ⟨rfl, hb2⟩
  have V2 := (V1.next hb2).alloc Na Da 24
  clear hb2 V1 kx1 kx2
  obtain ⟨ky1, ky2⟩ := V2.tl.h1
  simp only at ky1 ky2
  go_wp2_with fail
  refine (HB.out _).mono ?_
  rintro e w3 ⟨rfl, hb3⟩
  have V3 := (V2.next hb3).alloc Nb Db 24
  clear hb3 V2 ky1 ky2
  obtain ⟨ka1, ka2⟩ := V3.tl.h1
  simp only at ka1 ka2
  obtain ⟨kb1, kb2⟩ := V3.h1
  simp only at kb1 kb2
  go_wp2_with fail
  refine (H1.out _).mono ?_
  rintro e w4 ⟨rfl, hb4⟩
  have V4 := (V3.next hb4).alloc Ns Ds 24
  clear hb4 V3 ka1 ka2 kb1 kb2
  obtain ⟨ka1, ka2⟩ := V4.tl.tl.h1
  simp only at ka1 ka2
  obtain ⟨kb1, kb2⟩ := V4.tl.h1
  simp only at kb1 kb2
  obtain ⟨ks1, ks2⟩ := V4.h1
  simp only at ks1 ks2
  go_wp2_with fail
  refine (H2.out _).mono ?_
  rintro e w5 ⟨rfl, hb5⟩
  have V5 := (V4.next hb5).alloc Na Da 24
  clear hb5 V4 ka1 ka2 kb1 kb2 ks1 ks2
  obtain ⟨ka1, ka2⟩ := V5.tl.tl.tl.h1
  simp only at ka1 ka2
  obtain ⟨kb1, kb2⟩ := V5.tl.tl.h1
  simp only at kb1 kb2
  obtain ⟨kk1, kk2⟩ := V5.h1
  simp only at kk1 kk2
  go_wp2_with fail
  refine (H3.out _).mono ?_
  rintro e w6 ⟨rfl, hb6⟩
  have V6 := (V5.next hb6).alloc Np Dp 24
  clear hb6 V5 ka1 ka2 kb1 kb2 kk1 kk2
  obtain ⟨ka1, ka2⟩ := V6.tl.tl.tl.tl.h1
  simp only at ka1 ka2
  obtain ⟨kb1, kb2⟩ := V6.tl.tl.tl.h1
  simp only at kb1 kb2
  obtain ⟨kp1, kp2⟩ := V6.h1
  simp only at kp1 kp2
  go_wp2_with fail
  refine (H5.out _).mono ?_
  rintro e w7 ⟨rfl, hb7⟩
  have V7 := (V6.next hb7).alloc 0 0 24
  clear hb7 V6 ka1 ka2 kb1 kb2 kp1 kp2
  obtain ⟨ka1, ka2⟩ := V7.tl.tl.tl.tl.tl.h1
  simp only at ka1 ka2
  obtain ⟨kb1, kb2⟩ := V7.tl.tl.tl.tl.h1
  simp only at kb1 kb2
  go_wp2_with fail
  refine (H6.out _).mono ?_
  rintro e w8 ⟨rfl, hb8⟩
  have V8 := (V7.next hb8).alloc 0 1 24
  clear hb8 V7 ka1 ka2 kb1 kb2
  obtain ⟨kself1, kself2⟩ := V8.h1
  simp only at kself1 kself2
  go_wp2_with fail
  go_ret
  exact ⟨rfl, V8.bel⟩

set_option maxRecDepth 100000 in
set_option maxHeartbeats 6000000 in
theorem back_t2 (a b : Rat) (x0 x1 y0 y1 : Int) (w : World) (fa : fitsQ a = true) (fb : fitsQ b = true) (fs : fitsQ (a + b) = true) (fp : fitsQ (a * b) = true) (b0 : b.num ≠ 0)
    (HA : Hid (∀ w, Calls Try.prog 14 #[.int .i64 x0, .int .i64 x1] w (RatIs a.num a.den true w)))
    (HB : Hid (∀ w, Calls Try.prog 14 #[.int .i64 y0, .int .i64 y1] w (RatIs b.num b.den true w))) :
    Calls Try.prog 8 #[.agg #[.int .i64 x0, .int .i64 x1], .agg #[.int .i64 y0, .int .i64 y1]] w (BoolIs true w) := by
  have H1 := Lib.hid (add_fit a b (a + b) fa fb fs rfl)
  have H2 := Lib.hid (sub_fit (a + b) b a fs fb fa Rat.add_sub_cancel)
  have H3 := Lib.hid (mul_fit a b (a * b) fa fb fp rfl)
  have bn : b ≠ 0 := fun h => b0 (by rw [h]; rfl)
  have H4 := Lib.hid (div_fit (a * b) b a fp fb fa bn (Rat.mul_div_cancel bn))
  clear bn
  have H5 := Lib.hid (div_by0 a fa)
  have H6 := Lib.hid (sub_fit a a 0 fa fa (by decide +kernel) Rat.sub_self)
  simp only [Rat.zero_num, Rat.zero_den] at H6
  have b1 : (b.num != 0) = true := by simpa using b0
  have b2 : (b.num == 0) = false := by simpa using b0
  clear b0
  clear fa fb fs fp
  generalize (a + b).num = Ns at *
  generalize ((a + b).den : Int) = Ds at *
  generalize (a * b).num = Np at *
  generalize ((a * b).den : Int) = Dp at *
  generalize a.num = Na at *
  generalize (a.den : Int) = Da at *
  generalize b.num = Nb at *
  generalize (b.den : Int) = Db at *
  have hq := eq_rat
  have HS := Lib.hid shown_any
  go_enter Try.func8, Try.ntmps8
  go_wp2_with fail
  refine (HS.out _).mono ?_
  rintro e w1 ⟨rfl, hb1⟩
  have V0 : Vars w [] w := Vars.first w
  have V1 : Vars w [(w.heap.size + 1, y0, y1), (w.heap.size, x0, x1)] w1 := by
    have h := (((V0.alloc x0 x1 39).alloc y0 y1 39).next hb1)
    simpa using h
  clear hb1 V0
  obtain ⟨kx1, kx2⟩ := V1.tl.h1
  simp only at kx1 kx2
  go_wp2_with fail
  refine (HA.out _).mono ?_
  rintro e w2 ⟨rfl, hb2⟩
  have V2 := (V1.next hb2).alloc Na Da 24
  clear hb2 V1 kx1 kx2
  obtain ⟨ky1, ky2⟩ := V2.tl.h1
  simp only at ky1 ky2
  go_wp2_with fail
  refine (HB.out _).mono ?_
  rintro e w3 ⟨rfl, hb3⟩
  have V3 := (V2.next hb3).alloc Nb Db 24
  clear hb3 V2 ky1 ky2
  obtain ⟨ka1, ka2⟩ := V3.tl.h1
  simp only at ka1 ka2
  obtain ⟨kb1, kb2⟩ := V3.h1
  simp only at kb1 kb2
  go_wp2_with fail
  refine (H1.out _).mono ?_
  rintro e w4 ⟨rfl, hb4⟩
  have V4 := (V3.next hb4).alloc Ns Ds 24
  clear hb4 V3 ka1 ka2 kb1 kb2
  obtain ⟨ka1, ka2⟩ := V4.tl.tl.h1
  simp only at ka1 ka2
  obtain ⟨kb1, kb2⟩ := V4.tl.h1
  simp only at kb1 kb2
  obtain ⟨ks1, ks2⟩ := V4.h1
  simp only at ks1 ks2
  go_wp2_with fail
  refine (H2.out _).mono ?_
  rintro e w5 ⟨rfl, hb5⟩
  have V5 := (V4.next hb5).alloc Na Da 24
  clear hb5 V4 ka1 ka2 kb1 kb2 ks1 ks2
  obtain ⟨ka1, ka2⟩ := V5.tl.tl.tl.h1
  simp only at ka1 ka2
  obtain ⟨kb1, kb2⟩ := V5.tl.tl.h1
  simp only at kb1 kb2
  obtain ⟨kk1, kk2⟩ := V5.h1
  simp only at kk1 kk2
  go_wp2_with fail
  refine (H3.out _).mono ?_
  rintro e w6 ⟨rfl, hb6⟩
  have V6 := (V5.next hb6).alloc Np Dp 24
  clear hb6 V5 ka1 ka2 kb1 kb2 kk1 kk2
  obtain ⟨ka1, ka2⟩ := V6.tl.tl.tl.tl.h1
  simp only at ka1 ka2
  obtain ⟨kb1, kb2⟩ := V6.tl.tl.tl.h1
  simp only at kb1 kb2
  obtain ⟨kp1, kp2⟩ := V6.h1
  simp only at kp1 kp2
  go_wp2_with fail
  refine (H4.out _).mono ?_
  rintro e w7 ⟨rfl, hb7⟩
  have V7 := (V6.next hb7).alloc Na Da 24
  clear hb7 V6 ka1 ka2 kb1 kb2 kp1 kp2
  obtain ⟨ka1, ka2⟩ := V7.tl.tl.tl.tl.tl.h1
  simp only at ka1 ka2
  obtain ⟨kb1, kb2⟩ := V7.tl.tl.tl.tl.h1
  simp only at kb1 kb2
  obtain ⟨km1, km2⟩ := V7.h1
  simp only at km1 km2
  go_wp2_with fail
  refine (H5.out _).mono ?_
  rintro e w8 ⟨rfl, hb8⟩
  have V8 := (V7.next hb8).alloc 0 0 24
  clear hb8 V7 ka1 ka2 kb1 kb2 km1 km2
  obtain ⟨ka1, ka2⟩ := V8.tl.tl.tl.tl.tl.tl.h1
  simp only at ka1 ka2
  obtain ⟨kb1, kb2⟩ := V8.tl.tl.tl.tl.tl.h1
  simp only at kb1 kb2
  go_wp2_with fail
  refine (H6.out _).mono ?_
  rintro e w9 ⟨rfl, hb9⟩
  have V9 := (V8.next hb9).alloc 0 1 24
  clear hb9 V8 ka1 ka2 kb1 kb2
  obtain ⟨kself1, kself2⟩ := V9.h1
  simp only at kself1 kself2
  go_wp2_with fail
  go_ret
  exact ⟨rfl, V9.bel⟩

theorem back_walk (x0 x1 y0 y1 : Int) (w : World) (hx0 : -9223372036854775808 ≤ x0 ∧ x0 ≤ 9223372036854775807) (hx1 : -9223372036854775808 ≤ x1 ∧ x1 ≤ 9223372036854775807) (hy0 : -9223372036854775808 ≤ y0 ∧ y0 ≤ 9223372036854775807) (hy1 : -9223372036854775808 ≤ y1 ∧ y1 ≤ 9223372036854775807) :
    Calls Try.prog 8 #[.agg #[.int .i64 x0, .int .i64 x1], .agg #[.int .i64 y0, .int .i64 y1]] w (BoolIs true w) := by
  rcases make_either x0 x1 hx0 hx1 with ⟨a, fa, HA⟩ | HA
  · rcases make_either y0 y1 hy0 hy1 with ⟨b, fb, HB⟩ | HB
    · cases fs : fitsQ (a + b)
      · cases fp : fitsQ (a * b)
        · exact back_n0 a b x0 x1 y0 y1 w fa fb fs fp (Lib.hid HA) (Lib.hid HB)
        · by_cases b0 : b.num = 0
          · exact back_n1 a b x0 x1 y0 y1 w fa fb fs fp b0 (Lib.hid HA) (Lib.hid HB)
          · exact back_n2 a b x0 x1 y0 y1 w fa fb fs fp b0 (Lib.hid HA) (Lib.hid HB)
      · cases fp : fitsQ (a * b)
        · exact back_t0 a b x0 x1 y0 y1 w fa fb fs fp (Lib.hid HA) (Lib.hid HB)
        · by_cases b0 : b.num = 0
          · exact back_t1 a b x0 x1 y0 y1 w fa fb fs fp b0 (Lib.hid HA) (Lib.hid HB)
          · exact back_t2 a b x0 x1 y0 y1 w fa fb fs fp b0 (Lib.hid HA) (Lib.hid HB)
    · exact back_tf _ _ x0 x1 y0 y1 w (Lib.hid HA) (Lib.hid HB)
  · rcases make_either y0 y1 hy0 hy1 with ⟨b, fb, HB⟩ | HB
    · exact back_ft _ _ x0 x1 y0 y1 w (Lib.hid HA) (Lib.hid HB)
    · exact back_ff x0 x1 y0 y1 w (Lib.hid HA) (Lib.hid HB)
end Go.Proofs.Ytgjpmfjlcaociaa
