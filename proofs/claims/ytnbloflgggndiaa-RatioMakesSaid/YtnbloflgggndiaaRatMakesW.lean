/- RatioMakes' walk. -/
import Derived.Test.YtnbloflgggndiaaRefMake
namespace Go.Proofs.Ytnbloflgggndiaa
open Go.RowKit Rt

set_option maxHeartbeats 2000000 in
theorem makes_walk (n d : Int) (w : World) (h : Is64 n d) :
    Calls Try.prog 3 #[.int .i64 n, .int .i64 d] w (BoolIs true w) := by
  have HS := Lib.hid shown_any
  have H1 := Lib.hid (fun w => make_any n d w h.n1 h.n2 h.d1 h.d2)
  have H2 := Lib.hid (fun w => rmake_any n d w h)
  unfold RatO at H1 H2
  generalize numO (cutQ (makeO n d)) = N at *
  generalize denO (cutQ (makeO n d)) = D at *
  generalize okO (cutQ (makeO n d)) = b at *
  have hq := eq_rat N D N D
  simp only [beq_self_eq_true, Bool.and_self] at hq
  go_enter Try.func3, Try.ntmps3
  go_wp2_with fail
  refine (HS.out _).mono ?_
  rintro e w1 ⟨rfl, hb1⟩
  have V1 := (Vars.first w).next hb1
  go_wp2_with fail
  refine (H1.out _).mono ?_
  rintro e w2 ⟨rfl, hb2⟩
  have V2 := (V1.next hb2).alloc N D 24
  go_wp2_with fail
  refine (H2.out _).mono ?_
  rintro e w3 ⟨rfl, hb3⟩
  have V3 := (V2.next hb3).alloc N D 24
  have k1 := V3.h1
  have k2 := V3.tl.h1
  simp only at k1 k2
  obtain ⟨k11, k12⟩ := k1
  obtain ⟨k21, k22⟩ := k2
  go_wp2_with fail
  go_ret
  exact ⟨rfl, V3.bel⟩
end Go.Proofs.Ytnbloflgggndiaa
