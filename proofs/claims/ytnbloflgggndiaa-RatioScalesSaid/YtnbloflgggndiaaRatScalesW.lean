/- RatioScales' walk. -/
import Derived.Test.YtnbloflgggndiaaRefScale
namespace Go.Proofs.Ytnbloflgggndiaa
open Go.RowKit Rt

set_option maxHeartbeats 2000000 in
theorem scales_walk (n a b : Int) (w : World) (n1 : -9223372036854775808 ≤ n) (n2 : n ≤ 9223372036854775807) (a1 : -9223372036854775808 ≤ a) (a2 : a ≤ 9223372036854775807) (b1 : -9223372036854775808 ≤ b) (b2 : b ≤ 9223372036854775807) :
    Calls Try.prog 6 #[.int .i64 n, .int .i64 a, .int .i64 b] w (BoolIs true w) := by
  have HS := Lib.hid shown_any
  have H1 := Lib.hid (fun w => scale_any n a b w n1 n2 a1 a2 b1 b2)
  have H2 := Lib.hid (fun w => rscale_any n a b w n1 n2 a1 a2 b1 b2)
  generalize (if b = 0 then 0 else toldN (scaleV n a b)) = x at *
  generalize (if b = 0 then false else toldB (scaleV n a b)) = ok at *
  go_enter Try.func6, Try.ntmps6
  go_wp2_with fail
  refine (HS.out _).mono ?_
  rintro e w1 ⟨rfl, hb1⟩
  have V1 := (Vars.first w).next hb1
  go_wp2_with fail
  refine (H1.out _).mono ?_
  rintro e w2 ⟨rfl, hb2⟩
  have V2 := V1.next hb2
  go_wp2_with fail
  refine (H2.out _).mono ?_
  rintro e w3 ⟨rfl, hb3⟩
  have V3 := V2.next hb3
  go_wp2_with fail
  go_ret
  exact ⟨rfl, V3.bel⟩
end Go.Proofs.Ytnbloflgggndiaa
