/- RatioHeld's walk. -/
import Derived.Test.YtnbloflgggndiaaRefCmp
import Derived.Test.YtnbloflgggndiaaRefFloor
namespace Go.Proofs.Ytnbloflgggndiaa
open Go.RowKit Rt

set_option maxHeartbeats 4000000 in
theorem held_walk (N1 D1 N2 D2 : Int) (w : World) (h1 : Is64 N1 D1) (h2 : Is64 N2 D2) :
    Calls Try.prog 5 #[.agg #[.int .i64 N1, .int .i64 D1], .agg #[.int .i64 N2, .int .i64 D2]] w (BoolIs true w) := by
  have HS := Lib.hid shown_any
  have H1 := Lib.hid (fun w => cmp_any N1 D1 N2 D2 w h1 h2)
  have H2 := Lib.hid (fun w => rcmp_any N1 D1 N2 D2 w h1 h2)
  have H3 := Lib.hid (fun w => floor_any N1 D1 w h1)
  have H4 := Lib.hid (fun w => rfloor_any N1 D1 w h1)
  have H5 := Lib.hid (fun w => round_any N1 D1 w h1)
  have H6 := Lib.hid (fun w => rround_any N1 D1 w h1)
  generalize cmpO (rawO N1 D1) (rawO N2 D2) = c at *
  generalize floorO (rawO N1 D1) = f at *
  generalize roundO (rawO N1 D1) = r at *
  have F1 := Fr2.first w N1 D1 N2 D2 24
  go_enter Try.func5, Try.ntmps5
  go_wp2_with fail
  refine (HS.out _).mono ?_
  rintro e wr ⟨rfl, hb1⟩
  have F2 := F1.next hb1
  clear F1 hb1
  obtain ⟨-, hz, k1, k2, k3, k4⟩ := id F2
  go_upto_region 2 with fail
  go_region_held3 (fun w' => Fr2 w N1 D1 N2 D2 w' ∧ w'.cell? ⟨w.heap.size, 0, none⟩ = some (.int .i64 N1) ∧ w'.cell? ⟨w.heap.size, 1, none⟩ = some (.int .i64 D1) ∧ w'.cell? ⟨w.heap.size + 1, 0, none⟩ = some (.int .i64 N2) ∧ w'.cell? ⟨w.heap.size + 1, 1, none⟩ = some (.int .i64 D2))
    (first
      | exact keepN2 (Fr2.drew (by assumption))
      | exact keepN2 (Fr2.drew (And.left (by assumption)))
      | exact keepN2 (Fr2.next (And.left (by assumption)) (by assumption)))
    (first
      | (go_at_call 15; refine (H1.out _).mono ?_; rintro e v1 ⟨rfl, hb1⟩; have G1 : Fr2 w N1 D1 N2 D2 v1 := Fr2.next (And.left (by assumption)) hb1)
      | (go_at_call 16; refine (H2.out _).mono ?_; rintro e v2 ⟨rfl, hb2⟩; have G2 : Fr2 w N1 D1 N2 D2 v2 := Fr2.next (And.left (by assumption)) hb2)
      | (go_at_call 17; refine (H3.out _).mono ?_; rintro e v3 ⟨rfl, hb3⟩; have G3 : Fr2 w N1 D1 N2 D2 v3 := Fr2.next (And.left (by assumption)) hb3)
      | (go_at_call 18; refine (H4.out _).mono ?_; rintro e v4 ⟨rfl, hb4⟩; have G4 : Fr2 w N1 D1 N2 D2 v4 := Fr2.next (And.left (by assumption)) hb4)
      | (go_at_call 19; refine (H5.out _).mono ?_; rintro e v5 ⟨rfl, hb5⟩; have G5 : Fr2 w N1 D1 N2 D2 v5 := Fr2.next (And.left (by assumption)) hb5)
      | (go_at_call 20; refine (H6.out _).mono ?_; rintro e v6 ⟨rfl, hb6⟩; have G6 : Fr2 w N1 D1 N2 D2 v6 := Fr2.next (And.left (by assumption)) hb6))
  go_wp2_with fail
  go_ret
  exact ⟨rfl, G6.bel⟩
end Go.Proofs.Ytnbloflgggndiaa
