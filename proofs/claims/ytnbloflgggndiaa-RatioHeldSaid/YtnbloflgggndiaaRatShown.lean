/- What the laws share: the contract of shown; where the ratios of a law's variables lie. -/
import Derived.Test.YtnbloflgggndiaaRatFloor
namespace Go.Proofs.Ytnbloflgggndiaa
open Go.RowKit Rt

/-- Where ratios lie, in a world in which nothing older than w has changed: each with its block and its two numbers. -/
structure Vars (w : World) (L : List (Nat × Int × Int)) (W : World) : Prop where
  bel : Below w.heap.size w W
  all : ∀ t ∈ L, t.1 < W.heap.size ∧ W.cell? ⟨t.1, 0, none⟩ = some (.int .i64 t.2.1) ∧ W.cell? ⟨t.1, 1, none⟩ = some (.int .i64 t.2.2)
theorem Vars.first (w : World) : Vars w [] w := ⟨Below.refl _ _, fun t h => by cases h⟩
theorem Vars.next {w W W' : World} {L : List (Nat × Int × Int)} (h : Vars w L W) (hb : Below W.heap.size W W') : Vars w L W' :=
  ⟨h.bel.trans (hb.mono h.bel.size), fun t ht => by
    obtain ⟨h1, h2, h3⟩ := h.all t ht
    exact ⟨Nat.lt_of_lt_of_le h1 hb.size, by rw [hb.cell (p := ⟨t.1, 0, none⟩) h1, h2], by rw [hb.cell (p := ⟨t.1, 1, none⟩) h1, h3]⟩⟩
theorem Vars.alloc {w W : World} {L : List (Nat × Int × Int)} (h : Vars w L W) (N D : Int) (T : TypeId) : Vars w ((W.heap.size, N, D) :: L) (W.alloc (.cells #[.int .i64 N, .int .i64 D] T)) := by
  have h2 := h.next ((Below.refl _ _).alloc (Nat.le_refl _) (.cells #[.int .i64 N, .int .i64 D] T))
  refine ⟨h2.bel, fun t ht => ?_⟩
  cases ht with
  | head => exact ⟨by simp, by simp [go_sem], by simp [go_sem]⟩
  | tail _ ht => exact h2.all t ht
theorem Vars.h1 {w W : World} {t : Nat × Int × Int} {L : List (Nat × Int × Int)} (h : Vars w (t :: L) W) : W.cell? ⟨t.1, 0, none⟩ = some (.int .i64 t.2.1) ∧ W.cell? ⟨t.1, 1, none⟩ = some (.int .i64 t.2.2) := (h.all t (by simp)).2
theorem Vars.tl {w W : World} {t : Nat × Int × Int} {L : List (Nat × Int × Int)} (h : Vars w (t :: L) W) : Vars w L W := ⟨h.bel, fun u hu => h.all u (by simp [hu])⟩

def BoolIs (b : Bool) (w : World) (e : Ending) (w' : World) : Prop := e = .returned (.bool b) ∧ Below w.heap.size w w'

set_option maxHeartbeats 4000000 in
theorem shown_any (w : World) : Calls Try.prog 7 #[] w (BoolIs true w) := by
  have M1 : ∀ w, Calls Try.prog 8 #[.int .i64 6, .int .i64 (-4)] w (RatIs (-3) 2 true w) := fun w => by
    have h := make_any 6 (-4) w (by omega) (by omega) (by omega) (by omega)
    unfold RatO at h
    rw [show numO (cutQ (makeO 6 (-4))) = -3 by decide +kernel, show denO (cutQ (makeO 6 (-4))) = 2 by decide +kernel, show okO (cutQ (makeO 6 (-4))) = true by decide +kernel] at h
    exact h
  have M2 : ∀ w, Calls Try.prog 10 #[.agg #[.int .i64 1, .int .i64 2], .agg #[.int .i64 1, .int .i64 3]] w (RatIs 5 6 true w) := fun w => by
    have h := add_any 1 2 1 3 w ⟨by omega, by omega, by omega, by omega⟩ ⟨by omega, by omega, by omega, by omega⟩
    unfold RatO at h
    rw [show numO (cutQ (addO (rawO 1 2) (rawO 1 3))) = 5 by decide +kernel, show denO (cutQ (addO (rawO 1 2) (rawO 1 3))) = 6 by decide +kernel, show okO (cutQ (addO (rawO 1 2) (rawO 1 3))) = true by decide +kernel] at h
    exact h
  have M3 : ∀ w, Calls Try.prog 21 #[.int .i64 7, .int .i64 1, .int .i64 2] w (TupIs 4 true w) := fun w => by
    have h := scale_any 7 1 2 w (by omega) (by omega) (by omega) (by omega) (by omega) (by omega)
    rw [if_neg (by omega), if_neg (by omega), show toldN (scaleV 7 1 2) = 4 by decide +kernel, show toldB (scaleV 7 1 2) = true by decide +kernel] at h
    exact h
  have M4 : ∀ w, Calls Try.prog 8 #[.int .i64 1, .int .i64 0] w (RatIs 0 0 false w) := fun w => by
    have h := make_any 1 0 w (by omega) (by omega) (by omega) (by omega)
    exact h
  have M5 : ∀ w, Calls Try.prog 19 #[.agg #[.int .i64 (-3), .int .i64 2]] w (IntIs (-1) w) := fun w => by
    have h := round_any (-3) 2 w ⟨by omega, by omega, by omega, by omega⟩
    rw [show roundO (rawO (-3) 2) = -1 by decide +kernel] at h
    exact h
  have M6 : ∀ w, Calls Try.prog 17 #[.agg #[.int .i64 (-3), .int .i64 2]] w (IntIs (-2) w) := fun w => by
    have h := floor_any (-3) 2 w ⟨by omega, by omega, by omega, by omega⟩
    rw [show floorO (rawO (-3) 2) = -2 by decide +kernel] at h
    exact h
  have H1 := Lib.hid M1
  have H2 := Lib.hid M2
  have H3 := Lib.hid M3
  have H4 := Lib.hid M4
  have H5 := Lib.hid M5
  have H6 := Lib.hid M6
  clear M1 M2 M3 M4 M5 M6
  have hq := eq_rat
  go_enter Try.func7, Try.ntmps7
  go_wp2_with fail
  refine (H1.out _).mono ?_
  rintro e w1 ⟨rfl, hb1⟩
  have V1 := ((Vars.first w).next hb1).alloc (-3) 2 24
  clear hb1
  go_wp2_with fail
  refine (H2.out _).mono ?_
  rintro e w2 ⟨rfl, hb2⟩
  have V2 := (V1.next hb2).alloc 5 6 24
  clear hb2 V1
  go_wp2_with fail
  refine (H3.out _).mono ?_
  rintro e w3 ⟨rfl, hb3⟩
  have V3 := V2.next hb3
  clear hb3 V2
  go_wp2_with fail
  refine (H4.out _).mono ?_
  rintro e w4 ⟨rfl, hb4⟩
  have V4 := V3.next hb4
  clear hb4 V3
  have V5 := V4.alloc 0 0 24
  have k1 := V5.tl.h1
  have k2 := V5.tl.tl.h1
  simp only at k1 k2
  obtain ⟨k11, k12⟩ := k1
  obtain ⟨k21, k22⟩ := k2
  go_wp2_with fail
  refine (H5.out _).mono ?_
  rintro e w5 ⟨rfl, hb5⟩
  have V6 := V5.next hb5
  clear hb5 V5 V4 k11 k12 k21 k22
  have k1 := V6.tl.tl.h1
  simp only at k1
  obtain ⟨k11, k12⟩ := k1
  go_wp2_with fail
  refine (H6.out _).mono ?_
  rintro e w6 ⟨rfl, hb6⟩
  have V7 := V6.next hb6
  clear hb6 V6 k11 k12
  go_wp2_with fail
  go_ret
  exact ⟨rfl, V7.bel⟩
end Go.Proofs.Ytnbloflgggndiaa
