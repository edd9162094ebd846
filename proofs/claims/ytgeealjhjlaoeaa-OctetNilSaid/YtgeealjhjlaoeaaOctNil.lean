/- OctetNil. -/
import Derived.Test.YtgeealjhjlaoeaaOctB
import Derived.Test.YtgeealjhjlaoeaaOctRef
import Derived.Deep.RegionHeld3
namespace Go.Proofs.Ytgeealjhjlaoeaa
open Go.RowKit Oct

def zerosS (L : Nat) : ByteArray := strOfNums (List.replicate L 0)
theorem zerosS_size (L : Nat) : (zerosS L).size = L := by simp [zerosS, strOfNums_size]

set_option maxHeartbeats 1000000 in
theorem nil_walk (n : Nat) (d m : Int) (w : World) (hn : n < 256) :
    Calls Try.prog 11 #[.int .u8 n, .agg #[.int .i64 d, .int .i64 m]] w fun e w' => e = .returned (.bool true) ∧ Below w.heap.size w w' := by
  obtain ⟨i5, hi, hz0, hz1, hz2⟩ := info_parts info5
  obtain ⟨L, hL⟩ : ∃ L : Nat, (65528 : Int) + (n : Int) % 15 = L := ⟨65528 + n % 15, by omega⟩
  have hLL : 65528 ≤ L ∧ L ≤ 65542 := by omega
  have HL := Lib.hid hL
  clear hL
  obtain ⟨hL1, hL2⟩ := hLL
  go_enter Try.func11, Try.ntmps11
  go_wp2_with fail
  refine (shown_any _).mono ?_
  rintro e w1 ⟨rfl, hb1⟩
  have hc0 : w1.cell? ⟨w.heap.size, 0, none⟩ = some (.int .i64 d) := by
    rw [hb1.cell (p := ⟨w.heap.size, 0, none⟩) (by simp)]
    simp
  have hc1 : w1.cell? ⟨w.heap.size, 1, none⟩ = some (.int .i64 m) := by
    rw [hb1.cell (p := ⟨w.heap.size, 1, none⟩) (by simp)]
    simp
  have hbw : Below w.heap.size w w1 := ((Below.refl _ _).alloc (Nat.le_refl _) _).trans (hb1.mono (by simp))
  have hlt1 : w.heap.size < w1.heap.size := by have := hb1.size; simp at this; omega
  clear hb1
  go_wp2_with fail
  refine (one_nil _ d m).mono ?_
  rintro e w2 ⟨rfl, hb2⟩
  have hown : Own w w2 w1.heap.size ByteArray.empty 0 false := by
    refine ⟨Rd.below (w := w1.alloc (.cells #[.string ByteArray.empty, .int .i64 0, .bool false] 52)) ⟨?_, ?_, ?_, ?_, ?_, ?_⟩ hb2 (by simp), (hbw.alloc (by omega) _).trans (hb2.mono (by simp; omega)), by omega, Nat.le_refl _, by decide⟩
    all_goals simp
  clear hc0 hc1 hbw hb2
  go_wp2_with fail
  refine (failed_nil _).mono ?_
  rintro e w' ⟨rfl, rfl⟩
  go_wp2_with fail
  refine (at_nil _).mono ?_
  rintro e w' ⟨rfl, rfl⟩
  go_wp2_with fail
  refine (left_nil _).mono ?_
  rintro e w' ⟨rfl, rfl⟩
  go_wp2_with fail
  refine (left_own hown).mono ?_
  rintro e w3 ⟨rfl, hown3, _⟩
  go_wp2_with fail
  refine (at_own hown3).mono ?_
  rintro e w' ⟨rfl, rfl⟩
  go_wp2_with fail
  refine (failed_own hown3).mono ?_
  rintro e w' ⟨rfl, rfl⟩
  go_wp2_with fail
  refine (num_fail hown3 1 (Or.inr (Or.inr (Or.inr (by decide))))).mono ?_
  rintro e w4 ⟨rfl, hown4, _⟩
  go_wp2_with fail
  refine (failed_own hown4).mono ?_
  rintro e w' ⟨rfl, rfl⟩
  have hbel := hown4.bel
  clear hown hown3 hown4
  go_wp2_with (at_make; refine wpList_make_full _ rfl _ _ 50 rfl w4.heap.size 5 i5 (.int .u8 0) 1 Try.underlying50 hi hz0 hz1 _ _ _ _ L rfl rfl HL.out HL.out ?c1 ?c2 ?c3 ?_)
  case c1 => rw [hz2]; omega
  case c2 => unfold maxLen; omega
  case c3 => exact Nat.le_refl _
  intro w5 hrow hgrow
  rw [toList_madeCells_one] at hrow
  have hbel5 := hbel.grown hgrow hbel.size (by simp)
  have hcv := run_convert_bytes_arg (P := Try.prog) w5 50 5 Try.underlying50 Try.underlying5 w4.heap.size 0 L L (List.replicate L 0) (by simp)
    (fun i hi => by
      rw [Nat.zero_add, hrow.cellAt i (by omega)]
      simp [List.getD, hi]) 9 Try.underlying9
  have hzs := zerosS_size L
  rw [show strOfNums (List.replicate L 0) = zerosS L from rfl] at hcv
  generalize zerosS L = S at *
  have HZS := Lib.hid hzs
  clear hzs hrow hgrow
  have HSM := Lib.hid (show S.size ≤ maxLen by rw [HZS.out]; unfold maxLen; omega)
  go_wp2_with fail
  refine (text_any S _ HSM.out).mono ?_
  rintro e w6 ⟨rfl, hb6⟩
  have hbel6 := hbel5.trans (hb6.mono hbel5.size)
  by_cases hbig : 65535 < L
  · rw [show textV S = ⟨#[]⟩ by unfold textV; rw [if_pos (by rw [HZS.out]; exact hbig)]; rfl]
    have hbi : (65535 : Int) < 65528 + (n : Int) % 15 := by have := HL.out; omega
    go_wp2_with fail
    go_ret
    exact ⟨rfl, hbel6⟩
  · rw [show textV S = putS L 2 ++ S by unfold textV; rw [if_neg (by rw [HZS.out]; exact hbig), HZS.out]]
    have hbi : ¬ (65535 : Int) < 65528 + (n : Int) % 15 := by have := HL.out; omega
    have hps := putS_size L 2
    have hpp : putV (L : Int) (2 : Int) = putS L 2 := putV_in L 2 (by omega)
    generalize putS L 2 = P at *
    have hts : (P ++ S).size = L + 2 := by rw [ByteArray.size_append, hps, HZS.out]; omega
    have htx : (P ++ S).extract 0 2 = P := by rw [ByteArray.extract_append_eq_left hps.symm]
    generalize P ++ S = T at *
    have ht2 : 2 ≤ T.size := by omega
    have ht2i : (2 : Int) ≤ (T.size : Int) := by omega
    have hteq : ((T.size : Int) == (65528 + (n : Int) % 15 + 2)) = true := by have := HL.out; simp; omega
    have HTX := Lib.hid htx
    have HPP := Lib.hid hpp
    clear htx hpp hps hts
    go_wp2_with fail
    have hbd := hbel6.drew
    have hwr : IntKind.i64.wrap (65528 + (n : Int) % 15 + 2) = 65528 + (n : Int) % 15 + 2 := by rw [IntKind.wrap_i64]; omega
    rw [HL.out] at hteq hwr hbi
    have hHL := HL.out
    have hPP := HPP.out
    have hTX := HTX.out
    clear hbd
    go_region_held3 (fun w' => Below w.heap.size w w') (first | assumption | exact Below.drew (by assumption)) (first | (go_at_call 13; refine (below_on (put_any _ _ _) (by assumption)).mono ?_; rintro e w8 ⟨rfl, hb8⟩))
    go_wp2_with fail
    go_ret
    exact ⟨rfl, by assumption⟩

theorem nilV (p d m : Int) (w : World) (hp : 0 ≤ p ∧ p ≤ 255) :
    Calls Try.prog 11 #[.int .u8 p, .agg #[.int .i64 d, .int .i64 m]] w fun e w' => e = .returned (.bool true) ∧ Below w.heap.size w w' := by
  obtain ⟨n, rfl⟩ := Int.eq_ofNat_of_zero_le hp.1
  exact nil_walk n d m w (by omega)
end Go.Proofs.Ytgeealjhjlaoeaa
