/- OctetBack. -/
import Derived.Test.YtgeealjhjlaoeaaOctB
import Derived.Test.YtgeealjhjlaoeaaOctPlain3
import Derived.Deep.DeepCutAuto
namespace Go.Proofs.Ytgeealjhjlaoeaa
open Go.RowKit Oct

theorem putS_app (n : Int) (k : Nat) (t : ByteArray) : (putS n k ++ t).extract 0 k = putS n k := by
  have := putS_size n k
  rw [ByteArray.extract_append_eq_left this.symm]
set_option maxRecDepth 1000000 in
set_option maxHeartbeats 4000000 in
theorem back_walk (n : Int) (s : ByteArray) (w : World) (hs : s.size ≤ maxLen) (hn1 : -9223372036854775808 ≤ n) (hn2 : n ≤ 9223372036854775807) :
    Calls Try.prog 5 #[.int .i64 n, .string s] w fun e w' => e = .returned (.bool true) ∧ Below w.heap.size w w' := by
  have f1 := fewS_size s
  generalize hx : fewS s = x at *
  have HX := Lib.hid hx
  clear hx
  have HN1 := Lib.hid hn1
  have HN2 := Lib.hid hn2
  clear hn1 hn2
  go_enter Try.func5, Try.ntmps5
  go_wp2_with fail
  refine (shown_any _).mono ?_
  rintro e w1 ⟨rfl, hb1⟩
  go_wp2_with fail
  go_loopw [6] (fun i wr => ∃ k : Nat, k ≤ 9 ∧ i = .int .i64 k ∧ Below w.heap.size w wr) (fun i _ => 9 - (intOf i).toNat)
  case atStart => exact ⟨0, by omega, rfl, hb1⟩
  case round =>
    obtain ⟨k, hk9, rfl, hbel⟩ := hrel
    by_cases hlt : k ≤ 8
    · have hz := putS_size n k
      have hsp := putS_app n k x
      have hpv := putV_in n k hlt
      go_wp2_with fail
      refine (put_in n k hlt _).mono ?_
      rintro e w2 ⟨rfl, hb2⟩
      have hbel2 := hbel.trans (hb2.mono hbel.size)
      generalize hbb : putS n k = b at *
      have HB := Lib.hid hbb
      have hz1 : b.size ≤ 8 := by omega
      have HZ := Lib.hid hz
      have HSP := Lib.hid hsp
      have HPV := Lib.hid hpv
      clear hbb hz hsp hpv hb2 hbel
      go_wp2_with fail
      refine (few_any _ _ hs).mono ?_
      rintro e w3 ⟨rfl, rfl⟩
      rw [HX.out]
      go_wp2_with fail
      have hsz : (b ++ x).size ≤ 9223372036854775807 := by rw [ByteArray.size_append]; omega
      have hsk : (b ++ x).size = k + x.size := by rw [ByteArray.size_append, HZ.out]
      have HSZ := Lib.hid hsz
      have HSK := Lib.hid hsk
      clear hsz hsk
      refine (read_own (b ++ x) HSZ.out hbel2).mono ?_
      rintro e w3 ⟨rfl, hx3, hn3⟩
      go_wp2_with fail
      refine (few_any _ _ hs).mono ?_
      rintro e w4 ⟨rfl, rfl⟩
      rw [HX.out]
      go_wp2_with fail
      refine (read_own (b ++ x) HSZ.out hx3.bel).mono ?_
      rintro e w4 ⟨rfl, hy4, hn4⟩
      have hx4 := hx3.below hn4
      have hxy : w2.heap.size < w3.heap.size := hx3.rd.lt
      clear hx3 hn3 hn4
      have hzk : ((b.size : Int) != (k : Int)) = false := by rw [HZ.out]; simp
      go_wp2_with fail
      refine (int_yes hx4 k hlt (by have := HSK.out; omega)).mono ?_
      rintro e w5 ⟨rfl, hx5, o5⟩
      have hy5 := hy4.other hx4.new (by omega) o5
      clear hx4 hy4 o5
      rw [Nat.zero_add] at hx5 ⊢
      rw [HSP.out]
      generalize hS : sgn (numI b.data.toList k) k = S
      have HS := Lib.hid hS
      clear hS
      go_wp2_with fail
      refine (num_yes hy5 k hlt (by have := HSK.out; omega)).mono ?_
      rintro e w6 ⟨rfl, hy6, o6⟩
      have hx6 := hx5.other hy5.new (by omega) o6
      clear hx5 hy5 o6
      rw [Nat.zero_add] at hy6 ⊢
      rw [HSP.out]
      generalize hP : numI b.data.toList k = P
      have HP := Lib.hid hP
      clear hP
      have HB2 := Lib.hid (show putV S k = b by rw [← HS.out, ← HB.out]; exact put_signed n k hlt)
      have HB3 := Lib.hid (show putV P k = b by rw [← HP.out, ← HB.out]; exact put_plain n k hlt)
      have HY := Lib.hid (app_behind b x k HZ.out)
      have HFa := Lib.hid (show k = 8 → S = n by rintro rfl; rw [← HS.out, ← HB.out]; exact (fits_a n HN1.out HN2.out).2)
      have HFb := Lib.hid (show 0 < k → k ≤ 7 → wrap64 (-2 ^ (8 * k - 1)) ≤ n → n < wrap64 (2 ^ (8 * k - 1)) → S = n by intro a1 a2 a3 a4; rw [← HS.out, ← HB.out]; exact fits_b n k a1 a2 a3 a4)
      have HFc := Lib.hid (show n = 0 → S = n by rintro rfl; rw [← HS.out, ← HB.out]; exact fits_c k)
      have HBa := Lib.hid (show k = 8 → P = n by rintro rfl; rw [← HP.out, ← HB.out]; exact (fits_a n HN1.out HN2.out).1)
      have HBb := Lib.hid (show k ≤ 7 → 0 ≤ n → n < wrap64 (2 ^ (8 * k)) → P = n by intro a1 a2 a3; rw [← HP.out, ← HB.out]; exact below_b n k a1 a2 a3)
      obtain ⟨d, hd⟩ : ∃ d : Bool, ((k : Int) == 8) = d := ⟨_, rfl⟩
      have HD : Hid (d = true → k = 8) := Lib.hid (by intro h; rw [h] at hd; have := eq_of_beq hd; omega)
      have HE := Lib.hid (show d = false → k ≤ 7 by intro h; rw [h] at hd; have := ne_of_beq_false hd; omega)
      go_upto_region 12 with fail
      go_cut [12] (fun s12 wx => ∃ F : Bool, s12 = .bool F ∧ Hid (F = true → S = n) ∧ wx = w6)
      case first =>
        clear hx6 hy6 hz1 hzk hbel2 f1 hs hb1 hxy hk9
        cases d with
        | true =>
          have HD8 := Lib.hid (HD.out rfl)
          go_wp2_with fail
          go_meet
          exact ⟨_, rfl, Lib.hid (fun _ => HFa.out (HD8.out)), rfl⟩
        | false =>
          have HE7 := Lib.hid (HE.out rfl)
          by_cases hk0 : 0 < k
          · by_cases hlo : wrap64 (-2 ^ (8 * k - 1)) ≤ n
            · by_cases hhi : n < wrap64 (2 ^ (8 * k - 1))
              · go_wp2_with fail
                go_meet
                exact ⟨_, rfl, Lib.hid (fun _ => HFb.out (by omega) HE7.out hlo hhi), rfl⟩
              · go_wp2_with fail
                go_meet
                exact ⟨_, rfl, Lib.hid (fun h => HFc.out (by simpa using h)), rfl⟩
            · go_wp2_with fail
              go_meet
              exact ⟨_, rfl, Lib.hid (fun h => HFc.out (by simpa using h)), rfl⟩
          · go_wp2_with fail
            go_meet
            exact ⟨_, rfl, Lib.hid (fun h => HFc.out (by simpa using h)), rfl⟩
      case rest =>
        obtain ⟨F, rfl, hF, hw⟩ := hcut
        subst hw
        go_upto_region 13 with fail
        rename_i wc _ _
        go_cut [13] (fun s13 wx => ∃ B : Bool, s13 = .bool B ∧ Hid (B = true → P = n) ∧ Own w wx w2.heap.size (b ++ x) k false ∧ Own w wx w3.heap.size (b ++ x) k false)
        case first =>
          clear hz1 hzk hbel2 f1 hs hb1 hxy hk9
          have HXX := Lib.hid hx6
          have HYY := Lib.hid hy6
          clear hx6 hy6
          cases d with
          | true =>
            have HD8 := Lib.hid (HD.out rfl)
            go_wp2_with fail
            go_meet
            exact ⟨_, rfl, Lib.hid (fun _ => HBa.out (HD8.out)), HXX.out, HYY.out⟩
          | false =>
            have HE7 := Lib.hid (HE.out rfl)
            by_cases hn0 : 0 ≤ n
            · by_cases hhi : n < wrap64 (2 ^ (8 * k))
              · go_wp2_with fail
                go_meet
                exact ⟨_, rfl, Lib.hid (fun _ => HBb.out HE7.out hn0 hhi), HXX.out, HYY.out⟩
              · go_wp2_with fail
                go_meet
                exact ⟨_, rfl, Lib.hid (fun h => by cases h), HXX.out, HYY.out⟩
            · go_wp2_with fail
              go_meet
              exact ⟨_, rfl, Lib.hid (fun h => by cases h), HXX.out, HYY.out⟩
        case rest =>
          clear hx6 hy6 hd HD HE
          obtain ⟨B, rfl, hB, hx7, hy7⟩ := hcut
          cases F with
          | true =>
            have hSn : (S != n) = false := by simp [hF.out rfl]
            cases B with
            | true =>
              have hPn : (P != n) = false := by simp [hB.out rfl]
              go_wp2_with fail
              refine (put_any _ _ _).mono ?_
              rintro e w8 ⟨rfl, hb8⟩
              have hx8 := hx7.below hb8
              have hy8 := hy7.below hb8
              rw [HB2.out]
              clear hx7 hy7
              go_wp2_with fail
              refine (put_any _ _ _).mono ?_
              rintro e w9 ⟨rfl, hb9⟩
              have hx9 := hx8.below hb9
              have hy9 := hy8.below hb9
              rw [HB3.out]
              clear hx8 hy8
              go_wp2_with fail
              refine (at_own hx9).mono ?_
              rintro e w10 ⟨rfl, rfl⟩
              have hlf := left_own hy9
              rw [show (((b ++ x).size : Int) - (k : Int)) = (x.size : Int) from by have := HSK.out; omega] at hlf
              have HLF := Lib.hid hlf
              clear hlf
              go_wp2_with fail
              refine HLF.out.mono ?_
              rintro e w10 ⟨rfl, hy10, o10⟩
              have hx10 := hx9.other hy9.new (by omega) o10
              clear hx9 hy9 o10
              go_wp2_with fail
              refine (few_any _ _ hs).mono ?_
              rintro e w11 ⟨rfl, rfl⟩
              rw [HX.out]
              go_wp2_with fail
              refine (failed_own hx10).mono ?_
              rintro e w11 ⟨rfl, rfl⟩
              go_wp2_with fail
              refine (few_any _ _ hs).mono ?_
              rintro e w11 ⟨rfl, rfl⟩
              rw [HX.out]
              go_wp2_with fail
              refine (take_yes hy10 x.size (by have := HSK.out; omega)).mono ?_
              rintro e w11 ⟨rfl, hy11, _⟩
              rw [HY.out]
              go_wp2_with fail
              refine (few_any _ _ hs).mono ?_
              rintro e w12 ⟨rfl, rfl⟩
              rw [HX.out]
              go_wp2_with fail
              go_roundw
              case rel => exact ⟨k + 1, by omega, by go_num, hy11.bel⟩
              case measure => simp [intOf]; omega
            | false =>
              go_wp2_with fail
              refine (put_any _ _ _).mono ?_
              rintro e w8 ⟨rfl, hb8⟩
              have hx8 := hx7.below hb8
              have hy8 := hy7.below hb8
              rw [HB2.out]
              clear hx7 hy7
              go_wp2_with fail
              refine (put_any _ _ _).mono ?_
              rintro e w9 ⟨rfl, hb9⟩
              have hx9 := hx8.below hb9
              have hy9 := hy8.below hb9
              rw [HB3.out]
              clear hx8 hy8
              go_wp2_with fail
              refine (at_own hx9).mono ?_
              rintro e w10 ⟨rfl, rfl⟩
              have hlf := left_own hy9
              rw [show (((b ++ x).size : Int) - (k : Int)) = (x.size : Int) from by have := HSK.out; omega] at hlf
              have HLF := Lib.hid hlf
              clear hlf
              go_wp2_with fail
              refine HLF.out.mono ?_
              rintro e w10 ⟨rfl, hy10, o10⟩
              have hx10 := hx9.other hy9.new (by omega) o10
              clear hx9 hy9 o10
              go_wp2_with fail
              refine (few_any _ _ hs).mono ?_
              rintro e w11 ⟨rfl, rfl⟩
              rw [HX.out]
              go_wp2_with fail
              refine (failed_own hx10).mono ?_
              rintro e w11 ⟨rfl, rfl⟩
              go_wp2_with fail
              refine (few_any _ _ hs).mono ?_
              rintro e w11 ⟨rfl, rfl⟩
              rw [HX.out]
              go_wp2_with fail
              refine (take_yes hy10 x.size (by have := HSK.out; omega)).mono ?_
              rintro e w11 ⟨rfl, hy11, _⟩
              rw [HY.out]
              go_wp2_with fail
              refine (few_any _ _ hs).mono ?_
              rintro e w12 ⟨rfl, rfl⟩
              rw [HX.out]
              go_wp2_with fail
              go_roundw
              case rel => exact ⟨k + 1, by omega, by go_num, hy11.bel⟩
              case measure => simp [intOf]; omega
          | false =>
            cases B with
            | true =>
              have hPn : (P != n) = false := by simp [hB.out rfl]
              go_wp2_with fail
              refine (put_any _ _ _).mono ?_
              rintro e w8 ⟨rfl, hb8⟩
              have hx8 := hx7.below hb8
              have hy8 := hy7.below hb8
              rw [HB2.out]
              clear hx7 hy7
              go_wp2_with fail
              refine (put_any _ _ _).mono ?_
              rintro e w9 ⟨rfl, hb9⟩
              have hx9 := hx8.below hb9
              have hy9 := hy8.below hb9
              rw [HB3.out]
              clear hx8 hy8
              go_wp2_with fail
              refine (at_own hx9).mono ?_
              rintro e w10 ⟨rfl, rfl⟩
              have hlf := left_own hy9
              rw [show (((b ++ x).size : Int) - (k : Int)) = (x.size : Int) from by have := HSK.out; omega] at hlf
              have HLF := Lib.hid hlf
              clear hlf
              go_wp2_with fail
              refine HLF.out.mono ?_
              rintro e w10 ⟨rfl, hy10, o10⟩
              have hx10 := hx9.other hy9.new (by omega) o10
              clear hx9 hy9 o10
              go_wp2_with fail
              refine (few_any _ _ hs).mono ?_
              rintro e w11 ⟨rfl, rfl⟩
              rw [HX.out]
              go_wp2_with fail
              refine (failed_own hx10).mono ?_
              rintro e w11 ⟨rfl, rfl⟩
              go_wp2_with fail
              refine (few_any _ _ hs).mono ?_
              rintro e w11 ⟨rfl, rfl⟩
              rw [HX.out]
              go_wp2_with fail
              refine (take_yes hy10 x.size (by have := HSK.out; omega)).mono ?_
              rintro e w11 ⟨rfl, hy11, _⟩
              rw [HY.out]
              go_wp2_with fail
              refine (few_any _ _ hs).mono ?_
              rintro e w12 ⟨rfl, rfl⟩
              rw [HX.out]
              go_wp2_with fail
              go_roundw
              case rel => exact ⟨k + 1, by omega, by go_num, hy11.bel⟩
              case measure => simp [intOf]; omega
            | false =>
              go_wp2_with fail
              refine (put_any _ _ _).mono ?_
              rintro e w8 ⟨rfl, hb8⟩
              have hx8 := hx7.below hb8
              have hy8 := hy7.below hb8
              rw [HB2.out]
              clear hx7 hy7
              go_wp2_with fail
              refine (put_any _ _ _).mono ?_
              rintro e w9 ⟨rfl, hb9⟩
              have hx9 := hx8.below hb9
              have hy9 := hy8.below hb9
              rw [HB3.out]
              clear hx8 hy8
              go_wp2_with fail
              refine (at_own hx9).mono ?_
              rintro e w10 ⟨rfl, rfl⟩
              have hlf := left_own hy9
              rw [show (((b ++ x).size : Int) - (k : Int)) = (x.size : Int) from by have := HSK.out; omega] at hlf
              have HLF := Lib.hid hlf
              clear hlf
              go_wp2_with fail
              refine HLF.out.mono ?_
              rintro e w10 ⟨rfl, hy10, o10⟩
              have hx10 := hx9.other hy9.new (by omega) o10
              clear hx9 hy9 o10
              go_wp2_with fail
              refine (few_any _ _ hs).mono ?_
              rintro e w11 ⟨rfl, rfl⟩
              rw [HX.out]
              go_wp2_with fail
              refine (failed_own hx10).mono ?_
              rintro e w11 ⟨rfl, rfl⟩
              go_wp2_with fail
              refine (few_any _ _ hs).mono ?_
              rintro e w11 ⟨rfl, rfl⟩
              rw [HX.out]
              go_wp2_with fail
              refine (take_yes hy10 x.size (by have := HSK.out; omega)).mono ?_
              rintro e w11 ⟨rfl, hy11, _⟩
              rw [HY.out]
              go_wp2_with fail
              refine (few_any _ _ hs).mono ?_
              rintro e w12 ⟨rfl, rfl⟩
              rw [HX.out]
              go_wp2_with fail
              go_roundw
              case rel => exact ⟨k + 1, by omega, by go_num, hy11.bel⟩
              case measure => simp [intOf]; omega
    · obtain rfl : k = 9 := by omega
      go_wp2_with fail
      go_ret
      exact ⟨rfl, hbel⟩

theorem backV (n : Int) (s : ByteArray) (w : World) (hs : s.size ≤ maxLen) (hn : -9223372036854775808 ≤ n ∧ n ≤ 9223372036854775807) :
    Calls Try.prog 5 #[.int .i64 n, .string s] w fun e w' => e = .returned (.bool true) ∧ Below w.heap.size w w' :=
  back_walk n s w hs hn.1 hn.2
end Go.Proofs.Ytgeealjhjlaoeaa
