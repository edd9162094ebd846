/- The contracts of the reference's Put and Text, and of Text; OctetAll's walk. -/
import Derived.Test.YtgeealjhjlaoeaaOctShown
namespace Go.Proofs.Ytgeealjhjlaoeaa
open Go.RowKit Oct

set_option maxHeartbeats 400000 in
theorem rput_in (n : Int) (k : Nat) (hk : k ≤ 8) (w : World) :
    Calls Try.prog 14 #[.int .i64 n, .int .i64 k] w fun e w' => e = .returned (.string (putS n k)) ∧ Below w.heap.size w w' := by
  obtain ⟨i5, hi, hz0, hz1, hz2⟩ := info_parts info5
  have h1 : decide ((k : Int) < 0) = false := by simp
  have h2 : decide ((8 : Int) < (k : Int)) = false := by simp; omega
  go_enter Try.func14, Try.ntmps14
  go_wp2_with fail
  go_loopw [5, 6] (fun v i wr => ∃ m g c : Nat, m ≤ k ∧ i = .int .i64 (k - 1 - m) ∧ v = .slice (some ⟨g, 0, none⟩) m c ∧ wr.ownsRow w.heap.size 5 1 (.slice (some ⟨g, 0, none⟩) m c) m (((nums n k).take m).map (Value.int .u8)) ∧ Below w.heap.size w wr) (fun _ i _ => (intOf i + 1).toNat)
  case atStart =>
    refine ⟨0, w.heap.size, 0, Nat.zero_le _, by go_num, rfl, ?_, (Below.refl _ _).alloc (Nat.le_refl _) _⟩
    exact World.ownsRow_lit w #[] 0 (Nat.le_refl _) (by unfold maxLen; omega) rfl
  case round =>
    obtain ⟨m, g, c, hm, rfl, rfl, hown, hbel⟩ := hrel
    by_cases hlt : m < k
    · obtain ⟨j, hj⟩ : ∃ j : Nat, (k : Int) - 1 - m = j := ⟨k - 1 - m, by omega⟩
      rw [hj]
      have HJ := Lib.hid hj
      have hj8 : j ≤ 7 := by omega
      clear hj
      have hk1 : k - 1 - m = j := by have := HJ.out; omega
      have HT := Lib.hid (nums_snoc n k m j hlt hk1 hj8)
      clear hk1
      go_wp2_with (at_builtin; refine wpList_append_own _ rfl _ _ 50 rfl w.heap.size 5 i5 (.int .u8 0) 1 1 Try.underlying50 hi hz0 hz1 hz2 rfl (by decide) _ _ _ rfl (hown.alloc _) ⟨wr.heap.size, 0, none⟩ 1 1 [.int .u8 (IntKind.u64.wrap n / 2 ^ (8 * j) % 256)] rfl rfl ?c1 ?c2 ?c3 ?c4 ?c5 ?_)
      case c1 => exact cell_one_new _ _ _
      case c2 => intro u hu; simp at hu; subst hu; rfl
      case c3 => unfold maxLen; omega
      case c4 => omega
      case c5 => have := hbel.size; simp; omega
      · intro v' w1 hown' hgrow hnil
        rw [HT.out] at hown'
        have hg2 := hown.lt g rfl
        have hbel2 : Below w.heap.size w w1 := ((hbel.alloc hbel.size _).grown hgrow (by have := hbel.size; simp; omega) (by intro x hx; simp [Value.ownBlock] at hx; omega))
        obtain ⟨g2, c2, hv2⟩ : ∃ g2 c2, v' = .slice (some ⟨g2, 0, none⟩) (m + 1) c2 := by
          rcases hown'.2 with ⟨_, h0⟩ | ⟨g2, c2, _, h2, _⟩
          · omega
          · exact ⟨g2, c2, h2⟩
        subst hv2
        clear hown hgrow hnil hbel
        go_wp2_with fail
        go_roundw
        case rel => exact ⟨m + 1, g2, c2, by omega, by have := HJ.out; go_num, rfl, hown', hbel2⟩
        case measure => simp [intOf]
    · obtain rfl : m = k := by omega
      have hneg : (m : Int) - 1 - m = -1 := by omega
      rw [hneg]
      rw [List.take_of_length_le (by rw [nums_length]; omega)] at hown
      have hg := hown.cellAt
      have hc : ∀ i, i < m → wr.cell? ⟨g, 0 + i, none⟩ = some (.int .u8 ((nums n m).getD i 0)) := fun i hij => by
        rw [Nat.zero_add, hown.cellAt i (by omega), List.getElem?_map, List.getElem?_eq_getElem (by rw [nums_length]; exact hij)]
        simp [List.getD, List.getElem?_eq_getElem (show i < (nums n m).length by rw [nums_length]; exact hij)]
      have hcv := run_convert_bytes_arg (P := Try.prog) wr 50 5 Try.underlying50 Try.underlying5 g 0 m c (nums n m) (nums_length _ _) hc 9 Try.underlying9
      clear hc hg hneg
      go_wp2_with fail
      go_ret
      exact ⟨rfl, hbel⟩

theorem rput_out (n s : Int) (h : ¬ (0 ≤ s ∧ s ≤ 8)) (w : World) :
    Calls Try.prog 14 #[.int .i64 n, .int .i64 s] w fun e w' => e = .returned (.string ByteArray.empty) ∧ w = w' := by
  by_cases h0 : s < 0
  · go_enter Try.func14, Try.ntmps14
    go_wp2_with fail
    go_ret
    exact ⟨rfl, rfl⟩
  · have h1 : 8 < s := by omega
    have h2 : ¬ s < 0 := h0
    go_enter Try.func14, Try.ntmps14
    go_wp2_with fail
    go_ret
    exact ⟨rfl, rfl⟩

theorem rput_any (n s : Int) (w : World) :
    Calls Try.prog 14 #[.int .i64 n, .int .i64 s] w fun e w' => e = .returned (.string (putV n s)) ∧ Below w.heap.size w w' := by
  by_cases h : 0 ≤ s ∧ s ≤ 8
  · obtain ⟨k, rfl⟩ := Int.eq_ofNat_of_zero_le h.1
    rw [putV_in _ _ (by omega)]
    exact rput_in n k (by omega) w
  · rw [putV_out _ _ h]
    exact (rput_out n s h w).mono fun e w' ⟨he, hw⟩ => ⟨he, hw ▸ Below.refl _ _⟩

/-- A contract that is Below, from a world that is Below already. -/
theorem below_on {P : Program} {f : FuncId} {args : Array Value} {w W0 : World} {R : Ending → Prop} (h : Calls P f args w fun e w' => R e ∧ Below w.heap.size w w') (hb : Below W0.heap.size W0 w) :
    Calls P f args w fun e w' => R e ∧ Below W0.heap.size W0 w' :=
  h.mono fun _ _ ⟨he, h2⟩ => ⟨he, hb.trans (h2.mono hb.size)⟩

theorem textV_size (s : ByteArray) : (textV s).size ≤ 65537 := by
  unfold textV
  split
  · decide
  · rw [ByteArray.size_append, putS_size]
    omega

set_option maxHeartbeats 400000 in
theorem text_any (s : ByteArray) (w : World) (hs : s.size ≤ maxLen) :
    Calls Try.prog 15 #[.string s] w fun e w' => e = .returned (.string (textV s)) ∧ Below w.heap.size w w' := by
  unfold maxLen at hs
  by_cases h : 65535 < s.size
  · go_enter Try.func15, Try.ntmps15
    go_wp2_with fail
    go_ret
    exact ⟨by unfold textV; rw [if_pos h]; rfl, Below.refl _ _⟩
  · have hz := putS_size s.size 2
    have HV := Lib.hid (show textV s = putS s.size 2 ++ s by unfold textV; rw [if_neg h])
    have hp := put_in (s.size : Int) 2 (by omega) w
    generalize putS s.size 2 = t at *
    have hz2 : t.size ≤ 2 := by omega
    have HP := Lib.hid hp
    clear hz hp
    go_enter Try.func15, Try.ntmps15
    go_wp2_with fail
    refine HP.out.mono ?_
    rintro e w' ⟨rfl, hb⟩
    go_wp2_with fail
    go_ret
    exact ⟨by rw [HV.out]; rfl, hb⟩

set_option maxHeartbeats 400000 in
theorem rtext_any (s : ByteArray) (w : World) (hs : s.size ≤ maxLen) :
    Calls Try.prog 17 #[.string s] w fun e w' => e = .returned (.string (textV s)) ∧ Below w.heap.size w w' := by
  unfold maxLen at hs
  by_cases h : 65535 < s.size
  · go_enter Try.func17, Try.ntmps17
    go_wp2_with fail
    go_ret
    exact ⟨by unfold textV; rw [if_pos h]; rfl, Below.refl _ _⟩
  · have hz := putS_size s.size 2
    have HV := Lib.hid (show textV s = putS s.size 2 ++ s by unfold textV; rw [if_neg h])
    have hp := rput_in (s.size : Int) 2 (by omega) w
    generalize putS s.size 2 = t at *
    have hz2 : t.size ≤ 2 := by omega
    have HP := Lib.hid hp
    clear hz hp
    go_enter Try.func17, Try.ntmps17
    go_wp2_with fail
    refine HP.out.mono ?_
    rintro e w' ⟨rfl, hb⟩
    go_wp2_with fail
    go_ret
    exact ⟨by rw [HV.out]; rfl, hb⟩

set_option maxHeartbeats 1000000 in
theorem all_walk (n z : Int) (s : ByteArray) (w : World) (hs : s.size ≤ maxLen) :
    Calls Try.prog 3 #[.int .i64 n, .int .i64 z, .string s] w fun e w' => e = .returned (.bool true) ∧ Below w.heap.size w w' := by
  have f1 := fewS_size s
  generalize hx : fewS s = x at *
  have HX := Lib.hid hx
  have hxm : x.size ≤ maxLen := by unfold maxLen; omega
  clear hx
  have HM := Lib.hid hxm
  clear hxm
  go_enter Try.func3, Try.ntmps3
  go_wp2_with fail
  refine (shown_any _).mono ?_
  rintro e w1 ⟨rfl, hb1⟩
  go_wp2_with fail
  go_loopw [8] (fun i wr => ∃ k : Int, -1 ≤ k ∧ k ≤ 10 ∧ i = .int .i64 k ∧ Below w.heap.size w wr) (fun i _ => (10 - intOf i).toNat)
  case atStart => exact ⟨-1, by omega, by omega, rfl, hb1⟩
  case round =>
    obtain ⟨k, hk1, hk2, rfl, hbel⟩ := hrel
    by_cases hlt : k < 10
    · go_wp2_with fail
      refine (below_on (put_any n k _) hbel).mono ?_
      rintro e w2 ⟨rfl, hb2⟩
      generalize hv : putV n k = v
      have HV := Lib.hid hv
      clear hv
      go_wp2_with fail
      refine (below_on (rput_any n k _) hb2).mono ?_
      rintro e w3 ⟨rfl, hb3⟩
      rw [HV.out]
      go_wp2_with fail
      go_roundw
      case rel => exact ⟨k + 1, by omega, by omega, rfl, hb3⟩
      case measure => simp [intOf]; omega
    · go_wp2_with fail
      refine (below_on (put_any n z _) hbel).mono ?_
      rintro e w2 ⟨rfl, hb2⟩
      generalize hv : putV n z = v
      have HV := Lib.hid hv
      clear hv
      go_wp2_with fail
      refine (below_on (rput_any n z _) hb2).mono ?_
      rintro e w3 ⟨rfl, hb3⟩
      rw [HV.out]
      go_wp2_with fail
      refine (few_any _ _ hs).mono ?_
      rintro e w4 ⟨rfl, rfl⟩
      rw [HX.out]
      go_wp2_with fail
      refine (below_on (text_any x _ HM.out) hb3).mono ?_
      rintro e w4 ⟨rfl, hb4⟩
      go_wp2_with fail
      refine (few_any _ _ hs).mono ?_
      rintro e w5 ⟨rfl, rfl⟩
      rw [HX.out]
      go_wp2_with fail
      refine (below_on (rtext_any x _ HM.out) hb4).mono ?_
      rintro e w5 ⟨rfl, hb5⟩
      go_wp2_with fail
      refine (few_any _ _ hs).mono ?_
      rintro e w6 ⟨rfl, rfl⟩
      rw [HX.out]
      go_wp2_with fail
      refine (sum_any x _ HM.out).mono ?_
      rintro e w6 ⟨rfl, rfl⟩
      go_wp2_with fail
      refine (few_any _ _ hs).mono ?_
      rintro e w6 ⟨rfl, rfl⟩
      rw [HX.out]
      go_wp2_with fail
      refine (rsum_any x _ HM.out).mono ?_
      rintro e w6 ⟨rfl, rfl⟩
      go_wp2_with fail
      go_ret
      exact ⟨rfl, hb5⟩
end Go.Proofs.Ytgeealjhjlaoeaa
