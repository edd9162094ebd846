/- OctetParts. -/
import Derived.Test.YtgeealjhjlaoeaaOctB
import Derived.Test.YtgeealjhjlaoeaaOctPlain3
namespace Go.Proofs.Ytgeealjhjlaoeaa
open Go.RowKit Oct

theorem take1 (x : ByteArray) (j : Nat) : x.extract 0 j ++ x.extract j (j + 1) = x.extract 0 (j + 1) := by
  rw [ByteArray.extract_append_extract]
  congr 1 <;> omega

set_option maxHeartbeats 4000000 in
theorem parts_walk (a : ByteArray) (n : Nat) (w : World) (ha : a.size ≤ maxLen) (hn : n < 256) :
    Calls Try.prog 7 #[.string a, .int .u8 n] w fun e w' => e = .returned (.bool true) ∧ Below w.heap.size w w' := by
  unfold maxLen at ha
  go_enter Try.func7, Try.ntmps7
  go_wp2_with fail
  refine (shown_any _).mono ?_
  rintro e w1 ⟨rfl, hb1⟩
  go_wp2_with fail
  · have hl : (7 : Int) < (a.size : Int) := by assumption
    have hz : min 7 a.size = (a.extract 0 7).size := by simp
    have h7 : (a.extract 0 7).size ≤ 7 := by omega
    rw [hz]
    generalize a.extract 0 7 = x at *
    clear hl hz
    obtain ⟨k, hk⟩ : ∃ k, k = n % (x.size + 1) := ⟨_, rfl⟩
    have hkx : k ≤ x.size := by have := Nat.mod_lt n (show x.size + 1 > 0 by omega); omega
    have hki : (n : Int) % ((x.size : Int) + 1) = k := by rw [hk, Int.natCast_emod]; rfl
    rw [hki]
    clear hk hki
    refine (read_own x (by omega) hb1).mono ?_
    rintro e w2 ⟨rfl, hx2, hn2⟩
    go_wp2_with fail
    refine (read_own x (by omega) hx2.bel).mono ?_
    rintro e w3 ⟨rfl, hy3, hn3⟩
    have hx3 := hx2.below hn3
    have hxy : w1.heap.size < w2.heap.size := hx2.rd.lt
    go_wp2_with fail
    refine (read_own x (by omega) hy3.bel).mono ?_
    rintro e w4 ⟨rfl, hz4, hn4⟩
    have hx4 := hx3.below hn4
    have hy4 := hy3.below hn4
    have hyz : w2.heap.size < w3.heap.size := hy3.rd.lt
    clear hx2 hx3 hy3 hn2 hn3 hn4
    go_wp2_with fail
    refine (num_yes hx4 x.size (by omega) (by omega)).mono ?_
    rintro e w5 ⟨rfl, hx5, o5⟩
    have hy5 := hy4.other hx4.new (by omega) o5
    have hz5 := hz4.other hx4.new (by omega) o5
    clear hx4 hy4 hz4 o5
    have hE := parts_eq x k hkx h7
    have hP := put_all x h7
    rw [Nat.zero_add] at hx5 ⊢
    generalize numI (x.extract 0 x.size).data.toList x.size = A at *
    have HP := Lib.hid hP
    clear hP
    have HE := Lib.hid hE
    clear hE
    go_wp2_with fail
    refine (num_yes hy5 k (by omega) (by omega)).mono ?_
    rintro e w6 ⟨rfl, hy6, o6⟩
    have hx6 := hx5.other hy5.new (by omega) o6
    have hz6 := hz5.other hy5.new (by omega) o6
    clear hx5 hy5 hz5 o6
    have hE := HE.out
    clear HE
    rw [Nat.zero_add] at hy6 ⊢
    generalize numI (x.extract 0 k).data.toList k = F at *
    have HE := Lib.hid hE
    clear hE
    go_wp2_with fail
    rw [show ((x.size : Int) - (k : Int)) = ((x.size - k : Nat) : Int) from by omega]
    refine (num_yes hy6 (x.size - k) (by omega) (by omega)).mono ?_
    rintro e w7 ⟨rfl, hy7, o7⟩
    have hx7 := hx6.other hy6.new (by omega) o7
    have hz7 := hz6.other hy6.new (by omega) o7
    clear hx6 hy6 hz6 o7
    have hE := HE.out
    clear HE
    rw [show k + (x.size - k) = x.size from by omega] at hy7 ⊢
    generalize numI (x.extract k x.size).data.toList (x.size - k) = R at *
    have HE := Lib.hid hE
    clear hE
    go_wp2_with fail
    go_loopw [14, 15] (fun t i wr => ∃ j : Nat, j ≤ x.size ∧ i = .int .i64 j ∧ t = .string (x.extract 0 j) ∧ Own w wr w3.heap.size x j false ∧ Own w wr w2.heap.size x x.size false) (fun _ i _ => x.size - (intOf i).toNat)
    case atStart => exact ⟨0, Nat.zero_le _, rfl, by simp; rfl, hz7, hy7⟩
    case round =>
      obtain ⟨j, hj, rfl, rfl, hz, hy⟩ := hrel
      by_cases hlt : j < x.size
      · go_wp2_with fail
        refine (take_yes hz 1 (by omega)).mono ?_
        rintro e w8 ⟨rfl, hz8, o8⟩
        have hy8 := hy.other hz.new (by omega) o8
        have HT := Lib.hid (take1 x j)
        have s1 : (x.extract 0 j).size ≤ 7 := by simp; omega
        have s2 : (x.extract j (j + 1)).size ≤ 7 := by simp; omega
        generalize x.extract 0 j = t1 at *
        generalize x.extract j (j + 1) = t2 at *
        go_wp2_with fail
        go_roundw
        case rel => exact ⟨j + 1, by omega, by go_num, by rw [HT.out], hz8, hy8⟩
        case measure => simp [intOf]; omega
      · obtain rfl : j = x.size := by omega
        have hE := HE.out
        clear HE
        subst hE
        go_wp2_with fail
        refine (failed_own hy).mono ?_
        rintro e w8 ⟨rfl, rfl⟩
        go_wp2_with fail
        refine (put_any _ _ _).mono ?_
        rintro e w9 ⟨rfl, hb9⟩
        rw [HP.out]
        go_wp2_with fail
        go_ret
        exact ⟨rfl, hy.bel.trans (hb9.mono hy.bel.size)⟩
  · have hl : (a.size : Int) ≤ 7 := by assumption
    obtain ⟨x, hxa⟩ : ∃ x, x = a := ⟨a, rfl⟩
    subst hxa
    have h7 : x.size ≤ 7 := by omega
    clear hl
    obtain ⟨k, hk⟩ : ∃ k, k = n % (x.size + 1) := ⟨_, rfl⟩
    have hkx : k ≤ x.size := by have := Nat.mod_lt n (show x.size + 1 > 0 by omega); omega
    have hki : (n : Int) % ((x.size : Int) + 1) = k := by rw [hk, Int.natCast_emod]; rfl
    rw [hki]
    clear hk hki
    refine (read_own x (by omega) hb1).mono ?_
    rintro e w2 ⟨rfl, hx2, hn2⟩
    go_wp2_with fail
    refine (read_own x (by omega) hx2.bel).mono ?_
    rintro e w3 ⟨rfl, hy3, hn3⟩
    have hx3 := hx2.below hn3
    have hxy : w1.heap.size < w2.heap.size := hx2.rd.lt
    go_wp2_with fail
    refine (read_own x (by omega) hy3.bel).mono ?_
    rintro e w4 ⟨rfl, hz4, hn4⟩
    have hx4 := hx3.below hn4
    have hy4 := hy3.below hn4
    have hyz : w2.heap.size < w3.heap.size := hy3.rd.lt
    clear hx2 hx3 hy3 hn2 hn3 hn4
    go_wp2_with fail
    refine (num_yes hx4 x.size (by omega) (by omega)).mono ?_
    rintro e w5 ⟨rfl, hx5, o5⟩
    have hy5 := hy4.other hx4.new (by omega) o5
    have hz5 := hz4.other hx4.new (by omega) o5
    clear hx4 hy4 hz4 o5
    have hE := parts_eq x k hkx h7
    have hP := put_all x h7
    rw [Nat.zero_add] at hx5 ⊢
    generalize numI (x.extract 0 x.size).data.toList x.size = A at *
    have HP := Lib.hid hP
    clear hP
    have HE := Lib.hid hE
    clear hE
    go_wp2_with fail
    refine (num_yes hy5 k (by omega) (by omega)).mono ?_
    rintro e w6 ⟨rfl, hy6, o6⟩
    have hx6 := hx5.other hy5.new (by omega) o6
    have hz6 := hz5.other hy5.new (by omega) o6
    clear hx5 hy5 hz5 o6
    have hE := HE.out
    clear HE
    rw [Nat.zero_add] at hy6 ⊢
    generalize numI (x.extract 0 k).data.toList k = F at *
    have HE := Lib.hid hE
    clear hE
    go_wp2_with fail
    rw [show ((x.size : Int) - (k : Int)) = ((x.size - k : Nat) : Int) from by omega]
    refine (num_yes hy6 (x.size - k) (by omega) (by omega)).mono ?_
    rintro e w7 ⟨rfl, hy7, o7⟩
    have hx7 := hx6.other hy6.new (by omega) o7
    have hz7 := hz6.other hy6.new (by omega) o7
    clear hx6 hy6 hz6 o7
    have hE := HE.out
    clear HE
    rw [show k + (x.size - k) = x.size from by omega] at hy7 ⊢
    generalize numI (x.extract k x.size).data.toList (x.size - k) = R at *
    have HE := Lib.hid hE
    clear hE
    go_wp2_with fail
    go_loopw [14, 15] (fun t i wr => ∃ j : Nat, j ≤ x.size ∧ i = .int .i64 j ∧ t = .string (x.extract 0 j) ∧ Own w wr w3.heap.size x j false ∧ Own w wr w2.heap.size x x.size false) (fun _ i _ => x.size - (intOf i).toNat)
    case atStart => exact ⟨0, Nat.zero_le _, rfl, by simp; rfl, hz7, hy7⟩
    case round =>
      obtain ⟨j, hj, rfl, rfl, hz, hy⟩ := hrel
      by_cases hlt : j < x.size
      · go_wp2_with fail
        refine (take_yes hz 1 (by omega)).mono ?_
        rintro e w8 ⟨rfl, hz8, o8⟩
        have hy8 := hy.other hz.new (by omega) o8
        have HT := Lib.hid (take1 x j)
        have s1 : (x.extract 0 j).size ≤ 7 := by simp; omega
        have s2 : (x.extract j (j + 1)).size ≤ 7 := by simp; omega
        generalize x.extract 0 j = t1 at *
        generalize x.extract j (j + 1) = t2 at *
        go_wp2_with fail
        go_roundw
        case rel => exact ⟨j + 1, by omega, by go_num, by rw [HT.out], hz8, hy8⟩
        case measure => simp [intOf]; omega
      · obtain rfl : j = x.size := by omega
        have hE := HE.out
        clear HE
        subst hE
        go_wp2_with fail
        refine (failed_own hy).mono ?_
        rintro e w8 ⟨rfl, rfl⟩
        go_wp2_with fail
        refine (put_any _ _ _).mono ?_
        rintro e w9 ⟨rfl, hb9⟩
        rw [HP.out]
        go_wp2_with fail
        go_ret
        exact ⟨rfl, hy.bel.trans (hb9.mono hy.bel.size)⟩

theorem partsV (a : ByteArray) (p : Int) (w : World) (ha : a.size ≤ maxLen) (hp : 0 ≤ p ∧ p ≤ 255) :
    Calls Try.prog 7 #[.string a, .int .u8 p] w fun e w' => e = .returned (.bool true) ∧ Below w.heap.size w w' := by
  obtain ⟨n, rfl⟩ := Int.eq_ofNat_of_zero_le hp.1
  exact parts_walk a n w ha (by omega)
end Go.Proofs.Ytgeealjhjlaoeaa
