/- The contracts of divide, told, divisor, mayBe. -/
import Derived.Test.YtnbloflgggndiaaRatWide2
import Derived.Laws.ShiftsVarLaws
import Derived.WalkSmall
namespace Go.Proofs.Ytnbloflgggndiaa
open Go.RowKit Rt

/-- A call answers the quotient's two words, and the rest. -/
def DivIs (q r : Int) (w : World) (e : Ending) (w' : World) : Prop :=
  ∃ H L, IsW H L q ∧ e = .returned (.tuple #[.agg #[.int .u64 H, .int .u64 L], .int .u64 r]) ∧ Below w.heap.size w w'

theorem tdiv_u64 (L d : Int) (h0 : 0 ≤ L) (h1 : L ≤ 18446744073709551615) (hd : 0 < d) : IntKind.u64.wrap (L.tdiv d) = L / d := by
  rw [Int.tdiv_eq_ediv_of_nonneg h0]
  have b2 : 0 ≤ L / d := Int.ediv_nonneg h0 (by omega)
  have b4 : L / d ≤ L := Int.ediv_le_self _ h0
  exact wraps_u64 _ b2 (by omega)

set_option maxHeartbeats 1000000 in
theorem divide_fits (H L x d : Int) (w : World) (hw : IsW H L x) (hd : 0 < d) (hd2 : d ≤ 9223372036854775808) (hr : H % d = 0) :
    Calls Try.prog 31 #[.agg #[.int .u64 H, .int .u64 L], .int .u64 d] w (DivIs (x / d) (x % d) w) := by
  have HF := Lib.hid (div_fits H L x d hd hw hr)
  obtain ⟨a1, a2, b1, b2, -⟩ := hw
  have n0 : (d == 0) = false := by simp; omega
  have n1 : ¬ d = 0 := by omega
  have e1 : IntKind.u64.wrap (L.tdiv d) = L / d := tdiv_u64 L d b1 b2 hd
  have e2 : L.tmod d = L % d := Int.tmod_eq_emod_of_nonneg b1
  go_enter Try.func31, Try.ntmps31
  go_wp2_with fail
  go_quiet (fail)
  go_wp2_with fail
  go_region_held3 (fun w' => w'.cell? ⟨w.heap.size, 1, none⟩ = some (.int .u64 L)) (go_keep) (fail)
  go_wp2_with fail
  refine bodyPost_ret (v := .tuple #[.agg #[.int .u64 (H / d), .int .u64 (L / d)], .int .u64 (L % d)]) (by simp [results, Try.results31, go_sem]) rfl ⟨_, _, HF.out.1, by rw [HF.out.2], ?_⟩
  exact ((below_drewN (((Below.refl _ _).alloc (Nat.le_refl _) _).alloc (by simp) _) _).setCell (by simp) _).setCell (by simp) _

set_option maxHeartbeats 1000000 in
theorem divide_long (H L x d : Int) (w : World) (hw : IsW H L x) (hd : 0 < d) (hd2 : d ≤ 9223372036854775808) (hr : ¬ H % d = 0) :
    Calls Try.prog 31 #[.agg #[.int .u64 H, .int .u64 L], .int .u64 d] w (DivIs (x / d) (x % d) w) := by
  have HW := Lib.hid hw
  obtain ⟨a1, a2, b1, b2, -⟩ := hw
  have q1 : 0 ≤ H % d := Int.emod_nonneg _ (by omega)
  have q2 : H % d < d := Int.emod_lt_of_pos _ hd
  have n0 : (d == 0) = false := by simp; omega
  have n1 : ¬ d = 0 := by omega
  go_enter Try.func31, Try.ntmps31
  go_wp2_with fail
  go_quiet (fail)
  go_wp2_with fail
  go_loop [7, 8, 9] (fun r q i => ∃ (j : Nat) (R Q : Int), j ≤ 64 ∧ DivSt (H % d) L d j R Q ∧ r = .int .u64 R ∧ q = .int .u64 Q ∧ i = .int .i64 ((j : Int) - 1)) (fun _ _ i => (intOf i + 1).toNat)
  case atStart => exact ⟨64, _, _, by omega, DivSt.first _ _ _ b1 b2 q1 q2, rfl, rfl, by simp⟩
  case round =>
    obtain ⟨j, R, Q, hj, hst, rfl, rfl, rfl⟩ := hrel
    obtain ⟨r1, r2, s1, s2⟩ := hst.bd b1 b2 q1 q2 hj
    cases j with
    | zero =>
      go_wp2_with fail
      have HF := div_long H L x d R Q hd HW.out hst
      refine bodyPost_ret (v := .tuple #[.agg #[.int .u64 (H / d), .int .u64 Q], .int .u64 R]) (by simp [results, Try.results31, go_sem]) rfl ⟨_, _, HF.1, by rw [HF.2.1], ?_⟩
      exact ((below_drewN (((Below.refl _ _).alloc (Nat.le_refl _) _).alloc (by simp) _) _).setCell (by simp) _).setCell (by simp) _
    | succ m =>
      have hm : ((m + 1 : Nat) : Int) - 1 = m := by omega
      have s3 := hst.low b1 b2 q1 q2 hj
      have HB := Lib.hid (bitR R L d m r1 r2 hd2 b1 b2)
      have HQ := Lib.hid (bitQ' Q s1 s3)
      rw [hm]
      clear hm s2
      go_wp2_with fail
      · have hc : d ≤ bits .or .u64 (R * 2) (bits .and .u64 (L / 2 ^ m) 1) := by assumption
        rw [HB.out] at hc
        refine ⟨⟨m, 2 * R + L / 2 ^ m % 2 - d, 2 * Q + 1, by omega, hst.yes (by omega) hd hc, ?_, by rw [HQ.out], rfl⟩, by simp [intOf]⟩
        rw [HB.out, wraps_u64 _ (by omega) (by omega)]
      · have hc : bits .or .u64 (R * 2) (bits .and .u64 (L / 2 ^ m) 1) < d := by assumption
        rw [HB.out] at hc
        refine ⟨⟨m, 2 * R + L / 2 ^ m % 2, 2 * Q, by omega, hst.no (by omega) hd hc, by rw [HB.out], ?_, rfl⟩, by simp [intOf]⟩
        rw [Int.mul_comm]

theorem divide_any (H L x d : Int) (w : World) (hw : IsW H L x) (hd : 0 < d) (hd2 : d ≤ 9223372036854775808) :
    Calls Try.prog 31 #[.agg #[.int .u64 H, .int .u64 L], .int .u64 d] w (DivIs (x / d) (x % d) w) := by
  by_cases hr : H % d = 0
  · exact divide_fits H L x d w hw hd hd2 hr
  · exact divide_long H L x d w hw hd hd2 hr

def TupIs (n : Int) (b : Bool) (w : World) (e : Ending) (w' : World) : Prop := e = .returned (.tuple #[.int .i64 n, .bool b]) ∧ Below w.heap.size w w'
theorem ret_tup {n m : Int} {b c : Bool} (h1 : n = m) (h2 : b = c) : Ending.returned (.tuple #[.int .i64 n, .bool b]) = .returned (.tuple #[.int .i64 m, .bool c]) := by rw [h1, h2]

theorem told_neg (H L x : Int) (w : World) (hw : IsW H L x) :
    Calls Try.prog 43 #[.agg #[.int .u64 H, .int .u64 L, .bool true]] w (TupIs (toldN (sg true x)) (toldB (sg true x)) w) := by
  rw [sg_true]
  have HW := Lib.hid hw
  obtain ⟨a1, a2, b1, b2, -⟩ := hw
  go_enter Try.func43, Try.ntmps43
  go_wp2_with fail
  · go_ret2
    have hh := HW.out
    subst_vars
    unfold IsW at hh
    exact ⟨ret_tup (by rw [toldN_in _ (by omega) (by omega), show x = 9223372036854775808 by omega]; unfold wrap64; omega) (toldB_in _ (by omega) (by omega)).symm, (Below.refl _ _).alloc (Nat.le_refl _) _⟩
  · go_ret2
    have hh := HW.out
    unfold IsW at hh
    exact ⟨ret_tup (by rw [toldN_in _ (by omega) (by omega)]; omega) (toldB_in _ (by omega) (by omega)).symm, (Below.refl _ _).alloc (Nat.le_refl _) _⟩
  · go_ret2
    have hh := HW.out
    unfold IsW at hh
    exact ⟨ret_tup (toldN_out _ (by omega)).symm (toldB_out _ (by omega)).symm, (Below.refl _ _).alloc (Nat.le_refl _) _⟩
  · go_ret2
    have hh := HW.out
    unfold IsW at hh
    exact ⟨ret_tup (toldN_out _ (by omega)).symm (toldB_out _ (by omega)).symm, (Below.refl _ _).alloc (Nat.le_refl _) _⟩
theorem told_pos (H L x : Int) (w : World) (hw : IsW H L x) :
    Calls Try.prog 43 #[.agg #[.int .u64 H, .int .u64 L, .bool false]] w (TupIs (toldN (sg false x)) (toldB (sg false x)) w) := by
  rw [sg_false]
  have HW := Lib.hid hw
  obtain ⟨a1, a2, b1, b2, -⟩ := hw
  go_enter Try.func43, Try.ntmps43
  go_wp2_with fail
  · go_ret2
    have hh := HW.out
    subst_vars
    unfold IsW at hh
    exact ⟨ret_tup (toldN_out _ (by omega)).symm (toldB_out _ (by omega)).symm, (Below.refl _ _).alloc (Nat.le_refl _) _⟩
  · go_ret2
    have hh := HW.out
    unfold IsW at hh
    exact ⟨ret_tup (by rw [toldN_in _ (by omega) (by omega)]; omega) (toldB_in _ (by omega) (by omega)).symm, (Below.refl _ _).alloc (Nat.le_refl _) _⟩
  · go_ret2
    have hh := HW.out
    unfold IsW at hh
    exact ⟨ret_tup (toldN_out _ (by omega)).symm (toldB_out _ (by omega)).symm, (Below.refl _ _).alloc (Nat.le_refl _) _⟩
  · go_ret2
    have hh := HW.out
    unfold IsW at hh
    exact ⟨ret_tup (toldN_out _ (by omega)).symm (toldB_out _ (by omega)).symm, (Below.refl _ _).alloc (Nat.le_refl _) _⟩
theorem told_any (H L x : Int) (p : Bool) (w : World) (hw : IsW H L x) :
    Calls Try.prog 43 #[.agg #[.int .u64 H, .int .u64 L, .bool p]] w (TupIs (toldN (sg p x)) (toldB (sg p x)) w) := by
  cases p
  · exact told_pos H L x w hw
  · exact told_neg H L x w hw

theorem divisor_any (a b : Int) (w : World) (ha : 0 ≤ a) (ha2 : a ≤ 18446744073709551615) (hb : 0 ≤ b) (hb2 : b ≤ 18446744073709551615) :
    Calls Try.prog 24 #[.int .u64 a, .int .u64 b] w fun e w' => e = .returned (.int .u64 (Int.gcd a b : Int)) ∧ ∃ n, w' = w.drewN n := by
  go_enter Try.func24, Try.ntmps24
  go_wp2_with fail
  go_loopw [0, 1] (fun u v wr => ∃ (x y : Int) (n : Nat), 0 ≤ x ∧ x ≤ 18446744073709551615 ∧ 0 ≤ y ∧ y ≤ 18446744073709551615 ∧ Int.gcd x y = Int.gcd a b ∧ u = .int .u64 x ∧ v = .int .u64 y ∧ wr = w.drewN n) (fun _ v _ => (intOf v).toNat)
  case atStart => exact ⟨a, b, 0, ha, ha2, hb, hb2, rfl, rfl, rfl, rfl⟩
  case round =>
    obtain ⟨x, y, n, x1, x2, y1, y2, hg, rfl, rfl, rfl⟩ := hrel
    have HG := Lib.hid hg
    clear hg
    by_cases hy : y = 0
    · subst hy
      go_wp2_with fail
      go_ret
      exact ⟨ret_u64 (by rw [← HG.out]; exact gcd_end x x1), n, rfl⟩
    · have n0 : (y == 0) = false := by simp; omega
      have e2 : x.tmod y = x % y := Int.tmod_eq_emod_of_nonneg x1
      have m1 := Int.emod_nonneg x hy
      have m2 := Int.emod_lt_of_pos x (show 0 < y by omega)
      have HS := Lib.hid (gcd_step x y x1 y1)
      go_wp2_with fail
      go_quiet (fail)
      go_wp2_with fail
      exact ⟨⟨y, x % y, _, y1, y2, m1, by omega, by rw [HS.out, HG.out], rfl, rfl, by rw [World.drewN_drewN]⟩, by simp [intOf]; omega⟩

end Go.Proofs.Ytnbloflgggndiaa
