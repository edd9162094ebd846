/- The reference's half, down, mix. -/
import Derived.Test.YtenmgbcbnofcmaaOutCurve
import Derived.Test.YtenmgbcbnofcmaaOutPlain
namespace Go.Proofs.Ytenmgbcbnofcmaa
open Go.RowKit

theorem half_any (n : Int) (w : World) (h1 : -9223372036854775808 ≤ n) (h2 : n ≤ 9223372036854775807) : Calls Try.prog 56 #[.int .i64 n] w fun e w' => e = .returned (.int .i64 (n / 2)) ∧ w = w' := by
  by_cases c : n % 2 = 0
  · have hd : (2 : Int) ∣ n := ⟨n / 2, by omega⟩
    have e0 : n.tmod 2 = 0 := Int.tmod_eq_zero_of_dvd hd
    have e1 : n.tdiv 2 = n / 2 := Int.tdiv_eq_ediv_of_dvd hd
    have e2 : IntKind.i64.wrap (n / 2) = n / 2 := IntWalk.i64_in _ (by omega)
    clear hd c
    go_enter Try.func56, Try.ntmps56
    go_wp2_with fail
    go_ret
    exact ⟨rfl, rfl⟩
  · by_cases c2 : n < 0
    · have d : (n.tmod 2 != 0) = true := by
        rw [bne_iff_ne]
        intro e
        obtain ⟨k, hk⟩ := Int.dvd_of_tmod_eq_zero e
        omega
      have e1 : IntKind.i64.wrap (n - 1) = n - 1 := IntWalk.i64_in _ (by omega)
      have e2 : (n - 1).tdiv 2 = n / 2 := by
        rw [Int.tdiv_eq_ediv_of_dvd ⟨(n - 1) / 2, by omega⟩]
        omega
      have e3 : IntKind.i64.wrap (n / 2) = n / 2 := IntWalk.i64_in _ (by omega)
      clear c
      go_enter Try.func56, Try.ntmps56
      go_wp2_with fail
      go_ret
      exact ⟨rfl, rfl⟩
    · have d : (n % 2 != 0) = true := by rw [bne_iff_ne]; exact c
      have e3 : IntKind.i64.wrap (n / 2) = n / 2 := IntWalk.i64_in _ (by omega)
      have c3 : ¬ n < 0 := c2
      go_enter Try.func56, Try.ntmps56
      go_wp2_with fail
      go_ret
      exact ⟨rfl, rfl⟩
theorem down_any (n : Int) (w : World) (h1 : -9223372036854775808 ≤ n) (h2 : n ≤ 9223372036854775807) : Calls Try.prog 57 #[.int .i64 n] w fun e w' => e = .returned (.int .i64 (n / 64)) ∧ w = w' := by
  by_cases c : n % 64 = 0
  · have hd : (64 : Int) ∣ n := ⟨n / 64, by omega⟩
    have e0 : n.tmod 64 = 0 := Int.tmod_eq_zero_of_dvd hd
    have e1 : n.tdiv 64 = n / 64 := Int.tdiv_eq_ediv_of_dvd hd
    have e2 : IntKind.i64.wrap (n / 64) = n / 64 := IntWalk.i64_in _ (by omega)
    clear hd c
    go_enter Try.func57, Try.ntmps57
    go_wp2_with fail
    go_ret
    exact ⟨rfl, rfl⟩
  · by_cases c2 : n < 0
    · have d : (n.tmod 64 != 0) = true := by
        rw [bne_iff_ne]
        intro e
        obtain ⟨k, hk⟩ := Int.dvd_of_tmod_eq_zero e
        omega
      have e1 : n.tdiv 64 = n / 64 + 1 := by
        have h := Int.neg_tdiv (-n) 64
        rw [Int.neg_neg] at h
        rw [h, Int.tdiv_eq_ediv_of_nonneg (by omega)]
        omega
      have e2 : IntKind.i64.wrap (n / 64 + 1) = n / 64 + 1 := IntWalk.i64_in _ (by omega)
      have e3 : IntKind.i64.wrap (n / 64 + 1 - 1) = n / 64 := by rw [IntWalk.i64_in _ (by omega)]; omega
      have e4 : IntKind.i64.wrap (n / 64) = n / 64 := IntWalk.i64_in _ (by omega)
      clear c
      go_enter Try.func57, Try.ntmps57
      go_wp2_with fail
      go_ret
      exact ⟨by first | rfl | (congr 3; omega), rfl⟩
    · have d : (n % 64 != 0) = true := by rw [bne_iff_ne]; exact c
      have e3 : IntKind.i64.wrap (n / 64) = n / 64 := IntWalk.i64_in _ (by omega)
      have c3 : ¬ n < 0 := c2
      go_enter Try.func57, Try.ntmps57
      go_wp2_with fail
      go_ret
      exact ⟨rfl, rfl⟩
theorem wrap64_in (n : Int) : -9223372036854775808 ≤ wrap64 n ∧ wrap64 n ≤ 9223372036854775807 := by unfold wrap64; omega
theorem mix_any (n a c b : Int) (w : World) (h1 : 1 ≤ n) (h2 : n ≤ 8) : Calls Try.prog 54 #[.int .i64 n, .int .i64 a, .int .i64 c, .int .i64 b] w fun e w' => e = .returned (.int .i64 (weighO n a c b)) ∧ w = w' := by
  have hn : n = 1 ∨ n = 2 ∨ n = 3 ∨ n = 4 ∨ n = 5 ∨ n = 6 ∨ n = 7 ∨ n = 8 := by omega
  have e1 : wrap64 ((8 - n) * (8 - n)) = (8 - n) * (8 - n) := by rcases hn with rfl | rfl | rfl | rfl | rfl | rfl | rfl | rfl <;> (unfold wrap64; omega)
  have e2 : wrap64 (2 * n * (8 - n)) = 2 * n * (8 - n) := by rcases hn with rfl | rfl | rfl | rfl | rfl | rfl | rfl | rfl <;> (unfold wrap64; omega)
  have e3 : wrap64 (n * n) = n * n := by rcases hn with rfl | rfl | rfl | rfl | rfl | rfl | rfl | rfl <;> (unfold wrap64; omega)
  have key : wrap64 (wrap64 (wrap64 (wrap64 (wrap64 ((8 - n) * (8 - n)) * a) + wrap64 (wrap64 (2 * n * (8 - n)) * c)) + wrap64 (wrap64 (n * n) * b)) + 32) / 64 = weighO n a c b := by
    unfold weighO
    rw [weigh_wrap, e1, e2, e3]
  have HD := Lib.hid (fun (m : Int) (W : World) => down_any (wrap64 m) W (wrap64_in m).1 (wrap64_in m).2)
  have key := Lib.hid key
  clear e1 e2 e3 hn
  go_enter Try.func54, Try.ntmps54
  go_wp2_with fail
  refine (HD.out _ _).mono ?_
  rintro e w1 ⟨rfl, rfl⟩
  go_wp2_with fail
  go_ret
  refine ⟨?_, rfl⟩
  rw [← key.out]
  rfl
end Go.Proofs.Ytenmgbcbnofcmaa
