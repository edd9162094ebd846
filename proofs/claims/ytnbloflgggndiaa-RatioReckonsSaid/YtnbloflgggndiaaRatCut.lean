/- The contracts of cut and its closures, Floor, Scale, Round. -/
import Derived.Test.YtnbloflgggndiaaRatCmp
namespace Go.Proofs.Ytnbloflgggndiaa
open Go.RowKit Rt

theorem down1_any (r : Int) (b : Bool) (a : Addr) (w : World) (h : w.cell? a = some (.bool b)) :
    Calls Try.prog 52 #[.int .u64 r, .pointer (some a)] w fun e w' => e = .returned (.bool (b && decide (0 < r))) ∧ w = w' := by
  cases b
  · go_enter Try.func52, Try.ntmps52
    go_wp2_with fail
    go_ret
    exact ⟨ret_bool (by simp), rfl⟩
  · go_enter Try.func52, Try.ntmps52
    go_wp2_with fail
    go_ret
    exact ⟨ret_bool (by simp), rfl⟩

def Rt.nearB (below : Bool) (n r : Int) : Bool := decide (n - r < r) || (decide (r = n - r) && !below)
theorem near1_any (r n : Int) (b : Bool) (a1 a2 : Addr) (w : World) (h0 : 0 ≤ r) (h1 : r ≤ n) (h2 : n ≤ 9223372036854775808) (ha : w.cell? a1 = some (.int .u64 n)) (h : w.cell? a2 = some (.bool b)) :
    Calls Try.prog 53 #[.int .u64 r, .pointer (some a1), .pointer (some a2)] w fun e w' => e = .returned (.bool (nearB b n r)) ∧ w = w' := by
  by_cases c1 : n - r < r
  · have HV := Lib.hid (show nearB b n r = true by unfold nearB; simp [c1])
    go_enter Try.func53, Try.ntmps53
    go_wp2_with fail
    go_ret
    exact ⟨ret_bool (by rw [HV.out]), rfl⟩
  · by_cases c2 : r = n - r
    · have HV := Lib.hid (show nearB b n r = !b by unfold nearB; simp [c1]; intro; omega)
      have c3 : (r == n - r) = true := by simpa using c2
      have C2 := Lib.hid c2
      clear c2
      go_enter Try.func53, Try.ntmps53
      go_wp2_with fail
      go_ret
      exact ⟨ret_bool (by rw [HV.out]), rfl⟩
    · have HV := Lib.hid (show nearB b n r = false by unfold nearB; simp [c1, c2])
      have c3 : (r == n - r) = false := by simpa using c2
      go_enter Try.func53, Try.ntmps53
      go_wp2_with fail
      go_ret
      exact ⟨ret_bool (by rw [HV.out]), rfl⟩

set_option maxHeartbeats 2000000 in
theorem cutd_no (a : Addr) (H L x d : Int) (p : Bool) (w : World) (hw : IsW H L x) (hd : 0 < d) (hd2 : d ≤ 9223372036854775808)
    (HF : Hid (∀ W, Below w.heap.size w W → Calls Try.prog 52 #[.int .u64 (x % d), .pointer (some a)] W fun e w' => e = .returned (.bool false) ∧ W = w')) :
    Calls Try.prog 37 #[.agg #[.int .u64 H, .int .u64 L, .bool p], .int .u64 d, .func (.func 52) #[] #[.pointer (some a)]] w (TupIs (toldN (sg p (x / d))) (toldB (sg p (x / d))) w) := by
  have HD := Lib.hid (fun w => divide_any H L x d w hw hd hd2)
  have q0 : 0 ≤ x / d := Int.ediv_nonneg hw.nonneg (by omega)
  have q1 : x / d ≤ x := Int.ediv_le_self _ hw.nonneg
  clear hw
  generalize x % d = r at *
  generalize x / d = y at *
  go_enter Try.func37, Try.ntmps37
  go_wp2_with fail
  refine (HD.out _).mono ?_
  rintro e w1 ⟨H1, L1, hw1, rfl, hb1⟩
  have k1 : w1.cell? ⟨w.heap.size, 0, none⟩ = some (.int .u64 H) := by rw [hb1.cell (by simp)]; simp [go_sem]
  have k2 : w1.cell? ⟨w.heap.size, 1, none⟩ = some (.int .u64 L) := by rw [hb1.cell (by simp)]; simp [go_sem]
  have k3 : w1.cell? ⟨w.heap.size, 2, none⟩ = some (.bool p) := by rw [hb1.cell (by simp)]; simp [go_sem]
  have b1 : Below w.heap.size w w1 := ((Below.refl _ _).alloc (Nat.le_refl _) _).trans (hb1.mono (by simp))
  have z1 : w.heap.size + 1 ≤ w1.heap.size := by have := hb1.size; simpa using this
  clear hb1
  go_wp2_with fail
  refine (HF.out _ (b1.alloc b1.size _)).mono ?_
  rintro e w2 ⟨rfl, rfl⟩
  have HT := Lib.hid (fun w => told_any H1 L1 y p w hw1)
  generalize sg p y = v at *
  have k4 : ∀ o : Obj, (w1.alloc o).cell? ⟨w.heap.size, 2, none⟩ = some (.bool p) := fun o => by
    rw [((Below.refl w1.heap.size w1).alloc (Nat.le_refl _) _).cell (by simp; omega), k3]
  go_wp2_with fail
  refine (HT.out _).mono ?_
  rintro e w4 ⟨rfl, hb4⟩
  go_wp2_with fail
  go_ret2
  exact ⟨rfl, (b1.alloc b1.size _).trans (hb4.mono (b1.alloc b1.size _).size)⟩

set_option maxHeartbeats 2000000 in
theorem cutd_yes (a : Addr) (H L x d : Int) (p : Bool) (w : World) (hw : IsW H L x) (hd : 0 < d) (hd2 : d ≤ 9223372036854775808) (hx : x < 170141183460469231731687303715884105728)
    (HF : Hid (∀ W, Below w.heap.size w W → Calls Try.prog 52 #[.int .u64 (x % d), .pointer (some a)] W fun e w' => e = .returned (.bool true) ∧ W = w')) :
    Calls Try.prog 37 #[.agg #[.int .u64 H, .int .u64 L, .bool p], .int .u64 d, .func (.func 52) #[] #[.pointer (some a)]] w (TupIs (toldN (sg p (x / d + 1))) (toldB (sg p (x / d + 1))) w) := by
  have HD := Lib.hid (fun w => divide_any H L x d w hw hd hd2)
  have q0 : 0 ≤ x / d := Int.ediv_nonneg hw.nonneg (by omega)
  have q1 : x / d ≤ x := Int.ediv_le_self _ hw.nonneg
  clear hw
  generalize x % d = r at *
  generalize x / d = y at *
  go_enter Try.func37, Try.ntmps37
  go_wp2_with fail
  refine (HD.out _).mono ?_
  rintro e w1 ⟨H1, L1, hw1, rfl, hb1⟩
  have k1 : w1.cell? ⟨w.heap.size, 0, none⟩ = some (.int .u64 H) := by rw [hb1.cell (by simp)]; simp [go_sem]
  have k2 : w1.cell? ⟨w.heap.size, 1, none⟩ = some (.int .u64 L) := by rw [hb1.cell (by simp)]; simp [go_sem]
  have k3 : w1.cell? ⟨w.heap.size, 2, none⟩ = some (.bool p) := by rw [hb1.cell (by simp)]; simp [go_sem]
  have b1 : Below w.heap.size w w1 := ((Below.refl _ _).alloc (Nat.le_refl _) _).trans (hb1.mono (by simp))
  have z1 : w.heap.size + 1 ≤ w1.heap.size := by have := hb1.size; simpa using this
  clear hb1
  go_wp2_with fail
  refine (HF.out _ (b1.alloc b1.size _)).mono ?_
  rintro e w2 ⟨rfl, rfl⟩
  have HS := Lib.hid (fun w => sum_any H1 L1 0 1 y 1 w hw1 (.one (by omega) (by omega)) (by omega))
  go_wp2_with fail
  refine (HS.out _).mono ?_
  rintro e w3 ⟨H2, L2, hw2, rfl, hb3⟩
  obtain ⟨hc3, hf3, hm3⟩ := bcell3 hb3
  have b3 : Below w.heap.size w w3 := (b1.alloc b1.size _).trans (hb3.mono (b1.alloc b1.size _).size)
  have k4 : w3.cell? ⟨w.heap.size, 2, none⟩ = some (.bool p) := by
    rw [hb3.cell (by simp; omega), ((Below.refl w1.heap.size w1).alloc (Nat.le_refl _) _).cell (by simp; omega), k3]
  have hne : ¬ w.heap.size = w1.heap.size := by omega
  have hne2 : ¬ w1.heap.size = w.heap.size := by omega
  have HT := Lib.hid (fun w => told_any H2 L2 (y + 1) p w hw2)
  generalize sg p (y + 1) = v at *
  go_wp2_with fail
  refine (HT.out _).mono ?_
  rintro e w4 ⟨rfl, hb4⟩
  go_wp2_with fail
  go_ret2
  refine ⟨rfl, ?_⟩
  have b5 := (b3.setCell (p := ⟨w1.heap.size, 0, none⟩) (by simp; omega) (.int .u64 H2)).setCell (p := ⟨w1.heap.size, 1, none⟩) (by simp; omega) (.int .u64 L2)
  exact b5.trans (hb4.mono b5.size)

set_option maxHeartbeats 2000000 in
theorem cutn_no (a b : Addr) (H L x d : Int) (p : Bool) (w : World) (hw : IsW H L x) (hd : 0 < d) (hd2 : d ≤ 9223372036854775808)
    (HF : Hid (∀ W, Below w.heap.size w W → Calls Try.prog 53 #[.int .u64 (x % d), .pointer (some a), .pointer (some b)] W fun e w' => e = .returned (.bool false) ∧ W = w')) :
    Calls Try.prog 37 #[.agg #[.int .u64 H, .int .u64 L, .bool p], .int .u64 d, .func (.func 53) #[] #[.pointer (some a), .pointer (some b)]] w (TupIs (toldN (sg p (x / d))) (toldB (sg p (x / d))) w) := by
  have HD := Lib.hid (fun w => divide_any H L x d w hw hd hd2)
  have q0 : 0 ≤ x / d := Int.ediv_nonneg hw.nonneg (by omega)
  have q1 : x / d ≤ x := Int.ediv_le_self _ hw.nonneg
  clear hw
  generalize x % d = r at *
  generalize x / d = y at *
  go_enter Try.func37, Try.ntmps37
  go_wp2_with fail
  refine (HD.out _).mono ?_
  rintro e w1 ⟨H1, L1, hw1, rfl, hb1⟩
  have k1 : w1.cell? ⟨w.heap.size, 0, none⟩ = some (.int .u64 H) := by rw [hb1.cell (by simp)]; simp [go_sem]
  have k2 : w1.cell? ⟨w.heap.size, 1, none⟩ = some (.int .u64 L) := by rw [hb1.cell (by simp)]; simp [go_sem]
  have k3 : w1.cell? ⟨w.heap.size, 2, none⟩ = some (.bool p) := by rw [hb1.cell (by simp)]; simp [go_sem]
  have b1 : Below w.heap.size w w1 := ((Below.refl _ _).alloc (Nat.le_refl _) _).trans (hb1.mono (by simp))
  have z1 : w.heap.size + 1 ≤ w1.heap.size := by have := hb1.size; simpa using this
  clear hb1
  go_wp2_with fail
  refine (HF.out _ (b1.alloc b1.size _)).mono ?_
  rintro e w2 ⟨rfl, rfl⟩
  have HT := Lib.hid (fun w => told_any H1 L1 y p w hw1)
  generalize sg p y = v at *
  have k4 : ∀ o : Obj, (w1.alloc o).cell? ⟨w.heap.size, 2, none⟩ = some (.bool p) := fun o => by
    rw [((Below.refl w1.heap.size w1).alloc (Nat.le_refl _) _).cell (by simp; omega), k3]
  go_wp2_with fail
  refine (HT.out _).mono ?_
  rintro e w4 ⟨rfl, hb4⟩
  go_wp2_with fail
  go_ret2
  exact ⟨rfl, (b1.alloc b1.size _).trans (hb4.mono (b1.alloc b1.size _).size)⟩

set_option maxHeartbeats 2000000 in
theorem cutn_yes (a b : Addr) (H L x d : Int) (p : Bool) (w : World) (hw : IsW H L x) (hd : 0 < d) (hd2 : d ≤ 9223372036854775808) (hx : x < 170141183460469231731687303715884105728)
    (HF : Hid (∀ W, Below w.heap.size w W → Calls Try.prog 53 #[.int .u64 (x % d), .pointer (some a), .pointer (some b)] W fun e w' => e = .returned (.bool true) ∧ W = w')) :
    Calls Try.prog 37 #[.agg #[.int .u64 H, .int .u64 L, .bool p], .int .u64 d, .func (.func 53) #[] #[.pointer (some a), .pointer (some b)]] w (TupIs (toldN (sg p (x / d + 1))) (toldB (sg p (x / d + 1))) w) := by
  have HD := Lib.hid (fun w => divide_any H L x d w hw hd hd2)
  have q0 : 0 ≤ x / d := Int.ediv_nonneg hw.nonneg (by omega)
  have q1 : x / d ≤ x := Int.ediv_le_self _ hw.nonneg
  clear hw
  generalize x % d = r at *
  generalize x / d = y at *
  go_enter Try.func37, Try.ntmps37
  go_wp2_with fail
  refine (HD.out _).mono ?_
  rintro e w1 ⟨H1, L1, hw1, rfl, hb1⟩
  have k1 : w1.cell? ⟨w.heap.size, 0, none⟩ = some (.int .u64 H) := by rw [hb1.cell (by simp)]; simp [go_sem]
  have k2 : w1.cell? ⟨w.heap.size, 1, none⟩ = some (.int .u64 L) := by rw [hb1.cell (by simp)]; simp [go_sem]
  have k3 : w1.cell? ⟨w.heap.size, 2, none⟩ = some (.bool p) := by rw [hb1.cell (by simp)]; simp [go_sem]
  have b1 : Below w.heap.size w w1 := ((Below.refl _ _).alloc (Nat.le_refl _) _).trans (hb1.mono (by simp))
  have z1 : w.heap.size + 1 ≤ w1.heap.size := by have := hb1.size; simpa using this
  clear hb1
  go_wp2_with fail
  refine (HF.out _ (b1.alloc b1.size _)).mono ?_
  rintro e w2 ⟨rfl, rfl⟩
  have HS := Lib.hid (fun w => sum_any H1 L1 0 1 y 1 w hw1 (.one (by omega) (by omega)) (by omega))
  go_wp2_with fail
  refine (HS.out _).mono ?_
  rintro e w3 ⟨H2, L2, hw2, rfl, hb3⟩
  obtain ⟨hc3, hf3, hm3⟩ := bcell3 hb3
  have b3 : Below w.heap.size w w3 := (b1.alloc b1.size _).trans (hb3.mono (b1.alloc b1.size _).size)
  have k4 : w3.cell? ⟨w.heap.size, 2, none⟩ = some (.bool p) := by
    rw [hb3.cell (by simp; omega), ((Below.refl w1.heap.size w1).alloc (Nat.le_refl _) _).cell (by simp; omega), k3]
  have hne : ¬ w.heap.size = w1.heap.size := by omega
  have hne2 : ¬ w1.heap.size = w.heap.size := by omega
  have HT := Lib.hid (fun w => told_any H2 L2 (y + 1) p w hw2)
  generalize sg p (y + 1) = v at *
  go_wp2_with fail
  refine (HT.out _).mono ?_
  rintro e w4 ⟨rfl, hb4⟩
  go_wp2_with fail
  go_ret2
  refine ⟨rfl, ?_⟩
  have b5 := (b3.setCell (p := ⟨w1.heap.size, 0, none⟩) (by simp; omega) (.int .u64 H2)).setCell (p := ⟨w1.heap.size, 1, none⟩) (by simp; omega) (.int .u64 L2)
  exact b5.trans (hb4.mono b5.size)

/-- What cut answers, by what the closure says of the rest. -/
def Rt.cutV (p : Bool) (x d : Int) (c : Bool) : Int := sg p (x / d + if c then 1 else 0)
theorem cutd_any (a : Addr) (H L x d : Int) (p c : Bool) (w : World) (hw : IsW H L x) (hd : 0 < d) (hd2 : d ≤ 9223372036854775808) (hx : x < 170141183460469231731687303715884105728)
    (HF : Hid (∀ W, Below w.heap.size w W → Calls Try.prog 52 #[.int .u64 (x % d), .pointer (some a)] W fun e w' => e = .returned (.bool c) ∧ W = w')) :
    Calls Try.prog 37 #[.agg #[.int .u64 H, .int .u64 L, .bool p], .int .u64 d, .func (.func 52) #[] #[.pointer (some a)]] w (TupIs (toldN (cutV p x d c)) (toldB (cutV p x d c)) w) := by
  cases c
  · have e : cutV p x d false = sg p (x / d) := by simp [cutV]
    rw [e]
    exact cutd_no a H L x d p w hw hd hd2 HF
  · exact cutd_yes a H L x d p w hw hd hd2 hx HF
theorem cutn_any (a b : Addr) (H L x d : Int) (p c : Bool) (w : World) (hw : IsW H L x) (hd : 0 < d) (hd2 : d ≤ 9223372036854775808) (hx : x < 170141183460469231731687303715884105728)
    (HF : Hid (∀ W, Below w.heap.size w W → Calls Try.prog 53 #[.int .u64 (x % d), .pointer (some a), .pointer (some b)] W fun e w' => e = .returned (.bool c) ∧ W = w')) :
    Calls Try.prog 37 #[.agg #[.int .u64 H, .int .u64 L, .bool p], .int .u64 d, .func (.func 53) #[] #[.pointer (some a), .pointer (some b)]] w (TupIs (toldN (cutV p x d c)) (toldB (cutV p x d c)) w) := by
  cases c
  · have e : cutV p x d false = sg p (x / d) := by simp [cutV]
    rw [e]
    exact cutn_no a b H L x d p w hw hd hd2 HF
  · exact cutn_yes a b H L x d p w hw hd hd2 hx HF

theorem ediv_of {v d k : Int} (hd : 0 < d) (h1 : d * k ≤ v) (h2 : v < d * k + d) : v / d = k := by
  have e : v = (v - d * k) + d * k := by omega
  rw [e, Int.add_mul_ediv_left _ _ (by omega), Int.ediv_eq_zero_of_lt (by omega) (by omega)]
  omega
/-- Cut down: the greatest whole number that is not above. -/
theorem floor_is (N D : Int) (hD : 0 < D) : cutV (decide (N < 0)) (mg N) D (decide (N < 0) && decide (0 < mg N % D)) = N / D := by
  have h1 := Int.emod_lt_of_pos (mg N) hD
  have h2 := Int.emod_nonneg (mg N) (show D ≠ 0 by omega)
  have h3 := Int.mul_ediv_add_emod (mg N) D
  unfold cutV sg
  by_cases h : N < 0
  · have e : mg N = -N := by unfold mg; rw [if_pos h]
    rw [e] at h1 h2 h3 ⊢
    generalize (-N) % D = r at *
    generalize (-N) / D = k at *
    simp only [h, decide_true, if_true, Bool.true_and]
    by_cases hr : 0 < r
    · simp only [hr, decide_true, if_true]
      refine (ediv_of hD ?_ ?_).symm
      · rw [Int.mul_neg, Int.mul_add]
        omega
      · rw [Int.mul_neg, Int.mul_add]
        omega
    · simp only [hr, decide_false]
      refine (ediv_of hD ?_ ?_).symm
      · simp [Int.mul_neg]
        omega
      · simp [Int.mul_neg]
        omega
  · have e : mg N = N := by unfold mg; rw [if_neg h]
    rw [e]
    simp [h]
/-- Cut to the nearest one: the greatest whole number that is not above it and a half. -/
theorem near_is (p : Bool) (x d : Int) (hd : 0 < d) : cutV p x d (nearB p d (x % d)) = (2 * sg p x + d) / (2 * d) := by
  have h1 := Int.emod_lt_of_pos x hd
  have h2 := Int.emod_nonneg x (show d ≠ 0 by omega)
  have h3 := Int.mul_ediv_add_emod x d
  unfold cutV nearB sg
  generalize x % d = r at *
  generalize x / d = k at *
  subst h3
  cases p
  · simp only [Bool.false_eq_true, if_false, Bool.not_false, Bool.and_true]
    by_cases c : d - r < r ∨ r = d - r
    · have hb : (decide (d - r < r) || decide (r = d - r)) = true := by simpa using c
      rw [hb, if_pos rfl]
      refine (ediv_of (by omega) ?_ ?_).symm <;> grind
    · have hb : (decide (d - r < r) || decide (r = d - r)) = false := by simpa using c
      rw [hb, if_neg (by simp)]
      refine (ediv_of (by omega) ?_ ?_).symm <;> grind
  · simp only [if_true, Bool.not_true, Bool.and_false, Bool.or_false]
    by_cases c : d - r < r
    · rw [decide_eq_true c, if_pos rfl]
      refine (ediv_of (by omega) ?_ ?_).symm <;> grind
    · rw [decide_eq_false c, if_neg (by simp)]
      refine (ediv_of (by omega) ?_ ?_).symm <;> grind
end Go.Proofs.Ytnbloflgggndiaa
