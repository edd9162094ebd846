/- Plain facts on numbers of two words, for the ratio laws: nothing of the program. -/
import Derived.Laws.BitsLemmas
import Derived.Laws.Wrap64
namespace Go.Proofs.Ytnbloflgggndiaa.Rt

/-- Two words, the high one first, are the number x. -/
def IsW (H L x : Int) : Prop := 0 ≤ H ∧ H ≤ 18446744073709551615 ∧ 0 ≤ L ∧ L ≤ 18446744073709551615 ∧ x = H * 18446744073709551616 + L

theorem IsW.uniq {H L H' L' x : Int} (h : IsW H L x) (h' : IsW H' L' x) : H = H' ∧ L = L' := by
  unfold IsW at h h'
  omega
theorem IsW.nonneg {H L x : Int} (h : IsW H L x) : 0 ≤ x := by
  unfold IsW at h
  omega
theorem IsW.one {L : Int} (h0 : 0 ≤ L) (h1 : L ≤ 18446744073709551615) : IsW 0 L L := by
  unfold IsW
  omega

theorem wrapu (n : Int) : IntKind.u64.wrap n = n % 18446744073709551616 := by simp [IntKind.wrap, IntKind.bits, IntKind.signed]
theorem wraps_u64 (n : Int) (h0 : 0 ≤ n) (h1 : n < 2 ^ 64) : IntKind.u64.wrap n = n := by
  rw [wrapu]
  omega
theorem mask32 (x : Int) (h0 : 0 ≤ x) (h1 : x ≤ 18446744073709551615) : bits .and .u64 x 4294967295 = x % 4294967296 :=
  bits_mask .u64 64 (by decide) wraps_u64 32 (by decide) x h0 (by omega)
theorem or32 (x y : Int) (h0 : 0 ≤ x) (h1 : x ≤ 18446744073709551615) (hx : x % 4294967296 = 0) (h2 : 0 ≤ y) (h3 : y ≤ 4294967295) : bits .or .u64 x y = x + y :=
  bits_join .u64 64 (by decide) wraps_u64 32 x y h0 hx (by omega) h2 (by omega) (by omega)
theorem mask1 (x : Int) (h0 : 0 ≤ x) (h1 : x ≤ 18446744073709551615) : bits .and .u64 x 1 = x % 2 :=
  bits_mask .u64 64 (by decide) wraps_u64 1 (by decide) x h0 (by omega)
theorem or1 (x y : Int) (h0 : 0 ≤ x) (h1 : x ≤ 18446744073709551615) (hx : x % 2 = 0) (h2 : 0 ≤ y) (h3 : y ≤ 1) : bits .or .u64 x y = x + y :=
  bits_join .u64 64 (by decide) wraps_u64 1 x y h0 hx (by omega) h2 (by omega) (by omega)

/-! A product by half words. -/
def pLow (a b : Int) : Int := IntKind.u64.wrap (bits .and .u64 a 4294967295 * bits .and .u64 b 4294967295)
def pMid (a b : Int) : Int := IntKind.u64.wrap (IntKind.u64.wrap (a / 4294967296 * bits .and .u64 b 4294967295) + pLow a b / 4294967296)
def pOth (a b : Int) : Int := IntKind.u64.wrap (IntKind.u64.wrap (bits .and .u64 a 4294967295 * (b / 4294967296)) + bits .and .u64 (pMid a b) 4294967295)
def pHigh (a b : Int) : Int := IntKind.u64.wrap (IntKind.u64.wrap (IntKind.u64.wrap (a / 4294967296 * (b / 4294967296)) + pMid a b / 4294967296) + pOth a b / 4294967296)
def pEnd (a b : Int) : Int := bits .or .u64 (IntKind.u64.wrap (pOth a b * 4294967296)) (bits .and .u64 (pLow a b) 4294967295)

theorem half_bd (x : Int) (h0 : 0 ≤ x) (h1 : x ≤ 18446744073709551615) : 0 ≤ x / 4294967296 ∧ x / 4294967296 ≤ 4294967295 ∧ 0 ≤ x % 4294967296 ∧ x % 4294967296 ≤ 4294967295 ∧ x = x / 4294967296 * 4294967296 + x % 4294967296 := by omega
theorem half_mul (x y : Int) (h0 : 0 ≤ x) (h1 : x ≤ 4294967295) (h2 : 0 ≤ y) (h3 : y ≤ 4294967295) : 0 ≤ x * y ∧ x * y ≤ 18446744065119617025 := by
  constructor
  · exact Int.mul_nonneg h0 h2
  · exact Int.mul_le_mul h1 h3 h2 (by omega)

theorem product_is (a b : Int) (ha : 0 ≤ a) (ha2 : a ≤ 18446744073709551615) (hb : 0 ≤ b) (hb2 : b ≤ 18446744073709551615) : IsW (pHigh a b) (pEnd a b) (a * b) := by
  obtain ⟨a1, a2, a3, a4, a5⟩ := half_bd a ha ha2
  obtain ⟨b1, b2, b3, b4, b5⟩ := half_bd b hb hb2
  have e : a * b = a / 4294967296 * (b / 4294967296) * 18446744073709551616 + (a / 4294967296 * (b % 4294967296) + a % 4294967296 * (b / 4294967296)) * 4294967296 + a % 4294967296 * (b % 4294967296) := by
    generalize a / 4294967296 = x at *
    generalize a % 4294967296 = x0 at *
    generalize b / 4294967296 = y at *
    generalize b % 4294967296 = y0 at *
    subst a5 b5
    grind
  rw [e]
  unfold pHigh pEnd pOth pMid pLow
  rw [mask32 a ha ha2, mask32 b hb hb2]
  have p11 := half_mul _ _ a1 a2 b1 b2
  have p10 := half_mul _ _ a1 a2 b3 b4
  have p01 := half_mul _ _ a3 a4 b1 b2
  have p00 := half_mul _ _ a3 a4 b3 b4
  generalize a / 4294967296 * (b / 4294967296) = q11 at *
  generalize a / 4294967296 * (b % 4294967296) = q10 at *
  generalize a % 4294967296 * (b / 4294967296) = q01 at *
  generalize a % 4294967296 * (b % 4294967296) = q00 at *
  clear e a1 a2 a3 a4 a5 b1 b2 b3 b4 b5 ha ha2 hb hb2
  rw [wraps_u64 q00 (by omega) (by omega), wraps_u64 q10 (by omega) (by omega), wraps_u64 q01 (by omega) (by omega), wraps_u64 q11 (by omega) (by omega)]
  rw [wraps_u64 (q10 + q00 / 4294967296) (by omega) (by omega)]
  rw [mask32 (q10 + q00 / 4294967296) (by omega) (by omega), mask32 q00 (by omega) (by omega)]
  rw [wraps_u64 (q01 + (q10 + q00 / 4294967296) % 4294967296) (by omega) (by omega)]
  rw [wraps_u64 (q11 + (q10 + q00 / 4294967296) / 4294967296) (by omega) (by omega)]
  rw [wrapu, wrapu, or32 _ _ (by omega) (by omega) (by omega) (by omega) (by omega)]
  unfold IsW
  omega

/-! Sums and differences. -/
theorem sum_over (a b c d x y : Int) (h1 : IsW a b x) (h2 : IsW c d y) (hs : x + y < 340282366920938463463374607431768211456) (hc : IntKind.u64.wrap (b + d) < b) :
    IsW (IntKind.u64.wrap (IntKind.u64.wrap (a + c) + 1)) (IntKind.u64.wrap (b + d)) (x + y) := by
  rw [wrapu] at hc
  rw [wrapu, wrapu, wrapu]
  unfold IsW at *
  omega
theorem sum_fits (a b c d x y : Int) (h1 : IsW a b x) (h2 : IsW c d y) (hs : x + y < 340282366920938463463374607431768211456) (hc : b ≤ IntKind.u64.wrap (b + d)) :
    IsW (IntKind.u64.wrap (a + c)) (IntKind.u64.wrap (b + d)) (x + y) := by
  rw [wrapu] at hc
  rw [wrapu, wrapu]
  unfold IsW at *
  omega
theorem diff_over (a b c d x y : Int) (h1 : IsW a b x) (h2 : IsW c d y) (hs : y ≤ x) (hc : b < d) :
    IsW (IntKind.u64.wrap (IntKind.u64.wrap (a - c) - 1)) (IntKind.u64.wrap (b - d)) (x - y) := by
  rw [wrapu, wrapu, wrapu]
  unfold IsW at *
  omega
theorem diff_fits (a b c d x y : Int) (h1 : IsW a b x) (h2 : IsW c d y) (hs : y ≤ x) (hc : d ≤ b) :
    IsW (IntKind.u64.wrap (a - c)) (b - d) (x - y) := by
  rw [wrapu]
  unfold IsW at *
  omega
def ltB (a b c d : Int) : Bool := decide (a < c) || (decide (a = c) && decide (b < d))
theorem ltB_is (a b c d x y : Int) (h1 : IsW a b x) (h2 : IsW c d y) : ltB a b c d = decide (x < y) := by
  unfold IsW at *
  unfold ltB
  rw [Bool.eq_iff_iff]
  simp
  omega

/-- A number with its sign beside it. -/
def sg (p : Bool) (x : Int) : Int := if p then -x else x
/-! Division bit by bit: the number whose rest and quotient are laid yet, behind the bits from j on. -/
def tK (r n : Int) (j : Nat) : Int := r * 2 ^ (64 - j) + n / 2 ^ j
theorem tK_first (r n : Int) (h0 : 0 ≤ n) (h1 : n ≤ 18446744073709551615) : tK r n 64 = r := by
  unfold tK
  have : n / 2 ^ 64 = 0 := by omega
  rw [this]
  simp
theorem tK_last (r n : Int) : tK r n 0 = r * 18446744073709551616 + n := by
  unfold tK
  simp
theorem tK_step (r n : Int) (m : Nat) (h : m < 64) : tK r n m = 2 * tK r n (m + 1) + n / 2 ^ m % 2 := by
  unfold tK
  have e : 64 - m = (64 - (m + 1)) + 1 := by omega
  have e2 : n / 2 ^ (m + 1) = n / 2 ^ m / 2 := by
    rw [Int.pow_succ, Int.ediv_ediv_of_nonneg (Int.pow_nonneg (by omega))]
  rw [e, e2, Int.pow_succ]
  generalize n / 2 ^ m = z
  generalize (2 : Int) ^ (64 - (m + 1)) = p
  have : r * (p * 2) = 2 * (r * p) := by grind
  rw [this]
  omega
theorem tK_bd (r n by' : Int) (m : Nat) (h0 : 0 ≤ n) (h1 : n ≤ 18446744073709551615) (hr0 : 0 ≤ r) (hr : r < by') (h : m ≤ 64) : 0 ≤ tK r n m ∧ tK r n m < by' * 2 ^ (64 - m) := by
  unfold tK
  have hp : (0 : Int) < 2 ^ (64 - m) := Int.pow_pos (by omega)
  have hm : (0 : Int) < 2 ^ m := Int.pow_pos (by omega)
  have e : (2 : Int) ^ (64 - m) * 2 ^ m = 18446744073709551616 := by
    rw [← Int.pow_add, show 64 - m + m = 64 by omega]
    decide
  have hd : n / 2 ^ m < 2 ^ (64 - m) := Int.ediv_lt_of_lt_mul hm (by rw [e]; omega)
  have hd0 : 0 ≤ n / 2 ^ m := Int.ediv_nonneg h0 (by omega)
  generalize (2 : Int) ^ (64 - m) = p at *
  have h2 : r * p + p ≤ by' * p := by
    have := Int.mul_le_mul_of_nonneg_right (show r + 1 ≤ by' by omega) (show 0 ≤ p by omega)
    rw [Int.add_mul] at this
    omega
  have h3 : 0 ≤ r * p := Int.mul_nonneg hr0 (by omega)
  omega

theorem step_yes (t by' b : Int) (hb : 0 < by') (h : by' ≤ 2 * (t % by') + b) (b1 : b ≤ 1) :
    (2 * t + b) % by' = 2 * (t % by') + b - by' ∧ (2 * t + b) / by' = 2 * (t / by') + 1 := by
  have h1 := Int.emod_lt_of_pos t hb
  have h2 := Int.mul_ediv_add_emod t by'
  have e : 2 * t + b = (2 * (t % by') + b - by') + by' * (2 * (t / by') + 1) := by grind
  rw [e, Int.add_mul_emod_self_left, Int.add_mul_ediv_left _ _ (by omega), Int.emod_eq_of_lt (by omega) (by omega), Int.ediv_eq_zero_of_lt (by omega) (by omega)]
  omega
theorem step_no (t by' b : Int) (hb : 0 < by') (h : 2 * (t % by') + b < by') (b0 : 0 ≤ b) :
    (2 * t + b) % by' = 2 * (t % by') + b ∧ (2 * t + b) / by' = 2 * (t / by') := by
  have h1 := Int.emod_nonneg t (show by' ≠ 0 by omega)
  have h2 := Int.mul_ediv_add_emod t by'
  have e : 2 * t + b = (2 * (t % by') + b) + by' * (2 * (t / by')) := by grind
  rw [e, Int.add_mul_emod_self_left, Int.add_mul_ediv_left _ _ (by omega), Int.emod_eq_of_lt (by omega) (by omega), Int.ediv_eq_zero_of_lt (by omega) (by omega)]
  omega
/-- Where the division stands, behind the bits from j on. -/
def DivSt (r n by' : Int) (j : Nat) (R Q : Int) : Prop := R = tK r n j % by' ∧ Q = tK r n j / by'
theorem DivSt.first (r n by' : Int) (h0 : 0 ≤ n) (h1 : n ≤ 18446744073709551615) (hr0 : 0 ≤ r) (hr : r < by') : DivSt r n by' 64 r 0 := by
  unfold DivSt
  rw [tK_first r n h0 h1]
  exact ⟨(Int.emod_eq_of_lt hr0 hr).symm, (Int.ediv_eq_zero_of_lt hr0 hr).symm⟩
theorem DivSt.bd {r n by' : Int} {j : Nat} {R Q : Int} (h : DivSt r n by' j R Q) (h0 : 0 ≤ n) (h1 : n ≤ 18446744073709551615) (hr0 : 0 ≤ r) (hr : r < by') (hj : j ≤ 64) :
    0 ≤ R ∧ R < by' ∧ 0 ≤ Q ∧ Q < 2 ^ (64 - j) := by
  obtain ⟨rfl, rfl⟩ := h
  have b := tK_bd r n by' j h0 h1 hr0 hr hj
  refine ⟨Int.emod_nonneg _ (by omega), Int.emod_lt_of_pos _ (by omega), Int.ediv_nonneg b.1 (by omega), ?_⟩
  exact Int.ediv_lt_of_lt_mul (by omega) (by rw [Int.mul_comm]; exact b.2)
theorem DivSt.low {r n by' : Int} {m : Nat} {R Q : Int} (h : DivSt r n by' (m + 1) R Q) (h0 : 0 ≤ n) (h1 : n ≤ 18446744073709551615) (hr0 : 0 ≤ r) (hr : r < by') (hj : m + 1 ≤ 64) : Q ≤ 9223372036854775807 := by
  have b := (h.bd h0 h1 hr0 hr hj).2.2.2
  have p : (2 : Nat) ^ (64 - (m + 1)) ≤ 2 ^ 63 := Nat.pow_le_pow_right (by omega) (by omega)
  have e : ((2 ^ (64 - (m + 1)) : Nat) : Int) = (2 : Int) ^ (64 - (m + 1)) := Int.natCast_pow 2 _
  have p2 := Int.ofNat_le.mpr p
  rw [e] at p2
  have e3 : ((2 ^ 63 : Nat) : Int) = 9223372036854775808 := rfl
  rw [e3] at p2
  omega
theorem bitR (R L d : Int) (m : Nat) (hR : 0 ≤ R) (hRd : R < d) (hd : d ≤ 9223372036854775808) (h0 : 0 ≤ L) (h1 : L ≤ 18446744073709551615) :
    bits .or .u64 (R * 2) (bits .and .u64 (L / 2 ^ m) 1) = 2 * R + L / 2 ^ m % 2 := by
  have hm : (0 : Int) < 2 ^ m := Int.pow_pos (by omega)
  have b0 : 0 ≤ L / 2 ^ m := Int.ediv_nonneg h0 (by omega)
  have b1 : L / 2 ^ m ≤ L := Int.ediv_le_self _ h0
  rw [mask1 _ b0 (by omega), or1 _ _ (by omega) (by omega) (by omega) (by omega) (by omega)]
  omega
theorem bitQ (Q : Int) (h0 : 0 ≤ Q) (h1 : Q ≤ 9223372036854775807) : bits .or .u64 (IntKind.u64.wrap (Q * 2)) 1 = 2 * Q + 1 := by
  rw [wraps_u64 _ (by omega) (by omega), or1 _ _ (by omega) (by omega) (by omega) (by omega) (by omega)]
  omega
theorem bitQ' (Q : Int) (h0 : 0 ≤ Q) (h1 : Q ≤ 9223372036854775807) : bits .or .u64 (Q * 2) 1 = 2 * Q + 1 := by
  rw [or1 _ _ (by omega) (by omega) (by omega) (by omega) (by omega)]
  omega
theorem DivSt.yes {r n by' : Int} {m : Nat} {R Q : Int} (h : DivSt r n by' (m + 1) R Q) (hm : m < 64) (hb : 0 < by') (hc : by' ≤ 2 * R + n / 2 ^ m % 2) : DivSt r n by' m (2 * R + n / 2 ^ m % 2 - by') (2 * Q + 1) := by
  obtain ⟨rfl, rfl⟩ := h
  have := step_yes _ by' (n / 2 ^ m % 2) hb hc (by omega)
  unfold DivSt
  rw [tK_step r n m hm]
  exact ⟨this.1.symm, this.2.symm⟩
theorem DivSt.no {r n by' : Int} {m : Nat} {R Q : Int} (h : DivSt r n by' (m + 1) R Q) (hm : m < 64) (hb : 0 < by') (hc : 2 * R + n / 2 ^ m % 2 < by') : DivSt r n by' m (2 * R + n / 2 ^ m % 2) (2 * Q) := by
  obtain ⟨rfl, rfl⟩ := h
  have := step_no _ by' (n / 2 ^ m % 2) hb hc (by omega)
  unfold DivSt
  rw [tK_step r n m hm]
  exact ⟨this.1.symm, this.2.symm⟩
/-- The division of two words: what the quotient and the rest are. -/
theorem div_whole (H L x by' : Int) (hb : 0 < by') (hw : IsW H L x) : x / by' = H / by' * 18446744073709551616 + tK (H % by') L 0 / by' ∧ x % by' = tK (H % by') L 0 % by' := by
  have h2 := Int.mul_ediv_add_emod H by'
  have e : x = tK (H % by') L 0 + by' * (H / by' * 18446744073709551616) := by
    rw [tK_last]
    unfold IsW at hw
    grind
  rw [e, Int.add_mul_emod_self_left, Int.add_mul_ediv_left _ _ (by omega)]
  exact ⟨by omega, rfl⟩
theorem div_fits (H L x by' : Int) (hb : 0 < by') (hw : IsW H L x) (hr : H % by' = 0) : IsW (H / by') (L / by') (x / by') ∧ x % by' = L % by' := by
  have d := div_whole H L x by' hb hw
  have b1 : 0 ≤ H / by' := Int.ediv_nonneg hw.1 (by omega)
  have b2 : 0 ≤ L / by' := Int.ediv_nonneg hw.2.2.1 (by omega)
  have b3 : H / by' ≤ H := Int.ediv_le_self _ hw.1
  have b4 : L / by' ≤ L := Int.ediv_le_self _ hw.2.2.1
  rw [tK_last, hr, Int.zero_mul, Int.zero_add] at d
  unfold IsW at *
  omega
theorem div_long (H L x by' R Q : Int) (hb : 0 < by') (hw : IsW H L x) (hs : DivSt (H % by') L by' 0 R Q) : IsW (H / by') Q (x / by') ∧ x % by' = R ∧ 0 ≤ R ∧ R < by' := by
  have d := div_whole H L x by' hb hw
  have b1 : 0 ≤ H / by' := Int.ediv_nonneg hw.1 (by omega)
  have b3 : H / by' ≤ H := Int.ediv_le_self _ hw.1
  have b := hs.bd hw.2.2.1 hw.2.2.2.1 (Int.emod_nonneg _ (by omega)) (Int.emod_lt_of_pos _ hb) (by omega)
  obtain ⟨e1, e2⟩ := hs
  rw [← e1, ← e2] at d
  unfold IsW at *
  omega

theorem gcd_step (x y : Int) (hx : 0 ≤ x) (hy : 0 ≤ y) : Int.gcd y (x % y) = Int.gcd x y := by
  obtain ⟨a, rfl⟩ := Int.eq_ofNat_of_zero_le hx
  obtain ⟨b, rfl⟩ := Int.eq_ofNat_of_zero_le hy
  rw [← Int.natCast_emod]
  show Nat.gcd b (a % b) = Nat.gcd a b
  rw [Nat.gcd_comm, ← Nat.gcd_rec, Nat.gcd_comm]
theorem gcd_end (x : Int) (hx : 0 ≤ x) : x = ((Int.gcd x 0 : Nat) : Int) := by
  rw [Int.gcd_zero_right]
  omega

/-- What is told of a number with its sign. -/
def toldN (v : Int) : Int := if -9223372036854775808 ≤ v ∧ v ≤ 9223372036854775807 then v else 0
def toldB (v : Int) : Bool := decide (-9223372036854775808 ≤ v ∧ v ≤ 9223372036854775807)
theorem toldN_in (v : Int) (h1 : -9223372036854775808 ≤ v) (h2 : v ≤ 9223372036854775807) : toldN v = v := if_pos ⟨h1, h2⟩
theorem toldB_in (v : Int) (h1 : -9223372036854775808 ≤ v) (h2 : v ≤ 9223372036854775807) : toldB v = true := decide_eq_true ⟨h1, h2⟩
theorem toldN_out (v : Int) (h : ¬ (-9223372036854775808 ≤ v ∧ v ≤ 9223372036854775807)) : toldN v = 0 := if_neg h
theorem toldB_out (v : Int) (h : ¬ (-9223372036854775808 ≤ v ∧ v ≤ 9223372036854775807)) : toldB v = false := decide_eq_false h
theorem sg_true (x : Int) : sg true x = -x := rfl
theorem sg_false (x : Int) : sg false x = x := rfl

/-- Whether a ratio may be. -/
def mayB (N D : Int) : Bool := decide (0 < D ∧ N ≠ -9223372036854775808 ∧ Int.gcd N D = 1)
end Go.Proofs.Ytnbloflgggndiaa.Rt
