/- RatioLeast's walk. -/
import Derived.Test.YtgjpmfjlcaociaaRatShown
namespace Go.Proofs.Ytgjpmfjlcaociaa
open Go.RowKit Rt

theorem Rt.fits_of {q : Rat} (h1 : -9223372036854775808 < q.num) (h2 : q.num ≤ 9223372036854775807) (h3 : (q.den : Int) ≤ 9223372036854775807) : fitsQ q = true := by
  simp [fitsQ, h1, h2, h3]
/-- The numbers of a ratio are no greater than those that it is made of. -/
theorem Rt.num_le (n d : Int) (hd : d ≠ 0) : (Rat.divInt n d).num.natAbs ≤ n.natAbs ∧ (Rat.divInt n d).den ≤ d.natAbs := by
  rw [Rat.num_divInt, Rat.den_divInt, if_neg hd]
  constructor
  · refine Nat.le_trans (Int.natAbs_ediv_le_natAbs _ _) ?_
    rw [Int.natAbs_mul]
    rcases Int.lt_trichotomy d 0 with h | h | h
    · rw [Int.sign_eq_neg_one_of_neg h]; simp
    · exact absurd h hd
    · rw [Int.sign_eq_one_of_pos h]; simp
  · exact Nat.div_le_self _ _
theorem Rt.divInt_cross (n d : Int) (hd : d ≠ 0) : (Rat.divInt n d).num * d = n * (Rat.divInt n d).den := by
  have h : Rat.divInt (Rat.divInt n d).num (Rat.divInt n d).den = Rat.divInt n d := Rat.num_divInt_den _
  have := (Rat.divInt_eq_divInt_iff (by have := (Rat.divInt n d).den_pos; omega) hd).1 h
  exact this
theorem Rt.whole_iff (n d : Int) (hd : d ≠ 0) : ((Rat.divInt n d).den : Int) = 1 ↔ n.tmod d = 0 := by
  have c := divInt_cross n d hd
  constructor
  · intro h
    rw [h, Int.mul_one] at c
    rw [← c, Int.mul_comm]
    exact Int.mul_tmod_right ..
  · intro h
    obtain ⟨k, hk⟩ := Int.dvd_of_tmod_eq_zero h
    subst hk
    have e : Rat.divInt (d * k) d = Rat.divInt k 1 := by
      rw [Rat.divInt_eq_divInt_iff hd (by omega)]
      grind
    rw [e, Rat.den_divInt]
    simp
theorem Rt.and15 (n : Int) : bits .and .i64 n 32767 = n % 32768 := by
  have h127 : (BitVec.ofInt 64 32767).toNat = 2 ^ 15 - 1 := by decide
  have key : (BitVec.ofInt 64 n &&& BitVec.ofInt 64 32767).toNat = (n % ((2 ^ 64 : Nat) : Int)).toNat % 2 ^ 15 := by
    rw [BitVec.toNat_and, BitVec.toNat_ofInt, h127, Nat.and_two_pow_sub_one_eq_mod]
  show IntKind.i64.wrap ((BitVec.ofInt 64 n &&& BitVec.ofInt 64 32767).toNat : Nat) = n % 32768
  rw [key, IntKind.wrap_i64]
  omega
theorem Rt.and30 (n : Int) : bits .and .i64 n 1073741823 = n % 1073741824 := by
  have h127 : (BitVec.ofInt 64 1073741823).toNat = 2 ^ 30 - 1 := by decide
  have key : (BitVec.ofInt 64 n &&& BitVec.ofInt 64 1073741823).toNat = (n % ((2 ^ 64 : Nat) : Int)).toNat % 2 ^ 30 := by
    rw [BitVec.toNat_and, BitVec.toNat_ofInt, h127, Nat.and_two_pow_sub_one_eq_mod]
  show IntKind.i64.wrap ((BitVec.ofInt 64 n &&& BitVec.ofInt 64 1073741823).toNat : Nat) = n % 1073741824
  rw [key, IntKind.wrap_i64]
  omega
theorem Rt.wrap64_in {n : Int} (h1 : -9223372036854775808 ≤ n) (h2 : n ≤ 9223372036854775807) : wrap64 n = n := by
  unfold wrap64
  omega
theorem Rt.i64_in {n : Int} (h1 : -9223372036854775808 ≤ n) (h2 : n ≤ 9223372036854775807) : IntKind.i64.wrap n = n := by
  rw [IntKind.wrap_i64]
  omega
/-- A product of small numbers is small. -/
theorem Rt.mul_bd (x k A B : Int) (hx1 : -A ≤ x) (hx2 : x ≤ A) (hk1 : -B ≤ k) (hk2 : k ≤ B) : -(A * B) ≤ x * k ∧ x * k ≤ A * B := by
  have h : (x * k).natAbs ≤ (A * B).natAbs := by
    rw [Int.natAbs_mul, Int.natAbs_mul]
    exact Nat.mul_le_mul (by omega) (by omega)
  have : 0 ≤ A * B := Int.mul_nonneg (by omega) (by omega)
  omega

/-- What Make answers where the rational fits. -/
theorem make_fit (n d : Int) (q : Rat) (h1 : -9223372036854775808 ≤ n) (h2 : n ≤ 9223372036854775807) (h3 : -9223372036854775808 ≤ d) (h4 : d ≤ 9223372036854775807) (hd : d ≠ 0) (hq : Rat.divInt n d = q) (hf : fitsQ q = true) (w : World) :
    Calls Try.prog 14 #[.int .i64 n, .int .i64 d] w (RatIs q.num q.den true w) := by
  have h := make_any n d w h1 h2 h3 h4
  unfold RatO at h
  rw [show makeO n d = some q by unfold makeO; rw [if_neg hd, hq], cutQ_yes hf] at h
  exact h
theorem make_none (n : Int) (h1 : -9223372036854775808 ≤ n) (h2 : n ≤ 9223372036854775807) (w : World) :
    Calls Try.prog 14 #[.int .i64 n, .int .i64 0] w (RatIs 0 0 false w) := make_any n 0 w h1 h2 (by omega) (by omega)

set_option maxHeartbeats 2000000 in
theorem least_zero (n d k : Int) (w : World) (hd : d.tmod 1073741824 = 0) :
    Calls Try.prog 11 #[.int .i64 n, .int .i64 d, .int .i64 k] w (BoolIs true w) := by
  have hk := and15 k
  generalize hz : k % 32768 = z at *
  have z1 : 0 ≤ z := by omega
  have z2 : z ≤ 32767 := by omega
  clear hz
  have x1 := Int.lt_tmod_of_pos n (show (0 : Int) < 1073741824 by omega)
  have x2 := Int.tmod_lt_of_pos n (show (0 : Int) < 1073741824 by omega)
  obtain ⟨x, hx⟩ : ∃ x, n.tmod 1073741824 = x := ⟨_, rfl⟩
  rw [hx] at x1 x2
  have m := mul_bd x (1 + z) 1073741824 32768 (by omega) (by omega) (by omega) (by omega)
  obtain ⟨X, hX⟩ : ∃ X, x * (1 + z) = X := ⟨_, rfl⟩
  rw [hX] at m
  have e1 : wrap64 (x * (1 + z)) = X := by rw [hX]; exact wrap64_in (by omega) (by omega)
  have e2 : IntKind.i64.wrap (x * (1 + z)) = X := by rw [hX]; exact i64_in (by omega) (by omega)
  have H1 := Lib.hid (make_none x (by omega) (by omega))
  have H2 := Lib.hid (make_none X (by omega) (by omega))
  have H3 := Lib.hid (make_none (-x) (by omega) (by omega))
  have HS := Lib.hid shown_any
  clear hX m
  go_enter Try.func11, Try.ntmps11
  go_wp2_with fail
  refine (HS.out _).mono ?_
  rintro e w1 ⟨rfl, hb1⟩
  have V1 := (Vars.first w).next hb1
  go_wp2_with fail
  refine (H1.out _).mono ?_
  rintro e w2 ⟨rfl, hb2⟩
  have V2 := (V1.next hb2).alloc 0 0 24
  go_wp2_with fail
  refine (H2.out _).mono ?_
  rintro e w3 ⟨rfl, hb3⟩
  have V3 := (V2.next hb3).alloc 0 0 24
  go_wp2_with fail
  refine (H3.out _).mono ?_
  rintro e w4 ⟨rfl, hb4⟩
  have V4 := (V3.next hb4).alloc 0 0 24
  clear hb1 hb2 hb3 hb4 V1 V2 V3
  go_wp2_with fail
  go_ret
  exact ⟨rfl, V4.bel⟩

set_option maxHeartbeats 4000000 in
theorem least_some (n d k : Int) (w : World) (hd : d.tmod 1073741824 ≠ 0) :
    Calls Try.prog 11 #[.int .i64 n, .int .i64 d, .int .i64 k] w (BoolIs true w) := by
  have hk := and15 k
  generalize hz : k % 32768 = z at *
  have z1 : 0 ≤ z := by omega
  have z2 : z ≤ 32767 := by omega
  clear hz
  have x1 := Int.lt_tmod_of_pos n (show (0 : Int) < 1073741824 by omega)
  have x2 := Int.tmod_lt_of_pos n (show (0 : Int) < 1073741824 by omega)
  have y1 := Int.lt_tmod_of_pos d (show (0 : Int) < 1073741824 by omega)
  have y2 := Int.tmod_lt_of_pos d (show (0 : Int) < 1073741824 by omega)
  obtain ⟨x, hx⟩ : ∃ x, n.tmod 1073741824 = x := ⟨_, rfl⟩
  obtain ⟨y, hy⟩ : ∃ y, d.tmod 1073741824 = y := ⟨_, rfl⟩
  rw [hx] at x1 x2
  rw [hy] at y1 y2 hd
  have mx := mul_bd x (1 + z) 1073741824 32768 (by omega) (by omega) (by omega) (by omega)
  have my := mul_bd y (1 + z) 1073741824 32768 (by omega) (by omega) (by omega) (by omega)
  obtain ⟨X, hX⟩ : ∃ X, x * (1 + z) = X := ⟨_, rfl⟩
  obtain ⟨Y, hY⟩ : ∃ Y, y * (1 + z) = Y := ⟨_, rfl⟩
  have Y0 : Y ≠ 0 := by rw [← hY]; exact Int.mul_ne_zero hd (by omega)
  have qe : Rat.divInt X Y = Rat.divInt x y := by rw [← hX, ← hY]; exact Rat.divInt_mul_right (by omega)
  rw [hX] at mx
  rw [hY] at my
  have e1 : wrap64 (x * (1 + z)) = X := by rw [hX]; exact wrap64_in (by omega) (by omega)
  have e2 : IntKind.i64.wrap (x * (1 + z)) = X := by rw [hX]; exact i64_in (by omega) (by omega)
  have e3 : wrap64 (y * (1 + z)) = Y := by rw [hY]; exact wrap64_in (by omega) (by omega)
  have e4 : IntKind.i64.wrap (y * (1 + z)) = Y := by rw [hY]; exact i64_in (by omega) (by omega)
  have nl := num_le x y hd
  have cr := divInt_cross x y hd
  have wi := whole_iff x y hd
  have dp : (0 : Int) < (Rat.divInt x y).den := by have := (Rat.divInt x y).den_pos; omega
  have hf : fitsQ (Rat.divInt x y) = true := fits_of (by omega) (by omega) (by omega)
  have H1 := Lib.hid (make_fit x y _ (by omega) (by omega) (by omega) (by omega) hd rfl hf)
  have H2 := Lib.hid (make_fit X Y _ (by omega) (by omega) (by omega) (by omega) Y0 qe hf)
  have H3 := Lib.hid (make_fit (-x) (-y) _ (by omega) (by omega) (by omega) (by omega) (by omega) (Rat.neg_divInt_neg x y) hf)
  have pb := mul_bd (Rat.divInt x y).num y 1073741824 1073741824 (by omega) (by omega) (by omega) (by omega)
  clear hf qe Y0 hX hY mx my
  generalize (Rat.divInt x y).num = N at *
  generalize ((Rat.divInt x y).den : Int) = D at *
  obtain ⟨P, hP⟩ : ∃ P, N * y = P := ⟨_, rfl⟩
  have g1 : wrap64 (N * y) = P := by rw [hP]; rw [hP] at pb; exact wrap64_in (by omega) (by omega)
  have g2 : IntKind.i64.wrap (N * y) = P := by rw [hP]; rw [hP] at pb; exact i64_in (by omega) (by omega)
  have g3 : wrap64 (x * D) = P := by rw [← cr]; exact g1
  have g4 : IntKind.i64.wrap (x * D) = P := by rw [← cr]; exact g2
  obtain ⟨W, hW⟩ : ∃ W : Bool, (x.tmod y == 0) = W := ⟨_, rfl⟩
  have g5 : (D == 1) = W := by
    rw [← hW, Bool.eq_iff_iff]
    simpa using wi
  have d0 : (y == 0) = false := by simpa using hd
  have hq := eq_rat
  have HS := Lib.hid shown_any
  clear hP pb cr wi nl
  go_enter Try.func11, Try.ntmps11
  go_wp2_with fail
  refine (HS.out _).mono ?_
  rintro e w1 ⟨rfl, hb1⟩
  have V1 := (Vars.first w).next hb1
  go_wp2_with fail
  refine (H1.out _).mono ?_
  rintro e w2 ⟨rfl, hb2⟩
  have V2 := (V1.next hb2).alloc N D 24
  go_wp2_with fail
  refine (H2.out _).mono ?_
  rintro e w3 ⟨rfl, hb3⟩
  have V3 := (V2.next hb3).alloc N D 24
  go_wp2_with fail
  refine (H3.out _).mono ?_
  rintro e w4 ⟨rfl, hb4⟩
  have V4 := (V3.next hb4).alloc N D 24
  clear hb1 hb2 hb3 hb4 V1 V2 V3
  have k1 := V4.h1
  have k2 := V4.tl.h1
  have k3 := V4.tl.tl.h1
  simp only at k1 k2 k3
  obtain ⟨k11, k12⟩ := k1
  obtain ⟨k21, k22⟩ := k2
  obtain ⟨k31, k32⟩ := k3
  go_wp2_with fail
  go_ret
  exact ⟨rfl, V4.bel⟩

theorem least_walk (n d k : Int) (w : World) :
    Calls Try.prog 11 #[.int .i64 n, .int .i64 d, .int .i64 k] w (BoolIs true w) := by
  by_cases h : d.tmod 1073741824 = 0
  · exact least_zero n d k w h
  · exact least_some n d k w h
end Go.Proofs.Ytgjpmfjlcaociaa
