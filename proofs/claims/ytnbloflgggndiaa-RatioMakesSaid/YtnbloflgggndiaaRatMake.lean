/- The contracts of Make, Add, Sub, Mul, Div. -/
import Derived.Test.YtnbloflgggndiaaRatMay
import Derived.Test.YtnbloflgggndiaaRatQ
namespace Go.Proofs.Ytnbloflgggndiaa
open Go.RowKit Rt

/-- A call answers what is told of o. -/
def RatO (o : Option Rat) (w : World) (e : Ending) (w' : World) : Prop := RatIs (numO o) (denO o) (okO o) w e w'

theorem tell_q (H L x H2 L2 d : Int) (p : Bool) (q : Rat) (w : World) (hw : IsW H L x) (hw2 : IsW H2 L2 d) (hv : sg p x = q.num) (hd : d = q.den) :
    Calls Try.prog 25 #[.agg #[.int .u64 H, .int .u64 L, .bool p], .agg #[.int .u64 H2, .int .u64 L2]] w (RatO (cutQ (some q)) w) := by
  cases hf : fitsQ q
  · have h := numO_cut_no hf
    unfold RatO
    rw [h.1, h.2.1, h.2.2]
    refine tell_no H L x H2 L2 d p w hw hw2 ?_
    rw [hv, hd]
    simpa [fitsQ] using hf
  · have h := numO_cut_yes hf
    unfold RatO
    rw [h.1, h.2.1, h.2.2, ← hv, ← hd]
    simp only [fitsQ, decide_eq_true_eq] at hf
    rw [← hv, ← hd] at hf
    exact tell_yes H L x H2 L2 d p w hw hw2 hf.1 hf.2.1 hf.2.2

theorem Rt.mg_natAbs (n : Int) : mg n = n.natAbs := by
  unfold mg
  split <;> omega

theorem make_zero (n : Int) (w : World) :
    Calls Try.prog 8 #[.int .i64 n, .int .i64 0] w (RatO (cutQ (makeO n 0)) w) := by
  go_enter Try.func8, Try.ntmps8
  go_wp2_with fail
  refine bodyPost_ret (v := .tuple #[.agg #[.int .i64 0, .int .i64 0], .bool false]) (by simp [results, Try.results8, go_sem]) rfl ⟨rfl, ?_⟩
  exact (Below.refl _ _).alloc (Nat.le_refl _) _

set_option maxHeartbeats 1000000 in
theorem make_some (n d : Int) (w : World) (h1 : -9223372036854775808 ≤ n) (h2 : n ≤ 9223372036854775807) (h3 : -9223372036854775808 ≤ d) (h4 : d ≤ 9223372036854775807) (hd : d ≠ 0) :
    Calls Try.prog 8 #[.int .i64 n, .int .i64 d] w (RatO (cutQ (makeO n d)) w) := by
  have HO := Lib.hid (show makeO n d = some (Rat.divInt n d) from if_neg hd)
  rw [HO.out]
  have HN := make_num n d hd (mg n) (mg d) (mg_natAbs n) (mg_natAbs d)
  have HD := make_den n d hd (mg n) (mg d) (mg_natAbs n) (mg_natAbs d)
  have m1 := mg_bd n h1 h2
  have m2 := mg_bd d h3 h4
  have m3 : 0 < mg d := by have := mg_natAbs d; omega
  have HM := Lib.hid (mag_any n · h1 h2)
  have HM2 := Lib.hid (mag_any d · h3 h4)
  generalize mg n = x at *
  generalize mg d = y at *
  have HG := Lib.hid (fun w => divisor_any x y w m1.1 (by omega) m2.1 (by omega))
  have hc : 0 < (Int.gcd x y : Int) := by
    have : 0 < Int.gcd x y := Int.gcd_pos_of_ne_zero_right _ (by omega)
    omega
  have b1 : 0 ≤ x / (Int.gcd x y : Int) ∧ x / (Int.gcd x y : Int) ≤ x := ⟨Int.ediv_nonneg m1.1 (by omega), Int.ediv_le_self _ m1.1⟩
  have b2 : 0 ≤ y / (Int.gcd x y : Int) ∧ y / (Int.gcd x y : Int) ≤ y := ⟨Int.ediv_nonneg m2.1 (by omega), Int.ediv_le_self _ m2.1⟩
  generalize (Int.gcd x y : Int) = c at *
  have HT := Lib.hid (fun w => tell_q 0 (x / c) (x / c) 0 (y / c) (y / c) _ _ w (.one b1.1 (by omega)) (.one b2.1 (by omega)) HN HD)
  have n0 : (d == 0) = false := by simp; omega
  clear HN HD hd
  have c0 : (c == 0) = false := by simp; omega
  have c1 : ¬ c = 0 := by omega
  have e1 : IntKind.u64.wrap (x.tdiv c) = x / c := tdiv_u64 x c m1.1 (by omega) hc
  have e2 : IntKind.u64.wrap (y.tdiv c) = y / c := tdiv_u64 y c m2.1 (by omega) hc
  go_enter Try.func8, Try.ntmps8
  go_wp2_with fail
  refine (HM.out _).mono ?_
  rintro e w1 ⟨rfl, rfl⟩
  go_wp2_with fail
  refine (HM2.out _).mono ?_
  rintro e w1 ⟨rfl, rfl⟩
  go_wp2_with fail
  refine (HG.out _).mono ?_
  rintro e w1 ⟨rfl, nd, rfl⟩
  go_wp2_with fail
  go_region_held3 (fun w' => w.heap.size < w'.heap.size) (first | go_keep | (have := hb1.size; simp at this; simp; omega)) ((go_at_call 25; refine (HT.out _).mono ?_; rintro e w1 ⟨rfl, hb1⟩; obtain ⟨hc1, hf1⟩ := bcell hb1; have hz1 := hb1.size; simp at hz1))
  go_wp2_with fail
  refine bodyPost_ret (v := .tuple #[.agg #[.int .i64 (numO (cutQ (some (Rat.divInt n d)))), .int .i64 (denO (cutQ (some (Rat.divInt n d))))], .bool (okO (cutQ (some (Rat.divInt n d))))]) (by simp [results, Try.results8, go_sem, hc1]) rfl ⟨rfl, ?_⟩
  exact (((below_drewN ((Below.refl _ _).alloc (Nat.le_refl _) _) _).trans (hb1.mono (by simp))).setCell (by simp) _).setCell (by simp) _

theorem make_any (n d : Int) (w : World) (h1 : -9223372036854775808 ≤ n) (h2 : n ≤ 9223372036854775807) (h3 : -9223372036854775808 ≤ d) (h4 : d ≤ 9223372036854775807) :
    Calls Try.prog 8 #[.int .i64 n, .int .i64 d] w (RatO (cutQ (makeO n d)) w) := by
  by_cases hd : d = 0
  · subst hd
    exact make_zero n w
  · exact make_some n d w h1 h2 h3 h4 hd

end Go.Proofs.Ytnbloflgggndiaa
