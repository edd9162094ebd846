/- RatioScaled's walk. -/
import Derived.Test.YtgjpmfjlcaociaaRatLeast
import Derived.Test.YtgjpmfjlcaociaaRatOpen
namespace Go.Proofs.Ytgjpmfjlcaociaa
open Go.RowKit Rt

theorem Rt.scale_self (n b : Int) (hb : 0 < b) : scaleV n b b = n := by
  unfold scaleV
  rw [Int.sign_eq_one_of_pos hb, show ((b.natAbs : Nat) : Int) = b by omega]
  refine ediv_of (by omega) ?_ ?_ <;> grind
theorem Rt.scale_mono (n m a b : Int) (hb : 0 < b) (ha : 0 ≤ a) (h : n ≤ m) : scaleV n a b ≤ scaleV m a b := by
  unfold scaleV
  rw [Int.sign_eq_one_of_pos hb, show ((b.natAbs : Nat) : Int) = b by omega]
  have := Int.mul_le_mul_of_nonneg_right h ha
  exact Int.ediv_le_ediv (by omega) (by omega)
theorem Rt.div_cross_eq {n d N D : Int} (hd : 0 < d) (hD : 0 < D) (h : N * d = n * D) : (2 * n + d) / (2 * d) = (2 * N + D) / (2 * D) := by
  have e1 : (2 * n + d) / (2 * d) = ((2 * n + d) * D) / (2 * d * D) := (Int.mul_ediv_mul_of_pos_left _ _ hD).symm
  have e2 : (2 * N + D) / (2 * D) = ((2 * N + D) * d) / (2 * D * d) := (Int.mul_ediv_mul_of_pos_left _ _ hd).symm
  rw [e1, e2]
  congr 1 <;> grind
theorem Rt.scale_round (n a b : Int) (hb : 0 < b) : toldN (scaleV n a b) = roundO (some (Rat.divInt (n * a) b)) := by
  unfold scaleV roundO
  rw [Int.sign_eq_one_of_pos hb, show ((b.natAbs : Nat) : Int) = b by omega, Int.mul_one]
  simp only
  rw [div_cross_eq hb (by have := (Rat.divInt (n * a) b).den_pos; omega) (divInt_cross (n * a) b (by omega))]
theorem Rt.scale_bd (n a b : Int) (hb : 0 < b) (h1 : -4611686018427387904 ≤ n * a) (h2 : n * a ≤ 4611686018427387904) : -9223372036854775808 ≤ scaleV n a b ∧ scaleV n a b ≤ 9223372036854775807 := by
  unfold scaleV
  rw [Int.sign_eq_one_of_pos hb, show ((b.natAbs : Nat) : Int) = b by omega, Int.mul_one]
  constructor
  · refine Int.le_ediv_of_mul_le (by omega) ?_
    omega
  · have : (2 * (n * a) + b) / (2 * b) < 9223372036854775808 := Int.ediv_lt_of_lt_mul (by omega) (by omega)
    omega

theorem scale_fit (n a b V : Int) (h1 : -9223372036854775808 ≤ n) (h2 : n ≤ 9223372036854775807) (h3 : -9223372036854775808 ≤ a) (h4 : a ≤ 9223372036854775807) (h5 : 0 < b) (h6 : b ≤ 9223372036854775807)
    (hV : scaleV n a b = V) (hf : -9223372036854775808 ≤ V ∧ V ≤ 9223372036854775807) (w : World) :
    Calls Try.prog 27 #[.int .i64 n, .int .i64 a, .int .i64 b] w (TupIs V true w) := by
  have h := scale_any n a b w h1 h2 h3 h4 (by omega) h6
  rw [if_neg (by omega), if_neg (by omega), hV, toldN_in _ hf.1 hf.2, toldB_in _ hf.1 hf.2] at h
  exact h

set_option maxHeartbeats 4000000 in
theorem scaled_walk (x0 x1 x2 more : Int) (w : World) :
    Calls Try.prog 12 #[.agg #[.int .i64 x0, .int .i64 x1, .int .i64 x2], .int .i64 more] w (BoolIs true w) := by
  have ha := and30 x1
  have hb := and30 x2
  have hm := and15 more
  generalize hA : x1 % 1073741824 = a at *
  generalize hB : x2 % 1073741824 = b at *
  generalize hM : more % 32768 = m at *
  have a1 : 0 ≤ a := by omega
  have a2 : a ≤ 1073741823 := by omega
  have b1 : 0 ≤ b := by omega
  have b2 : b ≤ 1073741823 := by omega
  have m1 : 0 ≤ m := by omega
  have m2 : m ≤ 32767 := by omega
  clear hA hB hM
  have n1 := Int.lt_tmod_of_pos x0 (show (0 : Int) < 1073741824 by omega)
  have n2 := Int.tmod_lt_of_pos x0 (show (0 : Int) < 1073741824 by omega)
  obtain ⟨n, hn⟩ : ∃ n, x0.tmod 1073741824 = n := ⟨_, rfl⟩
  rw [hn] at n1 n2
  have p1 := mul_bd n a 1073741824 1073741824 (by omega) (by omega) (by omega) (by omega)
  have p2 := mul_bd (n + m) a 1073774592 1073741824 (by omega) (by omega) (by omega) (by omega)
  have p3 := mul_bd n (1 + b) 1073741824 1073741824 (by omega) (by omega) (by omega) (by omega)
  have s1 := scale_bd n a (1 + b) (by omega) (by omega) (by omega)
  have s2 := scale_bd (n + m) a (1 + b) (by omega) (by omega) (by omega)
  have H1 := Lib.hid (scale_fit n a (1 + b) _ (by omega) (by omega) (by omega) (by omega) (by omega) (by omega) rfl s1)
  have H2 := Lib.hid (scale_fit (n + m) a (1 + b) _ (by omega) (by omega) (by omega) (by omega) (by omega) (by omega) rfl s2)
  have H3 := Lib.hid (scale_fit n (1 + b) (1 + b) n (by omega) (by omega) (by omega) (by omega) (by omega) (by omega) (scale_self n (1 + b) (by omega)) (by omega))
  have mono := scale_mono n (n + m) a (1 + b) (by omega) a1 (by omega)
  have nl := num_le (n * a) (1 + b) (by omega)
  have dp : (0 : Int) < (Rat.divInt (n * a) (1 + b)).den := by have := (Rat.divInt (n * a) (1 + b)).den_pos; omega
  have hf : fitsQ (Rat.divInt (n * a) (1 + b)) = true := fits_of (by omega) (by omega) (by omega)
  have rn := scale_round n a (1 + b) (by omega)
  rw [toldN_in _ s1.1 s1.2] at rn
  generalize scaleV n a (1 + b) = S at *
  generalize scaleV (n + m) a (1 + b) = T at *
  have H4 := Lib.hid (make_fit (n * a) (1 + b) _ (by omega) (by omega) (by omega) (by omega) (by omega) rfl hf)
  have RW := Lib.hid (fun w => round_any (Rat.divInt (n * a) (1 + b)).num (Rat.divInt (n * a) (1 + b)).den w ⟨by omega, by omega, by omega, by omega⟩)
  rw [rawO_mk _ (by omega), ← rn] at RW
  clear rn hf
  obtain ⟨P, hP⟩ : ∃ P, n * a = P := ⟨_, rfl⟩
  have e1 : wrap64 (n * a) = P := by rw [hP]; rw [hP] at p1; exact wrap64_in (by omega) (by omega)
  have e2 : IntKind.i64.wrap (n * a) = P := by rw [hP]; rw [hP] at p1; exact i64_in (by omega) (by omega)
  rw [hP] at H4 RW dp nl
  generalize (Rat.divInt P (1 + b)).num = N at *
  generalize ((Rat.divInt P (1 + b)).den : Int) = D at *
  have HS := Lib.hid shown_any
  clear hP p1 p2 p3 nl s1 s2
  go_enter Try.func12, Try.ntmps12
  go_wp2_with fail
  refine (HS.out _).mono ?_
  rintro e w1 ⟨rfl, hb1⟩
  have k1 : w1.cell? ⟨w.heap.size, 0, none⟩ = some (.int .i64 x0) := by rw [hb1.cell (by simp)]; simp [go_sem]
  have k2 : w1.cell? ⟨w.heap.size, 1, none⟩ = some (.int .i64 x1) := by rw [hb1.cell (by simp)]; simp [go_sem]
  have k3 : w1.cell? ⟨w.heap.size, 2, none⟩ = some (.int .i64 x2) := by rw [hb1.cell (by simp)]; simp [go_sem]
  have V1 : Vars w [] w1 := (Vars.first w).next (((Below.refl _ _).alloc (Nat.le_refl _) _).trans (hb1.mono (by simp)))
  clear hb1
  go_wp2_with fail
  refine (H1.out _).mono ?_
  rintro e w2 ⟨rfl, hb2⟩
  have V2 := V1.next hb2
  go_wp2_with fail
  refine (H2.out _).mono ?_
  rintro e w3 ⟨rfl, hb3⟩
  have V3 := V2.next hb3
  go_wp2_with fail
  refine (H3.out _).mono ?_
  rintro e w4 ⟨rfl, hb4⟩
  have V4 := V3.next hb4
  go_wp2_with fail
  refine (H4.out _).mono ?_
  rintro e w5 ⟨rfl, hb5⟩
  have V5 := (V4.next hb5).alloc N D 24
  clear hb2 hb3 hb4 hb5 V1 V2 V3 V4 k1 k2 k3
  go_wp2_with fail
  refine (RW.out _).mono ?_
  rintro e w6 ⟨rfl, hb6⟩
  have V6 := V5.next hb6
  go_wp2_with fail
  go_ret
  exact ⟨rfl, V6.bel⟩
end Go.Proofs.Ytgjpmfjlcaociaa
