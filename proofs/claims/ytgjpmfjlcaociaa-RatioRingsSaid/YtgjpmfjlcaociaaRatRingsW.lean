/- RatioRings's walk. -/
import Derived.Test.YtgjpmfjlcaociaaRatScaledW
namespace Go.Proofs.Ytgjpmfjlcaociaa
open Go.RowKit Rt

/-! How great the numbers of sums and products are. -/
def Rt.bdQ (q : Rat) (A B : Nat) : Prop := q.num.natAbs ≤ A ∧ q.den ≤ B
theorem Rt.bd_add {x y : Rat} {A B C D : Nat} (hx : bdQ x A B) (hy : bdQ y C D) : bdQ (x + y) (A * D + C * B) (B * D) := by
  have hd := x.den_pos
  have hd2 := y.den_pos
  have h := num_le (x.num * y.den + y.num * x.den) (x.den * y.den : Nat) (by have := Nat.mul_pos hd hd2; omega)
  have e : Rat.divInt (x.num * y.den + y.num * x.den) (x.den * y.den : Nat) = x + y := by rw [Rat.add_def', Rat.divInt_ofNat]
  rw [e] at h
  have m1 := Nat.mul_le_mul hx.1 hy.2
  have m2 := Nat.mul_le_mul hy.1 hx.2
  have m3 := Nat.mul_le_mul hx.2 hy.2
  have t : (x.num * y.den + y.num * x.den).natAbs ≤ x.num.natAbs * y.den + y.num.natAbs * x.den := by
    refine Nat.le_trans (Int.natAbs_add_le _ _) ?_
    rw [Int.natAbs_mul, Int.natAbs_mul]
    simp
  exact ⟨by omega, by have := h.2; simp at this; omega⟩
theorem Rt.bd_mul {x y : Rat} {A B C D : Nat} (hx : bdQ x A B) (hy : bdQ y C D) : bdQ (x * y) (A * C) (B * D) := by
  have hd := x.den_pos
  have hd2 := y.den_pos
  have h := num_le (x.num * y.num) (x.den * y.den : Nat) (by have := Nat.mul_pos hd hd2; omega)
  have e : Rat.divInt (x.num * y.num) (x.den * y.den : Nat) = x * y := by rw [Rat.mul_def', Rat.divInt_ofNat]
  rw [e] at h
  have m1 := Nat.mul_le_mul hx.1 hy.1
  have m3 := Nat.mul_le_mul hx.2 hy.2
  rw [Int.natAbs_mul] at h
  exact ⟨by omega, by have := h.2; simp at this; omega⟩
theorem Rt.bd_fits {x : Rat} {A B : Nat} (h : bdQ x A B) (hA : A ≤ 9223372036854775807) (hB : B ≤ 9223372036854775807) : fitsQ x = true := by
  obtain ⟨h1, h2⟩ := h
  exact fits_of (by omega) (by omega) (by omega)
theorem Rt.is64_of {x : Rat} (h : fitsQ x = true) : Is64 x.num x.den := by
  simp only [fitsQ, decide_eq_true_eq] at h
  exact ⟨by omega, by omega, by omega, by omega⟩
theorem Rt.raw_of {x : Rat} (h : fitsQ x = true) : rawO x.num x.den = some x := by
  simp only [fitsQ, decide_eq_true_eq] at h
  exact rawO_mk x (by omega)
/-- Sums and products that fit. -/
theorem add_fit (x y z : Rat) (hx : fitsQ x = true) (hy : fitsQ y = true) (hz : fitsQ z = true) (e : x + y = z) (w : World) :
    Calls Try.prog 16 #[.agg #[.int .i64 x.num, .int .i64 x.den], .agg #[.int .i64 y.num, .int .i64 y.den]] w (RatIs z.num z.den true w) := by
  have h := add_any x.num x.den y.num y.den w (is64_of hx) (is64_of hy)
  unfold RatO at h
  rw [raw_of hx, raw_of hy, show addO (some x) (some y) = some z by rw [← e]; rfl, cutQ_yes hz] at h
  exact h
theorem mul_fit (x y z : Rat) (hx : fitsQ x = true) (hy : fitsQ y = true) (hz : fitsQ z = true) (e : x * y = z) (w : World) :
    Calls Try.prog 18 #[.agg #[.int .i64 x.num, .int .i64 x.den], .agg #[.int .i64 y.num, .int .i64 y.den]] w (RatIs z.num z.den true w) := by
  have h := mul_any x.num x.den y.num y.den w (is64_of hx) (is64_of hy)
  unfold RatO at h
  rw [raw_of hx, raw_of hy, show mulO (some x) (some y) = some z by rw [← e]; rfl, cutQ_yes hz] at h
  exact h

def Rt.smallQ (x0 x1 : Int) : Rat := Rat.divInt (x0.tmod 32768) (1 + x1 % 32768)
theorem Rt.small_bd (x0 x1 : Int) : bdQ (smallQ x0 x1) 32768 32768 := by
  have x1' := Int.lt_tmod_of_pos x0 (show (0 : Int) < 32768 by omega)
  have x2' := Int.tmod_lt_of_pos x0 (show (0 : Int) < 32768 by omega)
  have h := num_le (x0.tmod 32768) (1 + x1 % 32768) (by omega)
  exact ⟨by unfold smallQ; omega, by unfold smallQ; omega⟩
def AggIs (N D : Int) (w : World) (e : Ending) (w' : World) : Prop := e = .returned (.agg #[.int .i64 N, .int .i64 D]) ∧ Below w.heap.size w w'
theorem small_any (x0 x1 : Int) (w : World) :
    Calls Try.prog 29 #[.agg #[.int .i64 x0, .int .i64 x1]] w (AggIs (smallQ x0 x1).num (smallQ x0 x1).den w) := by
  have hz := and15 x1
  have z1 : 0 ≤ x1 % 32768 := by omega
  have z2 : x1 % 32768 ≤ 32767 := by omega
  have n1 := Int.lt_tmod_of_pos x0 (show (0 : Int) < 32768 by omega)
  have n2 := Int.tmod_lt_of_pos x0 (show (0 : Int) < 32768 by omega)
  have HM := Lib.hid (make_fit (x0.tmod 32768) (1 + x1 % 32768) (smallQ x0 x1) (by omega) (by omega) (by omega) (by omega) (by omega) rfl (bd_fits (small_bd x0 x1) (by omega) (by omega)))
  generalize (smallQ x0 x1).num = N at *
  generalize ((smallQ x0 x1).den : Int) = D at *
  obtain ⟨x, hx⟩ : ∃ x, x0.tmod 32768 = x := ⟨_, rfl⟩
  rw [hx] at HM n1 n2
  generalize x1 % 32768 = z at *
  go_enter Try.func29, Try.ntmps29
  go_wp2_with fail
  refine (HM.out _).mono ?_
  rintro e w1 ⟨rfl, hb1⟩
  have b1 : Below w.heap.size w w1 := (((Below.refl _ _).alloc (Nat.le_refl _) _).alloc (by simp) _).trans (hb1.mono (by simp; omega))
  have c1 : w1.cell? ⟨w.heap.size + 1, 0, none⟩ = some (.int .i64 0) := by rw [hb1.cell (by simp)]; simp [go_sem]
  have c2 : w1.cell? ⟨w.heap.size + 1, 1, none⟩ = some (.int .i64 0) := by rw [hb1.cell (by simp)]; simp [go_sem]
  have f1 : ∀ o, w1.frozen? ⟨w.heap.size + 1, o, none⟩ = false := fun o => by rw [hb1.frozen (by simp)]; simp [go_sem]
  have z3 : w.heap.size + 1 + 1 ≤ w1.heap.size := by have := hb1.size; simpa using this
  have c3 : ∀ o : Obj, (w1.alloc o).cell? ⟨w.heap.size + 1, 0, none⟩ = some (.int .i64 0) := fun o => by rw [((Below.refl w1.heap.size w1).alloc (Nat.le_refl _) o).cell (by simp; omega), c1]
  have c4 : ∀ o : Obj, (w1.alloc o).cell? ⟨w.heap.size + 1, 1, none⟩ = some (.int .i64 0) := fun o => by rw [((Below.refl w1.heap.size w1).alloc (Nat.le_refl _) o).cell (by simp; omega), c2]
  have f2 : ∀ (o : Obj) (i : Nat), (w1.alloc o).frozen? ⟨w.heap.size + 1, i, none⟩ = false := fun o i => by rw [((Below.refl w1.heap.size w1).alloc (Nat.le_refl _) o).frozen (by simp; omega), f1]
  clear hb1 c1 c2 f1
  go_wp2_with fail
  refine bodyPost_ret (v := .agg #[.int .i64 N, .int .i64 D]) (by simp [results, Try.results29, go_sem, c3, c4]) rfl ⟨rfl, ?_⟩
  exact ((b1.alloc b1.size _).setCell (by simp) _).setCell (by simp) _

set_option maxRecDepth 100000 in
set_option maxHeartbeats 6000000 in
theorem rings_walk (x0 x1 y0 y1 z0 z1 : Int) (w : World) :
    Calls Try.prog 7 #[.agg #[.int .i64 x0, .int .i64 x1], .agg #[.int .i64 y0, .int .i64 y1], .agg #[.int .i64 z0, .int .i64 z1]] w (BoolIs true w) := by
  have Ha := Lib.hid (small_any x0 x1)
  have Hb := Lib.hid (small_any y0 y1)
  have Hc := Lib.hid (small_any z0 z1)
  have ba := small_bd x0 x1
  have bb := small_bd y0 y1
  have bc := small_bd z0 z1
  generalize smallQ x0 x1 = a at *
  generalize smallQ y0 y1 = b at *
  generalize smallQ z0 z1 = c at *
  have bab := bd_add ba bb
  have bs := bd_add bab bc
  have bbc := bd_add bb bc
  have bp := bd_mul ba bbc
  have bq := bd_mul ba bb
  have br := bd_mul ba bc
  have fa := bd_fits ba (by decide) (by decide)
  have fb := bd_fits bb (by decide) (by decide)
  have fc := bd_fits bc (by decide) (by decide)
  have fab := bd_fits bab (by decide) (by decide)
  have fs := bd_fits bs (by decide) (by decide)
  have fbc := bd_fits bbc (by decide) (by decide)
  have fp := bd_fits bp (by decide) (by decide)
  have fq := bd_fits bq (by decide) (by decide)
  have fr := bd_fits br (by decide) (by decide)
  have H1 := Lib.hid (add_fit a b (a + b) fa fb fab rfl)
  have H2 := Lib.hid (add_fit b a (a + b) fb fa fab (Rat.add_comm b a))
  have H3 := Lib.hid (add_fit (a + b) c (a + b + c) fab fc fs rfl)
  have H4 := Lib.hid (add_fit b c (b + c) fb fc fbc rfl)
  have H5 := Lib.hid (add_fit a (b + c) (a + b + c) fa fbc fs (Rat.add_assoc a b c).symm)
  have H6 := Lib.hid (mul_fit a (b + c) (a * (b + c)) fa fbc fp rfl)
  have H7 := Lib.hid (mul_fit a b (a * b) fa fb fq rfl)
  have H8 := Lib.hid (mul_fit a c (a * c) fa fc fr rfl)
  have H9 := Lib.hid (add_fit (a * b) (a * c) (a * (b + c)) fq fr fp (Rat.mul_add a b c).symm)
  have H10 := Lib.hid (add_fit a 0 a fa (by decide +kernel) fa (Rat.add_zero a))
  have H11 := Lib.hid (mul_fit a 1 a fa (by decide +kernel) fa (Rat.mul_one a))
  simp only [Rat.zero_num, Rat.zero_den, Rat.one_num, Rat.one_den] at H10 H11
  generalize (a + b).num = Nab at *
  generalize ((a + b).den : Int) = Dab at *
  generalize (a + b + c).num = Ns at *
  generalize ((a + b + c).den : Int) = Ds at *
  generalize (b + c).num = Nbc at *
  generalize ((b + c).den : Int) = Dbc at *
  generalize (a * (b + c)).num = Np at *
  generalize ((a * (b + c)).den : Int) = Dp at *
  generalize (a * b).num = Nq at *
  generalize ((a * b).den : Int) = Dq at *
  generalize (a * c).num = Nr at *
  generalize ((a * c).den : Int) = Dr at *
  generalize a.num = Na at *
  generalize (a.den : Int) = Da at *
  generalize b.num = Nb at *
  generalize (b.den : Int) = Db at *
  generalize c.num = Nc at *
  generalize (c.den : Int) = Dc at *
  clear ba bb bc bab bs bbc bp bq br fa fb fc fab fs fbc fp fq fr
  have hq := eq_rat
  have HS := Lib.hid shown_any
  go_enter Try.func7, Try.ntmps7
  go_wp2_with fail
  refine (HS.out _).mono ?_
  rintro e w1 ⟨rfl, hb1⟩
  have V0 : Vars w [] w := Vars.first w
  have V1 : Vars w [(w.heap.size + 1 + 1, z0, z1), (w.heap.size + 1, y0, y1), (w.heap.size, x0, x1)] w1 := by
    have h := ((((V0.alloc x0 x1 36).alloc y0 y1 36).alloc z0 z1 36).next hb1)
    simpa using h
  clear hb1 V0
  obtain ⟨kx1, kx2⟩ := V1.tl.tl.h1
  simp only at kx1 kx2
  go_wp2_with fail
  refine (Ha.out _).mono ?_
  rintro e w2 ⟨rfl, hb2⟩
  have V2 := (V1.next hb2).alloc Na Da 24
  clear hb2 V1 kx1 kx2
  obtain ⟨ky1, ky2⟩ := V2.tl.tl.h1
  simp only at ky1 ky2
  go_wp2_with fail
  refine (Hb.out _).mono ?_
  rintro e w3 ⟨rfl, hb3⟩
  have V3 := (V2.next hb3).alloc Nb Db 24
  clear hb3 V2 ky1 ky2
  obtain ⟨kz1, kz2⟩ := V3.tl.tl.h1
  simp only at kz1 kz2
  go_wp2_with fail
  refine (Hc.out _).mono ?_
  rintro e w4 ⟨rfl, hb4⟩
  have V4 := (V3.next hb4).alloc Nc Dc 24
  clear hb4 V3 kz1 kz2
  obtain ⟨ka1, ka2⟩ := V4.tl.tl.h1
  simp only at ka1 ka2
  obtain ⟨kb1, kb2⟩ := V4.tl.h1
  simp only at kb1 kb2
  go_wp2_with fail
  refine (H1.out _).mono ?_
  rintro e w5 ⟨rfl, hb5⟩
  have V5 := (V4.next hb5).alloc Nab Dab 24
  clear hb5 V4 ka1 ka2 kb1 kb2
  obtain ⟨ka1, ka2⟩ := V5.tl.tl.tl.h1
  simp only at ka1 ka2
  obtain ⟨kb1, kb2⟩ := V5.tl.tl.h1
  simp only at kb1 kb2
  go_wp2_with fail
  refine (H2.out _).mono ?_
  rintro e w6 ⟨rfl, hb6⟩
  have V6 := (V5.next hb6).alloc Nab Dab 24
  clear hb6 V5 ka1 ka2 kb1 kb2
  obtain ⟨kab1, kab2⟩ := V6.tl.h1
  simp only at kab1 kab2
  obtain ⟨kc1, kc2⟩ := V6.tl.tl.h1
  simp only at kc1 kc2
  go_wp2_with fail
  refine (H3.out _).mono ?_
  rintro e w7 ⟨rfl, hb7⟩
  have V7 := (V6.next hb7).alloc Ns Ds 24
  clear hb7 V6 kab1 kab2 kc1 kc2
  obtain ⟨kb1, kb2⟩ := V7.tl.tl.tl.tl.h1
  simp only at kb1 kb2
  obtain ⟨kc1, kc2⟩ := V7.tl.tl.tl.h1
  simp only at kc1 kc2
  go_wp2_with fail
  refine (H4.out _).mono ?_
  rintro e w8 ⟨rfl, hb8⟩
  have V8 := (V7.next hb8).alloc Nbc Dbc 24
  clear hb8 V7 kb1 kb2 kc1 kc2
  obtain ⟨ka1, ka2⟩ := V8.tl.tl.tl.tl.tl.tl.h1
  simp only at ka1 ka2
  obtain ⟨kbc1, kbc2⟩ := V8.h1
  simp only at kbc1 kbc2
  go_wp2_with fail
  refine (H5.out _).mono ?_
  rintro e w9 ⟨rfl, hb9⟩
  have V9 := (V8.next hb9).alloc Ns Ds 24
  clear hb9 V8 ka1 ka2 kbc1 kbc2
  obtain ⟨ka1, ka2⟩ := V9.tl.tl.tl.tl.tl.tl.tl.h1
  simp only at ka1 ka2
  obtain ⟨kbc1, kbc2⟩ := V9.tl.h1
  simp only at kbc1 kbc2
  go_wp2_with fail
  refine (H6.out _).mono ?_
  rintro e w10 ⟨rfl, hb10⟩
  have V10 := (V9.next hb10).alloc Np Dp 24
  clear hb10 V9 ka1 ka2 kbc1 kbc2
  obtain ⟨ka1, ka2⟩ := V10.tl.tl.tl.tl.tl.tl.tl.tl.h1
  simp only at ka1 ka2
  obtain ⟨kb1, kb2⟩ := V10.tl.tl.tl.tl.tl.tl.tl.h1
  simp only at kb1 kb2
  go_wp2_with fail
  refine (H7.out _).mono ?_
  rintro e w11 ⟨rfl, hb11⟩
  have V11 := (V10.next hb11).alloc Nq Dq 24
  clear hb11 V10 ka1 ka2 kb1 kb2
  obtain ⟨ka1, ka2⟩ := V11.tl.tl.tl.tl.tl.tl.tl.tl.tl.h1
  simp only at ka1 ka2
  obtain ⟨kc1, kc2⟩ := V11.tl.tl.tl.tl.tl.tl.tl.h1
  simp only at kc1 kc2
  go_wp2_with fail
  refine (H8.out _).mono ?_
  rintro e w12 ⟨rfl, hb12⟩
  have V12 := (V11.next hb12).alloc Nr Dr 24
  clear hb12 V11 ka1 ka2 kc1 kc2
  obtain ⟨kq1, kq2⟩ := V12.tl.h1
  simp only at kq1 kq2
  obtain ⟨kr1, kr2⟩ := V12.h1
  simp only at kr1 kr2
  go_wp2_with fail
  refine (H9.out _).mono ?_
  rintro e w13 ⟨rfl, hb13⟩
  have V13 := (V12.next hb13).alloc Np Dp 24
  clear hb13 V12 kq1 kq2 kr1 kr2
  obtain ⟨ka1, ka2⟩ := V13.tl.tl.tl.tl.tl.tl.tl.tl.tl.tl.tl.h1
  simp only at ka1 ka2
  go_wp2_with fail
  refine (H10.out _).mono ?_
  rintro e w14 ⟨rfl, hb14⟩
  have V14 := (V13.next hb14).alloc Na Da 24
  clear hb14 V13 ka1 ka2
  obtain ⟨ka1, ka2⟩ := V14.tl.tl.tl.tl.tl.tl.tl.tl.tl.tl.tl.tl.h1
  simp only at ka1 ka2
  go_wp2_with fail
  refine (H11.out _).mono ?_
  rintro e w15 ⟨rfl, hb15⟩
  have V15 := (V14.next hb15).alloc Na Da 24
  clear hb15 V14 ka1 ka2
  obtain ⟨ka1, ka2⟩ := V15.tl.tl.tl.tl.tl.tl.tl.tl.tl.tl.tl.tl.tl.h1
  simp only at ka1 ka2
  obtain ⟨kab1, kab2⟩ := V15.tl.tl.tl.tl.tl.tl.tl.tl.tl.tl.h1
  simp only at kab1 kab2
  obtain ⟨kba1, kba2⟩ := V15.tl.tl.tl.tl.tl.tl.tl.tl.tl.h1
  simp only at kba1 kba2
  obtain ⟨kabc1, kabc2⟩ := V15.tl.tl.tl.tl.tl.tl.tl.tl.h1
  simp only at kabc1 kabc2
  obtain ⟨kother1, kother2⟩ := V15.tl.tl.tl.tl.tl.tl.h1
  simp only at kother1 kother2
  obtain ⟨kp1, kp2⟩ := V15.tl.tl.tl.tl.tl.h1
  simp only at kp1 kp2
  obtain ⟨ks1, ks2⟩ := V15.tl.tl.h1
  simp only at ks1 ks2
  obtain ⟨kzero1, kzero2⟩ := V15.tl.h1
  simp only at kzero1 kzero2
  obtain ⟨kone1, kone2⟩ := V15.h1
  simp only at kone1 kone2
  go_wp2_with fail
  go_ret
  exact ⟨rfl, V15.bel⟩
end Go.Proofs.Ytgjpmfjlcaociaa
