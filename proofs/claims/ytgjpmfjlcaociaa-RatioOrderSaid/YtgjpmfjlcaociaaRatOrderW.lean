/- RatioOrder's walk. -/
import Derived.Test.YtgjpmfjlcaociaaRatBackW
namespace Go.Proofs.Ytgjpmfjlcaociaa
open Go.RowKit Rt

theorem Rt.cmp_cases (a b : Rat) : (a < b ∧ cmpO (some a) (some b) = -1) ∨ (a = b ∧ cmpO (some a) (some b) = 0) ∨ (b < a ∧ cmpO (some a) (some b) = 1) := by
  simp only [cmpO]
  rcases Int.lt_trichotomy (a.num * b.den) (b.num * a.den) with h | h | h
  · left
    exact ⟨(Rat.lt_iff a b).2 h, Int.sign_eq_neg_one_of_neg (by rw [Int.neg_mul]; omega)⟩
  · right; left
    refine ⟨Rat.eq_iff_mul_eq_mul.2 h, ?_⟩
    rw [Int.neg_mul, h, Int.add_right_neg]
    rfl
  · right; right
    exact ⟨(Rat.lt_iff b a).2 h, Int.sign_eq_one_of_pos (by rw [Int.neg_mul]; omega)⟩
theorem Rt.cmp_lt {a b : Rat} (h : a < b) : cmpO (some a) (some b) = -1 := by
  rcases cmp_cases a b with k | k | k
  · exact k.2
  · exact absurd k.1 (Rat.ne_of_lt h)
  · exact absurd (Rat.lt_of_le_of_ne (Rat.le_of_lt h) (Rat.ne_of_lt h)) (Rat.not_lt.2 (Rat.le_of_lt k.1))
theorem Rt.cmp_eq (a : Rat) : cmpO (some a) (some a) = 0 := by
  rcases cmp_cases a a with k | k | k
  · exact absurd k.1 Rat.lt_irrefl
  · exact k.2
  · exact absurd k.1 Rat.lt_irrefl
theorem Rt.cmp_gt {a b : Rat} (h : b < a) : cmpO (some a) (some b) = 1 := by
  rcases cmp_cases a b with k | k | k
  · exact absurd k.1 (Rat.not_lt.2 (Rat.le_of_lt h))
  · exact absurd k.1.symm (Rat.ne_of_lt h)
  · exact k.2
theorem Rt.lt_tr {a b c : Rat} (h : a < b) (k : b < c) : a < c := by grind
/-- How three rationals stand to each other: what Cmp answers of them. -/
theorem Rt.three (a b c : Rat) : ∃ X Y Z : Int, cmpO (some a) (some b) = X ∧ cmpO (some b) (some c) = Y ∧ cmpO (some a) (some c) = Z ∧ cmpO (some b) (some a) = -X ∧
    ((X = 0 ∧ a = b) ∨ (X ≠ 0 ∧ a ≠ b)) ∧ ((X = -1 ∧ a < b) ∨ (X = 0 ∧ a = b) ∨ (X = 1 ∧ b < a)) ∧
    ((X = 1) ∨ (X = -1 ∧ Y = 1) ∨ (X = 0 ∧ Y = 1) ∨ (X = -1 ∧ Y = -1 ∧ Z = -1) ∨ (X = -1 ∧ Y = 0 ∧ Z = -1) ∨ (X = 0 ∧ Y = -1 ∧ Z = -1) ∨ (X = 0 ∧ Y = 0 ∧ Z = 0)) := by
  refine ⟨_, _, _, rfl, rfl, rfl, ?_, ?_, ?_, ?_⟩
  · rcases cmp_cases a b with k | k | k
    · rw [k.2, cmp_gt k.1]; rfl
    · rw [k.1, cmp_eq]; rfl
    · rw [k.2, cmp_lt k.1]
  · rcases cmp_cases a b with k | k | k
    · right; exact ⟨by rw [k.2]; decide, Rat.ne_of_lt k.1⟩
    · left; exact ⟨k.2, k.1⟩
    · right; exact ⟨by rw [k.2]; decide, fun h => Rat.ne_of_lt k.1 h.symm⟩
  · rcases cmp_cases a b with k | k | k
    · exact .inl ⟨k.2, k.1⟩
    · exact .inr (.inl ⟨k.2, k.1⟩)
    · exact .inr (.inr ⟨k.2, k.1⟩)
  · rcases cmp_cases a b with k | k | k
    · rcases cmp_cases b c with m | m | m
      · exact .inr (.inr (.inr (.inl ⟨k.2, m.2, cmp_lt (lt_tr k.1 m.1)⟩)))
      · refine .inr (.inr (.inr (.inr (.inl ⟨k.2, m.2, cmp_lt ?_⟩))))
        rw [← m.1]; exact k.1
      · exact .inr (.inl ⟨k.2, m.2⟩)
    · rcases cmp_cases b c with m | m | m
      · refine .inr (.inr (.inr (.inr (.inr (.inl ⟨k.2, m.2, cmp_lt ?_⟩)))))
        rw [k.1]; exact m.1
      · refine .inr (.inr (.inr (.inr (.inr (.inr ⟨k.2, m.2, ?_⟩)))))
        rw [k.1, m.1]; exact cmp_eq c
      · exact .inr (.inr (.inl ⟨k.2, m.2⟩))
    · exact .inl k.2
theorem Rt.sub_sign {a b : Rat} {X : Int} (h : (X = -1 ∧ a < b) ∨ (X = 0 ∧ a = b) ∨ (X = 1 ∧ b < a)) : decide ((a - b).num < 0) = decide (X < 0) ∧ decide (0 < (a - b).num) = decide (0 < X) := by
  have h1 : 0 ≤ (a - b).num ↔ 0 ≤ a - b := Rat.num_nonneg
  have h2 : (a - b).num = 0 ↔ a - b = 0 := Rat.num_eq_zero
  rcases h with ⟨rfl, k⟩ | ⟨rfl, k⟩ | ⟨rfl, k⟩
  · have e : ¬ 0 ≤ (a - b).num := by rw [h1]; grind
    generalize (a - b).num = n at *
    rw [decide_eq_true (show n < 0 by omega), decide_eq_false (show ¬ 0 < n by omega)]
    exact ⟨rfl, rfl⟩
  · have e : (a - b).num = 0 := by rw [h2]; grind
    rw [e]
    exact ⟨rfl, rfl⟩
  · have e : 0 ≤ (a - b).num := by rw [h1]; grind
    have e2 : (a - b).num ≠ 0 := by rw [ne_eq, h2]; grind
    generalize (a - b).num = n at *
    rw [decide_eq_false (show ¬ n < 0 by omega), decide_eq_true (show 0 < n by omega)]
    exact ⟨rfl, rfl⟩
theorem Rt.eq_sign {a b : Rat} {X : Int} (h : (X = 0 ∧ a = b) ∨ (X ≠ 0 ∧ a ≠ b)) : (a.num == b.num && (a.den : Int) == (b.den : Int)) = (X == 0) := by
  rcases h with ⟨rfl, rfl⟩ | ⟨h1, h2⟩
  · simp
  · have : ¬ (a.num = b.num ∧ a.den = b.den) := fun k => h2 (Rat.ext k.1 k.2)
    have hx : (X == 0) = false := by simpa using h1
    rw [hx]
    cases hc : (a.num == b.num && (a.den : Int) == (b.den : Int))
    · rfl
    · simp at hc
      exact absurd ⟨hc.1, by omega⟩ this
theorem cmp_fit (x y : Rat) (X : Int) (hx : fitsQ x = true) (hy : fitsQ y = true) (e : cmpO (some x) (some y) = X) (w : World) :
    Calls Try.prog 21 #[.agg #[.int .i64 x.num, .int .i64 x.den], .agg #[.int .i64 y.num, .int .i64 y.den]] w (IntIs X w) := by
  have h := cmp_any x.num x.den y.num y.den w (is64_of hx) (is64_of hy)
  rw [raw_of hx, raw_of hy, e] at h
  exact h

set_option maxRecDepth 100000 in
set_option maxHeartbeats 4000000 in
theorem order_f (Na Da Nb Db Nc Dc : Int) (o2 o3 : Bool) (x0 x1 y0 y1 z0 z1 : Int) (w : World)
    (HA : Hid (∀ w, Calls Try.prog 14 #[.int .i64 x0, .int .i64 x1] w (RatIs Na Da false w)))
    (HB : Hid (∀ w, Calls Try.prog 14 #[.int .i64 y0, .int .i64 y1] w (RatIs Nb Db o2 w)))
    (HC : Hid (∀ w, Calls Try.prog 14 #[.int .i64 z0, .int .i64 z1] w (RatIs Nc Dc o3 w))) :
    Calls Try.prog 9 #[.agg #[.int .i64 x0, .int .i64 x1], .agg #[.int .i64 y0, .int .i64 y1], .agg #[.int .i64 z0, .int .i64 z1]] w (BoolIs true w) := by
  have HS := Lib.hid shown_any
  go_enter Try.func9, Try.ntmps9
  go_wp2_with fail
  refine (HS.out _).mono ?_
  rintro e w1 ⟨rfl, hb1⟩
  have V0 : Vars w [] w := Vars.first w
  have V1 : Vars w [(w.heap.size + 1 + 1, z0, z1), (w.heap.size + 1, y0, y1), (w.heap.size, x0, x1)] w1 := by
    have h := ((((V0.alloc x0 x1 39).alloc y0 y1 39).alloc z0 z1 39).next hb1)
    simpa using h
  clear hb1 V0
  obtain ⟨kx1, kx2⟩ := V1.tl.tl.h1
  simp only at kx1 kx2
  go_wp2_with fail
  refine (HA.out _).mono ?_
  rintro e w2 ⟨rfl, hb2⟩
  have V2 := (V1.next hb2).alloc Na Da 24
  clear hb2 V1 kx1 kx2
  obtain ⟨ky1, ky2⟩ := V2.tl.tl.h1
  simp only at ky1 ky2
  go_wp2_with fail
  refine (HB.out _).mono ?_
  rintro e w3 ⟨rfl, hb3⟩
  have V3 := (V2.next hb3).alloc Nb Db 24
  clear hb3 V2 ky1 ky2
  obtain ⟨kz1, kz2⟩ := V3.tl.tl.h1
  simp only at kz1 kz2
  go_wp2_with fail
  refine (HC.out _).mono ?_
  rintro e w4 ⟨rfl, hb4⟩
  have V4 := (V3.next hb4).alloc Nc Dc 24
  clear hb4 V3 kz1 kz2
  go_wp2_with fail
  go_ret
  exact ⟨rfl, V4.bel⟩

set_option maxRecDepth 100000 in
set_option maxHeartbeats 4000000 in
theorem order_tf (Na Da Nb Db Nc Dc : Int) (o3 : Bool) (x0 x1 y0 y1 z0 z1 : Int) (w : World)
    (HA : Hid (∀ w, Calls Try.prog 14 #[.int .i64 x0, .int .i64 x1] w (RatIs Na Da true w)))
    (HB : Hid (∀ w, Calls Try.prog 14 #[.int .i64 y0, .int .i64 y1] w (RatIs Nb Db false w)))
    (HC : Hid (∀ w, Calls Try.prog 14 #[.int .i64 z0, .int .i64 z1] w (RatIs Nc Dc o3 w))) :
    Calls Try.prog 9 #[.agg #[.int .i64 x0, .int .i64 x1], .agg #[.int .i64 y0, .int .i64 y1], .agg #[.int .i64 z0, .int .i64 z1]] w (BoolIs true w) := by
  have HS := Lib.hid shown_any
  go_enter Try.func9, Try.ntmps9
  go_wp2_with fail
  refine (HS.out _).mono ?_
  rintro e w1 ⟨rfl, hb1⟩
  have V0 : Vars w [] w := Vars.first w
  have V1 : Vars w [(w.heap.size + 1 + 1, z0, z1), (w.heap.size + 1, y0, y1), (w.heap.size, x0, x1)] w1 := by
    have h := ((((V0.alloc x0 x1 39).alloc y0 y1 39).alloc z0 z1 39).next hb1)
    simpa using h
  clear hb1 V0
  obtain ⟨kx1, kx2⟩ := V1.tl.tl.h1
  simp only at kx1 kx2
  go_wp2_with fail
  refine (HA.out _).mono ?_
  rintro e w2 ⟨rfl, hb2⟩
  have V2 := (V1.next hb2).alloc Na Da 24
  clear hb2 V1 kx1 kx2
  obtain ⟨ky1, ky2⟩ := V2.tl.tl.h1
  simp only at ky1 ky2
  go_wp2_with fail
  refine (HB.out _).mono ?_
  rintro e w3 ⟨rfl, hb3⟩
  have V3 := (V2.next hb3).alloc Nb Db 24
  clear hb3 V2 ky1 ky2
  obtain ⟨kz1, kz2⟩ := V3.tl.tl.h1
  simp only at kz1 kz2
  go_wp2_with fail
  refine (HC.out _).mono ?_
  rintro e w4 ⟨rfl, hb4⟩
  have V4 := (V3.next hb4).alloc Nc Dc 24
  clear hb4 V3 kz1 kz2
  go_wp2_with fail
  go_ret
  exact ⟨rfl, V4.bel⟩

set_option maxRecDepth 100000 in
set_option maxHeartbeats 4000000 in
theorem order_ttf (Na Da Nb Db Nc Dc : Int) (x0 x1 y0 y1 z0 z1 : Int) (w : World)
    (HA : Hid (∀ w, Calls Try.prog 14 #[.int .i64 x0, .int .i64 x1] w (RatIs Na Da true w)))
    (HB : Hid (∀ w, Calls Try.prog 14 #[.int .i64 y0, .int .i64 y1] w (RatIs Nb Db true w)))
    (HC : Hid (∀ w, Calls Try.prog 14 #[.int .i64 z0, .int .i64 z1] w (RatIs Nc Dc false w))) :
    Calls Try.prog 9 #[.agg #[.int .i64 x0, .int .i64 x1], .agg #[.int .i64 y0, .int .i64 y1], .agg #[.int .i64 z0, .int .i64 z1]] w (BoolIs true w) := by
  have HS := Lib.hid shown_any
  go_enter Try.func9, Try.ntmps9
  go_wp2_with fail
  refine (HS.out _).mono ?_
  rintro e w1 ⟨rfl, hb1⟩
  have V0 : Vars w [] w := Vars.first w
  have V1 : Vars w [(w.heap.size + 1 + 1, z0, z1), (w.heap.size + 1, y0, y1), (w.heap.size, x0, x1)] w1 := by
    have h := ((((V0.alloc x0 x1 39).alloc y0 y1 39).alloc z0 z1 39).next hb1)
    simpa using h
  clear hb1 V0
  obtain ⟨kx1, kx2⟩ := V1.tl.tl.h1
  simp only at kx1 kx2
  go_wp2_with fail
  refine (HA.out _).mono ?_
  rintro e w2 ⟨rfl, hb2⟩
  have V2 := (V1.next hb2).alloc Na Da 24
  clear hb2 V1 kx1 kx2
  obtain ⟨ky1, ky2⟩ := V2.tl.tl.h1
  simp only at ky1 ky2
  go_wp2_with fail
  refine (HB.out _).mono ?_
  rintro e w3 ⟨rfl, hb3⟩
  have V3 := (V2.next hb3).alloc Nb Db 24
  clear hb3 V2 ky1 ky2
  obtain ⟨kz1, kz2⟩ := V3.tl.tl.h1
  simp only at kz1 kz2
  go_wp2_with fail
  refine (HC.out _).mono ?_
  rintro e w4 ⟨rfl, hb4⟩
  have V4 := (V3.next hb4).alloc Nc Dc 24
  clear hb4 V3 kz1 kz2
  go_wp2_with fail
  go_ret
  exact ⟨rfl, V4.bel⟩

set_option maxRecDepth 100000 in
set_option maxHeartbeats 12000000 in
theorem order_told (a b c : Rat) (x0 x1 y0 y1 z0 z1 : Int) (w : World) (fa : fitsQ a = true) (fb : fitsQ b = true) (fc : fitsQ c = true) (fd : fitsQ (a - b) = true)
    (HA : Hid (∀ w, Calls Try.prog 14 #[.int .i64 x0, .int .i64 x1] w (RatIs a.num a.den true w)))
    (HB : Hid (∀ w, Calls Try.prog 14 #[.int .i64 y0, .int .i64 y1] w (RatIs b.num b.den true w)))
    (HC : Hid (∀ w, Calls Try.prog 14 #[.int .i64 z0, .int .i64 z1] w (RatIs c.num c.den true w))) :
    Calls Try.prog 9 #[.agg #[.int .i64 x0, .int .i64 x1], .agg #[.int .i64 y0, .int .i64 y1], .agg #[.int .i64 z0, .int .i64 z1]] w (BoolIs true w) := by
  obtain ⟨X, Y, Z, eX, eY, eZ, eW, hE, hS, hC⟩ := three a b c
  have H1 := Lib.hid (cmp_fit a b X fa fb eX)
  have H2 := Lib.hid (cmp_fit b c Y fb fc eY)
  have H3 := Lib.hid (cmp_fit a c Z fa fc eZ)
  have H4 := Lib.hid (cmp_fit a a 0 fa fa (cmp_eq a))
  have H5 := Lib.hid (cmp_fit b a (-X) fb fa eW)
  have H6 := Lib.hid (sub_fit a b (a - b) fa fb fd rfl)
  obtain ⟨d1, d2⟩ := sub_sign hS
  have hE2 := eq_sign hE
  have hE3 : ∀ w, (Op.equalIn 10000 24 (.agg #[.int .i64 a.num, .int .i64 a.den]) (.agg #[.int .i64 b.num, .int .i64 b.den])).run Try.prog w = .ok (X == 0) w := fun w => by rw [eq_rat, hE2]
  clear eX eY eZ eW hE hS hE2 fa fb fc fd
  generalize (a - b).num = Nd at *
  generalize ((a - b).den : Int) = Dd at *
  generalize a.num = Na at *
  generalize (a.den : Int) = Da at *
  generalize b.num = Nb at *
  generalize (b.den : Int) = Db at *
  generalize c.num = Nc at *
  generalize (c.den : Int) = Dc at *
  have HS := Lib.hid shown_any
  rcases hC with rfl | ⟨rfl, rfl⟩ | ⟨rfl, rfl⟩ | ⟨rfl, rfl, rfl⟩ | ⟨rfl, rfl, rfl⟩ | ⟨rfl, rfl, rfl⟩ | ⟨rfl, rfl, rfl⟩
  all_goals
    go_enter Try.func9, Try.ntmps9
    go_wp2_with fail
    refine (HS.out _).mono ?_
    rintro e w1 ⟨rfl, hb1⟩
    have V0 : Vars w [] w := Vars.first w
    have V1 : Vars w [(w.heap.size + 1 + 1, z0, z1), (w.heap.size + 1, y0, y1), (w.heap.size, x0, x1)] w1 := by
      have h := ((((V0.alloc x0 x1 39).alloc y0 y1 39).alloc z0 z1 39).next hb1)
      simpa using h
    clear hb1 V0
    obtain ⟨kx1, kx2⟩ := V1.tl.tl.h1
    simp only at kx1 kx2
    go_wp2_with fail
    refine (HA.out _).mono ?_
    rintro e w2 ⟨rfl, hb2⟩
    have V2 := (V1.next hb2).alloc Na Da 24
    clear hb2 V1 kx1 kx2
    obtain ⟨ky1, ky2⟩ := V2.tl.tl.h1
    simp only at ky1 ky2
    go_wp2_with fail
    refine (HB.out _).mono ?_
    rintro e w3 ⟨rfl, hb3⟩
    have V3 := (V2.next hb3).alloc Nb Db 24
    clear hb3 V2 ky1 ky2
    obtain ⟨kz1, kz2⟩ := V3.tl.tl.h1
    simp only at kz1 kz2
    go_wp2_with fail
    refine (HC.out _).mono ?_
    rintro e w4 ⟨rfl, hb4⟩
    have V4 := (V3.next hb4).alloc Nc Dc 24
    clear hb4 V3 kz1 kz2
    obtain ⟨ka1, ka2⟩ := V4.tl.tl.h1
    simp only at ka1 ka2
    obtain ⟨kb1, kb2⟩ := V4.tl.h1
    simp only at kb1 kb2
    go_wp2_with fail
    refine (H1.out _).mono ?_
    rintro e w5 ⟨rfl, hb5⟩
    have V5 := V4.next hb5
    clear hb5 V4 ka1 ka2 kb1 kb2
    obtain ⟨kb1, kb2⟩ := V5.tl.h1
    simp only at kb1 kb2
    obtain ⟨kc1, kc2⟩ := V5.h1
    simp only at kc1 kc2
    go_wp2_with fail
    refine (H2.out _).mono ?_
    rintro e w6 ⟨rfl, hb6⟩
    have V6 := V5.next hb6
    clear hb6 V5 kb1 kb2 kc1 kc2
    obtain ⟨ka1, ka2⟩ := V6.tl.tl.h1
    simp only at ka1 ka2
    obtain ⟨kc1, kc2⟩ := V6.h1
    simp only at kc1 kc2
    go_wp2_with fail
    refine (H3.out _).mono ?_
    rintro e w7 ⟨rfl, hb7⟩
    have V7 := V6.next hb7
    clear hb7 V6 ka1 ka2 kc1 kc2
    obtain ⟨ka1, ka2⟩ := V7.tl.tl.h1
    simp only at ka1 ka2
    go_wp2_with fail
    refine (H4.out _).mono ?_
    rintro e w8 ⟨rfl, hb8⟩
    have V8 := V7.next hb8
    clear hb8 V7 ka1 ka2
    obtain ⟨ka1, ka2⟩ := V8.tl.tl.h1
    simp only at ka1 ka2
    obtain ⟨kb1, kb2⟩ := V8.tl.h1
    simp only at kb1 kb2
    go_wp2_with fail
    refine (H5.out _).mono ?_
    rintro e w9 ⟨rfl, hb9⟩
    have V9 := V8.next hb9
    clear hb9 V8 ka1 ka2 kb1 kb2
    obtain ⟨ka1, ka2⟩ := V9.tl.tl.h1
    simp only at ka1 ka2
    obtain ⟨kb1, kb2⟩ := V9.tl.h1
    simp only at kb1 kb2
    go_wp2_with fail
    refine (H6.out _).mono ?_
    rintro e w10 ⟨rfl, hb10⟩
    have V10 := (V9.next hb10).alloc Nd Dd 24
    clear hb10 V9 ka1 ka2 kb1 kb2
    obtain ⟨kd1, kd2⟩ := V10.h1
    simp only at kd1 kd2
    go_wp2_with fail
    go_ret
    exact ⟨rfl, V10.bel⟩

set_option maxRecDepth 100000 in
set_option maxHeartbeats 12000000 in
theorem order_none (a b c : Rat) (x0 x1 y0 y1 z0 z1 : Int) (w : World) (fa : fitsQ a = true) (fb : fitsQ b = true) (fc : fitsQ c = true) (fd : fitsQ (a - b) = false)
    (HA : Hid (∀ w, Calls Try.prog 14 #[.int .i64 x0, .int .i64 x1] w (RatIs a.num a.den true w)))
    (HB : Hid (∀ w, Calls Try.prog 14 #[.int .i64 y0, .int .i64 y1] w (RatIs b.num b.den true w)))
    (HC : Hid (∀ w, Calls Try.prog 14 #[.int .i64 z0, .int .i64 z1] w (RatIs c.num c.den true w))) :
    Calls Try.prog 9 #[.agg #[.int .i64 x0, .int .i64 x1], .agg #[.int .i64 y0, .int .i64 y1], .agg #[.int .i64 z0, .int .i64 z1]] w (BoolIs true w) := by
  obtain ⟨X, Y, Z, eX, eY, eZ, eW, hE, hS, hC⟩ := three a b c
  have H1 := Lib.hid (cmp_fit a b X fa fb eX)
  have H2 := Lib.hid (cmp_fit b c Y fb fc eY)
  have H3 := Lib.hid (cmp_fit a c Z fa fc eZ)
  have H4 := Lib.hid (cmp_fit a a 0 fa fa (cmp_eq a))
  have H5 := Lib.hid (cmp_fit b a (-X) fb fa eW)
  have H6 := Lib.hid (sub_nofit a b (a - b) fa fb fd rfl)
  have hE2 := eq_sign hE
  have hE3 : ∀ w, (Op.equalIn 10000 24 (.agg #[.int .i64 a.num, .int .i64 a.den]) (.agg #[.int .i64 b.num, .int .i64 b.den])).run Try.prog w = .ok (X == 0) w := fun w => by rw [eq_rat, hE2]
  clear eX eY eZ eW hE hS hE2 fa fb fc fd
  generalize (a - b).num = Nd at *
  generalize ((a - b).den : Int) = Dd at *
  generalize a.num = Na at *
  generalize (a.den : Int) = Da at *
  generalize b.num = Nb at *
  generalize (b.den : Int) = Db at *
  generalize c.num = Nc at *
  generalize (c.den : Int) = Dc at *
  have HS := Lib.hid shown_any
  rcases hC with rfl | ⟨rfl, rfl⟩ | ⟨rfl, rfl⟩ | ⟨rfl, rfl, rfl⟩ | ⟨rfl, rfl, rfl⟩ | ⟨rfl, rfl, rfl⟩ | ⟨rfl, rfl, rfl⟩
  all_goals
    go_enter Try.func9, Try.ntmps9
    go_wp2_with fail
    refine (HS.out _).mono ?_
    rintro e w1 ⟨rfl, hb1⟩
    have V0 : Vars w [] w := Vars.first w
    have V1 : Vars w [(w.heap.size + 1 + 1, z0, z1), (w.heap.size + 1, y0, y1), (w.heap.size, x0, x1)] w1 := by
      have h := ((((V0.alloc x0 x1 39).alloc y0 y1 39).alloc z0 z1 39).next hb1)
      simpa using h
    clear hb1 V0
    obtain ⟨kx1, kx2⟩ := V1.tl.tl.h1
    simp only at kx1 kx2
    go_wp2_with fail
    refine (HA.out _).mono ?_
    rintro e w2 ⟨rfl, hb2⟩
    have V2 := (V1.next hb2).alloc Na Da 24
    clear hb2 V1 kx1 kx2
    obtain ⟨ky1, ky2⟩ := V2.tl.tl.h1
    simp only at ky1 ky2
    go_wp2_with fail
    refine (HB.out _).mono ?_
    rintro e w3 ⟨rfl, hb3⟩
    have V3 := (V2.next hb3).alloc Nb Db 24
    clear hb3 V2 ky1 ky2
    obtain ⟨kz1, kz2⟩ := V3.tl.tl.h1
    simp only at kz1 kz2
    go_wp2_with fail
    refine (HC.out _).mono ?_
    rintro e w4 ⟨rfl, hb4⟩
    have V4 := (V3.next hb4).alloc Nc Dc 24
    clear hb4 V3 kz1 kz2
    obtain ⟨ka1, ka2⟩ := V4.tl.tl.h1
    simp only at ka1 ka2
    obtain ⟨kb1, kb2⟩ := V4.tl.h1
    simp only at kb1 kb2
    go_wp2_with fail
    refine (H1.out _).mono ?_
    rintro e w5 ⟨rfl, hb5⟩
    have V5 := V4.next hb5
    clear hb5 V4 ka1 ka2 kb1 kb2
    obtain ⟨kb1, kb2⟩ := V5.tl.h1
    simp only at kb1 kb2
    obtain ⟨kc1, kc2⟩ := V5.h1
    simp only at kc1 kc2
    go_wp2_with fail
    refine (H2.out _).mono ?_
    rintro e w6 ⟨rfl, hb6⟩
    have V6 := V5.next hb6
    clear hb6 V5 kb1 kb2 kc1 kc2
    obtain ⟨ka1, ka2⟩ := V6.tl.tl.h1
    simp only at ka1 ka2
    obtain ⟨kc1, kc2⟩ := V6.h1
    simp only at kc1 kc2
    go_wp2_with fail
    refine (H3.out _).mono ?_
    rintro e w7 ⟨rfl, hb7⟩
    have V7 := V6.next hb7
    clear hb7 V6 ka1 ka2 kc1 kc2
    obtain ⟨ka1, ka2⟩ := V7.tl.tl.h1
    simp only at ka1 ka2
    go_wp2_with fail
    refine (H4.out _).mono ?_
    rintro e w8 ⟨rfl, hb8⟩
    have V8 := V7.next hb8
    clear hb8 V7 ka1 ka2
    obtain ⟨ka1, ka2⟩ := V8.tl.tl.h1
    simp only at ka1 ka2
    obtain ⟨kb1, kb2⟩ := V8.tl.h1
    simp only at kb1 kb2
    go_wp2_with fail
    refine (H5.out _).mono ?_
    rintro e w9 ⟨rfl, hb9⟩
    have V9 := V8.next hb9
    clear hb9 V8 ka1 ka2 kb1 kb2
    obtain ⟨ka1, ka2⟩ := V9.tl.tl.h1
    simp only at ka1 ka2
    obtain ⟨kb1, kb2⟩ := V9.tl.h1
    simp only at kb1 kb2
    go_wp2_with fail
    refine (H6.out _).mono ?_
    rintro e w10 ⟨rfl, hb10⟩
    have V10 := (V9.next hb10).alloc 0 0 24
    clear hb10 V9 ka1 ka2 kb1 kb2
    obtain ⟨kd1, kd2⟩ := V10.h1
    simp only at kd1 kd2
    go_wp2_with fail
    go_ret
    exact ⟨rfl, V10.bel⟩

theorem order_walk (x0 x1 y0 y1 z0 z1 : Int) (w : World) (hx0 : -9223372036854775808 ≤ x0 ∧ x0 ≤ 9223372036854775807) (hx1 : -9223372036854775808 ≤ x1 ∧ x1 ≤ 9223372036854775807) (hy0 : -9223372036854775808 ≤ y0 ∧ y0 ≤ 9223372036854775807) (hy1 : -9223372036854775808 ≤ y1 ∧ y1 ≤ 9223372036854775807) (hz0 : -9223372036854775808 ≤ z0 ∧ z0 ≤ 9223372036854775807) (hz1 : -9223372036854775808 ≤ z1 ∧ z1 ≤ 9223372036854775807) :
    Calls Try.prog 9 #[.agg #[.int .i64 x0, .int .i64 x1], .agg #[.int .i64 y0, .int .i64 y1], .agg #[.int .i64 z0, .int .i64 z1]] w (BoolIs true w) := by
  rcases make_either x0 x1 hx0 hx1 with ⟨a, fa, HA⟩ | HA
  · rcases make_either y0 y1 hy0 hy1 with ⟨b, fb, HB⟩ | HB
    · rcases make_either z0 z1 hz0 hz1 with ⟨c, fc, HC⟩ | HC
      · cases fd : fitsQ (a - b)
        · exact order_none a b c x0 x1 y0 y1 z0 z1 w fa fb fc fd (Lib.hid HA) (Lib.hid HB) (Lib.hid HC)
        · exact order_told a b c x0 x1 y0 y1 z0 z1 w fa fb fc fd (Lib.hid HA) (Lib.hid HB) (Lib.hid HC)
      · exact order_ttf _ _ _ _ _ _ x0 x1 y0 y1 z0 z1 w (Lib.hid HA) (Lib.hid HB) (Lib.hid HC)
    · rcases make_either z0 z1 hz0 hz1 with ⟨c, fc, HC⟩ | HC
      · exact order_tf _ _ _ _ _ _ _ x0 x1 y0 y1 z0 z1 w (Lib.hid HA) (Lib.hid HB) (Lib.hid HC)
      · exact order_tf _ _ _ _ _ _ _ x0 x1 y0 y1 z0 z1 w (Lib.hid HA) (Lib.hid HB) (Lib.hid HC)
  · rcases make_either y0 y1 hy0 hy1 with ⟨b, fb, HB⟩ | HB
    · rcases make_either z0 z1 hz0 hz1 with ⟨c, fc, HC⟩ | HC
      · exact order_f _ _ _ _ _ _ _ _ x0 x1 y0 y1 z0 z1 w (Lib.hid HA) (Lib.hid HB) (Lib.hid HC)
      · exact order_f _ _ _ _ _ _ _ _ x0 x1 y0 y1 z0 z1 w (Lib.hid HA) (Lib.hid HB) (Lib.hid HC)
    · rcases make_either z0 z1 hz0 hz1 with ⟨c, fc, HC⟩ | HC
      · exact order_f _ _ _ _ _ _ _ _ x0 x1 y0 y1 z0 z1 w (Lib.hid HA) (Lib.hid HB) (Lib.hid HC)
      · exact order_f _ _ _ _ _ _ _ _ x0 x1 y0 y1 z0 z1 w (Lib.hid HA) (Lib.hid HB) (Lib.hid HC)
end Go.Proofs.Ytgjpmfjlcaociaa
