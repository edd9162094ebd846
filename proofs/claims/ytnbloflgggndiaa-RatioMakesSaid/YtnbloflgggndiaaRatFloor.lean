/- The contracts of Floor, Scale, Round. -/
import Derived.Test.YtnbloflgggndiaaRatCut
namespace Go.Proofs.Ytnbloflgggndiaa
open Go.RowKit Rt

theorem down_any (b : Bool) (w : World) :
    Calls Try.prog 38 #[.bool b] w fun e w' => e = .returned (.func (.func 52) #[] #[.pointer (some ⟨w.heap.size, 0, none⟩)]) ∧ w.alloc (.cells #[.bool b] 4) = w' := by
  go_enter Try.func38, Try.ntmps38
  go_wp2_with fail
  go_ret
  exact ⟨rfl, rfl⟩
theorem nearest_any (b : Bool) (n : Int) (w : World) :
    Calls Try.prog 42 #[.bool b, .int .u64 n] w fun e w' => e = .returned (.func (.func 53) #[] #[.pointer (some ⟨w.heap.size + 1, 0, none⟩), .pointer (some ⟨w.heap.size, 0, none⟩)]) ∧ (w.alloc (.cells #[.bool b] 4)).alloc (.cells #[.int .u64 n] 36) = w' := by
  go_enter Try.func42, Try.ntmps42
  go_wp2_with fail
  go_ret
  exact ⟨rfl, rfl⟩

theorem down_held (b : Bool) (r : Int) (W1 : World) : Hid (∀ W, Below (W1.alloc (.cells #[.bool b] 4)).heap.size (W1.alloc (.cells #[.bool b] 4)) W →
    Calls Try.prog 52 #[.int .u64 r, .pointer (some ⟨W1.heap.size, 0, none⟩)] W fun e w' => e = .returned (.bool (b && decide (0 < r))) ∧ W = w') :=
  Lib.hid fun W hb => down1_any r b _ W (by rw [hb.cell (by simp)]; simp [go_sem])
theorem near_held (b : Bool) (n r : Int) (W1 : World) (h0 : 0 ≤ r) (h1 : r ≤ n) (h2 : n ≤ 9223372036854775808) : Hid (∀ W, Below ((W1.alloc (.cells #[.bool b] 4)).alloc (.cells #[.int .u64 n] 36)).heap.size ((W1.alloc (.cells #[.bool b] 4)).alloc (.cells #[.int .u64 n] 36)) W →
    Calls Try.prog 53 #[.int .u64 r, .pointer (some ⟨W1.heap.size + 1, 0, none⟩), .pointer (some ⟨W1.heap.size, 0, none⟩)] W fun e w' => e = .returned (.bool (nearB b n r)) ∧ W = w') :=
  Lib.hid fun W hb => near1_any r n b _ _ W h0 h1 h2 (by rw [hb.cell (by simp)]; simp [go_sem]) (by rw [hb.cell (by simp; omega)]; simp [go_sem])

set_option maxHeartbeats 1000000 in
theorem floor_no (N D : Int) (w : World) (h1 : Is64 N D) (hm : mayB N D = false) :
    Calls Try.prog 17 #[.agg #[.int .i64 N, .int .i64 D]] w (IntIs 0 w) := by
  have HM := Lib.hid (may_of h1 hm)
  clear hm
  go_enter Try.func17, Try.ntmps17
  go_wp2_with fail
  refine (HM.out _).mono ?_
  rintro e w1 ⟨rfl, hb1⟩
  go_wp2_with fail
  go_ret
  exact ⟨rfl, ((Below.refl _ _).alloc (Nat.le_refl _) _).trans (hb1.mono (by simp))⟩
theorem floor_fits (N D : Int) (h1 : -9223372036854775808 ≤ N) (h2 : N ≤ 9223372036854775807) (hD : 0 < D) : toldN (N / D) = N / D := by
  refine toldN_in _ ?_ ?_
  · refine Int.le_ediv_of_mul_le hD ?_
    omega
  · by_cases h : 0 ≤ N
    · have := Int.ediv_le_self D h
      omega
    · have := Int.ediv_neg_of_neg_of_pos (show N < 0 by omega) hD
      omega

/-- Two cells of one block stay as they are. -/
theorem keepQ {W W' : World} {B : Nat} {u0 u1 : Option Value} (h : B < W.heap.size ∧ W.cell? ⟨B, 0, none⟩ = u0 ∧ W.cell? ⟨B, 1, none⟩ = u1) (hb : Below W.heap.size W W') :
    B < W'.heap.size ∧ W'.cell? ⟨B, 0, none⟩ = u0 ∧ W'.cell? ⟨B, 1, none⟩ = u1 :=
  ⟨Nat.lt_of_lt_of_le h.1 hb.size, by rw [hb.cell (p := ⟨B, 0, none⟩) h.1]; exact h.2.1, by rw [hb.cell (p := ⟨B, 1, none⟩) h.1]; exact h.2.2⟩

set_option maxHeartbeats 2000000 in
theorem floor_yes (N D : Int) (w : World) (h1 : Is64 N D) (hm : mayB N D = true) :
    Calls Try.prog 17 #[.agg #[.int .i64 N, .int .i64 D]] w (IntIs (N / D) w) := by
  have HM := Lib.hid (may_of h1 hm)
  have p1 := ((mayB_iff _ _).1 hm).1
  obtain ⟨n1, n2, d1, d2⟩ := h1
  clear hm d1
  have HT := Lib.hid (fun w => times_any N 1 w n1 n2 (by omega) (by omega))
  have HB := Lib.hid (add_bd N 1 n1 n2 (by omega) (by omega))
  have HV := Lib.hid (floor_is N D p1)
  have HR := Lib.hid (floor_fits N D n1 n2 p1)
  have e1 : IntKind.u64.wrap D = D := wraps_u64 _ (by omega) (by omega)
  go_enter Try.func17, Try.ntmps17
  go_wp2_with fail
  refine (HM.out _).mono ?_
  rintro e w1 ⟨rfl, hb1⟩
  have b1 : Below w.heap.size w w1 := ((Below.refl _ _).alloc (Nat.le_refl _) _).trans (hb1.mono (by simp))
  have M1 : w.heap.size < w1.heap.size ∧ w1.cell? ⟨w.heap.size, 0, none⟩ = some (.int .i64 N) ∧ w1.cell? ⟨w.heap.size, 1, none⟩ = some (.int .i64 D) :=
    ⟨by have := hb1.size; simp at this; omega, by rw [hb1.cell (by simp)]; simp [go_sem], by rw [hb1.cell (by simp)]; simp [go_sem]⟩
  clear hb1
  obtain ⟨m1, m2, m3⟩ := id M1
  go_wp2_with fail
  go_region_held3 (fun w' => w.heap.size < w'.heap.size ∧ w'.cell? ⟨w.heap.size, 0, none⟩ = some (.int .i64 N) ∧ w'.cell? ⟨w.heap.size, 1, none⟩ = some (.int .i64 D))
    (first
      | exact keepQ M1 (Below.refl _ _).drew
      | exact keepQ (by assumption) (by assumption)
      | exact keepQ (by assumption) ((Below.refl _ _).alloc (Nat.le_refl _) _))
    (first
      | (go_at_call 30; refine (HT.out _).mono ?_; rintro e w2 ⟨H, L, x, hw, hs, rfl, hb2⟩)
      | (go_at_call 38; refine (down_any _ _).mono ?_; rintro e w3 ⟨rfl, rfl⟩)
      | (go_at_call 37; refine (cutd_any _ _ _ x _ _ _ _ hw p1 (by omega) (by have := HB.out _ _ hw.nonneg hs; omega) (down_held _ _ _)).mono ?_; rintro e w4 ⟨rfl, hb4⟩))
  have hx : x = mg N := by rw [mg_natAbs, sg_abs hs hw.nonneg, Int.mul_one]
  have b2 : Below w.heap.size w w2 := b1.drew.trans (hb2.mono b1.drew.size)
  have b3 := b2.alloc b2.size (.cells #[.bool (decide (N < 0))] 4)
  have b4 : Below w.heap.size w w4 := b3.trans (hb4.mono b3.size)
  subst hx
  have hr : toldN (cutV (decide (N < 0)) (mg N) D (decide (N < 0) && decide (0 < mg N % D))) = N / D := by rw [HV.out, HR.out]
  clear hb2 hb4 b1 b2 b3 hw hs
  go_wp2_with fail
  go_ret
  exact ⟨ret_i64 (by first | exact hr | rfl), b4⟩

def Rt.floorO (o : Option Rat) : Int := match o with | some q => q.num / q.den | none => 0
theorem floor_any (N D : Int) (w : World) (h1 : Is64 N D) :
    Calls Try.prog 17 #[.agg #[.int .i64 N, .int .i64 D]] w (IntIs (floorO (rawO N D)) w) := by
  cases hm : mayB N D
  · rw [rawO_none hm]
    exact floor_no N D w h1 hm
  · obtain ⟨a, ha⟩ := rawO_is hm
    have qa := rawO_some ha
    rw [ha]
    simp only [floorO]
    rw [qa.1, qa.2.1]
    exact floor_yes N D w h1 hm

/-- n times a by b, rounded. -/
def Rt.scaleV (n a b : Int) : Int := (2 * (n * a * b.sign) + b.natAbs) / (2 * b.natAbs)
theorem scale_zero (n a : Int) (w : World) :
    Calls Try.prog 21 #[.int .i64 n, .int .i64 a, .int .i64 0] w (TupIs 0 false w) := by
  go_enter Try.func21, Try.ntmps21
  go_wp2_with fail
  go_ret2
  exact ⟨rfl, Below.refl _ _⟩
theorem scale_sign (n a b : Int) (hb : b ≠ 0) (x : Int) (p : Bool) (hx : 0 ≤ x) (hs : sg p x = n * mg a) :
    sg ((decide (n < 0) != decide (a < 0)) != decide (b < 0)) x = n * a * b.sign := by
  have e := sg_abs hs hx
  have ea := mg_natAbs a
  rw [Int.natAbs_mul, ea] at e
  have e2 : x = n.natAbs * a.natAbs := by rw [e]; simp
  have en : (n.natAbs : Int) = if n < 0 then -n else n := by split <;> omega
  have eA : (a.natAbs : Int) = if a < 0 then -a else a := by split <;> omega
  rw [en, eA] at e2
  subst e2
  by_cases h3 : b < 0
  · rw [Int.sign_eq_neg_one_of_neg h3]
    by_cases h1 : n < 0 <;> by_cases h2 : a < 0 <;> simp [h1, h2, h3, sg, Int.neg_mul, Int.mul_neg]
  · rw [Int.sign_eq_one_of_pos (by omega)]
    by_cases h1 : n < 0 <;> by_cases h2 : a < 0 <;> simp [h1, h2, h3, sg, Int.neg_mul, Int.mul_neg]

theorem keepR {W W' : World} {B g : Nat} {u0 u1 u2 : Option Value} (h : (B ≤ W.heap.size ∧ g < W.heap.size) ∧ W.cell? ⟨g, 0, none⟩ = u0 ∧ W.cell? ⟨g, 1, none⟩ = u1 ∧ W.cell? ⟨g, 2, none⟩ = u2) (hb : Below W.heap.size W W') :
    (B ≤ W'.heap.size ∧ g < W'.heap.size) ∧ W'.cell? ⟨g, 0, none⟩ = u0 ∧ W'.cell? ⟨g, 1, none⟩ = u1 ∧ W'.cell? ⟨g, 2, none⟩ = u2 :=
  ⟨⟨Nat.le_trans h.1.1 hb.size, Nat.lt_of_lt_of_le h.1.2 hb.size⟩, by rw [hb.cell (p := ⟨g, 0, none⟩) h.1.2]; exact h.2.1, by rw [hb.cell (p := ⟨g, 1, none⟩) h.1.2]; exact h.2.2.1, by rw [hb.cell (p := ⟨g, 2, none⟩) h.1.2]; exact h.2.2.2⟩

set_option maxHeartbeats 2000000 in
theorem scale_some (n a b : Int) (w : World) (n1 : -9223372036854775808 ≤ n) (n2 : n ≤ 9223372036854775807) (a1 : -9223372036854775808 ≤ a) (a2 : a ≤ 9223372036854775807)
    (b1 : -9223372036854775808 ≤ b) (b2 : b ≤ 9223372036854775807) (hb : b ≠ 0) :
    Calls Try.prog 21 #[.int .i64 n, .int .i64 a, .int .i64 b] w (TupIs (toldN (scaleV n a b)) (toldB (scaleV n a b)) w) := by
  have ma := mg_bd a a1 a2
  have mb := mg_bd b b1 b2
  have mb0 : 0 < mg b := by have := mg_natAbs b; omega
  have HA := Lib.hid (mag_any a · a1 a2)
  have HB := Lib.hid (mag_any b · b1 b2)
  have HT := Lib.hid (fun w => times_any n (mg a) w n1 n2 ma.1 (by omega))
  have HS := Lib.hid (show ∀ (x : Int) (p : Bool), 0 ≤ x → sg p x = n * mg a → sg (!((!(decide (n < 0) == decide (a < 0))) == decide (b < 0))) x = n * a * b.sign from scale_sign n a b hb)
  have HX := Lib.hid (fun p x (hx : 0 ≤ x) (hs : sg p x = n * mg a) => (show x ≤ 85070591730234615865843651857942052864 by
    have e := sg_abs hs hx
    rw [Int.natAbs_mul] at e
    rw [e, Int.natCast_mul]
    have := Int.mul_le_mul (show (n.natAbs : Int) ≤ 9223372036854775808 by omega) (show ((mg a).natAbs : Int) ≤ 9223372036854775808 by omega) (by omega) (by omega)
    omega))
  have HV := Lib.hid (show ∀ S : Int, S = n * a * b.sign → (2 * S + mg b) / (2 * mg b) = scaleV n a b by
    intro S h
    rw [h, mg_natAbs b]
    rfl)
  have n0 : (b == 0) = false := by simpa using hb
  clear hb
  generalize scaleV n a b = V at *
  generalize hA : mg a = A at *
  generalize hB : mg b = B at *
  clear hA hB
  go_enter Try.func21, Try.ntmps21
  go_wp2_with fail
  refine (HA.out _).mono ?_
  rintro e w1 ⟨rfl, rfl⟩
  go_wp2_with fail
  refine (HT.out _).mono ?_
  rintro e w1 ⟨H, L, x, hw, hs, rfl, hb1⟩
  go_wp2_with fail
  generalize hP : (!((!(decide (n < 0) == decide (a < 0))) == decide (b < 0))) = P at HS ⊢
  clear hP
  have M1 : (w.heap.size ≤ (w1.alloc (.cells #[.int .u64 H, .int .u64 L, .bool P] 43)).heap.size ∧ w1.heap.size < (w1.alloc (.cells #[.int .u64 H, .int .u64 L, .bool P] 43)).heap.size) ∧ (w1.alloc (.cells #[.int .u64 H, .int .u64 L, .bool P] 43)).cell? ⟨w1.heap.size, 0, none⟩ = some (.int .u64 H) ∧ (w1.alloc (.cells #[.int .u64 H, .int .u64 L, .bool P] 43)).cell? ⟨w1.heap.size, 1, none⟩ = some (.int .u64 L) ∧ (w1.alloc (.cells #[.int .u64 H, .int .u64 L, .bool P] 43)).cell? ⟨w1.heap.size, 2, none⟩ = some (.bool P) :=
    ⟨⟨by have := hb1.size; simp; omega, by simp⟩, by simp [go_sem], by simp [go_sem], by simp [go_sem]⟩
  have c2 : Below w.heap.size w (w1.alloc (.cells #[.int .u64 H, .int .u64 L, .bool P] 43)) := hb1.alloc hb1.size _
  obtain ⟨w2, hw2⟩ : ∃ w2, w2 = w1.alloc (.cells #[.int .u64 H, .int .u64 L, .bool P] 43) := ⟨_, rfl⟩
  rw [← hw2] at M1 c2 ⊢
  generalize w1.heap.size = g at *
  clear hw2 hb1
  obtain ⟨⟨m1, m2⟩, m3, m4, m5⟩ := id M1
  have hS := HS.out x _ hw.nonneg hs
  have hX := HX.out _ x hw.nonneg hs
  have hN := near_is P x B mb0
  rw [HV.out _ hS] at hN
  have r0 := Int.emod_nonneg x (show B ≠ 0 by omega)
  have r1 := Int.emod_lt_of_pos x mb0
  have HN := Lib.hid hN
  have HXX := Lib.hid (show x < 170141183460469231731687303715884105728 by omega)
  clear hS hX hN hs
  go_region_held3 (fun w' => (w.heap.size ≤ w'.heap.size ∧ g < w'.heap.size) ∧ w'.cell? ⟨g, 0, none⟩ = some (.int .u64 H) ∧ w'.cell? ⟨g, 1, none⟩ = some (.int .u64 L) ∧ w'.cell? ⟨g, 2, none⟩ = some (.bool P))
    (first
      | exact keepR M1 (Below.refl _ _).drew
      | assumption
      | exact keepR (by assumption) (by assumption)
      | exact keepR (by assumption) (((Below.refl _ _).alloc (Nat.le_refl _) _).alloc (by simp) _))
    (first
      | (go_at_call 23; refine (HB.out _).mono ?_; rintro e w3 ⟨rfl, rfl⟩)
      | (go_at_call 42; refine (nearest_any _ _ _).mono ?_; rintro e w3 ⟨rfl, rfl⟩)
      | (go_at_call 37; refine (cutn_any ⟨w2.heap.size + 1, 0, none⟩ ⟨w2.heap.size, 0, none⟩ H L x B P (nearB P B (x % B)) ((w2.drew.alloc (.cells #[.bool P] 4)).alloc (.cells #[.int .u64 B] 36)) hw mb0 mb.2 HXX.out (near_held P B (x % B) w2.drew r0 (by omega) mb.2)).mono ?_; rintro e w4 ⟨rfl, hb4⟩))
  have b3 := (c2.drew.alloc c2.drew.size (.cells #[.bool P] 4))
  have b4 := b3.alloc b3.size (.cells #[.int .u64 B] 36)
  have b5 : Below w.heap.size w w4 := b4.trans (hb4.mono b4.size)
  clear hb4 b3 b4
  go_wp2_with fail
  go_ret2
  exact ⟨ret_tup (by rw [HN.out]) (by rw [HN.out]), b5⟩
theorem scale_any (n a b : Int) (w : World) (n1 : -9223372036854775808 ≤ n) (n2 : n ≤ 9223372036854775807) (a1 : -9223372036854775808 ≤ a) (a2 : a ≤ 9223372036854775807)
    (b1 : -9223372036854775808 ≤ b) (b2 : b ≤ 9223372036854775807) :
    Calls Try.prog 21 #[.int .i64 n, .int .i64 a, .int .i64 b] w (TupIs (if b = 0 then 0 else toldN (scaleV n a b)) (if b = 0 then false else toldB (scaleV n a b)) w) := by
  by_cases hb : b = 0
  · subst hb
    exact scale_zero n a w
  · rw [if_neg hb, if_neg hb]
    exact scale_some n a b w n1 n2 a1 a2 b1 b2 hb

set_option maxHeartbeats 1000000 in
theorem round_no (N D : Int) (w : World) (h1 : Is64 N D) (hm : mayB N D = false) :
    Calls Try.prog 19 #[.agg #[.int .i64 N, .int .i64 D]] w (IntIs 0 w) := by
  have HM := Lib.hid (may_of h1 hm)
  clear hm
  go_enter Try.func19, Try.ntmps19
  go_wp2_with fail
  refine (HM.out _).mono ?_
  rintro e w1 ⟨rfl, hb1⟩
  go_wp2_with fail
  go_ret
  exact ⟨rfl, ((Below.refl _ _).alloc (Nat.le_refl _) _).trans (hb1.mono (by simp))⟩
set_option maxHeartbeats 1000000 in
theorem round_yes (N D : Int) (w : World) (h1 : Is64 N D) (hm : mayB N D = true) :
    Calls Try.prog 19 #[.agg #[.int .i64 N, .int .i64 D]] w (IntIs (toldN ((2 * N + D) / (2 * D))) w) := by
  have HM := Lib.hid (may_of h1 hm)
  have p1 := ((mayB_iff _ _).1 hm).1
  have HS := Lib.hid (fun w => scale_some N 1 D w h1.n1 h1.n2 (by omega) (by omega) h1.d1 h1.d2 (by omega))
  have e : scaleV N 1 D = (2 * N + D) / (2 * D) := by
    unfold scaleV
    rw [Int.sign_eq_one_of_pos p1, show ((D.natAbs : Nat) : Int) = D by omega]
    simp
  rw [e] at HS
  clear e hm
  generalize (2 * N + D) / (2 * D) = V at *
  go_enter Try.func19, Try.ntmps19
  go_wp2_with fail
  refine (HM.out _).mono ?_
  rintro e w1 ⟨rfl, hb1⟩
  have b1 : Below w.heap.size w w1 := ((Below.refl _ _).alloc (Nat.le_refl _) _).trans (hb1.mono (by simp))
  have m2 : w1.cell? ⟨w.heap.size, 0, none⟩ = some (.int .i64 N) := by rw [hb1.cell (by simp)]; simp [go_sem]
  have m3 : w1.cell? ⟨w.heap.size, 1, none⟩ = some (.int .i64 D) := by rw [hb1.cell (by simp)]; simp [go_sem]
  clear hb1
  go_wp2_with fail
  refine (HS.out _).mono ?_
  rintro e w2 ⟨rfl, hb2⟩
  go_wp2_with fail
  go_ret
  exact ⟨rfl, b1.trans (hb2.mono b1.size)⟩
def Rt.roundO (o : Option Rat) : Int := match o with | some q => toldN ((2 * q.num + q.den) / (2 * q.den)) | none => 0
theorem round_any (N D : Int) (w : World) (h1 : Is64 N D) :
    Calls Try.prog 19 #[.agg #[.int .i64 N, .int .i64 D]] w (IntIs (roundO (rawO N D)) w) := by
  cases hm : mayB N D
  · rw [rawO_none hm]
    exact round_no N D w h1 hm
  · obtain ⟨a, ha⟩ := rawO_is hm
    have qa := rawO_some ha
    rw [ha]
    simp only [roundO]
    rw [qa.1, qa.2.1]
    exact round_yes N D w h1 hm
end Go.Proofs.Ytnbloflgggndiaa
