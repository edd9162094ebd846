/- The contract of the reference's Cmp. -/
import Derived.Test.YtnbloflgggndiaaRefHalf
namespace Go.Proofs.Ytnbloflgggndiaa
open Go.RowKit Rf Rt

theorem Fr2.set {w W : World} {N1 D1 N2 D2 : Int} (h : Fr2 w N1 D1 N2 D2 W) (p : Addr) (hp : w.heap.size + 1 + 1 ≤ p.block) (u : Value) : Fr2 w N1 D1 N2 D2 (W.setCell p u) := h.setCell p hp u
theorem num_len {n : Int} {B : Nat} {W : World} {b : Bool} {p : Option Addr} {l c : Nat} (h : NumIs n B W (.agg #[.bool b, .slice p l c])) : (l = 0 ↔ n = 0) ∧ b = decide (n < 0) := by
  obtain ⟨p', c', ds, e, h1, h2, h3⟩ := h.form
  simp only [Value.agg.injEq, Array.mk.injEq, List.cons.injEq, and_true, Value.bool.injEq, Value.slice.injEq] at e
  obtain ⟨rfl, _, rfl, _⟩ := e
  refine ⟨?_, rfl⟩
  rw [List.length_eq_zero_iff, ← h2.zero, h3]
  omega

theorem small99b {n : Int} (h1 : -9223372036854775808 ≤ n) (h2 : n ≤ 9223372036854775807) : n.natAbs ≤ 9223372036854775808 := by omega
theorem small_lt {n : Int} (h1 : -9223372036854775808 ≤ n) (h2 : n ≤ 9223372036854775807) : n.natAbs < 65536 ^ 100 := Nat.lt_of_le_of_lt (small99b h1 h2) (by decide)
theorem mul_small {n m : Int} (h1 : n.natAbs ≤ 9223372036854775808) (h2 : m.natAbs ≤ 9223372036854775808) : (n * m).natAbs < 65536 ^ 100 := by
  rw [Int.natAbs_mul]
  exact Nat.lt_of_le_of_lt (Nat.mul_le_mul h1 h2) (by decide)
set_option maxHeartbeats 1000000 in
theorem rcmp_no1 (N1 D1 N2 D2 : Int) (w : World) (h1 : Is64 N1 D1) (hm : mayB N1 D1 = false) : Calls Try.prog 16 #[.agg #[.int .i64 N1, .int .i64 D1], .agg #[.int .i64 N2, .int .i64 D2]] w (IntIs 0 w) := by
  have HR := Lib.hid (fun w => right_any N1 D1 w h1)
  rw [hm] at HR
  have F1 := Fr2.first w N1 D1 N2 D2 24
  go_enter Try.func16, Try.ntmps16
  go_wp2_with fail
  refine (HR.out _).mono ?_
  rintro e w1 ⟨rfl, hb1⟩
  have F2 := F1.next hb1
  go_wp2_with fail
  go_ret
  exact ⟨rfl, F2.bel⟩
set_option maxHeartbeats 1000000 in
theorem rcmp_no2 (N1 D1 N2 D2 : Int) (w : World) (h1 : Is64 N1 D1) (hm : mayB N1 D1 = true) (h2 : Is64 N2 D2) (hm2 : mayB N2 D2 = false) : Calls Try.prog 16 #[.agg #[.int .i64 N1, .int .i64 D1], .agg #[.int .i64 N2, .int .i64 D2]] w (IntIs 0 w) := by
  have HR := Lib.hid (fun w => right_any N1 D1 w h1)
  have HR2 := Lib.hid (fun w => right_any N2 D2 w h2)
  rw [hm] at HR
  rw [hm2] at HR2
  have F1 := Fr2.first w N1 D1 N2 D2 24
  go_enter Try.func16, Try.ntmps16
  go_wp2_with fail
  refine (HR.out _).mono ?_
  rintro e w1 ⟨rfl, hb1⟩
  have F2 := F1.next hb1
  obtain ⟨-, hz1, k1, k2, k3, k4⟩ := id F2
  go_wp2_with fail
  refine (HR2.out _).mono ?_
  rintro e w2 ⟨rfl, hb2⟩
  have F3 := F2.next hb2
  go_wp2_with fail
  go_ret
  exact ⟨rfl, F3.bel⟩

set_option maxHeartbeats 8000000 in
theorem rcmp_yes (N1 D1 N2 D2 v : Int) (w : World) (h1 : Is64 N1 D1) (hm : mayB N1 D1 = true) (h2 : Is64 N2 D2) (hm2 : mayB N2 D2 = true) (hv : Hid (N1 * D2 + -(N2 * D1) = v)) : Calls Try.prog 16 #[.agg #[.int .i64 N1, .int .i64 D1], .agg #[.int .i64 N2, .int .i64 D2]] w (IntIs (Int.sign v) w) := by
  have HR := Lib.hid (fun w => right_any N1 D1 w h1)
  have HR2 := Lib.hid (fun w => right_any N2 D2 w h2)
  rw [hm] at HR
  rw [hm2] at HR2
  have F1 := Fr2.first w N1 D1 N2 D2 24
  have a1 := small_lt h1.n1 h1.n2
  have a2 := small_lt h1.d1 h1.d2
  have a3 := small_lt h2.n1 h2.n2
  have a4 := small_lt h2.d1 h2.d2
  have m1 := mul_small (small99b h1.n1 h1.n2) (small99b h2.d1 h2.d2)
  have m2 := mul_small (small99b h2.n1 h2.n2) (small99b h1.d1 h1.d2)
  have HO1 : Hid (∀ W, Fr2 w N1 D1 N2 D2 W → Calls Try.prog 27 #[.int .i64 N1] W (NumR N1 W)) := Lib.hid fun W _ => rof_any W N1 h1.n1 h1.n2
  have HO2 : Hid (∀ W, Fr2 w N1 D1 N2 D2 W → Calls Try.prog 27 #[.int .i64 D2] W (NumR D2 W)) := Lib.hid fun W _ => rof_any W D2 h2.d1 h2.d2
  have HT1 : Hid (∀ W, Fr2 w N1 D1 N2 D2 W → ∀ x, NumE N1 W x → ∀ y, NumE D2 W y → Calls Try.prog 34 #[x, y] W (NumR (N1 * D2) W)) := Lib.hid fun W _ x hx y hy => rtimesE hx hy a1 a4
  have HO3 : Hid (∀ W, Fr2 w N1 D1 N2 D2 W → Calls Try.prog 27 #[.int .i64 N2] W (NumR N2 W)) := Lib.hid fun W _ => rof_any W N2 h2.n1 h2.n2
  have HO4 : Hid (∀ W, Fr2 w N1 D1 N2 D2 W → Calls Try.prog 27 #[.int .i64 D1] W (NumR D1 W)) := Lib.hid fun W _ => rof_any W D1 h1.d1 h1.d2
  have HT2 : Hid (∀ W, Fr2 w N1 D1 N2 D2 W → ∀ x, NumE N2 W x → ∀ y, NumE D1 W y → Calls Try.prog 34 #[x, y] W (NumR (N2 * D1) W)) := Lib.hid fun W _ x hx y hy => rtimesE hx hy a3 a2
  have HN : Hid (∀ W, Fr2 w N1 D1 N2 D2 W → ∀ x, NumE (N2 * D1) W x → Calls Try.prog 36 #[x] W (NumR (-(N2 * D1)) W)) := Lib.hid fun W _ x hx => rnegE hx m2
  have HS : Hid (∀ W, Fr2 w N1 D1 N2 D2 W → ∀ x, NumE (N1 * D2) W x → ∀ y, NumE (-(N2 * D1)) W y → Calls Try.prog 35 #[x, y] W (NumR v W)) := Lib.hid fun W _ x hx y hy => by
    have := rsumE hx hy m1 (by rw [Int.natAbs_neg]; exact m2)
    rw [hv.out] at this
    exact this
  clear a1 a2 a3 a4 m1 m2 h1 h2 hm hm2
  go_enter Try.func16, Try.ntmps16
  go_wp2_with fail
  refine (HR.out _).mono ?_
  rintro e w1 ⟨rfl, hb1⟩
  have F2 := F1.next hb1
  obtain ⟨-, hz1, k1, k2, k3, k4⟩ := id F2
  go_wp2_with fail
  refine (HR2.out _).mono ?_
  rintro e wr ⟨rfl, hb2⟩
  have F3 := F2.next hb2
  clear F1 F2 hb1 hb2 hz1 k1 k2 k3 k4 HR HR2
  obtain ⟨-, hz, k1, k2, k3, k4⟩ := id F3
  go_upto_region 3 with fail
  go_cut [5] (fun s5 wx => NumCut (Fr2 w N1 D1 N2 D2) v s5 wx)
  case first =>
    go_region_held3 (fun w' => Fr2 w N1 D1 N2 D2 w' ∧ w'.cell? ⟨w.heap.size, 0, none⟩ = some (.int .i64 N1) ∧ w'.cell? ⟨w.heap.size, 1, none⟩ = some (.int .i64 D1) ∧ w'.cell? ⟨w.heap.size + 1, 0, none⟩ = some (.int .i64 N2) ∧ w'.cell? ⟨w.heap.size + 1, 1, none⟩ = some (.int .i64 D2))
      (first
        | (refine keepN2 ?_; repeat (first | assumption | with_reducible refine Fr2.alloc ?_ _ | with_reducible refine Fr2.set ?_ _ (by first | (simp; done) | (simp; omega)) _ | with_reducible refine Fr2.drew ?_)))
      (first
        | (go_at_call_of 27 (Value.int .i64 N1); refine (HO1.out _ (And.left (by assumption)) ).mono ?_; clear HO1; rintro e v1 ⟨z1, rfl, hz1, hb1⟩; have HR1 : Fr2 w N1 D1 N2 D2 v1 := Fr2.next (And.left (by assumption)) hb1; have rs1 := Fr2.size HR1; have ez1 : NumE _ v1 z1 := ⟨_, hz1⟩)
        | (go_at_call_of 27 (Value.int .i64 D2); refine (HO2.out _ (And.left (by assumption)) ).mono ?_; clear HO2; rintro e v2 ⟨z2, rfl, hz2, hb2⟩; have HR2 : Fr2 w N1 D1 N2 D2 v2 := Fr2.next (And.left (by assumption)) hb2; have rs2 := Fr2.size HR2; have ez1 := NumE.via ez1 (by first | exact Below.refl _ _ | exact (Below.refl _ _).alloc (Nat.le_refl _) _ | exact ((Below.refl _ _).alloc (Nat.le_refl _) _).alloc (by simp) _) hb2; have ez2 : NumE _ v2 z2 := ⟨_, hz2⟩; have hb1_2 := below_via hb1 (by first | exact Below.refl _ _ | exact (Below.refl _ _).alloc (Nat.le_refl _) _ | exact ((Below.refl _ _).alloc (Nat.le_refl _) _).alloc (by simp) _) hb2)
        | (go_at_call 34 ; refine (HT1.out _ (And.left (by assumption)) _ (by repeat (first | with_reducible exact ez1 | with_reducible refine NumE.alloc ?_ _)) _ (by repeat (first | with_reducible exact ez2 | with_reducible refine NumE.alloc ?_ _))).mono ?_; clear HT1; rintro e v3 ⟨z3, rfl, hz3, hb3⟩; have HR3 : Fr2 w N1 D1 N2 D2 v3 := Fr2.next (And.left (by assumption)) hb3; have rs3 := Fr2.size HR3; have ez1 := NumE.via ez1 (by first | exact Below.refl _ _ | exact (Below.refl _ _).alloc (Nat.le_refl _) _ | exact ((Below.refl _ _).alloc (Nat.le_refl _) _).alloc (by simp) _) hb3; have ez2 := NumE.via ez2 (by first | exact Below.refl _ _ | exact (Below.refl _ _).alloc (Nat.le_refl _) _ | exact ((Below.refl _ _).alloc (Nat.le_refl _) _).alloc (by simp) _) hb3; have ez3 : NumE _ v3 z3 := ⟨_, hz3⟩; have hb1_3 := below_via hb1_2 (by first | exact Below.refl _ _ | exact (Below.refl _ _).alloc (Nat.le_refl _) _ | exact ((Below.refl _ _).alloc (Nat.le_refl _) _).alloc (by simp) _) hb3; have hb2_3 := below_via hb2 (by first | exact Below.refl _ _ | exact (Below.refl _ _).alloc (Nat.le_refl _) _ | exact ((Below.refl _ _).alloc (Nat.le_refl _) _).alloc (by simp) _) hb3)
        | (go_at_call_of 27 (Value.int .i64 N2); refine (HO3.out _ (And.left (by assumption)) ).mono ?_; clear HO3; rintro e v4 ⟨z4, rfl, hz4, hb4⟩; have HR4 : Fr2 w N1 D1 N2 D2 v4 := Fr2.next (And.left (by assumption)) hb4; have rs4 := Fr2.size HR4; have ez1 := NumE.via ez1 (by first | exact Below.refl _ _ | exact (Below.refl _ _).alloc (Nat.le_refl _) _ | exact ((Below.refl _ _).alloc (Nat.le_refl _) _).alloc (by simp) _) hb4; have ez2 := NumE.via ez2 (by first | exact Below.refl _ _ | exact (Below.refl _ _).alloc (Nat.le_refl _) _ | exact ((Below.refl _ _).alloc (Nat.le_refl _) _).alloc (by simp) _) hb4; have ez3 := NumE.via ez3 (by first | exact Below.refl _ _ | exact (Below.refl _ _).alloc (Nat.le_refl _) _ | exact ((Below.refl _ _).alloc (Nat.le_refl _) _).alloc (by simp) _) hb4; have ez4 : NumE _ v4 z4 := ⟨_, hz4⟩; have hb1_4 := below_via hb1_3 (by first | exact Below.refl _ _ | exact (Below.refl _ _).alloc (Nat.le_refl _) _ | exact ((Below.refl _ _).alloc (Nat.le_refl _) _).alloc (by simp) _) hb4; have hb2_4 := below_via hb2_3 (by first | exact Below.refl _ _ | exact (Below.refl _ _).alloc (Nat.le_refl _) _ | exact ((Below.refl _ _).alloc (Nat.le_refl _) _).alloc (by simp) _) hb4; have hb3_4 := below_via hb3 (by first | exact Below.refl _ _ | exact (Below.refl _ _).alloc (Nat.le_refl _) _ | exact ((Below.refl _ _).alloc (Nat.le_refl _) _).alloc (by simp) _) hb4)
        | (go_at_call_of 27 (Value.int .i64 D1); refine (HO4.out _ (And.left (by assumption)) ).mono ?_; clear HO4; rintro e v5 ⟨z5, rfl, hz5, hb5⟩; have HR5 : Fr2 w N1 D1 N2 D2 v5 := Fr2.next (And.left (by assumption)) hb5; have rs5 := Fr2.size HR5; have ez1 := NumE.via ez1 (by first | exact Below.refl _ _ | exact (Below.refl _ _).alloc (Nat.le_refl _) _ | exact ((Below.refl _ _).alloc (Nat.le_refl _) _).alloc (by simp) _) hb5; have ez2 := NumE.via ez2 (by first | exact Below.refl _ _ | exact (Below.refl _ _).alloc (Nat.le_refl _) _ | exact ((Below.refl _ _).alloc (Nat.le_refl _) _).alloc (by simp) _) hb5; have ez3 := NumE.via ez3 (by first | exact Below.refl _ _ | exact (Below.refl _ _).alloc (Nat.le_refl _) _ | exact ((Below.refl _ _).alloc (Nat.le_refl _) _).alloc (by simp) _) hb5; have ez4 := NumE.via ez4 (by first | exact Below.refl _ _ | exact (Below.refl _ _).alloc (Nat.le_refl _) _ | exact ((Below.refl _ _).alloc (Nat.le_refl _) _).alloc (by simp) _) hb5; have ez5 : NumE _ v5 z5 := ⟨_, hz5⟩; have hb1_5 := below_via hb1_4 (by first | exact Below.refl _ _ | exact (Below.refl _ _).alloc (Nat.le_refl _) _ | exact ((Below.refl _ _).alloc (Nat.le_refl _) _).alloc (by simp) _) hb5; have hb2_5 := below_via hb2_4 (by first | exact Below.refl _ _ | exact (Below.refl _ _).alloc (Nat.le_refl _) _ | exact ((Below.refl _ _).alloc (Nat.le_refl _) _).alloc (by simp) _) hb5; have hb3_5 := below_via hb3_4 (by first | exact Below.refl _ _ | exact (Below.refl _ _).alloc (Nat.le_refl _) _ | exact ((Below.refl _ _).alloc (Nat.le_refl _) _).alloc (by simp) _) hb5; have hb4_5 := below_via hb4 (by first | exact Below.refl _ _ | exact (Below.refl _ _).alloc (Nat.le_refl _) _ | exact ((Below.refl _ _).alloc (Nat.le_refl _) _).alloc (by simp) _) hb5)
        | (go_at_call 34 ; refine (HT2.out _ (And.left (by assumption)) _ (by repeat (first | with_reducible exact ez4 | with_reducible refine NumE.alloc ?_ _)) _ (by repeat (first | with_reducible exact ez5 | with_reducible refine NumE.alloc ?_ _))).mono ?_; clear HT2; rintro e v6 ⟨z6, rfl, hz6, hb6⟩; have HR6 : Fr2 w N1 D1 N2 D2 v6 := Fr2.next (And.left (by assumption)) hb6; have rs6 := Fr2.size HR6; have ez1 := NumE.via ez1 (by first | exact Below.refl _ _ | exact (Below.refl _ _).alloc (Nat.le_refl _) _ | exact ((Below.refl _ _).alloc (Nat.le_refl _) _).alloc (by simp) _) hb6; have ez2 := NumE.via ez2 (by first | exact Below.refl _ _ | exact (Below.refl _ _).alloc (Nat.le_refl _) _ | exact ((Below.refl _ _).alloc (Nat.le_refl _) _).alloc (by simp) _) hb6; have ez3 := NumE.via ez3 (by first | exact Below.refl _ _ | exact (Below.refl _ _).alloc (Nat.le_refl _) _ | exact ((Below.refl _ _).alloc (Nat.le_refl _) _).alloc (by simp) _) hb6; have ez4 := NumE.via ez4 (by first | exact Below.refl _ _ | exact (Below.refl _ _).alloc (Nat.le_refl _) _ | exact ((Below.refl _ _).alloc (Nat.le_refl _) _).alloc (by simp) _) hb6; have ez5 := NumE.via ez5 (by first | exact Below.refl _ _ | exact (Below.refl _ _).alloc (Nat.le_refl _) _ | exact ((Below.refl _ _).alloc (Nat.le_refl _) _).alloc (by simp) _) hb6; have ez6 : NumE _ v6 z6 := ⟨_, hz6⟩; have hb1_6 := below_via hb1_5 (by first | exact Below.refl _ _ | exact (Below.refl _ _).alloc (Nat.le_refl _) _ | exact ((Below.refl _ _).alloc (Nat.le_refl _) _).alloc (by simp) _) hb6; have hb2_6 := below_via hb2_5 (by first | exact Below.refl _ _ | exact (Below.refl _ _).alloc (Nat.le_refl _) _ | exact ((Below.refl _ _).alloc (Nat.le_refl _) _).alloc (by simp) _) hb6; have hb3_6 := below_via hb3_5 (by first | exact Below.refl _ _ | exact (Below.refl _ _).alloc (Nat.le_refl _) _ | exact ((Below.refl _ _).alloc (Nat.le_refl _) _).alloc (by simp) _) hb6; have hb4_6 := below_via hb4_5 (by first | exact Below.refl _ _ | exact (Below.refl _ _).alloc (Nat.le_refl _) _ | exact ((Below.refl _ _).alloc (Nat.le_refl _) _).alloc (by simp) _) hb6; have hb5_6 := below_via hb5 (by first | exact Below.refl _ _ | exact (Below.refl _ _).alloc (Nat.le_refl _) _ | exact ((Below.refl _ _).alloc (Nat.le_refl _) _).alloc (by simp) _) hb6)
        | (go_at_call 36 ; refine (HN.out _ (And.left (by assumption)) _ (by repeat (first | with_reducible exact ez6 | with_reducible refine NumE.alloc ?_ _))).mono ?_; clear HN; rintro e v7 ⟨z7, rfl, hz7, hb7⟩; have HR7 : Fr2 w N1 D1 N2 D2 v7 := Fr2.next (And.left (by assumption)) hb7; have rs7 := Fr2.size HR7; have ez1 := NumE.via ez1 (by first | exact Below.refl _ _ | exact (Below.refl _ _).alloc (Nat.le_refl _) _ | exact ((Below.refl _ _).alloc (Nat.le_refl _) _).alloc (by simp) _) hb7; have ez2 := NumE.via ez2 (by first | exact Below.refl _ _ | exact (Below.refl _ _).alloc (Nat.le_refl _) _ | exact ((Below.refl _ _).alloc (Nat.le_refl _) _).alloc (by simp) _) hb7; have ez3 := NumE.via ez3 (by first | exact Below.refl _ _ | exact (Below.refl _ _).alloc (Nat.le_refl _) _ | exact ((Below.refl _ _).alloc (Nat.le_refl _) _).alloc (by simp) _) hb7; have ez4 := NumE.via ez4 (by first | exact Below.refl _ _ | exact (Below.refl _ _).alloc (Nat.le_refl _) _ | exact ((Below.refl _ _).alloc (Nat.le_refl _) _).alloc (by simp) _) hb7; have ez5 := NumE.via ez5 (by first | exact Below.refl _ _ | exact (Below.refl _ _).alloc (Nat.le_refl _) _ | exact ((Below.refl _ _).alloc (Nat.le_refl _) _).alloc (by simp) _) hb7; have ez6 := NumE.via ez6 (by first | exact Below.refl _ _ | exact (Below.refl _ _).alloc (Nat.le_refl _) _ | exact ((Below.refl _ _).alloc (Nat.le_refl _) _).alloc (by simp) _) hb7; have ez7 : NumE _ v7 z7 := ⟨_, hz7⟩; have hb1_7 := below_via hb1_6 (by first | exact Below.refl _ _ | exact (Below.refl _ _).alloc (Nat.le_refl _) _ | exact ((Below.refl _ _).alloc (Nat.le_refl _) _).alloc (by simp) _) hb7; have hb2_7 := below_via hb2_6 (by first | exact Below.refl _ _ | exact (Below.refl _ _).alloc (Nat.le_refl _) _ | exact ((Below.refl _ _).alloc (Nat.le_refl _) _).alloc (by simp) _) hb7; have hb3_7 := below_via hb3_6 (by first | exact Below.refl _ _ | exact (Below.refl _ _).alloc (Nat.le_refl _) _ | exact ((Below.refl _ _).alloc (Nat.le_refl _) _).alloc (by simp) _) hb7; have hb4_7 := below_via hb4_6 (by first | exact Below.refl _ _ | exact (Below.refl _ _).alloc (Nat.le_refl _) _ | exact ((Below.refl _ _).alloc (Nat.le_refl _) _).alloc (by simp) _) hb7; have hb5_7 := below_via hb5_6 (by first | exact Below.refl _ _ | exact (Below.refl _ _).alloc (Nat.le_refl _) _ | exact ((Below.refl _ _).alloc (Nat.le_refl _) _).alloc (by simp) _) hb7; have hb6_7 := below_via hb6 (by first | exact Below.refl _ _ | exact (Below.refl _ _).alloc (Nat.le_refl _) _ | exact ((Below.refl _ _).alloc (Nat.le_refl _) _).alloc (by simp) _) hb7)
        | (go_at_call 35 ; refine (HS.out _ (And.left (by assumption)) _ (by repeat (first | with_reducible exact ez3 | with_reducible refine NumE.alloc ?_ _)) _ (by repeat (first | with_reducible exact ez7 | with_reducible refine NumE.alloc ?_ _))).mono ?_; clear HS; rintro e v8 ⟨z8, rfl, hz8, hb8⟩; have HR8 : Fr2 w N1 D1 N2 D2 v8 := Fr2.next (And.left (by assumption)) hb8; have rs8 := Fr2.size HR8; have ez1 := NumE.via ez1 (by first | exact Below.refl _ _ | exact (Below.refl _ _).alloc (Nat.le_refl _) _ | exact ((Below.refl _ _).alloc (Nat.le_refl _) _).alloc (by simp) _) hb8; have ez2 := NumE.via ez2 (by first | exact Below.refl _ _ | exact (Below.refl _ _).alloc (Nat.le_refl _) _ | exact ((Below.refl _ _).alloc (Nat.le_refl _) _).alloc (by simp) _) hb8; have ez3 := NumE.via ez3 (by first | exact Below.refl _ _ | exact (Below.refl _ _).alloc (Nat.le_refl _) _ | exact ((Below.refl _ _).alloc (Nat.le_refl _) _).alloc (by simp) _) hb8; have ez4 := NumE.via ez4 (by first | exact Below.refl _ _ | exact (Below.refl _ _).alloc (Nat.le_refl _) _ | exact ((Below.refl _ _).alloc (Nat.le_refl _) _).alloc (by simp) _) hb8; have ez5 := NumE.via ez5 (by first | exact Below.refl _ _ | exact (Below.refl _ _).alloc (Nat.le_refl _) _ | exact ((Below.refl _ _).alloc (Nat.le_refl _) _).alloc (by simp) _) hb8; have ez6 := NumE.via ez6 (by first | exact Below.refl _ _ | exact (Below.refl _ _).alloc (Nat.le_refl _) _ | exact ((Below.refl _ _).alloc (Nat.le_refl _) _).alloc (by simp) _) hb8; have ez7 := NumE.via ez7 (by first | exact Below.refl _ _ | exact (Below.refl _ _).alloc (Nat.le_refl _) _ | exact ((Below.refl _ _).alloc (Nat.le_refl _) _).alloc (by simp) _) hb8; have ez8 : NumE _ v8 z8 := ⟨_, hz8⟩; have hb1_8 := below_via hb1_7 (by first | exact Below.refl _ _ | exact (Below.refl _ _).alloc (Nat.le_refl _) _ | exact ((Below.refl _ _).alloc (Nat.le_refl _) _).alloc (by simp) _) hb8; have hb2_8 := below_via hb2_7 (by first | exact Below.refl _ _ | exact (Below.refl _ _).alloc (Nat.le_refl _) _ | exact ((Below.refl _ _).alloc (Nat.le_refl _) _).alloc (by simp) _) hb8; have hb3_8 := below_via hb3_7 (by first | exact Below.refl _ _ | exact (Below.refl _ _).alloc (Nat.le_refl _) _ | exact ((Below.refl _ _).alloc (Nat.le_refl _) _).alloc (by simp) _) hb8; have hb4_8 := below_via hb4_7 (by first | exact Below.refl _ _ | exact (Below.refl _ _).alloc (Nat.le_refl _) _ | exact ((Below.refl _ _).alloc (Nat.le_refl _) _).alloc (by simp) _) hb8; have hb5_8 := below_via hb5_7 (by first | exact Below.refl _ _ | exact (Below.refl _ _).alloc (Nat.le_refl _) _ | exact ((Below.refl _ _).alloc (Nat.le_refl _) _).alloc (by simp) _) hb8; have hb6_8 := below_via hb6_7 (by first | exact Below.refl _ _ | exact (Below.refl _ _).alloc (Nat.le_refl _) _ | exact ((Below.refl _ _).alloc (Nat.le_refl _) _).alloc (by simp) _) hb8; have hb7_8 := below_via hb7 (by first | exact Below.refl _ _ | exact (Below.refl _ _).alloc (Nat.le_refl _) _ | exact ((Below.refl _ _).alloc (Nat.le_refl _) _).alloc (by simp) _) hb8; obtain ⟨chb1_8, fhb1_8, mhb1_8⟩ := bcell3 hb1_8; have phb1_8 := put_at hb1_8; obtain ⟨chb2_8, fhb2_8, mhb2_8⟩ := bcell3 hb2_8; have phb2_8 := put_at hb2_8; obtain ⟨chb3_8, fhb3_8, mhb3_8⟩ := bcell3 hb3_8; have phb3_8 := put_at hb3_8; obtain ⟨chb4_8, fhb4_8, mhb4_8⟩ := bcell3 hb4_8; have phb4_8 := put_at hb4_8; obtain ⟨chb5_8, fhb5_8, mhb5_8⟩ := bcell3 hb5_8; have phb5_8 := put_at hb5_8; obtain ⟨chb6_8, fhb6_8, mhb6_8⟩ := bcell3 hb6_8; have phb6_8 := put_at hb6_8; obtain ⟨chb7_8, fhb7_8, mhb7_8⟩ := bcell3 hb7_8; have phb7_8 := put_at hb7_8; obtain ⟨chb8, fhb8, mhb8⟩ := bcell3 hb8; have phb8 := put_at hb8; obtain ⟨bx, px, lx, cx, rfl⟩ := hz8.parts))
    all_goals
      go_wp2_with fail
      go_meet
      refine ⟨_, bx, px, lx, cx, rfl, ?_, ?_, ?_, ?_, ?_⟩
      · skip
        have s1 := hb1.size
        try simp at s1
        have s2 := hb2.size
        try simp at s2
        have s3 := hb3.size
        try simp at s3
        have s4 := hb4.size
        try simp at s4
        have s5 := hb5.size
        try simp at s5
        have s6 := hb6.size
        try simp at s6
        have s7 := hb7.size
        try simp at s7
        have s8 := hb8.size
        try simp at s8
        simp
        try omega
      · repeat (first | assumption | with_reducible refine Fr2.alloc ?_ _ | with_reducible refine Fr2.set ?_ _ (by first | (simp; done) | (simp; omega)) _ | with_reducible refine Fr2.drew ?_)
      · first | (simp [go_sem]; done) | (repeat (first | with_reducible refine al_cell ?_ _ | with_reducible refine two0 (by first | exact ⟨_, phb8 _ _ (by first | (simp; done) | (simp; omega)) (by simp [go_sem]; rfl)⟩ | exact ⟨_, phb7_8 _ _ (by first | (simp; done) | (simp; omega)) (by simp [go_sem]; rfl)⟩ | exact ⟨_, phb6_8 _ _ (by first | (simp; done) | (simp; omega)) (by simp [go_sem]; rfl)⟩ | exact ⟨_, phb5_8 _ _ (by first | (simp; done) | (simp; omega)) (by simp [go_sem]; rfl)⟩ | exact ⟨_, phb4_8 _ _ (by first | (simp; done) | (simp; omega)) (by simp [go_sem]; rfl)⟩ | exact ⟨_, phb3_8 _ _ (by first | (simp; done) | (simp; omega)) (by simp [go_sem]; rfl)⟩ | exact ⟨_, phb2_8 _ _ (by first | (simp; done) | (simp; omega)) (by simp [go_sem]; rfl)⟩ | exact ⟨_, phb1_8 _ _ (by first | (simp; done) | (simp; omega)) (by simp [go_sem]; rfl)⟩) _ _ | with_reducible refine two1 (by first | exact ⟨_, phb8 _ _ (by first | (simp; done) | (simp; omega)) (by simp [go_sem]; rfl)⟩ | exact ⟨_, phb7_8 _ _ (by first | (simp; done) | (simp; omega)) (by simp [go_sem]; rfl)⟩ | exact ⟨_, phb6_8 _ _ (by first | (simp; done) | (simp; omega)) (by simp [go_sem]; rfl)⟩ | exact ⟨_, phb5_8 _ _ (by first | (simp; done) | (simp; omega)) (by simp [go_sem]; rfl)⟩ | exact ⟨_, phb4_8 _ _ (by first | (simp; done) | (simp; omega)) (by simp [go_sem]; rfl)⟩ | exact ⟨_, phb3_8 _ _ (by first | (simp; done) | (simp; omega)) (by simp [go_sem]; rfl)⟩ | exact ⟨_, phb2_8 _ _ (by first | (simp; done) | (simp; omega)) (by simp [go_sem]; rfl)⟩ | exact ⟨_, phb1_8 _ _ (by first | (simp; done) | (simp; omega)) (by simp [go_sem]; rfl)⟩) _ _ | with_reducible refine far2 ?_ (by first | omega | (simp [*]; done)) _ _))
      · first | (simp [go_sem]; done) | (repeat (first | with_reducible refine al_cell ?_ _ | with_reducible refine two0 (by first | exact ⟨_, phb8 _ _ (by first | (simp; done) | (simp; omega)) (by simp [go_sem]; rfl)⟩ | exact ⟨_, phb7_8 _ _ (by first | (simp; done) | (simp; omega)) (by simp [go_sem]; rfl)⟩ | exact ⟨_, phb6_8 _ _ (by first | (simp; done) | (simp; omega)) (by simp [go_sem]; rfl)⟩ | exact ⟨_, phb5_8 _ _ (by first | (simp; done) | (simp; omega)) (by simp [go_sem]; rfl)⟩ | exact ⟨_, phb4_8 _ _ (by first | (simp; done) | (simp; omega)) (by simp [go_sem]; rfl)⟩ | exact ⟨_, phb3_8 _ _ (by first | (simp; done) | (simp; omega)) (by simp [go_sem]; rfl)⟩ | exact ⟨_, phb2_8 _ _ (by first | (simp; done) | (simp; omega)) (by simp [go_sem]; rfl)⟩ | exact ⟨_, phb1_8 _ _ (by first | (simp; done) | (simp; omega)) (by simp [go_sem]; rfl)⟩) _ _ | with_reducible refine two1 (by first | exact ⟨_, phb8 _ _ (by first | (simp; done) | (simp; omega)) (by simp [go_sem]; rfl)⟩ | exact ⟨_, phb7_8 _ _ (by first | (simp; done) | (simp; omega)) (by simp [go_sem]; rfl)⟩ | exact ⟨_, phb6_8 _ _ (by first | (simp; done) | (simp; omega)) (by simp [go_sem]; rfl)⟩ | exact ⟨_, phb5_8 _ _ (by first | (simp; done) | (simp; omega)) (by simp [go_sem]; rfl)⟩ | exact ⟨_, phb4_8 _ _ (by first | (simp; done) | (simp; omega)) (by simp [go_sem]; rfl)⟩ | exact ⟨_, phb3_8 _ _ (by first | (simp; done) | (simp; omega)) (by simp [go_sem]; rfl)⟩ | exact ⟨_, phb2_8 _ _ (by first | (simp; done) | (simp; omega)) (by simp [go_sem]; rfl)⟩ | exact ⟨_, phb1_8 _ _ (by first | (simp; done) | (simp; omega)) (by simp [go_sem]; rfl)⟩) _ _ | with_reducible refine far2 ?_ (by first | omega | (simp [*]; done)) _ _))
      · refine num_up hz8 (fun h => ?_)
        have s1 := hb1.size
        try simp at s1
        have s2 := hb2.size
        try simp at s2
        have s3 := hb3.size
        try simp at s3
        have s4 := hb4.size
        try simp at s4
        have s5 := hb5.size
        try simp at s5
        have s6 := hb6.size
        try simp at s6
        have s7 := hb7.size
        try simp at s7
        have s8 := hb8.size
        try simp at s8
        repeat (first | with_reducible exact h | with_reducible refine num_alloc ?_ _ | with_reducible refine NumIs.put ?_ (by first | (simp; done) | (simp; omega)) _)
  case rest =>
    obtain ⟨P, b, px, lx, cx, rfl, hP, HQ, q1, q2, B, hx⟩ := hcut
    obtain ⟨hl, rfl⟩ := num_len hx
    have hB := HQ.bel
    clear HQ HO1 HO2 HO3 HO4 HT1 HT2 HN HS F3 hz k1 k2 k3 k4 hx
    by_cases h0 : v = 0
    · obtain rfl : lx = 0 := hl.2 h0
      have hs : Int.sign v = 0 := by rw [h0]; rfl
      clear hl
      go_wp2_with fail
      go_ret
      exact ⟨ret_i64 hs.symm, hB⟩
    · have hl0 : ((lx : Int) == 0) = false := by simp; omega
      clear hl
      generalize hb : decide (v < 0) = b at *
      cases b with
      | true =>
        have hs : Int.sign v = -1 := Int.sign_eq_neg_one_of_neg (of_decide_eq_true hb)
        clear hb
        go_wp2_with fail
        go_ret
        exact ⟨ret_i64 hs.symm, hB⟩
      | false =>
        have hs : Int.sign v = 1 := Int.sign_eq_one_of_pos (by have := of_decide_eq_false hb; omega)
        clear hb
        go_wp2_with fail
        go_ret
        exact ⟨ret_i64 hs.symm, hB⟩
theorem rcmp_any (N1 D1 N2 D2 : Int) (w : World) (h1 : Is64 N1 D1) (h2 : Is64 N2 D2) : Calls Try.prog 16 #[.agg #[.int .i64 N1, .int .i64 D1], .agg #[.int .i64 N2, .int .i64 D2]] w (IntIs (cmpO (rawO N1 D1) (rawO N2 D2)) w) := by
  cases hm : mayB N1 D1
  · rw [rawO_none hm]
    exact rcmp_no1 N1 D1 N2 D2 w h1 hm
  · obtain ⟨q, hq⟩ := rawO_is hm
    obtain ⟨a, b, _⟩ := rawO_some hq
    cases hm2 : mayB N2 D2
    · rw [rawO_none hm2, hq]
      exact rcmp_no2 N1 D1 N2 D2 w h1 hm h2 hm2
    · obtain ⟨q2, hq2⟩ := rawO_is hm2
      obtain ⟨a2, b2, _⟩ := rawO_some hq2
      rw [hq, hq2]
      exact rcmp_yes N1 D1 N2 D2 _ w h1 hm h2 hm2 (Lib.hid (by rw [← a, ← b, ← a2, ← b2, Int.neg_mul]))
end Go.Proofs.Ytnbloflgggndiaa
