/- The contracts of the reference's Floor and Round. -/
import Derived.Test.YtnbloflgggndiaaRefHalf
namespace Go.Proofs.Ytnbloflgggndiaa
open Go.RowKit Rf Rt

theorem small99 {n : Int} (h1 : -9223372036854775808 ≤ n) (h2 : n ≤ 9223372036854775807) : n.natAbs ≤ 9223372036854775808 := by omega
theorem big100 : 100 * 9223372036854775808 + 100 < 65536 ^ 100 := by decide

set_option maxHeartbeats 1000000 in
theorem rfloor_no (N D : Int) (w : World) (h1 : Is64 N D) (hm : mayB N D = false) : Calls Try.prog 18 #[.agg #[.int .i64 N, .int .i64 D]] w (IntIs 0 w) := by
  have HR := Lib.hid (fun w => right_any N D w h1)
  rw [hm] at HR
  have F1 := R1.first w N D 24
  go_enter Try.func18, Try.ntmps18
  go_wp2_with fail
  refine (HR.out _).mono ?_
  rintro e w1 ⟨rfl, hb1⟩
  have F2 := F1.next hb1
  go_wp2_with fail
  go_ret
  exact ⟨rfl, F2.bel⟩

set_option maxHeartbeats 8000000 in
theorem rfloor_yes (N D v : Int) (w : World) (h1 : Is64 N D) (hm : mayB N D = true) (hv : Hid (N / D = v)) : Calls Try.prog 18 #[.agg #[.int .i64 N, .int .i64 D]] w (IntIs v w) := by
  have HR := Lib.hid (fun w => right_any N D w h1)
  rw [hm] at HR
  have h0 : 0 < D := ((mayB_iff _ _).1 hm).1
  have n1 := small99 h1.n1 h1.n2
  have n2 := small99 h1.d1 h1.d2
  have hv1 : v.natAbs ≤ 9223372036854775808 := by rw [← hv.out]; exact Nat.le_trans (Int.natAbs_ediv_le_natAbs _ _) n1
  have hv2 : -9223372036854775808 ≤ v ∧ v ≤ 9223372036854775807 := by
    refine ⟨by omega, ?_⟩
    by_cases c : v = 9223372036854775808
    · exfalso
      have hle : v ≤ N ∨ N < 0 := by
        by_cases hN : 0 ≤ N
        · exact .inl (by rw [← hv.out]; exact Int.ediv_le_self _ hN)
        · exact .inr (by omega)
      rcases hle with hle | hneg
      · have := h1.n2
        omega
      · have : v < 0 := by rw [← hv.out]; exact Int.ediv_neg_of_neg_of_pos hneg h0
        omega
    · omega
  have F1 := R1.first w N D 24
  have HO1 : Hid (∀ W, R1 w N D W → Calls Try.prog 27 #[.int .i64 N] W (NumR N W)) := Lib.hid fun W _ => rof_any W N h1.n1 h1.n2
  have HO2 : Hid (∀ W, R1 w N D W → Calls Try.prog 27 #[.int .i64 D] W (NumR D W)) := Lib.hid fun W _ => rof_any W D h1.d1 h1.d2
  have HP3 : Hid (∀ W, R1 w N D W → ∀ x, NumE N W x → ∀ y, NumE D W y → Calls Try.prog 39 #[x, y] W (PartsR v (N % D) W)) := Lib.hid fun W _ x hx y hy => by
    have b := big100
    have := rpartsE hx hy h0 (by omega) (by omega)
    rw [hv.out] at this
    exact this
  have hvI : v.natAbs < 65536 ^ 100 := by have b := big100; omega
  have HVI := Lib.hid hvI
  clear hvI n1 n2 h0 h1 hm
  go_enter Try.func18, Try.ntmps18
  go_wp2_with fail
  refine (HR.out _).mono ?_
  rintro e wr ⟨rfl, hb1⟩
  have F2 := F1.next hb1
  clear F1 hb1
  obtain ⟨hF, hz, k1, k2⟩ := id F2
  go_upto_region 3 with fail
  go_cut [3] (fun s3 wx => NumCut (R1 w N D) v s3 wx)
  case first =>
    go_region_held3 (fun w' => R1 w N D w' ∧ w'.cell? ⟨w.heap.size, 0, none⟩ = some (.int .i64 N) ∧ w'.cell? ⟨w.heap.size, 1, none⟩ = some (.int .i64 D))
      (first
        | (refine keepR1 ?_; repeat (first | assumption | with_reducible refine R1.alloc ?_ _ | with_reducible refine R1.set ?_ _ (by first | (simp; done) | (simp; omega)) _ | with_reducible refine R1.drew ?_)))
      (first
        | (go_at_call_of 27 (Value.int .i64 N); refine (HO1.out _ (And.left (by assumption)) ).mono ?_; clear HO1; rintro e v1 ⟨z1, rfl, hz1, hb1⟩; have HR1 : R1 w N D v1 := R1.next (And.left (by assumption)) hb1; have rs1 := R1.size HR1; have ez1 : NumE _ v1 z1 := ⟨_, hz1⟩; obtain ⟨n1hb1, n2hb1⟩ := bne3 hb1)
        | (go_at_call_of 27 (Value.int .i64 D); refine (HO2.out _ (And.left (by assumption)) ).mono ?_; clear HO2; rintro e v2 ⟨z2, rfl, hz2, hb2⟩; have HR2 : R1 w N D v2 := R1.next (And.left (by assumption)) hb2; have rs2 := R1.size HR2; have ez1 := NumE.via ez1 (by first | exact Below.refl _ _ | exact (Below.refl _ _).alloc (Nat.le_refl _) _ | exact ((Below.refl _ _).alloc (Nat.le_refl _) _).alloc (by simp) _) hb2; have ez2 : NumE _ v2 z2 := ⟨_, hz2⟩; have hb1_2 := below_via hb1 (by first | exact Below.refl _ _ | exact (Below.refl _ _).alloc (Nat.le_refl _) _ | exact ((Below.refl _ _).alloc (Nat.le_refl _) _).alloc (by simp) _) hb2; obtain ⟨n1hb1_2, n2hb1_2⟩ := bne3 hb1_2; obtain ⟨n1hb2, n2hb2⟩ := bne3 hb2)
        | (go_at_call 39 ; refine (HP3.out _ (And.left (by assumption)) _ (by repeat (first | with_reducible exact ez1 | with_reducible refine NumE.alloc ?_ _)) _ (by repeat (first | with_reducible exact ez2 | with_reducible refine NumE.alloc ?_ _))).mono ?_; clear HP3; rintro e v3 ⟨xx, yy, rfl, hxx, hyy, hb3⟩; obtain ⟨bx, px, lx, cx, rfl⟩ := hxx.parts; obtain ⟨by', py, ly, cy, rfl⟩ := hyy.parts; have HR3 : R1 w N D v3 := R1.next (And.left (by assumption)) hb3; have rs3 := R1.size HR3; have ez1 := NumE.via ez1 (by first | exact Below.refl _ _ | exact (Below.refl _ _).alloc (Nat.le_refl _) _ | exact ((Below.refl _ _).alloc (Nat.le_refl _) _).alloc (by simp) _) hb3; have ez2 := NumE.via ez2 (by first | exact Below.refl _ _ | exact (Below.refl _ _).alloc (Nat.le_refl _) _ | exact ((Below.refl _ _).alloc (Nat.le_refl _) _).alloc (by simp) _) hb3; have hb1_3 := below_via hb1_2 (by first | exact Below.refl _ _ | exact (Below.refl _ _).alloc (Nat.le_refl _) _ | exact ((Below.refl _ _).alloc (Nat.le_refl _) _).alloc (by simp) _) hb3; have hb2_3 := below_via hb2 (by first | exact Below.refl _ _ | exact (Below.refl _ _).alloc (Nat.le_refl _) _ | exact ((Below.refl _ _).alloc (Nat.le_refl _) _).alloc (by simp) _) hb3; obtain ⟨n1hb1_3, n2hb1_3⟩ := bne3 hb1_3; obtain ⟨n1hb2_3, n2hb2_3⟩ := bne3 hb2_3; obtain ⟨n1hb3, n2hb3⟩ := bne3 hb3; obtain ⟨chb1_3, fhb1_3, mhb1_3⟩ := bcell3 hb1_3; have phb1_3 := put_at hb1_3; obtain ⟨chb2_3, fhb2_3, mhb2_3⟩ := bcell3 hb2_3; have phb2_3 := put_at hb2_3; obtain ⟨chb3, fhb3, mhb3⟩ := bcell3 hb3; have phb3 := put_at hb3))
    all_goals
      go_wp2_with fail
      go_meet
      refine ⟨_, bx, px, lx, cx, rfl, ?_, ?_, ?_, ?_, ?_⟩
      · skip
        have s1 := hb1.size
        try simp at s1
        have s2 := hb2.size
        try simp at s2
        have s3 := hb3.size
        try simp at s3
        simp
        try omega
      · repeat (first | assumption | with_reducible refine R1.alloc ?_ _ | with_reducible refine R1.set ?_ _ (by first | (simp; done) | (simp; omega)) _ | with_reducible refine R1.drew ?_)
      · first | (simp [go_sem]; done) | (repeat (first | with_reducible refine al_cell ?_ _ | with_reducible refine two0 (by first | exact ⟨_, phb3 _ _ (by first | (simp; done) | (simp; omega)) (by simp [go_sem]; rfl)⟩ | exact ⟨_, phb2_3 _ _ (by first | (simp; done) | (simp; omega)) (by simp [go_sem]; rfl)⟩ | exact ⟨_, phb1_3 _ _ (by first | (simp; done) | (simp; omega)) (by simp [go_sem]; rfl)⟩) _ _ | with_reducible refine two1 (by first | exact ⟨_, phb3 _ _ (by first | (simp; done) | (simp; omega)) (by simp [go_sem]; rfl)⟩ | exact ⟨_, phb2_3 _ _ (by first | (simp; done) | (simp; omega)) (by simp [go_sem]; rfl)⟩ | exact ⟨_, phb1_3 _ _ (by first | (simp; done) | (simp; omega)) (by simp [go_sem]; rfl)⟩) _ _ | with_reducible refine far2 ?_ (by first | omega | (simp [*]; done)) _ _))
      · first | (simp [go_sem]; done) | (repeat (first | with_reducible refine al_cell ?_ _ | with_reducible refine two0 (by first | exact ⟨_, phb3 _ _ (by first | (simp; done) | (simp; omega)) (by simp [go_sem]; rfl)⟩ | exact ⟨_, phb2_3 _ _ (by first | (simp; done) | (simp; omega)) (by simp [go_sem]; rfl)⟩ | exact ⟨_, phb1_3 _ _ (by first | (simp; done) | (simp; omega)) (by simp [go_sem]; rfl)⟩) _ _ | with_reducible refine two1 (by first | exact ⟨_, phb3 _ _ (by first | (simp; done) | (simp; omega)) (by simp [go_sem]; rfl)⟩ | exact ⟨_, phb2_3 _ _ (by first | (simp; done) | (simp; omega)) (by simp [go_sem]; rfl)⟩ | exact ⟨_, phb1_3 _ _ (by first | (simp; done) | (simp; omega)) (by simp [go_sem]; rfl)⟩) _ _ | with_reducible refine far2 ?_ (by first | omega | (simp [*]; done)) _ _))
      · refine num_up hxx (fun h => ?_)
        have s1 := hb1.size
        try simp at s1
        have s2 := hb2.size
        try simp at s2
        have s3 := hb3.size
        try simp at s3
        repeat (first | with_reducible exact h | with_reducible refine num_alloc ?_ _ | with_reducible refine NumIs.put ?_ (by first | (simp; done) | (simp; omega)) _)
  case rest =>
    obtain ⟨P, b, px, lx, cx, rfl, hP, HQ, q1, q2, hx⟩ := hcut
    have hB := HQ.bel
    clear HQ HO1 HO2 HP3 F2 hF hz k1 k2 HR
    have HI := Lib.hid (rintE hx HVI.out)
    clear hx
    go_wp2_with fail
    refine (HI.out).mono ?_
    rintro e w7 ⟨x7, rfl, hx7, hb7⟩
    have hB7 : Below w.heap.size w w7 := hB.trans (hb7.mono hB.size)
    have hxv := Lib.hid (hx7 hv2)
    clear hB hb7 hx7
    go_wp2_with fail
    go_ret
    exact ⟨ret_i64 hxv.out, hB7⟩
theorem rfloor_any (N D : Int) (w : World) (h1 : Is64 N D) : Calls Try.prog 18 #[.agg #[.int .i64 N, .int .i64 D]] w (IntIs (floorO (rawO N D)) w) := by
  cases hm : mayB N D
  · rw [rawO_none hm]
    exact rfloor_no N D w h1 hm
  · obtain ⟨q, hq⟩ := rawO_is hm
    obtain ⟨a, b, _⟩ := rawO_some hq
    rw [hq]
    exact rfloor_yes N D _ w h1 hm (Lib.hid (by rw [← a, ← b]; rfl))

set_option maxHeartbeats 1000000 in
theorem rround_no (N D : Int) (w : World) (h1 : Is64 N D) (hm : mayB N D = false) : Calls Try.prog 20 #[.agg #[.int .i64 N, .int .i64 D]] w (IntIs 0 w) := by
  have HR := Lib.hid (fun w => right_any N D w h1)
  rw [hm] at HR
  have F1 := R1.first w N D 24
  go_enter Try.func20, Try.ntmps20
  go_wp2_with fail
  refine (HR.out _).mono ?_
  rintro e w1 ⟨rfl, hb1⟩
  have F2 := F1.next hb1
  go_wp2_with fail
  go_ret
  exact ⟨rfl, F2.bel⟩

theorem rhalfE {w : World} {n d v : Int} {x y : Value} (hx : NumE n w x) (hy : NumE d w y) (hv : (2 * n + d) / (2 * d) = v) (h0 : 0 < d) (L : Nat) (hL : 100 * L + 100 < 65536 ^ 100) (hnL : n.natAbs ≤ L) (hdL : d.natAbs ≤ L) : Calls Try.prog 41 #[x, y] w (TupIs (toldN v) (toldB v) w) := by
  obtain ⟨b1, p1, l1, c1, rfl⟩ := hx.parts
  obtain ⟨b2, p2, l2, c2, rfl⟩ := hy.parts
  have e1 : n + n + d = 2 * n + d := by omega
  have e2 : d + d = 2 * d := by omega
  refine half_walk n d v w b1 b2 p1 p2 l1 c1 l2 c2 hx hy (Lib.hid (by rw [e1, e2]; exact hv)) h0 L (Lib.hid hL) hnL hdL ?_
  have := Int.natAbs_ediv_le_natAbs (2 * n + d) (2 * d)
  rw [hv] at this
  omega

set_option maxHeartbeats 4000000 in
theorem rround_yes (N D v : Int) (w : World) (h1 : Is64 N D) (hm : mayB N D = true) (hv : Hid ((2 * N + D) / (2 * D) = v)) : Calls Try.prog 20 #[.agg #[.int .i64 N, .int .i64 D]] w (IntIs (toldN v) w) := by
  have HR := Lib.hid (fun w => right_any N D w h1)
  rw [hm] at HR
  have h0 : 0 < D := ((mayB_iff _ _).1 hm).1
  have F1 := R1.first w N D 24
  have HO1 : Hid (∀ W, R1 w N D W → Calls Try.prog 27 #[.int .i64 N] W (NumR N W)) := Lib.hid fun W _ => rof_any W N h1.n1 h1.n2
  have HO2 : Hid (∀ W, R1 w N D W → Calls Try.prog 27 #[.int .i64 D] W (NumR D W)) := Lib.hid fun W _ => rof_any W D h1.d1 h1.d2
  have HP3 : Hid (∀ W, R1 w N D W → ∀ x, NumE N W x → ∀ y, NumE D W y → Calls Try.prog 41 #[x, y] W (TupIs (toldN v) (toldB v) W)) := Lib.hid fun W _ x hx y hy => rhalfE hx hy hv.out h0 9223372036854775808 big100 (small99 h1.n1 h1.n2) (small99 h1.d1 h1.d2)
  clear h0 h1 hm
  go_enter Try.func20, Try.ntmps20
  go_wp2_with fail
  refine (HR.out _).mono ?_
  rintro e wr ⟨rfl, hb1⟩
  have F2 := F1.next hb1
  clear F1 hb1
  obtain ⟨hF, hz, k1, k2⟩ := id F2
  go_upto_region 3 with fail
  go_region_held3 (fun w' => R1 w N D w' ∧ w'.cell? ⟨w.heap.size, 0, none⟩ = some (.int .i64 N) ∧ w'.cell? ⟨w.heap.size, 1, none⟩ = some (.int .i64 D))
    (first
      | (refine keepR1 ?_; repeat (first | assumption | with_reducible refine R1.alloc ?_ _ | with_reducible refine R1.set ?_ _ (by first | (simp; done) | (simp; omega)) _ | with_reducible refine R1.drew ?_)))
    (first
      | (go_at_call_of 27 (Value.int .i64 N); refine (HO1.out _ (And.left (by assumption)) ).mono ?_; clear HO1; rintro e v1 ⟨z1, rfl, hz1, hb1⟩; have HR1 : R1 w N D v1 := R1.next (And.left (by assumption)) hb1; have rs1 := R1.size HR1; have ez1 : NumE _ v1 z1 := ⟨_, hz1⟩)
      | (go_at_call_of 27 (Value.int .i64 D); refine (HO2.out _ (And.left (by assumption)) ).mono ?_; clear HO2; rintro e v2 ⟨z2, rfl, hz2, hb2⟩; have HR2 : R1 w N D v2 := R1.next (And.left (by assumption)) hb2; have rs2 := R1.size HR2; have ez1 := NumE.via ez1 (by first | exact Below.refl _ _ | exact (Below.refl _ _).alloc (Nat.le_refl _) _ | exact ((Below.refl _ _).alloc (Nat.le_refl _) _).alloc (by simp) _) hb2; have ez2 : NumE _ v2 z2 := ⟨_, hz2⟩; have hb1_2 := below_via hb1 (by first | exact Below.refl _ _ | exact (Below.refl _ _).alloc (Nat.le_refl _) _ | exact ((Below.refl _ _).alloc (Nat.le_refl _) _).alloc (by simp) _) hb2)
      | (go_at_call 41 ; refine (HP3.out _ (And.left (by assumption)) _ (by repeat (first | with_reducible exact ez1 | with_reducible refine NumE.alloc ?_ _)) _ (by repeat (first | with_reducible exact ez2 | with_reducible refine NumE.alloc ?_ _))).mono ?_; clear HP3; rintro e v3 ⟨rfl, hb3⟩; have HR3 : R1 w N D v3 := R1.next (And.left (by assumption)) hb3; have rs3 := R1.size HR3; have ez1 := NumE.via ez1 (by first | exact Below.refl _ _ | exact (Below.refl _ _).alloc (Nat.le_refl _) _ | exact ((Below.refl _ _).alloc (Nat.le_refl _) _).alloc (by simp) _) hb3; have ez2 := NumE.via ez2 (by first | exact Below.refl _ _ | exact (Below.refl _ _).alloc (Nat.le_refl _) _ | exact ((Below.refl _ _).alloc (Nat.le_refl _) _).alloc (by simp) _) hb3; have hb1_3 := below_via hb1_2 (by first | exact Below.refl _ _ | exact (Below.refl _ _).alloc (Nat.le_refl _) _ | exact ((Below.refl _ _).alloc (Nat.le_refl _) _).alloc (by simp) _) hb3; have hb2_3 := below_via hb2 (by first | exact Below.refl _ _ | exact (Below.refl _ _).alloc (Nat.le_refl _) _ | exact ((Below.refl _ _).alloc (Nat.le_refl _) _).alloc (by simp) _) hb3; obtain ⟨chb1_3, fhb1_3, mhb1_3⟩ := bcell3 hb1_3; have phb1_3 := put_at hb1_3; obtain ⟨chb2_3, fhb2_3, mhb2_3⟩ := bcell3 hb2_3; have phb2_3 := put_at hb2_3; obtain ⟨chb3, fhb3, mhb3⟩ := bcell3 hb3; have phb3 := put_at hb3))
  have hB := HR3.bel
  go_wp2_with fail
  go_ret
  exact ⟨rfl, hB⟩
theorem rround_any (N D : Int) (w : World) (h1 : Is64 N D) : Calls Try.prog 20 #[.agg #[.int .i64 N, .int .i64 D]] w (IntIs (roundO (rawO N D)) w) := by
  cases hm : mayB N D
  · rw [rawO_none hm]
    exact rround_no N D w h1 hm
  · obtain ⟨q, hq⟩ := rawO_is hm
    obtain ⟨a, b, _⟩ := rawO_some hq
    rw [hq]
    show Calls _ _ _ _ (IntIs (toldN ((2 * q.num + q.den) / (2 * q.den))) w)
    exact rround_yes N D _ w h1 hm (Lib.hid (by rw [← a, ← b]))
end Go.Proofs.Ytnbloflgggndiaa
