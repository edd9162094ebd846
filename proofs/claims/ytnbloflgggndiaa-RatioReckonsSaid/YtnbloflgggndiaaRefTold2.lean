/- The contract of the reference's Told: a denominator below 0; and any. -/
import Derived.Test.YtnbloflgggndiaaRefTold
namespace Go.Proofs.Ytnbloflgggndiaa
open Go.RowKit Rf Rt

theorem F2.put1 {w W : World} {u1 v1 u2 v2 : Value} (h : F2 w u1 v1 u2 v2 W) (u v : Value) : F2 w u v u2 v2 ((W.setCell ⟨w.heap.size, 0, none⟩ u).setCell ⟨w.heap.size, 1, none⟩ v) := by
  obtain ⟨h0, h1, h2, h3, h4, h5, ⟨x, h6⟩, ⟨y, h7⟩, h8⟩ := h
  exact ⟨(h0.setCell (by simp) _).setCell (by simp) _, by simpa using h1, by simp [go_sem, h2], by simp [go_sem, h3], by simp [go_sem, h4], by simp [go_sem, h5], ⟨x, by simp [go_sem, h6]⟩, ⟨y, by simp [go_sem, h7]⟩, fun o => by simp [go_sem, h8]⟩
theorem F2.put2 {w W : World} {u1 v1 u2 v2 : Value} (h : F2 w u1 v1 u2 v2 W) (u v : Value) : F2 w u1 v1 u v ((W.setCell ⟨w.heap.size + 1, 0, none⟩ u).setCell ⟨w.heap.size + 1, 1, none⟩ v) := by
  obtain ⟨h0, h1, h2, h3, h4, h5, ⟨x, h6⟩, ⟨y, h7⟩, h8⟩ := h
  exact ⟨(h0.setCell (by simp) _).setCell (by simp) _, by simpa using h1, by simp [go_sem, h2], by simp [go_sem, h3], by simp [go_sem, h4], by simp [go_sem, h5], ⟨x, by simp [go_sem, h6]⟩, ⟨y, by simp [go_sem, h7]⟩, fun o => by simp [go_sem, h8]⟩

set_option maxHeartbeats 8000000 in
theorem rtold_neg (w : World) (n n0 d0 : Int) (hn0 : Hid (n = -n0)) (b0 bn : Bool) (hbn : decide (n < 0) = bn) (D L : Nat) (hD : 0 < D) (hD0 : Hid ((D : Int) = -d0)) (p0 q0 : Option Addr) (l0 c0 m0 e0' B1 B2 : Nat) (hn : NumIs n0 B1 w (.agg #[.bool b0, .slice p0 l0 c0])) (hd : NumIs d0 B2 w (.agg #[.bool true, .slice q0 m0 e0'])) (hm0 : m0 ≠ 0)
    (hL : Hid (4 * L + 4 < 65536 ^ 100)) (hnL : n.natAbs ≤ L) (hDL : D ≤ L) :
    Calls Try.prog 26 #[.agg #[.bool b0, .slice p0 l0 c0], .agg #[.bool true, .slice q0 m0 e0']] w (RatO (cutQ (makeO n D)) w) := by
  have Fa := F2.first' w (.bool b0) (.slice p0 l0 c0) (.bool true) (.slice q0 m0 e0') (.int .i64 0) (.int .i64 0) 47 24
  have hl0 : ((m0 : Int) == 0) = false := by
    simp
    omega
  go_enter Try.func26, Try.ntmps26
  go_wp2_with fail
  have hf0 : ∀ o, (((w.alloc (.cells #[.bool b0, .slice p0 l0 c0] 47)).alloc (.cells #[.bool true, .slice q0 m0 e0'] 47)).alloc (.cells #[.int .i64 0, .int .i64 0] 24)).frozen? ⟨w.heap.size, o, none⟩ = false := fun o => by simp [go_sem]
  have hf1 : ∀ o, (((w.alloc (.cells #[.bool b0, .slice p0 l0 c0] 47)).alloc (.cells #[.bool true, .slice q0 m0 e0'] 47)).alloc (.cells #[.int .i64 0, .int .i64 0] 24)).frozen? ⟨w.heap.size + 1, o, none⟩ = false := fun o => by simp [go_sem]
  generalize (((w.alloc (.cells #[.bool b0, .slice p0 l0 c0] 47)).alloc (.cells #[.bool true, .slice q0 m0 e0'] 47)).alloc (.cells #[.int .i64 0, .int .i64 0] 24)) = W0 at *
  refine (rneg_any _ n0 _ _ (hn.on Fa.bel (Nat.le_refl _)) (by have := hL.out; have := hn0.out; omega)).mono ?_
  rintro e V1 ⟨x, rfl, hx, hb⟩
  rw [← hn0.out] at hx
  obtain ⟨p, c, ds, rfl, -⟩ := id hx.form
  rw [hbn] at hx ⊢
  obtain ⟨pn, hpn⟩ : ∃ pn, p = pn := ⟨_, rfl⟩
  obtain ⟨ln, hln⟩ : ∃ ln, ds.length = ln := ⟨_, rfl⟩
  obtain ⟨cn, hcn⟩ : ∃ cn, c = cn := ⟨_, rfl⟩
  rw [hpn, hln, hcn] at hx ⊢
  have G1 := (Fa.next hb).put1 (.bool bn) (.slice pn ln cn)
  have s1 := Fa.size
  have hx1 := (hx.put (a := ⟨w.heap.size, 0, none⟩) (by simp; omega) (.bool bn)).put (a := ⟨w.heap.size, 1, none⟩) (by simp; omega) (.slice pn ln cn)
  obtain ⟨-, hz, k1, k2, k3, k4, ⟨x0, e0⟩, ⟨x1, e1⟩, fz⟩ := id (Fa.next hb)
  have f0 : ∀ o, V1.frozen? ⟨w.heap.size, o, none⟩ = false := fun o => by rw [hb.frozen (by simp; omega)]; exact hf0 o
  have f1 : ∀ o, V1.frozen? ⟨w.heap.size + 1, o, none⟩ = false := fun o => by rw [hb.frozen (by simp; omega)]; exact hf1 o
  have hd1 := hd.on G1.bel (Nat.le_refl _)
  clear hx hb hpn hln hcn
  go_wp2_with fail
  refine (rneg_any _ d0 _ _ hd1 (by have := hL.out; have := hD0.out; omega)).mono ?_
  rintro e V2 ⟨x, rfl, hx, hb⟩
  rw [← hD0.out] at hx
  obtain ⟨pd, ld, cd, rfl, hx⟩ := hx.nat D rfl
  have G2 := (G1.next hb).put2 (.bool false) (.slice pd ld cd)
  have s2 := G1.size
  have hd0 := (hx.put (a := ⟨w.heap.size + 1, 0, none⟩) (by simp; simp at s2; omega) (.bool false)).put (a := ⟨w.heap.size + 1, 1, none⟩) (by simp; simp at s2; omega) (.slice pd ld cd)
  have hn2 := ((hx1.on hb (Nat.le_refl _)).put (a := ⟨w.heap.size + 1, 0, none⟩) (by simp; omega) (.bool false)).put (a := ⟨w.heap.size + 1, 1, none⟩) (by simp; omega) (.slice pd ld cd)
  have f3 : ∀ o, V2.frozen? ⟨w.heap.size + 1, o, none⟩ = false := fun o => by rw [hb.frozen (by simp; omega)]; simp [go_sem, f1]
  clear k1 k2 k3 k4 e0 e1 x0 x1 fz hf0 hf1 f0 f1
  obtain ⟨-, hz2, k1, k2, k3, k4, ⟨x0, e0⟩, ⟨x1, e1⟩, fz⟩ := id (G1.next hb)
  clear hx hb hx1 hd1 Fa G1 hl0 hz s1 s2
  go_wp2_with fail
  have Fa := G2
  generalize ((V2.setCell ⟨w.heap.size + 1, 0, none⟩ (.bool false)).setCell ⟨w.heap.size + 1, 1, none⟩ (.slice pd ld cd)) = W0 at *
  clear G2 k1 k2 k3 k4 e0 e1 x0 x1 fz f3 hz2
  refine (rwhole_num _ n _ _ _ hn2 (by have := hL.out; omega)).mono ?_
  rintro e W1 ⟨x, rfl, hx, hb⟩
  obtain ⟨pa, la, ca, rfl, ha⟩ := hx.nat n.natAbs rfl
  have F1 := Fa.next hb
  have T := T4.first F1 (.slice pa la ca) (.slice pd ld cd) 47
  have bb : Below W1.heap.size W1 ((W1.alloc (.cells #[.bool false, .slice pa la ca] 47)).alloc (.cells #[.bool false, .slice pd ld cd] 47)) := ((Below.refl _ _).alloc (Nat.le_refl _) _).alloc (by simp) _
  have hd1 := hd0.on hb (Nat.le_refl _)
  have hn1 := hn2.on hb (Nat.le_refl _)
  have Hn := Lib.hid (fun (wr : World) (h : Below W1.heap.size W1 wr) => hn1.on h (Nat.le_refl _))
  have Hd := Lib.hid (fun (wr : World) (h : Below W1.heap.size W1 wr) => hd1.on h (Nat.le_refl _))
  have hA : NumOff (n.natAbs : Nat) W1.heap.size _ _ := .inr ⟨W1, _, ha, Nat.le_refl _, bb⟩
  have hB : NumOff (D : Int) W1.heap.size _ _ := .inr ⟨W1, _, hd1, Nat.le_refl _, bb⟩
  obtain ⟨-, hz, k1, k2, k3, k4, -, -, -⟩ := id F1
  clear hd1 hn1 hn2 hd0
  clear hx hb ha bb Fa F1
  have z0 : w.heap.size < W1.heap.size := by omega
  have z1 : w.heap.size + 1 < W1.heap.size := by omega
  have hg := Lib.hid (Gc.mk (g := Nat.gcd n.natAbs D) rfl hnL hDL)
  go_wp2_with fail
  generalize hG : W1.heap.size = G at *
  go_loopw [] (fun wr => ∃ (A Bv : Nat) (pa : Option Addr) (la ca : Nat) (pb : Option Addr) (lb cb : Nat), Hid (Gc (Nat.gcd n.natAbs D) L A Bv) ∧ T4 w (.bool bn) (.slice pn ln cn) (.bool false) (.slice pd ld cd) G (.slice pa la ca) (.slice pb lb cb) W1 wr ∧ NumOff (A : Int) G wr (.agg #[.bool false, .slice pa la ca]) ∧ NumOff (Bv : Int) G wr (.agg #[.bool false, .slice pb lb cb])) (fun wr => bAt (G + 1) wr)
  case atStart => exact ⟨_, _, _, _, _, _, _, _, hg, T, hA, hB⟩
  case round =>
    clear k1 k2 k3 k4 T hA hB hg hG hz z0 z1
    obtain ⟨A, Bv, pa, la, ca, pb, lb, cb, hg, T, hA, hB⟩ := hrel
    obtain ⟨-, -, k1, k2, k3, k4, ⟨x0, e0⟩, ⟨x1, e1⟩, k5, k6, k7, k8, gl, gs, f2, fa, fb⟩ := id T
    obtain ⟨BA, hA1⟩ := hA.is
    obtain ⟨BB, hB1⟩ := hB.is
    have hlb := nat_len hB1
    have hgl := hg.out
    by_cases hB0 : Bv = 0
    · obtain rfl : lb = 0 := hlb.2 hB0
      subst hB0
      clear hlb
      have HAg := Lib.hid hgl.last
      have hAL := hgl.la
      have hg0 : 0 < A := by
        rw [HAg.out]
        exact Nat.gcd_pos_of_pos_right _ hD
      have hK1 := hL.out
      clear hB hB1 hgl
      have HU : U4 w (.bool bn) (.slice pn ln cn) (.bool false) (.slice pd ld cd) G (.slice pa la ca) (.slice pb 0 cb) W1 (A : Int) wr.heap.size wr := ⟨T, T.gs, Nat.le_refl _, wr, BA, hA1, Nat.le_refl _, Below.refl _ _⟩
      clear hA T hA1
      have HPt : Hid (∀ W B z, U4 w (.bool bn) (.slice pn ln cn) (.bool false) (.slice pd ld cd) G (.slice pa la ca) (.slice pb 0 cb) W1 (A : Int) wr.heap.size W → NumIs (n.natAbs : Int) B W z → Calls Try.prog 39 #[z, .agg #[.bool false, .slice pa la ca]] W (PartsR ((n.natAbs : Int) / A) ((n.natAbs : Int) % A) W)) := Lib.hid fun W B z h hz => parts_of h hz hg0 (by omega) (by omega)
      go_upto_region 12 with fail
      go_cut [10] (fun s10 wx => ToldCut w (.bool bn) (.slice pn ln cn) (.bool false) (.slice pd ld cd) G (.slice pa la ca) (.slice pb 0 cb) W1 (A : Int) wr.heap.size (n.natAbs / A) s10 wx)
      case first =>
        go_region_held3 (fun w' => U4 w (.bool bn) (.slice pn ln cn) (.bool false) (.slice pd ld cd) G (.slice pa la ca) (.slice pb 0 cb) W1 (A : Int) wr.heap.size w' ∧ w'.cell? ⟨w.heap.size, 0, none⟩ = some (.bool bn) ∧ w'.cell? ⟨w.heap.size, 1, none⟩ = some (.slice pn ln cn) ∧ w'.cell? ⟨w.heap.size + 1, 0, none⟩ = some (.bool false) ∧ w'.cell? ⟨w.heap.size + 1, 1, none⟩ = some (.slice pd ld cd) ∧ w'.cell? ⟨G, 0, none⟩ = some (.bool false) ∧ w'.cell? ⟨G, 1, none⟩ = some (.slice pa la ca))
          (first
            | (refine keepU ?_; repeat (first | assumption | refine U4.alloc ?_ _ | refine U4.set ?_ _ (by first | (simp; done) | (simp; omega)) _ | refine U4.drew ?_)))
          (first
            | (go_at_call 44; refine (rwhole_num _ n _ _ _ (Hn.out _ (T4.bx (U4.t (And.left (by assumption))))) (by omega)).mono ?_; rintro e w4 ⟨z4, rfl, hz4, hb4⟩; have U' : U4 w (.bool bn) (.slice pn ln cn) (.bool false) (.slice pd ld cd) G (.slice pa la ca) (.slice pb 0 cb) W1 (A : Int) wr.heap.size w4 := U4.next (And.left (by assumption)) hb4; have z4' := U'.nz; obtain ⟨hc4, hf4, hm4⟩ := bcell3 hb4; obtain ⟨hn4, hn4'⟩ := bne3 hb4)
            | (go_at_call 39; refine (HPt.out _ _ _ (And.left (by assumption)) (by first | exact hz4 | exact num_alloc hz4 _ | exact num_alloc (num_alloc hz4 _) _)).mono ?_; rintro e w5 ⟨x5, y5, rfl, hx5, hy5, hb5⟩; have U5 : U4 w (.bool bn) (.slice pn ln cn) (.bool false) (.slice pd ld cd) G (.slice pa la ca) (.slice pb 0 cb) W1 (A : Int) wr.heap.size w5 := U4.next (And.left (by assumption)) hb5; have z5' := U5.nz; obtain ⟨hc5, hf5, hm5⟩ := bcell3 hb5; have hb45 := below_via hb4 (by first | exact Below.refl _ _ | exact (Below.refl _ _).alloc (Nat.le_refl _) _ | exact ((Below.refl _ _).alloc (Nat.le_refl _) _).alloc (by simp) _) hb5; obtain ⟨hc45, hf45, hm45⟩ := bcell3 hb45; have hp5 := put_at hb5; have hp45 := put_at hb45; obtain ⟨px, lx, cx, rfl, hx5⟩ := hx5.nat (n.natAbs / A) (by simp); obtain ⟨by5, py, ly, cy, rfl⟩ := hy5.parts))
        all_goals
          go_wp2_with fail
          go_meet
          refine ⟨_, px, lx, cx, rfl, ?_, ?_, ?_, ?_, ?_⟩
          · have s5 := hb5.size
            have s4 := hb4.size
            simp at s5 s4 ⊢
            try omega
          · repeat (first | assumption | with_reducible refine U4.alloc ?_ _ | with_reducible refine U4.set ?_ _ (by first | (simp; done) | (simp; omega)) _)
          · first | (simp [go_sem]; done) | (repeat (first | with_reducible refine al_cell ?_ _ | with_reducible refine two0 (by first | exact ⟨_, hp5 _ _ (by first | (simp; done) | (simp; omega)) (by simp [go_sem]; rfl)⟩ | exact ⟨_, hp45 _ _ (by first | (simp; done) | (simp; omega)) (by simp [go_sem]; rfl)⟩) _ _ | with_reducible refine two1 (by first | exact ⟨_, hp5 _ _ (by first | (simp; done) | (simp; omega)) (by simp [go_sem]; rfl)⟩ | exact ⟨_, hp45 _ _ (by first | (simp; done) | (simp; omega)) (by simp [go_sem]; rfl)⟩) _ _ | with_reducible refine far2 ?_ (by first | omega | (simp [*]; done)) _ _))
          · first | (simp [go_sem]; done) | (repeat (first | with_reducible refine al_cell ?_ _ | with_reducible refine two0 (by first | exact ⟨_, hp5 _ _ (by first | (simp; done) | (simp; omega)) (by simp [go_sem]; rfl)⟩ | exact ⟨_, hp45 _ _ (by first | (simp; done) | (simp; omega)) (by simp [go_sem]; rfl)⟩) _ _ | with_reducible refine two1 (by first | exact ⟨_, hp5 _ _ (by first | (simp; done) | (simp; omega)) (by simp [go_sem]; rfl)⟩ | exact ⟨_, hp45 _ _ (by first | (simp; done) | (simp; omega)) (by simp [go_sem]; rfl)⟩) _ _ | with_reducible refine far2 ?_ (by first | omega | (simp [*]; done)) _ _))
          · refine num_up hx5 (fun h => ?_)
            have s4 := hb4.size
            try simp at s4
            repeat (first | with_reducible exact h | with_reducible refine num_alloc ?_ _ | with_reducible refine NumIs.put ?_ (by first | (simp; done) | (simp; omega)) _)
      case rest =>
        obtain ⟨P, px, lx, cx, rfl, hP, HU5, q1, q2, BP, hp⟩ := hcut
        clear HU k1 k2 k3 k4 k5 k6 k7 k8 e0 e1 f2 fa fb x0 x1 gl gs
        have hPN := HU5.t.gs
        obtain ⟨⟨-, -, k1, k2, k3, k4, ⟨x0, e0⟩, ⟨x1, e1⟩, k5, k6, k7, k8, gl, gs, f2, fa, fb⟩, gn, nz, W0, BA0, h01, h02, h03⟩ := id HU5
        have hA5 := h01.on h03 h02
        go_wp2_with fail
        refine (rparts_any _ (D : Int) A _ _ _ _ (Hd.out _ HU5.t.bx) hA5 hg0 (by omega) (by omega)).mono ?_
        rintro e w6 ⟨x6, y6, rfl, hx6, hy6, hb6⟩
        obtain ⟨pq, lq, cq, rfl, hx6q⟩ := hx6.nat (D / A) (by simp)
        obtain ⟨by6, py6, ly6, cy6, rfl⟩ := hy6.parts
        have HU6 := HU5.next hb6
        have q1' := (hb6.cell (p := ⟨P, 0, none⟩) hP).trans q1
        have q2' := (hb6.cell (p := ⟨P, 1, none⟩) hP).trans q2
        have hp6 := num_alloc (num_alloc (hp.on hb6 (Nat.le_refl _)) (.cells #[.bool false, .slice pq lq cq] 47)) (.cells #[.bool by6, .slice py6 ly6 cy6] 47)
        have hq6 := num_alloc (num_alloc hx6q (.cells #[.bool false, .slice pq lq cq] 47)) (.cells #[.bool by6, .slice py6 ly6 cy6] 47)
        have HU7 := (HU6.alloc (.cells #[.bool false, .slice pq lq cq] 47)).alloc (.cells #[.bool by6, .slice py6 ly6 cy6] 47)
        have hP6 : P < w6.heap.size := Nat.lt_of_lt_of_le hP hb6.size
        clear q1 q2 hp hx6 hx6q hy6 hb6 HU5 h01 h02 h03 hA5 W0 BA0
        go_wp2_with fail
        have hp1 : n.natAbs / A ≤ L := Nat.le_trans (Nat.div_le_self _ _) hnL
        have hq1 : D / A ≤ L := Nat.le_trans (Nat.div_le_self _ _) hDL
        have HNO := Lib.hid (fun w' h => told_no n D A (n.natAbs / A) (D / A) hD HAg.out rfl rfl h w w')
        have HYES := Lib.hid (fun h1 h2 w' => told_yes n D A (n.natAbs / A) (D / A) hD HAg.out rfl rfl h1 h2 w w')
        rw [hbn] at HYES
        generalize n.natAbs / A = p at *
        generalize D / A = q at *
        refine (rint_any _ (p : Int) _ _ hp6 (by omega)).mono ?_
        rintro e w7 ⟨x7, rfl, hx7, hb7⟩
        have HU8 := HU7.next hb7
        have hq7 := hq6.on hb7 (Nat.le_refl _)
        have r1 : w7.cell? ⟨w6.heap.size, 0, none⟩ = some (.bool false) := (hb7.cell (p := ⟨w6.heap.size, 0, none⟩) (by simp; omega)).trans (by simp [go_sem])
        have r2 : w7.cell? ⟨w6.heap.size, 1, none⟩ = some (.slice pq lq cq) := (hb7.cell (p := ⟨w6.heap.size, 1, none⟩) (by simp; omega)).trans (by simp [go_sem])
        clear hp6 hq6 hb7 HU6 HU7 q1' q2' hP6 hP
        generalize hdp : decide (-9223372036854775808 ≤ (p : Int) ∧ (p : Int) ≤ 9223372036854775807) = dp at *
        go_wp2_with fail
        refine (rint_any _ (q : Int) _ _ hq7 (by omega)).mono ?_
        rintro e w8 ⟨x8, rfl, hx8, hb8⟩
        have HU9 := HU8.next hb8
        clear hq7 hb8 HU8 k1 k2 k3 k4 k5 k6 k7 k8 e0 e1 f2 fa fb x0 x1 gl gs gn nz
        obtain ⟨-, HB8, k1, k2, k3, k4, ⟨x0, e0⟩, ⟨x1, e1⟩, k5, k6, k7, k8, gl, gs, f2, fa, fb⟩ := id HU9.t
        generalize hdq : decide (-9223372036854775808 ≤ (q : Int) ∧ (q : Int) ≤ 9223372036854775807) = dq at *
        clear HU9 Hn Hd
        cases dp with
        | false =>
          have hpn : ¬ (p : Int) ≤ 9223372036854775807 := by
            have := of_decide_eq_false hdp
            omega
          clear hdp
          go_wp2_with fail
          refine bodyPost_ret (v := .tuple #[.agg #[.int .i64 0, .int .i64 0], .bool false]) (by simp [results, Try.results26, go_sem, e0, e1]) rfl (HNO.out _ (fun h => absurd h.1 (by omega)) ((HB8.setCell (p := ⟨w.heap.size + 1 + 1, 0, none⟩) (by simp; omega) (.int .i64 0)).setCell (p := ⟨w.heap.size + 1 + 1, 1, none⟩) (by simp; omega) (.int .i64 0)))
        | true =>
          have hpy : (p : Int) ≤ 9223372036854775807 := (of_decide_eq_true hdp).2
          obtain rfl := hx7 (of_decide_eq_true hdp)
          clear hdp
          cases dq with
          | false =>
            have hpn : ¬ (q : Int) ≤ 9223372036854775807 := by
              have := of_decide_eq_false hdq
              omega
            clear hdq
            go_wp2_with fail
            refine bodyPost_ret (v := .tuple #[.agg #[.int .i64 0, .int .i64 0], .bool false]) (by simp [results, Try.results26, go_sem, e0, e1]) rfl (HNO.out _ (fun h => absurd h.2 (by omega)) ((HB8.setCell (p := ⟨w.heap.size + 1 + 1, 0, none⟩) (by simp; omega) (.int .i64 0)).setCell (p := ⟨w.heap.size + 1 + 1, 1, none⟩) (by simp; omega) (.int .i64 0)))
          | true =>
            have hqy : (q : Int) ≤ 9223372036854775807 := (of_decide_eq_true hdq).2
            obtain rfl := hx8 (of_decide_eq_true hdq)
            clear hdq
            cases bn with
            | false =>
              have Q := Lib.hid (HYES.out hpy hqy _ ((HB8.setCell (p := ⟨w.heap.size + 1 + 1, 0, none⟩) (by simp; omega) (.int .i64 p)).setCell (p := ⟨w.heap.size + 1 + 1, 1, none⟩) (by simp; omega) (.int .i64 q)))
              clear hbn
              go_wp2_with fail
              refine bodyPost_ret (v := .tuple #[.agg #[.int .i64 p, .int .i64 q], .bool true]) (by simp [results, Try.results26, go_sem, e0, e1]) rfl Q.out
            | true =>
              have Q := Lib.hid (HYES.out hpy hqy _ ((HB8.setCell (p := ⟨w.heap.size + 1 + 1, 0, none⟩) (by simp; omega) (.int .i64 (-(p : Int)))).setCell (p := ⟨w.heap.size + 1 + 1, 1, none⟩) (by simp; omega) (.int .i64 q)))
              have g1 : wrap64 (-(p : Int)) = -(p : Int) := by unfold wrap64; omega
              have g2 : IntKind.i64.wrap (-(p : Int)) = -(p : Int) := by rw [IntKind.wrap_i64]; omega
              clear hbn
              go_wp2_with fail
              refine bodyPost_ret (v := .tuple #[.agg #[.int .i64 (-(p : Int)), .int .i64 q], .bool true]) (by simp [results, Try.results26, go_sem, e0, e1]) rfl Q.out
    · have hl1 : 0 < lb := by omega
      have hmod := (Int.natCast_emod A Bv)
      clear hlb
      go_wp2_with fail
      refine (rparts_any _ (A : Int) Bv _ _ _ _ hA1 hB1 (by omega) (by have := hL.out; have := hgl.la; omega) (by have := hL.out; have := hgl.lb; omega)).mono ?_
      rintro e W3 ⟨x, y, rfl, hx, hy, hb⟩
      obtain ⟨bx, px, lx, cx, rfl⟩ := hx.parts
      obtain ⟨py, ly, cy, rfl, hy⟩ := hy.nat (A % Bv) (by rw [hmod])
      have T3 := T.next hb
      have g3 := T3.gs
      have T5 := ((((T3.puta (.slice pb lb cb)).putb (.slice py ly cy)).alloc (.cells #[.bool bx, .slice px lx cx] 47)).alloc (.cells #[.bool false, .slice py ly cy] 47))
      have b2 : ∀ W : World, Below W.heap.size W ((W.alloc (.cells #[.bool bx, .slice px lx cx] 47)).alloc (.cells #[.bool false, .slice py ly cy] 47)) := fun W => ((Below.refl _ _).alloc (Nat.le_refl _) _).alloc (by simp) _
      have hA5 := ((((((hB.next hb (by omega)).put0 0 (.bool false)).put0 1 (.slice pb lb cb)).put1 0 (.bool false)).put1 1 (.slice py ly cy)).next (b2 _) (by simp; omega))
      have hB5 : NumOff _ G _ _ := .inl (((((((hy.mono (C := G + 1 + 1) (by omega)).put (a := ⟨G, 0, none⟩) (by simp; omega) (.bool false)).put (a := ⟨G, 1, none⟩) (by simp; omega) (.slice pb lb cb)).put (a := ⟨G + 1, 0, none⟩) (by simp) (.bool false)).put (a := ⟨G + 1, 1, none⟩) (by simp) (.slice py ly cy)).on (b2 _) (Nat.le_refl _)))
      have m1 := bAt_num T.b1 hB1
      have m5 := bAt_num T5.b1 hB5.is.choose_spec
      have hng := Lib.hid (hg.out.next (show 0 < Bv by omega))
      have z0 : w.heap.size < W3.heap.size := by omega
      have z1 : w.heap.size + 1 < W3.heap.size := by omega
      have z2 : G < W3.heap.size := by omega
      clear hx hy hb T hA hB hA1 hB1 k1 k2 k3 k4 k5 k6 k7 k8 e0 e1 f2 fa fb b2 hgl
      obtain ⟨-, -, k1, k2, k3, k4, ⟨x0, e0⟩, ⟨x1, e1⟩, k5, k6, k7, k8, -, -, f2, fa, fb⟩ := id T3
      go_wp2_with fail
      go_roundw
      case rel => exact ⟨Bv, A % Bv, _, _, _, _, _, _, hng, T5, hA5, hB5⟩
      case measure => rw [m1, m5]; exact Nat.mod_lt _ (by omega)

theorem makeO_neg (n d : Int) : makeO (-n) (-d) = makeO n d := by
  unfold makeO
  by_cases h : d = 0
  · subst h; rfl
  · rw [if_neg h, if_neg (by omega), Rat.neg_divInt_neg]
theorem rtold_any (w : World) (n d : Int) (x y : Value) (B1 B2 : Nat) (hx : NumIs n B1 w x) (hy : NumIs d B2 w y) (hn : n.natAbs < 65536 ^ 99) (hd : d.natAbs < 65536 ^ 99) :
    Calls Try.prog 26 #[x, y] w (RatO (cutQ (makeO n d)) w) := by
  have hL : 4 * (65536 ^ 99) + 4 < 65536 ^ 100 := by decide
  obtain ⟨p1, c1, ds1, rfl, hr1, hm1, hd1⟩ := hx.form
  obtain ⟨p2, c2, ds2, rfl, hr2, hm2, hd2⟩ := hy.form
  by_cases h0 : d = 0
  · have hl : ds2.length = 0 := by
      rw [List.length_eq_zero_iff, ← hm2.zero, hd2, h0]
      rfl
    rw [hl, h0]
    exact rtold_zero w _ _ _ _ _ _ _
  · have hl : ds2.length ≠ 0 := by
      intro e
      rw [List.length_eq_zero_iff] at e
      rw [e] at hd2
      have : d.natAbs = 0 := hd2.symm
      omega
    by_cases hneg : d < 0
    · have e1 : decide (d < 0) = true := by simpa using hneg
      rw [← makeO_neg, show -d = ((d.natAbs : Nat) : Int) by omega]
      rw [e1] at hy ⊢
      exact rtold_neg w (-n) n d (Lib.hid rfl) _ _ rfl d.natAbs (65536 ^ 99) (by omega) (Lib.hid (by omega)) _ _ _ _ _ _ B1 B2 hx hy hl (Lib.hid hL) (by rw [Int.natAbs_neg]; omega) (by omega)
    · have e1 : decide (d < 0) = false := by simpa using hneg
      rw [e1] at hy ⊢
      have e2 : d = ((d.natAbs : Nat) : Int) := by omega
      rw [e2]
      rw [e2] at hy
      exact rtold_pos w n _ rfl d.natAbs (65536 ^ 99) (by omega) _ _ _ _ _ _ B1 B2 hx hy (Lib.hid hL) (by omega) (by omega)
end Go.Proofs.Ytnbloflgggndiaa
