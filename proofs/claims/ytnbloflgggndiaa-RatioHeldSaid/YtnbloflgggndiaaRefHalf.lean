/- The contract of the reference's Half. -/
import Derived.Test.YtnbloflgggndiaaRefMake
namespace Go.Proofs.Ytnbloflgggndiaa
open Go.RowKit Rf Rt

/-- What is known of a world within a call of two numbers that answers no number: where they lie. -/
structure N2 (w : World) (n d : Int) (b1 : Bool) (v1 : Value) (b2 : Bool) (v2 : Value) (W : World) : Prop where
  bel : Below w.heap.size w W
  size : w.heap.size + 1 + 1 ≤ W.heap.size
  c1 : W.cell? ⟨w.heap.size, 0, none⟩ = some (.bool b1)
  c2 : W.cell? ⟨w.heap.size, 1, none⟩ = some v1
  c3 : W.cell? ⟨w.heap.size + 1, 0, none⟩ = some (.bool b2)
  c4 : W.cell? ⟨w.heap.size + 1, 1, none⟩ = some v2
  hn : ∃ B, NumIs n B w (.agg #[.bool b1, v1])
  hd : ∃ B, NumIs d B w (.agg #[.bool b2, v2])
theorem N2.next {w W W' : World} {n d : Int} {b1 b2 : Bool} {v1 v2 : Value} (h : N2 w n d b1 v1 b2 v2 W) (hb : Below W.heap.size W W') : N2 w n d b1 v1 b2 v2 W' where
  bel := h.bel.trans (hb.mono h.bel.size)
  size := Nat.le_trans h.size hb.size
  c1 := by rw [hb.cell (by have := h.size; simp; omega)]; exact h.c1
  c2 := by rw [hb.cell (by have := h.size; simp; omega)]; exact h.c2
  c3 := by rw [hb.cell (by have := h.size; simp; omega)]; exact h.c3
  c4 := by rw [hb.cell (by have := h.size; simp; omega)]; exact h.c4
  hn := h.hn
  hd := h.hd
theorem N2.first {w : World} {n d : Int} {b1 b2 : Bool} {v1 v2 : Value} (hn : ∃ B, NumIs n B w (.agg #[.bool b1, v1])) (hd : ∃ B, NumIs d B w (.agg #[.bool b2, v2])) (T : TypeId) : N2 w n d b1 v1 b2 v2 ((w.alloc (.cells #[.bool b1, v1] T)).alloc (.cells #[.bool b2, v2] T)) :=
  ⟨((Below.refl _ _).alloc (Nat.le_refl _) _).alloc (by simp) _, by simp, by simp [go_sem], by simp [go_sem], by simp [go_sem], by simp [go_sem], hn, hd⟩
theorem N2.drew {w W : World} {n d : Int} {b1 b2 : Bool} {v1 v2 : Value} (h : N2 w n d b1 v1 b2 v2 W) : N2 w n d b1 v1 b2 v2 W.drew := h.next (below_drewN (Below.refl _ _) 1)
theorem N2.alloc {w W : World} {n d : Int} {b1 b2 : Bool} {v1 v2 : Value} (h : N2 w n d b1 v1 b2 v2 W) (o : Obj) : N2 w n d b1 v1 b2 v2 (W.alloc o) := h.next ((Below.refl _ _).alloc (Nat.le_refl _) o)
theorem N2.set {w W : World} {n d : Int} {b1 b2 : Bool} {v1 v2 : Value} (h : N2 w n d b1 v1 b2 v2 W) (p : Addr) (hp : w.heap.size + 1 + 1 ≤ p.block) (u : Value) : N2 w n d b1 v1 b2 v2 (W.setCell p u) := by
  have hb : Below (w.heap.size + 1 + 1) W (W.setCell p u) := (Below.refl _ _).setCell hp u
  refine ⟨h.bel.setCell (by omega) u, by simpa using h.size, ?_, ?_, ?_, ?_, h.hn, h.hd⟩
  · rw [hb.cell (by simp; omega)]; exact h.c1
  · rw [hb.cell (by simp; omega)]; exact h.c2
  · rw [hb.cell (by simp)]; exact h.c3
  · rw [hb.cell (by simp)]; exact h.c4
theorem N2.n {w W : World} {n d : Int} {b1 b2 : Bool} {v1 v2 : Value} (h : N2 w n d b1 v1 b2 v2 W) : NumE n W (.agg #[.bool b1, v1]) := by
  obtain ⟨B, hn⟩ := h.hn
  exact ⟨B, hn.on h.bel (Nat.le_refl _)⟩
theorem N2.d {w W : World} {n d : Int} {b1 b2 : Bool} {v1 v2 : Value} (h : N2 w n d b1 v1 b2 v2 W) : NumE d W (.agg #[.bool b2, v2]) := by
  obtain ⟨B, hn⟩ := h.hd
  exact ⟨B, hn.on h.bel (Nat.le_refl _)⟩
theorem keepN2n {w W : World} {n d : Int} {b1 b2 : Bool} {v1 v2 : Value} (h : N2 w n d b1 v1 b2 v2 W) : N2 w n d b1 v1 b2 v2 W ∧ W.cell? ⟨w.heap.size, 0, none⟩ = some (.bool b1) ∧ W.cell? ⟨w.heap.size, 1, none⟩ = some v1 ∧ W.cell? ⟨w.heap.size + 1, 0, none⟩ = some (.bool b2) ∧ W.cell? ⟨w.heap.size + 1, 1, none⟩ = some v2 := ⟨h, h.c1, h.c2, h.c3, h.c4⟩

theorem rsumE {w : World} {n m : Int} {x y : Value} (hx : NumE n w x) (hy : NumE m w y) (hn : n.natAbs < 65536 ^ 100) (hm : m.natAbs < 65536 ^ 100) : Calls Try.prog 35 #[x, y] w (NumR (n + m) w) := by
  obtain ⟨B1, hx⟩ := hx
  obtain ⟨B2, hy⟩ := hy
  exact rsum_any w n m x y B1 B2 hx hy hn hm
theorem rtimesE {w : World} {n m : Int} {x y : Value} (hx : NumE n w x) (hy : NumE m w y) (hn : n.natAbs < 65536 ^ 100) (hm : m.natAbs < 65536 ^ 100) : Calls Try.prog 34 #[x, y] w (NumR (n * m) w) := by
  obtain ⟨B1, hx⟩ := hx
  obtain ⟨B2, hy⟩ := hy
  exact rtimes_any w n m x y B1 B2 hx hy hn hm
theorem rnegE {w : World} {n : Int} {x : Value} (hx : NumE n w x) (hn : n.natAbs < 65536 ^ 100) : Calls Try.prog 36 #[x] w (NumR (-n) w) := by
  obtain ⟨B1, hx⟩ := hx
  exact rneg_any w n x B1 hx hn
theorem rpartsE {w : World} {n d : Int} {x y : Value} (hx : NumE n w x) (hy : NumE d w y) (hd : 0 < d) (hn : 4 * n.natAbs + 4 < 65536 ^ 100) (hm : 4 * d.natAbs + 4 < 65536 ^ 100) : Calls Try.prog 39 #[x, y] w (PartsR (n / d) (n % d) w) := by
  obtain ⟨B1, hx⟩ := hx
  obtain ⟨B2, hy⟩ := hy
  obtain ⟨D, rfl⟩ : ∃ D : Nat, d = D := ⟨d.natAbs, by omega⟩
  exact rparts_any w n D x y B1 B2 hx hy (by omega) hn (by simpa using hm)
theorem NumE.parts {n : Int} {W : World} {x : Value} (h : NumE n W x) : ∃ b p l c, x = .agg #[.bool b, .slice p l c] := by
  obtain ⟨B, h⟩ := h
  exact h.parts
theorem rintE {w : World} {n : Int} {x : Value} (hx : NumE n w x) (hn : n.natAbs < 65536 ^ 100) : Calls Try.prog 40 #[x] w (IntR n w) := by
  obtain ⟨B, h⟩ := hx
  exact rint_any w n x B h hn

/-- What is known behind a region that leaves a number in a box. -/
def NumCut (R : World → Prop) (v : Int) (s : Value) (wx : World) : Prop :=
  ∃ (P : Nat) (b : Bool) (px : Option Addr) (lx cx : Nat), s = .pointer (some ⟨P, 0, none⟩) ∧ P < wx.heap.size ∧ R wx ∧ wx.cell? ⟨P, 0, none⟩ = some (.bool b) ∧ wx.cell? ⟨P, 1, none⟩ = some (.slice px lx cx) ∧ ∃ B, NumIs v B wx (.agg #[.bool b, .slice px lx cx])

set_option maxHeartbeats 8000000 in
theorem half_walk (n d v : Int) (w : World) (b1 b2 : Bool) (p1 p2 : Option Addr) (l1 c1 l2 c2 : Nat) (hn : ∃ B, NumIs n B w (.agg #[.bool b1, .slice p1 l1 c1])) (hd : ∃ B, NumIs d B w (.agg #[.bool b2, .slice p2 l2 c2])) (hv : Hid ((n + n + d) / (d + d) = v)) (h0 : 0 < d) (L : Nat) (hL : Hid (100 * L + 100 < 65536 ^ 100)) (hnL : n.natAbs ≤ L) (hdL : d.natAbs ≤ L) (hvL : v.natAbs ≤ 4 * L) :
    Calls Try.prog 41 #[.agg #[.bool b1, .slice p1 l1 c1], .agg #[.bool b2, .slice p2 l2 c2]] w (TupIs (toldN v) (toldB v) w) := by
  have F1 := N2.first hn hd 47
  have hL1 := hL.out
  have HS1 : Hid (∀ W, N2 w n d b1 (.slice p1 l1 c1) b2 (.slice p2 l2 c2) W → Calls Try.prog 35 #[.agg #[.bool b1, .slice p1 l1 c1], .agg #[.bool b1, .slice p1 l1 c1]] W (NumR (n + n) W)) := Lib.hid fun W h => rsumE h.n h.n (by omega) (by omega)
  have HS2 : Hid (∀ W, N2 w n d b1 (.slice p1 l1 c1) b2 (.slice p2 l2 c2) W → ∀ z, NumE (n + n) W z → Calls Try.prog 35 #[z, .agg #[.bool b2, .slice p2 l2 c2]] W (NumR (n + n + d) W)) := Lib.hid fun W h z hz => rsumE hz h.d (by omega) (by omega)
  have HS3 : Hid (∀ W, N2 w n d b1 (.slice p1 l1 c1) b2 (.slice p2 l2 c2) W → Calls Try.prog 35 #[.agg #[.bool b2, .slice p2 l2 c2], .agg #[.bool b2, .slice p2 l2 c2]] W (NumR (d + d) W)) := Lib.hid fun W h => rsumE h.d h.d (by omega) (by omega)
  have HP4 : Hid (∀ W, N2 w n d b1 (.slice p1 l1 c1) b2 (.slice p2 l2 c2) W → ∀ x, NumE (n + n + d) W x → ∀ y, NumE (d + d) W y → Calls Try.prog 39 #[x, y] W (PartsR v ((n + n + d) % (d + d)) W)) := Lib.hid fun W _ x hx y hy => by
    have := rpartsE hx hy (by omega) (by omega) (by omega)
    rw [hv.out] at this
    exact this
  clear hn hd
  go_enter Try.func41, Try.ntmps41
  go_upto_region 1 with fail
  generalize ((w.alloc (.cells #[.bool b1, .slice p1 l1 c1] 47)).alloc (.cells #[.bool b2, .slice p2 l2 c2] 47)) = wr at *
  obtain ⟨hF, hz, k1, k2, k3, k4, -, -⟩ := id F1
  clear hL1
  go_cut [6] (fun s6 wx => NumCut (N2 w n d b1 (.slice p1 l1 c1) b2 (.slice p2 l2 c2)) v s6 wx)
  case first =>
    go_region_held3 (fun w' => N2 w n d b1 (.slice p1 l1 c1) b2 (.slice p2 l2 c2) w' ∧ w'.cell? ⟨w.heap.size, 0, none⟩ = some (.bool b1) ∧ w'.cell? ⟨w.heap.size, 1, none⟩ = some (.slice p1 l1 c1) ∧ w'.cell? ⟨w.heap.size + 1, 0, none⟩ = some (.bool b2) ∧ w'.cell? ⟨w.heap.size + 1, 1, none⟩ = some (.slice p2 l2 c2))
      (first
        | (refine keepN2n ?_; repeat (first | assumption | with_reducible refine N2.alloc ?_ _ | with_reducible refine N2.set ?_ _ (by first | (simp; done) | (simp; omega)) _ | with_reducible refine N2.drew ?_)))
      (first
        | (go_at_call 35 ; refine (HS1.out _ (And.left (by assumption)) ).mono ?_; clear HS1; rintro e v1 ⟨z1, rfl, hz1, hb1⟩; have HR1 : N2 w n d b1 (.slice p1 l1 c1) b2 (.slice p2 l2 c2) v1 := N2.next (And.left (by assumption)) hb1; have rs1 := N2.size HR1; have ez1 : NumE _ v1 z1 := ⟨_, hz1⟩; obtain ⟨n1hb1, n2hb1⟩ := bne3 hb1)
        | (go_at_call 35 ; refine (HS2.out _ (And.left (by assumption)) _ (by repeat (first | with_reducible exact ez1 | with_reducible refine NumE.alloc ?_ _))).mono ?_; clear HS2; rintro e v2 ⟨z2, rfl, hz2, hb2⟩; have HR2 : N2 w n d b1 (.slice p1 l1 c1) b2 (.slice p2 l2 c2) v2 := N2.next (And.left (by assumption)) hb2; have rs2 := N2.size HR2; have ez1 := NumE.via ez1 (by first | exact Below.refl _ _ | exact (Below.refl _ _).alloc (Nat.le_refl _) _ | exact ((Below.refl _ _).alloc (Nat.le_refl _) _).alloc (by simp) _) hb2; have ez2 : NumE _ v2 z2 := ⟨_, hz2⟩; have hb1_2 := below_via hb1 (by first | exact Below.refl _ _ | exact (Below.refl _ _).alloc (Nat.le_refl _) _ | exact ((Below.refl _ _).alloc (Nat.le_refl _) _).alloc (by simp) _) hb2; obtain ⟨n1hb1_2, n2hb1_2⟩ := bne3 hb1_2; obtain ⟨n1hb2, n2hb2⟩ := bne3 hb2)
        | (go_at_call 35 ; refine (HS3.out _ (And.left (by assumption)) ).mono ?_; clear HS3; rintro e v3 ⟨z3, rfl, hz3, hb3⟩; have HR3 : N2 w n d b1 (.slice p1 l1 c1) b2 (.slice p2 l2 c2) v3 := N2.next (And.left (by assumption)) hb3; have rs3 := N2.size HR3; have ez1 := NumE.via ez1 (by first | exact Below.refl _ _ | exact (Below.refl _ _).alloc (Nat.le_refl _) _ | exact ((Below.refl _ _).alloc (Nat.le_refl _) _).alloc (by simp) _) hb3; have ez2 := NumE.via ez2 (by first | exact Below.refl _ _ | exact (Below.refl _ _).alloc (Nat.le_refl _) _ | exact ((Below.refl _ _).alloc (Nat.le_refl _) _).alloc (by simp) _) hb3; have ez3 : NumE _ v3 z3 := ⟨_, hz3⟩; have hb1_3 := below_via hb1_2 (by first | exact Below.refl _ _ | exact (Below.refl _ _).alloc (Nat.le_refl _) _ | exact ((Below.refl _ _).alloc (Nat.le_refl _) _).alloc (by simp) _) hb3; have hb2_3 := below_via hb2 (by first | exact Below.refl _ _ | exact (Below.refl _ _).alloc (Nat.le_refl _) _ | exact ((Below.refl _ _).alloc (Nat.le_refl _) _).alloc (by simp) _) hb3; obtain ⟨n1hb1_3, n2hb1_3⟩ := bne3 hb1_3; obtain ⟨n1hb2_3, n2hb2_3⟩ := bne3 hb2_3; obtain ⟨n1hb3, n2hb3⟩ := bne3 hb3)
        | (go_at_call 39 ; refine (HP4.out _ (And.left (by assumption)) _ (by repeat (first | with_reducible exact ez2 | with_reducible refine NumE.alloc ?_ _)) _ (by repeat (first | with_reducible exact ez3 | with_reducible refine NumE.alloc ?_ _))).mono ?_; clear HP4; rintro e v4 ⟨xx, yy, rfl, hxx, hyy, hb4⟩; obtain ⟨bx, px, lx, cx, rfl⟩ := hxx.parts; obtain ⟨by', py, ly, cy, rfl⟩ := hyy.parts; have HR4 : N2 w n d b1 (.slice p1 l1 c1) b2 (.slice p2 l2 c2) v4 := N2.next (And.left (by assumption)) hb4; have rs4 := N2.size HR4; have ez1 := NumE.via ez1 (by first | exact Below.refl _ _ | exact (Below.refl _ _).alloc (Nat.le_refl _) _ | exact ((Below.refl _ _).alloc (Nat.le_refl _) _).alloc (by simp) _) hb4; have ez2 := NumE.via ez2 (by first | exact Below.refl _ _ | exact (Below.refl _ _).alloc (Nat.le_refl _) _ | exact ((Below.refl _ _).alloc (Nat.le_refl _) _).alloc (by simp) _) hb4; have ez3 := NumE.via ez3 (by first | exact Below.refl _ _ | exact (Below.refl _ _).alloc (Nat.le_refl _) _ | exact ((Below.refl _ _).alloc (Nat.le_refl _) _).alloc (by simp) _) hb4; have hb1_4 := below_via hb1_3 (by first | exact Below.refl _ _ | exact (Below.refl _ _).alloc (Nat.le_refl _) _ | exact ((Below.refl _ _).alloc (Nat.le_refl _) _).alloc (by simp) _) hb4; have hb2_4 := below_via hb2_3 (by first | exact Below.refl _ _ | exact (Below.refl _ _).alloc (Nat.le_refl _) _ | exact ((Below.refl _ _).alloc (Nat.le_refl _) _).alloc (by simp) _) hb4; have hb3_4 := below_via hb3 (by first | exact Below.refl _ _ | exact (Below.refl _ _).alloc (Nat.le_refl _) _ | exact ((Below.refl _ _).alloc (Nat.le_refl _) _).alloc (by simp) _) hb4; obtain ⟨n1hb1_4, n2hb1_4⟩ := bne3 hb1_4; obtain ⟨n1hb2_4, n2hb2_4⟩ := bne3 hb2_4; obtain ⟨n1hb3_4, n2hb3_4⟩ := bne3 hb3_4; obtain ⟨n1hb4, n2hb4⟩ := bne3 hb4; obtain ⟨chb1_4, fhb1_4, mhb1_4⟩ := bcell3 hb1_4; have phb1_4 := put_at hb1_4; obtain ⟨chb2_4, fhb2_4, mhb2_4⟩ := bcell3 hb2_4; have phb2_4 := put_at hb2_4; obtain ⟨chb3_4, fhb3_4, mhb3_4⟩ := bcell3 hb3_4; have phb3_4 := put_at hb3_4; obtain ⟨chb4, fhb4, mhb4⟩ := bcell3 hb4; have phb4 := put_at hb4))
    all_goals
      go_wp2_with fail
      go_meet
      refine ⟨_, bx, px, lx, cx, rfl, ?_, ?_, ?_, ?_, ?_⟩
      · skip
        have s1 := hb1.size
        try simp at s1
        have s2 := hb2.size
        try simp at s2
        have s3 := hb3.size
        try simp at s3
        have s4 := hb4.size
        try simp at s4
        simp
        try omega
      · repeat (first | assumption | with_reducible refine N2.alloc ?_ _ | with_reducible refine N2.set ?_ _ (by first | (simp; done) | (simp; omega)) _ | with_reducible refine N2.drew ?_)
      · first | (simp [go_sem]; done) | (repeat (first | with_reducible refine al_cell ?_ _ | with_reducible refine two0 (by first | exact ⟨_, phb4 _ _ (by first | (simp; done) | (simp; omega)) (by simp [go_sem]; rfl)⟩ | exact ⟨_, phb3_4 _ _ (by first | (simp; done) | (simp; omega)) (by simp [go_sem]; rfl)⟩ | exact ⟨_, phb2_4 _ _ (by first | (simp; done) | (simp; omega)) (by simp [go_sem]; rfl)⟩ | exact ⟨_, phb1_4 _ _ (by first | (simp; done) | (simp; omega)) (by simp [go_sem]; rfl)⟩) _ _ | with_reducible refine two1 (by first | exact ⟨_, phb4 _ _ (by first | (simp; done) | (simp; omega)) (by simp [go_sem]; rfl)⟩ | exact ⟨_, phb3_4 _ _ (by first | (simp; done) | (simp; omega)) (by simp [go_sem]; rfl)⟩ | exact ⟨_, phb2_4 _ _ (by first | (simp; done) | (simp; omega)) (by simp [go_sem]; rfl)⟩ | exact ⟨_, phb1_4 _ _ (by first | (simp; done) | (simp; omega)) (by simp [go_sem]; rfl)⟩) _ _ | with_reducible refine far2 ?_ (by first | omega | (simp [*]; done)) _ _))
      · first | (simp [go_sem]; done) | (repeat (first | with_reducible refine al_cell ?_ _ | with_reducible refine two0 (by first | exact ⟨_, phb4 _ _ (by first | (simp; done) | (simp; omega)) (by simp [go_sem]; rfl)⟩ | exact ⟨_, phb3_4 _ _ (by first | (simp; done) | (simp; omega)) (by simp [go_sem]; rfl)⟩ | exact ⟨_, phb2_4 _ _ (by first | (simp; done) | (simp; omega)) (by simp [go_sem]; rfl)⟩ | exact ⟨_, phb1_4 _ _ (by first | (simp; done) | (simp; omega)) (by simp [go_sem]; rfl)⟩) _ _ | with_reducible refine two1 (by first | exact ⟨_, phb4 _ _ (by first | (simp; done) | (simp; omega)) (by simp [go_sem]; rfl)⟩ | exact ⟨_, phb3_4 _ _ (by first | (simp; done) | (simp; omega)) (by simp [go_sem]; rfl)⟩ | exact ⟨_, phb2_4 _ _ (by first | (simp; done) | (simp; omega)) (by simp [go_sem]; rfl)⟩ | exact ⟨_, phb1_4 _ _ (by first | (simp; done) | (simp; omega)) (by simp [go_sem]; rfl)⟩) _ _ | with_reducible refine far2 ?_ (by first | omega | (simp [*]; done)) _ _))
      · refine num_up hxx (fun h => ?_)
        have s1 := hb1.size
        try simp at s1
        have s2 := hb2.size
        try simp at s2
        have s3 := hb3.size
        try simp at s3
        have s4 := hb4.size
        try simp at s4
        repeat (first | with_reducible exact h | with_reducible refine num_alloc ?_ _ | with_reducible refine NumIs.put ?_ (by first | (simp; done) | (simp; omega)) _)
  case rest =>
    obtain ⟨P, b, px, lx, cx, rfl, hP, HR, q1, q2, hx⟩ := hcut
    have hB := HR.bel
    clear HR HS1 HS2 HS3 HP4 F1 hF hz k1 k2 k3 k4
    have HI := Lib.hid (rintE hx (by have := hL.out; omega))
    clear hx
    go_wp2_with fail
    refine (HI.out).mono ?_
    rintro e w7 ⟨x7, rfl, hx7, hb7⟩
    have hB7 : Below w.heap.size w w7 := hB.trans (hb7.mono hB.size)
    clear hB hb7
    generalize hdp : decide (-9223372036854775808 ≤ v ∧ v ≤ 9223372036854775807) = dp at *
    cases dp with
    | false =>
      have h := of_decide_eq_false hdp
      clear hdp hx7
      go_wp2_with fail
      refine bodyPost_ret (v := .tuple #[.int .i64 0, .bool false]) (by simp [results, Try.results41, go_sem]) rfl ⟨ret_tup (by unfold toldN; rw [if_neg h]) (by unfold toldB; exact (decide_eq_false h).symm), hB7⟩
    | true =>
      have h := of_decide_eq_true hdp
      have hxv := Lib.hid (hx7 h)
      clear hdp hx7
      go_wp2_with fail
      refine bodyPost_ret (v := .tuple #[.int .i64 x7, .bool true]) (by simp [results, Try.results41, go_sem]) rfl ⟨ret_tup (by unfold toldN; rw [if_pos h, hxv.out]) (by unfold toldB; exact (decide_eq_true h).symm), hB7⟩
end Go.Proofs.Ytnbloflgggndiaa
