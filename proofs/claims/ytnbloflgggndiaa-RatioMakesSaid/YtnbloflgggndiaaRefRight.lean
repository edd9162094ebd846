/- The contract of the reference's Right. -/
import Derived.Test.YtnbloflgggndiaaRefTold2
namespace Go.Proofs.Ytnbloflgggndiaa
open Go.RowKit Rf Rt

/-- A number, wherever its digits lie. -/
def NumE (n : Int) (W : World) (x : Value) : Prop := ∃ B, NumIs n B W x
theorem NumE.alloc {n : Int} {W : World} {x : Value} (h : NumE n W x) (o : Obj) : NumE n (W.alloc o) x := by
  obtain ⟨B, h⟩ := h
  exact ⟨B, num_alloc h o⟩
theorem NumE.on {n : Int} {W W' : World} {x : Value} (h : NumE n W x) (hb : Below W.heap.size W W') : NumE n W' x := by
  obtain ⟨B, h⟩ := h
  exact ⟨B, h.on hb (Nat.le_refl _)⟩
theorem NumE.via {n : Int} {W Y W' : World} {x : Value} (h : NumE n W x) (h2 : Below W.heap.size W Y) (h3 : Below Y.heap.size Y W') : NumE n W' x := (h.on h2).on h3
theorem rtoldE {w : World} {n d : Int} {x y : Value} (hx : NumE n w x) (hy : NumE d w y) (hn : n.natAbs < 65536 ^ 99) (hd : d.natAbs < 65536 ^ 99) : Calls Try.prog 26 #[x, y] w (RatO (cutQ (makeO n d)) w) := by
  obtain ⟨B1, hx⟩ := hx
  obtain ⟨B2, hy⟩ := hy
  exact rtold_any w n d x y B1 B2 hx hy hn hd

/-- What is known of a world within a call of one ratio: where it lies. -/
structure R1 (w : World) (N D : Int) (W : World) : Prop where
  bel : Below w.heap.size w W
  size : w.heap.size + 1 ≤ W.heap.size
  c1 : W.cell? ⟨w.heap.size, 0, none⟩ = some (.int .i64 N)
  c2 : W.cell? ⟨w.heap.size, 1, none⟩ = some (.int .i64 D)
theorem R1.first (w : World) (N D : Int) (T : TypeId) : R1 w N D (w.alloc (.cells #[.int .i64 N, .int .i64 D] T)) := ⟨(Below.refl _ _).alloc (Nat.le_refl _) _, by simp, by simp [go_sem], by simp [go_sem]⟩
theorem R1.next {w W W' : World} {N D : Int} (h : R1 w N D W) (hb : Below W.heap.size W W') : R1 w N D W' where
  bel := h.bel.trans (hb.mono h.bel.size)
  size := Nat.le_trans h.size hb.size
  c1 := by rw [hb.cell (by have := h.size; simp; omega)]; exact h.c1
  c2 := by rw [hb.cell (by have := h.size; simp; omega)]; exact h.c2
theorem R1.drew {w W : World} {N D : Int} (h : R1 w N D W) : R1 w N D W.drew := h.next (below_drewN (Below.refl _ _) 1)
theorem R1.alloc {w W : World} {N D : Int} (h : R1 w N D W) (o : Obj) : R1 w N D (W.alloc o) := h.next ((Below.refl _ _).alloc (Nat.le_refl _) o)
theorem R1.set {w W : World} {N D : Int} (h : R1 w N D W) (p : Addr) (hp : w.heap.size + 1 ≤ p.block) (u : Value) : R1 w N D (W.setCell p u) := by
  have hb : Below (w.heap.size + 1) W (W.setCell p u) := (Below.refl _ _).setCell hp u
  refine ⟨h.bel.setCell (by omega) u, by simpa using h.size, ?_, ?_⟩
  · rw [hb.cell (by simp)]; exact h.c1
  · rw [hb.cell (by simp)]; exact h.c2
theorem keepR1 {w W : World} {N D : Int} (h : R1 w N D W) : R1 w N D W ∧ W.cell? ⟨w.heap.size, 0, none⟩ = some (.int .i64 N) ∧ W.cell? ⟨w.heap.size, 1, none⟩ = some (.int .i64 D) := ⟨h, h.c1, h.c2⟩

/-- What Right knows behind what is told. -/
def RightCut (w : World) (N D N' D' : Int) (s3 s4 : Value) (wx : World) : Prop :=
  ∃ P : Nat, s3 = .pointer (some ⟨P, 0, none⟩) ∧ s4 = .bool true ∧ P < wx.heap.size ∧ R1 w N D wx ∧ wx.cell? ⟨P, 0, none⟩ = some (.int .i64 N') ∧ wx.cell? ⟨P, 1, none⟩ = some (.int .i64 D')

theorem right_low (N D : Int) (w : World) (h : D ≤ 0) : Calls Try.prog 33 #[.agg #[.int .i64 N, .int .i64 D]] w (BoolIs false w) := by
  go_enter Try.func33, Try.ntmps33
  go_wp2_with fail
  go_ret
  exact ⟨rfl, (R1.first w N D 24).bel⟩
theorem right_min (D : Int) (w : World) (h : 0 < D) : Calls Try.prog 33 #[.agg #[.int .i64 (-9223372036854775808), .int .i64 D]] w (BoolIs false w) := by
  go_enter Try.func33, Try.ntmps33
  go_wp2_with fail
  go_ret
  exact ⟨rfl, (R1.first w (-9223372036854775808) D 24).bel⟩

set_option maxHeartbeats 4000000 in
theorem right_walk (N D N' D' : Int) (w : World) (h1 : Is64 N D) (hd : 0 < D) (hn : ((N : Int) == -9223372036854775808) = false) (HT : Hid (∀ W x y, NumE N W x → NumE D W y → Calls Try.prog 26 #[x, y] W (RatIs N' D' true W))) :
    Calls Try.prog 33 #[.agg #[.int .i64 N, .int .i64 D]] w (BoolIs (N' == N && D' == D) w) := by
  have F1 := R1.first w N D 24
  have HO1 : Hid (∀ W, R1 w N D W → Calls Try.prog 27 #[.int .i64 N] W (NumR N W)) := Lib.hid fun W _ => rof_any W N h1.n1 h1.n2
  have HO2 : Hid (∀ W, R1 w N D W → Calls Try.prog 27 #[.int .i64 D] W (NumR D W)) := Lib.hid fun W _ => rof_any W D h1.d1 h1.d2
  have HT3 : Hid (∀ W, R1 w N D W → ∀ x, NumE N W x → ∀ y, NumE D W y → Calls Try.prog 26 #[x, y] W (RatIs N' D' true W)) := Lib.hid fun W _ x hx y hy => HT.out W x y hx hy
  clear HT
  have hq := eq_rat N' D' N D
  generalize (N' == N && D' == D) = q at *
  go_enter Try.func33, Try.ntmps33
  go_upto_region 3 with fail
  generalize w.alloc (.cells #[.int .i64 N, .int .i64 D] 24) = wr at *
  obtain ⟨hF, hz, k1, k2⟩ := id F1
  go_cut [3, 4] (fun s3 s4 wx => RightCut w N D N' D' s3 s4 wx)
  case first =>
    go_region_held3 (fun w' => R1 w N D w' ∧ w'.cell? ⟨w.heap.size, 0, none⟩ = some (.int .i64 N) ∧ w'.cell? ⟨w.heap.size, 1, none⟩ = some (.int .i64 D))
      (first
        | (refine keepR1 ?_; repeat (first | assumption | with_reducible refine R1.alloc ?_ _ | with_reducible refine R1.set ?_ _ (by first | (simp; done) | (simp; omega)) _ | with_reducible refine R1.drew ?_)))
      (first
        | (go_at_call_of 27 (Value.int .i64 N); refine (HO1.out _ (And.left (by assumption)) ).mono ?_; clear HO1; rintro e v1 ⟨z1, rfl, hz1, hb1⟩; have HR1 : R1 w N D v1 := R1.next (And.left (by assumption)) hb1; have rs1 := R1.size HR1; have ez1 : NumE _ v1 z1 := ⟨_, hz1⟩)
        | (go_at_call_of 27 (Value.int .i64 D); refine (HO2.out _ (And.left (by assumption)) ).mono ?_; clear HO2; rintro e v2 ⟨z2, rfl, hz2, hb2⟩; have HR2 : R1 w N D v2 := R1.next (And.left (by assumption)) hb2; have rs2 := R1.size HR2; have ez1 := NumE.via ez1 (by first | exact Below.refl _ _ | exact (Below.refl _ _).alloc (Nat.le_refl _) _ | exact ((Below.refl _ _).alloc (Nat.le_refl _) _).alloc (by simp) _) hb2; have ez2 : NumE _ v2 z2 := ⟨_, hz2⟩; have hb1_2 := below_via hb1 (by first | exact Below.refl _ _ | exact (Below.refl _ _).alloc (Nat.le_refl _) _ | exact ((Below.refl _ _).alloc (Nat.le_refl _) _).alloc (by simp) _) hb2)
        | (go_at_call 26 ; refine (HT3.out _ (And.left (by assumption)) _ (by repeat (first | with_reducible exact ez1 | with_reducible refine NumE.alloc ?_ _)) _ (by repeat (first | with_reducible exact ez2 | with_reducible refine NumE.alloc ?_ _))).mono ?_; clear HT3; rintro e v3 ⟨rfl, hb3⟩; have HR3 : R1 w N D v3 := R1.next (And.left (by assumption)) hb3; have rs3 := R1.size HR3; have ez1 := NumE.via ez1 (by first | exact Below.refl _ _ | exact (Below.refl _ _).alloc (Nat.le_refl _) _ | exact ((Below.refl _ _).alloc (Nat.le_refl _) _).alloc (by simp) _) hb3; have ez2 := NumE.via ez2 (by first | exact Below.refl _ _ | exact (Below.refl _ _).alloc (Nat.le_refl _) _ | exact ((Below.refl _ _).alloc (Nat.le_refl _) _).alloc (by simp) _) hb3; have hb1_3 := below_via hb1_2 (by first | exact Below.refl _ _ | exact (Below.refl _ _).alloc (Nat.le_refl _) _ | exact ((Below.refl _ _).alloc (Nat.le_refl _) _).alloc (by simp) _) hb3; have hb2_3 := below_via hb2 (by first | exact Below.refl _ _ | exact (Below.refl _ _).alloc (Nat.le_refl _) _ | exact ((Below.refl _ _).alloc (Nat.le_refl _) _).alloc (by simp) _) hb3; obtain ⟨chb1_3, fhb1_3, mhb1_3⟩ := bcell3 hb1_3; have phb1_3 := put_at hb1_3; obtain ⟨chb2_3, fhb2_3, mhb2_3⟩ := bcell3 hb2_3; have phb2_3 := put_at hb2_3; obtain ⟨chb3, fhb3, mhb3⟩ := bcell3 hb3; have phb3 := put_at hb3))
    all_goals
      go_wp2_with fail
      go_meet
      refine ⟨_, rfl, rfl, ?_, ?_, ?_, ?_⟩
      · skip
        have s1 := hb1.size
        try simp at s1
        have s2 := hb2.size
        try simp at s2
        have s3 := hb3.size
        try simp at s3
        simp
        try omega
      · repeat (first | assumption | with_reducible refine R1.alloc ?_ _ | with_reducible refine R1.set ?_ _ (by first | (simp; done) | (simp; omega)) _ | with_reducible refine R1.drew ?_)
      · first | (simp [go_sem]; done) | (repeat (first | with_reducible refine al_cell ?_ _ | with_reducible refine two0 (by first | exact ⟨_, phb3 _ _ (by first | (simp; done) | (simp; omega)) (by simp [go_sem]; rfl)⟩ | exact ⟨_, phb2_3 _ _ (by first | (simp; done) | (simp; omega)) (by simp [go_sem]; rfl)⟩ | exact ⟨_, phb1_3 _ _ (by first | (simp; done) | (simp; omega)) (by simp [go_sem]; rfl)⟩) _ _ | with_reducible refine two1 (by first | exact ⟨_, phb3 _ _ (by first | (simp; done) | (simp; omega)) (by simp [go_sem]; rfl)⟩ | exact ⟨_, phb2_3 _ _ (by first | (simp; done) | (simp; omega)) (by simp [go_sem]; rfl)⟩ | exact ⟨_, phb1_3 _ _ (by first | (simp; done) | (simp; omega)) (by simp [go_sem]; rfl)⟩) _ _ | with_reducible refine far2 ?_ (by first | omega | (simp [*]; done)) _ _))
      · first | (simp [go_sem]; done) | (repeat (first | with_reducible refine al_cell ?_ _ | with_reducible refine two0 (by first | exact ⟨_, phb3 _ _ (by first | (simp; done) | (simp; omega)) (by simp [go_sem]; rfl)⟩ | exact ⟨_, phb2_3 _ _ (by first | (simp; done) | (simp; omega)) (by simp [go_sem]; rfl)⟩ | exact ⟨_, phb1_3 _ _ (by first | (simp; done) | (simp; omega)) (by simp [go_sem]; rfl)⟩) _ _ | with_reducible refine two1 (by first | exact ⟨_, phb3 _ _ (by first | (simp; done) | (simp; omega)) (by simp [go_sem]; rfl)⟩ | exact ⟨_, phb2_3 _ _ (by first | (simp; done) | (simp; omega)) (by simp [go_sem]; rfl)⟩ | exact ⟨_, phb1_3 _ _ (by first | (simp; done) | (simp; omega)) (by simp [go_sem]; rfl)⟩) _ _ | with_reducible refine far2 ?_ (by first | omega | (simp [*]; done)) _ _))
  case rest =>
    obtain ⟨P, rfl, rfl, hP, HR, q1, q2⟩ := hcut
    obtain ⟨hB, hz, k1, k2⟩ := id HR
    go_wp2_with fail
    go_ret
    exact ⟨rfl, hB⟩
end Go.Proofs.Ytnbloflgggndiaa
