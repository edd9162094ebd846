/- The contract of the reference's Told. -/
import Derived.Test.YtnbloflgggndiaaRefParts
namespace Go.Proofs.Ytnbloflgggndiaa
open Go.RowKit Rf Rt

/-- The number that digits in memory are. -/
def dvAt (W : World) (v : Value) : Nat := match v with
  | .slice (some a) l _ => ev (fun i => match W.cell? ⟨a.block, i, none⟩ with | some (.int .i64 z) => z.toNat | _ => 0) l
  | _ => 0
theorem dvAt_row {W : World} {B : Nat} {v : Value} {ds : List Nat} (h : Row W B v ds) : dvAt W v = dv ds := by
  rcases h.form with ⟨rfl, rfl⟩ | ⟨g, c, rfl, -, -, -, -, h6⟩
  · rfl
  · unfold dvAt dv
    exact ev_congr fun i hi => by simp [h6 i hi]
/-- The number that lies in a block. -/
def bAt (g : Nat) (W : World) : Nat := match W.cell? ⟨g, 1, none⟩ with | some v => dvAt W v | none => 0
theorem bAt_num {W : World} {g n B : Nat} {b : Bool} {v : Value} (hc : W.cell? ⟨g, 1, none⟩ = some v) (h : NumIs (n : Int) B W (.agg #[.bool b, v])) : bAt g W = n := by
  obtain ⟨p, c, ds, rfl, h1, -, h3⟩ := nat_form h
  unfold bAt
  rw [hc]
  simp only
  rw [dvAt_row h1, h3]

/-- A number whose digits lie in no block of two that follow one another. -/
def NumOff (n : Int) (G : Nat) (W : World) (x : Value) : Prop := NumIs n (G + 1 + 1) W x ∨ ∃ W0 B, NumIs n B W0 x ∧ W0.heap.size ≤ G ∧ Below G W0 W
theorem NumOff.is {n : Int} {G : Nat} {W : World} {x : Value} (h : NumOff n G W x) : ∃ B, NumIs n B W x := by
  rcases h with h | ⟨W0, B, h, hl, hb⟩
  · exact ⟨_, h⟩
  · exact ⟨_, h.on hb hl⟩
theorem NumOff.next {n : Int} {G : Nat} {W W' : World} {x : Value} (h : NumOff n G W x) (hb : Below W.heap.size W W') (hG : G ≤ W.heap.size) : NumOff n G W' x := by
  rcases h with h | ⟨W0, B, h, hl, hb0⟩
  · exact .inl (h.on hb (Nat.le_refl _))
  · exact .inr ⟨W0, B, h, hl, hb0.trans (hb.mono hG)⟩
theorem NumOff.put0 {n : Int} {G : Nat} {W : World} {x : Value} (h : NumOff n G W x) (o : Nat) (u : Value) : NumOff n G (W.setCell ⟨G, o, none⟩ u) x := by
  rcases h with h | ⟨W0, B, h, hl, hb0⟩
  · exact .inl (h.put (by simp; omega) u)
  · exact .inr ⟨W0, B, h, hl, hb0.setCell (by simp) u⟩
theorem NumOff.put1 {n : Int} {G : Nat} {W : World} {x : Value} (h : NumOff n G W x) (o : Nat) (u : Value) : NumOff n G (W.setCell ⟨G + 1, o, none⟩ u) x := by
  rcases h with h | ⟨W0, B, h, hl, hb0⟩
  · exact .inl (h.put (by simp) u)
  · exact .inr ⟨W0, B, h, hl, hb0.setCell (by simp) u⟩

/-- What is known of a world within a call of Told: the numbers, the result's place, a and b. -/
structure T4 (w : World) (u1 v1 u2 v2 : Value) (G : Nat) (va vb : Value) (X : World) (W : World) : Prop where
  bx : Below G X W
  bel : Below w.heap.size w W
  c1 : W.cell? ⟨w.heap.size, 0, none⟩ = some u1
  c2 : W.cell? ⟨w.heap.size, 1, none⟩ = some v1
  c3 : W.cell? ⟨w.heap.size + 1, 0, none⟩ = some u2
  c4 : W.cell? ⟨w.heap.size + 1, 1, none⟩ = some v2
  e0 : ∃ u, W.cell? ⟨w.heap.size + 1 + 1, 0, none⟩ = some u
  e1 : ∃ u, W.cell? ⟨w.heap.size + 1 + 1, 1, none⟩ = some u
  a0 : W.cell? ⟨G, 0, none⟩ = some (.bool false)
  a1 : W.cell? ⟨G, 1, none⟩ = some va
  b0 : W.cell? ⟨G + 1, 0, none⟩ = some (.bool false)
  b1 : W.cell? ⟨G + 1, 1, none⟩ = some vb
  gl : w.heap.size + 1 + 1 + 1 ≤ G
  gs : G + 1 < W.heap.size
  f2 : ∀ o, W.frozen? ⟨w.heap.size + 1 + 1, o, none⟩ = false
  fa : ∀ o, W.frozen? ⟨G, o, none⟩ = false
  fb : ∀ o, W.frozen? ⟨G + 1, o, none⟩ = false
theorem T4.next {w X W W' : World} {u1 v1 u2 v2 va vb : Value} {G : Nat} (h : T4 w u1 v1 u2 v2 G va vb X W) (hb : Below W.heap.size W W') : T4 w u1 v1 u2 v2 G va vb X W' := by
  have hg := h.gl
  have hs := h.gs
  exact {
    bx := h.bx.trans (hb.mono (by omega))
    bel := h.bel.trans (hb.mono h.bel.size)
    c1 := by rw [hb.cell (by simp; omega)]; exact h.c1
    c2 := by rw [hb.cell (by simp; omega)]; exact h.c2
    c3 := by rw [hb.cell (by simp; omega)]; exact h.c3
    c4 := by rw [hb.cell (by simp; omega)]; exact h.c4
    e0 := by rw [hb.cell (by simp; omega)]; exact h.e0
    e1 := by rw [hb.cell (by simp; omega)]; exact h.e1
    a0 := by rw [hb.cell (by simp; omega)]; exact h.a0
    a1 := by rw [hb.cell (by simp; omega)]; exact h.a1
    b0 := by rw [hb.cell (by simp; omega)]; exact h.b0
    b1 := by rw [hb.cell (by simp; omega)]; exact h.b1
    gl := hg
    gs := Nat.lt_of_lt_of_le hs hb.size
    f2 := fun o => by rw [hb.frozen (by simp; omega)]; exact h.f2 o
    fa := fun o => by rw [hb.frozen (by simp; omega)]; exact h.fa o
    fb := fun o => by rw [hb.frozen (by simp; omega)]; exact h.fb o }
theorem T4.drew {w X W : World} {u1 v1 u2 v2 va vb : Value} {G : Nat} (h : T4 w u1 v1 u2 v2 G va vb X W) : T4 w u1 v1 u2 v2 G va vb X W.drew := h.next (below_drewN (Below.refl _ _) 1)
theorem T4.alloc {w X W : World} {u1 v1 u2 v2 va vb : Value} {G : Nat} (h : T4 w u1 v1 u2 v2 G va vb X W) (o : Obj) : T4 w u1 v1 u2 v2 G va vb X (W.alloc o) := h.next ((Below.refl _ _).alloc (Nat.le_refl _) o)
theorem T4.puta {w X W : World} {u1 v1 u2 v2 va vb : Value} {G : Nat} (h : T4 w u1 v1 u2 v2 G va vb X W) (v : Value) : T4 w u1 v1 u2 v2 G v vb X ((W.setCell ⟨G, 0, none⟩ (.bool false)).setCell ⟨G, 1, none⟩ v) := by
  obtain ⟨hx, h0, h1, h2, h3, h4, ⟨x0, e0⟩, ⟨x1, e1⟩, a0, a1, b0, b1, gl, gs, f2, fa, fb⟩ := h
  have n0 : G ≠ w.heap.size := by omega
  have n1 : G ≠ w.heap.size + 1 := by omega
  have n2 : G ≠ w.heap.size + 1 + 1 := by omega
  exact ⟨(hx.setCell (by simp) _).setCell (by simp) _, (h0.setCell (by simp; omega) _).setCell (by simp; omega) _, by rw [World.cell?_setCell_far _ _ _ _ n0, World.cell?_setCell_far _ _ _ _ n0]; exact h1, by rw [World.cell?_setCell_far _ _ _ _ n0, World.cell?_setCell_far _ _ _ _ n0]; exact h2,
    by rw [World.cell?_setCell_far _ _ _ _ n1, World.cell?_setCell_far _ _ _ _ n1]; exact h3, by rw [World.cell?_setCell_far _ _ _ _ n1, World.cell?_setCell_far _ _ _ _ n1]; exact h4,
    ⟨x0, by rw [World.cell?_setCell_far _ _ _ _ n2, World.cell?_setCell_far _ _ _ _ n2]; exact e0⟩, ⟨x1, by rw [World.cell?_setCell_far _ _ _ _ n2, World.cell?_setCell_far _ _ _ _ n2]; exact e1⟩,
    by simp [go_sem, a0], by simp [go_sem, a1], by simp [go_sem, b0], by simp [go_sem, b1], gl, by simpa using gs, fun o => by simp [go_sem, f2], fun o => by simp [go_sem, fa], fun o => by simp [go_sem, fb]⟩
theorem T4.putb {w X W : World} {u1 v1 u2 v2 va vb : Value} {G : Nat} (h : T4 w u1 v1 u2 v2 G va vb X W) (v : Value) : T4 w u1 v1 u2 v2 G va v X ((W.setCell ⟨G + 1, 0, none⟩ (.bool false)).setCell ⟨G + 1, 1, none⟩ v) := by
  obtain ⟨hx, h0, h1, h2, h3, h4, ⟨x0, e0⟩, ⟨x1, e1⟩, a0, a1, b0, b1, gl, gs, f2, fa, fb⟩ := h
  have n0 : G + 1 ≠ w.heap.size := by omega
  have n1 : G + 1 ≠ w.heap.size + 1 := by omega
  have n2 : G + 1 ≠ w.heap.size + 1 + 1 := by omega
  exact ⟨(hx.setCell (by simp) _).setCell (by simp) _, (h0.setCell (by simp; omega) _).setCell (by simp; omega) _, by rw [World.cell?_setCell_far _ _ _ _ n0, World.cell?_setCell_far _ _ _ _ n0]; exact h1, by rw [World.cell?_setCell_far _ _ _ _ n0, World.cell?_setCell_far _ _ _ _ n0]; exact h2,
    by rw [World.cell?_setCell_far _ _ _ _ n1, World.cell?_setCell_far _ _ _ _ n1]; exact h3, by rw [World.cell?_setCell_far _ _ _ _ n1, World.cell?_setCell_far _ _ _ _ n1]; exact h4,
    ⟨x0, by rw [World.cell?_setCell_far _ _ _ _ n2, World.cell?_setCell_far _ _ _ _ n2]; exact e0⟩, ⟨x1, by rw [World.cell?_setCell_far _ _ _ _ n2, World.cell?_setCell_far _ _ _ _ n2]; exact e1⟩,
    by simp [go_sem, a0], by simp [go_sem, a1], by simp [go_sem, b0], by simp [go_sem, b1], gl, by simpa using gs, fun o => by simp [go_sem, f2], fun o => by simp [go_sem, fa], fun o => by simp [go_sem, fb]⟩
theorem T4.first {w W : World} {u1 v1 u2 v2 : Value} (F : F2 w u1 v1 u2 v2 W) (va vb : Value) (T : TypeId) : T4 w u1 v1 u2 v2 W.heap.size va vb W ((W.alloc (.cells #[.bool false, va] T)).alloc (.cells #[.bool false, vb] T)) := by
  have F' : F2 w u1 v1 u2 v2 ((W.alloc (.cells #[.bool false, va] T)).alloc (.cells #[.bool false, vb] T)) := F.next (((Below.refl _ _).alloc (Nat.le_refl _) _).alloc (by simp) _)
  obtain ⟨h0, hs, h1, h2, h3, h4, h5, h6, h8⟩ := F'
  exact ⟨((Below.refl _ _).alloc (Nat.le_refl _) _).alloc (by simp) _, h0, h1, h2, h3, h4, h5, h6, by simp [go_sem], by simp [go_sem], by simp [go_sem], by simp [go_sem], F.size, by simp, h8, fun o => by simp [go_sem], fun o => by simp [go_sem]⟩

/-- What the loop keeps. -/
structure Gc (g L A B : Nat) : Prop where
  gcd : Nat.gcd A B = g
  la : A ≤ L
  lb : B ≤ L
theorem Gc.next {g L A B : Nat} (h : Gc g L A B) (hB : 0 < B) : Gc g L B (A % B) where
  gcd := by rw [← h.gcd, Nat.gcd_comm A B, Nat.gcd_rec B A, Nat.gcd_comm]
  la := h.lb
  lb := Nat.le_trans (Nat.le_of_lt (Nat.mod_lt _ hB)) h.lb
theorem Gc.last {g L A : Nat} (h : Gc g L A 0) : A = g := by
  have := h.gcd
  simpa using this

/-- What is told, plainly. -/
theorem told_yes (n : Int) (D g p q : Nat) (hD : 0 < D) (hg : g = Nat.gcd n.natAbs D) (hp : p = n.natAbs / g) (hq : q = D / g) (h1 : (p : Int) ≤ 9223372036854775807) (h2 : (q : Int) ≤ 9223372036854775807) (w : World) (w' : World) (hb : Below w.heap.size w w') :
    RatO (cutQ (makeO n D)) w (.returned (.tuple #[.agg #[.int .i64 (sg (decide (n < 0)) p), .int .i64 q], .bool true])) w' := by
  have e1 := make_num n D (by omega) n.natAbs D rfl (by simp)
  have e2 := make_den n D (by omega) n.natAbs D rfl (by simp)
  have hd0 : decide ((D : Int) < 0) = false := by simp
  rw [hd0, show (Int.gcd (n.natAbs : Int) (D : Int) : Nat) = g by rw [hg]; simp] at e1
  rw [show (Int.gcd (n.natAbs : Int) (D : Int) : Nat) = g by rw [hg]; simp] at e2
  rw [show ((n.natAbs : Int) / (g : Int)) = (p : Nat) by rw [hp]; simp] at e1
  rw [show ((D : Int) / (g : Int)) = (q : Nat) by rw [hq]; simp] at e2
  have hf : fitsQ (Rat.divInt n D) = true := by
    unfold fitsQ
    rw [← e1, ← e2]
    unfold sg
    simp only [decide_eq_true_eq]
    cases decide (n < 0) <;> simp <;> omega
  obtain ⟨a, b, c⟩ := numO_cut_yes hf
  unfold RatO makeO
  rw [if_neg (by omega), a, b, c, ← e1, ← e2]
  refine ⟨?_, hb⟩
  cases decide (n < 0) <;> rfl
theorem told_no (n : Int) (D g p q : Nat) (hD : 0 < D) (hg : g = Nat.gcd n.natAbs D) (hp : p = n.natAbs / g) (hq : q = D / g) (h : ¬ ((p : Int) ≤ 9223372036854775807 ∧ (q : Int) ≤ 9223372036854775807)) (w : World) (w' : World) (hb : Below w.heap.size w w') :
    RatO (cutQ (makeO n D)) w (.returned (.tuple #[.agg #[.int .i64 0, .int .i64 0], .bool false])) w' := by
  have e1 := make_num n D (by omega) n.natAbs D rfl (by simp)
  have e2 := make_den n D (by omega) n.natAbs D rfl (by simp)
  have hd0 : decide ((D : Int) < 0) = false := by simp
  rw [hd0, show (Int.gcd (n.natAbs : Int) (D : Int) : Nat) = g by rw [hg]; simp] at e1
  rw [show (Int.gcd (n.natAbs : Int) (D : Int) : Nat) = g by rw [hg]; simp] at e2
  rw [show ((n.natAbs : Int) / (g : Int)) = (p : Nat) by rw [hp]; simp] at e1
  rw [show ((D : Int) / (g : Int)) = (q : Nat) by rw [hq]; simp] at e2
  have hf : fitsQ (Rat.divInt n D) = false := by
    unfold fitsQ
    rw [← e1, ← e2]
    unfold sg
    simp only [decide_eq_false_iff_not]
    cases decide (n < 0) <;> simp <;> omega
  obtain ⟨a, b, c⟩ := numO_cut_no hf
  unfold RatO makeO
  rw [if_neg (by omega), a, b, c]
  exact ⟨rfl, hb⟩
end Go.Proofs.Ytnbloflgggndiaa
