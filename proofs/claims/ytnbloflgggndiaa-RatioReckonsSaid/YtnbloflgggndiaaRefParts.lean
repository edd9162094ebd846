/- The contract of the reference's Parts. -/
import Derived.Test.YtnbloflgggndiaaRefBits
import Derived.Test.YtnbloflgggndiaaRefTims
namespace Go.Proofs.Ytnbloflgggndiaa
open Go.RowKit Rf Rt

/-- What is known of a world within a call of Parts: the numbers, the results' places, q and r, and where one is. -/
structure F4 (w : World) (u1 v1 u2 v2 : Value) (g : Nat) (vo vq vr : Value) (W : World) : Prop where
  bel : Below w.heap.size w W
  size : w.heap.size + 1 + 1 + 1 + 1 + 1 + 1 ≤ W.heap.size
  c1 : W.cell? ⟨w.heap.size, 0, none⟩ = some u1
  c2 : W.cell? ⟨w.heap.size, 1, none⟩ = some v1
  c3 : W.cell? ⟨w.heap.size + 1, 0, none⟩ = some u2
  c4 : W.cell? ⟨w.heap.size + 1, 1, none⟩ = some v2
  e0 : ∃ u, W.cell? ⟨w.heap.size + 1 + 1, 0, none⟩ = some u
  e1 : ∃ u, W.cell? ⟨w.heap.size + 1 + 1, 1, none⟩ = some u
  e2 : ∃ u, W.cell? ⟨w.heap.size + 1 + 1 + 1, 0, none⟩ = some u
  e3 : ∃ u, W.cell? ⟨w.heap.size + 1 + 1 + 1, 1, none⟩ = some u
  q0 : W.cell? ⟨w.heap.size + 1 + 1 + 1 + 1, 0, none⟩ = some (.bool false)
  q1 : W.cell? ⟨w.heap.size + 1 + 1 + 1 + 1, 1, none⟩ = some vq
  r0 : W.cell? ⟨w.heap.size + 1 + 1 + 1 + 1 + 1, 0, none⟩ = some (.bool false)
  r1 : W.cell? ⟨w.heap.size + 1 + 1 + 1 + 1 + 1, 1, none⟩ = some vr
  o0 : W.cell? ⟨g, 0, none⟩ = some (.bool false)
  o1 : W.cell? ⟨g, 1, none⟩ = some vo
  gl : w.heap.size + 1 + 1 + 1 + 1 + 1 + 1 ≤ g
  gs : g < W.heap.size
  f2 : ∀ o, W.frozen? ⟨w.heap.size + 1 + 1, o, none⟩ = false
  f3 : ∀ o, W.frozen? ⟨w.heap.size + 1 + 1 + 1, o, none⟩ = false
  f4 : ∀ o, W.frozen? ⟨w.heap.size + 1 + 1 + 1 + 1, o, none⟩ = false
  f5 : ∀ o, W.frozen? ⟨w.heap.size + 1 + 1 + 1 + 1 + 1, o, none⟩ = false
theorem F4.next {w W W' : World} {u1 v1 u2 v2 vo vq vr : Value} {g : Nat} (h : F4 w u1 v1 u2 v2 g vo vq vr W) (hb : Below W.heap.size W W') : F4 w u1 v1 u2 v2 g vo vq vr W' := by
  have hs := h.size
  have hg := h.gs
  exact {
    bel := h.bel.trans (hb.mono h.bel.size)
    size := Nat.le_trans h.size hb.size
    c1 := by rw [hb.cell (by simp; omega)]; exact h.c1
    c2 := by rw [hb.cell (by simp; omega)]; exact h.c2
    c3 := by rw [hb.cell (by simp; omega)]; exact h.c3
    c4 := by rw [hb.cell (by simp; omega)]; exact h.c4
    e0 := by rw [hb.cell (by simp; omega)]; exact h.e0
    e1 := by rw [hb.cell (by simp; omega)]; exact h.e1
    e2 := by rw [hb.cell (by simp; omega)]; exact h.e2
    e3 := by rw [hb.cell (by simp; omega)]; exact h.e3
    q0 := by rw [hb.cell (by simp; omega)]; exact h.q0
    q1 := by rw [hb.cell (by simp; omega)]; exact h.q1
    r0 := by rw [hb.cell (by simp; omega)]; exact h.r0
    r1 := by rw [hb.cell (by simp; omega)]; exact h.r1
    o0 := by rw [hb.cell (by simpa using hg)]; exact h.o0
    o1 := by rw [hb.cell (by simpa using hg)]; exact h.o1
    gl := h.gl
    gs := Nat.lt_of_lt_of_le h.gs hb.size
    f2 := fun o => by rw [hb.frozen (by simp; omega)]; exact h.f2 o
    f3 := fun o => by rw [hb.frozen (by simp; omega)]; exact h.f3 o
    f4 := fun o => by rw [hb.frozen (by simp; omega)]; exact h.f4 o
    f5 := fun o => by rw [hb.frozen (by simp; omega)]; exact h.f5 o }
theorem F4.drew {w W : World} {u1 v1 u2 v2 vo vq vr : Value} {g : Nat} (h : F4 w u1 v1 u2 v2 g vo vq vr W) : F4 w u1 v1 u2 v2 g vo vq vr W.drew := h.next (below_drewN (Below.refl _ _) 1)
theorem F4.putq {w W : World} {u1 v1 u2 v2 vo vq vr : Value} {g : Nat} (h : F4 w u1 v1 u2 v2 g vo vq vr W) (v : Value) : F4 w u1 v1 u2 v2 g vo v vr ((W.setCell ⟨w.heap.size + 1 + 1 + 1 + 1, 0, none⟩ (.bool false)).setCell ⟨w.heap.size + 1 + 1 + 1 + 1, 1, none⟩ v) := by
  obtain ⟨h0, hs, h1, h2, h3, h4, ⟨x0, e0⟩, ⟨x1, e1⟩, ⟨x2, e2⟩, ⟨x3, e3⟩, q0, q1, r0, r1, o0, o1, gl, gs, f2, f3, f4, f5⟩ := h
  have hg : w.heap.size + 1 + 1 + 1 + 1 ≠ g := by omega
  exact ⟨(h0.setCell (by simp; omega) _).setCell (by simp; omega) _, by simpa using hs, by simp [go_sem, h1], by simp [go_sem, h2], by simp [go_sem, h3], by simp [go_sem, h4], ⟨x0, by simp [go_sem, e0]⟩, ⟨x1, by simp [go_sem, e1]⟩, ⟨x2, by simp [go_sem, e2]⟩, ⟨x3, by simp [go_sem, e3]⟩,
    by simp [go_sem, q0], by simp [go_sem, q1], by simp [go_sem, r0], by simp [go_sem, r1], by rw [World.cell?_setCell_far _ _ _ _ hg, World.cell?_setCell_far _ _ _ _ hg]; exact o0, by rw [World.cell?_setCell_far _ _ _ _ hg, World.cell?_setCell_far _ _ _ _ hg]; exact o1, gl, by simpa using gs,
    fun o => by simp [go_sem, f2], fun o => by simp [go_sem, f3], fun o => by simp [go_sem, f4], fun o => by simp [go_sem, f5]⟩
theorem F4.putr {w W : World} {u1 v1 u2 v2 vo vq vr : Value} {g : Nat} (h : F4 w u1 v1 u2 v2 g vo vq vr W) (v : Value) : F4 w u1 v1 u2 v2 g vo vq v ((W.setCell ⟨w.heap.size + 1 + 1 + 1 + 1 + 1, 0, none⟩ (.bool false)).setCell ⟨w.heap.size + 1 + 1 + 1 + 1 + 1, 1, none⟩ v) := by
  obtain ⟨h0, hs, h1, h2, h3, h4, ⟨x0, e0⟩, ⟨x1, e1⟩, ⟨x2, e2⟩, ⟨x3, e3⟩, q0, q1, r0, r1, o0, o1, gl, gs, f2, f3, f4, f5⟩ := h
  have hg : w.heap.size + 1 + 1 + 1 + 1 + 1 ≠ g := by omega
  exact ⟨(h0.setCell (by simp; omega) _).setCell (by simp; omega) _, by simpa using hs, by simp [go_sem, h1], by simp [go_sem, h2], by simp [go_sem, h3], by simp [go_sem, h4], ⟨x0, by simp [go_sem, e0]⟩, ⟨x1, by simp [go_sem, e1]⟩, ⟨x2, by simp [go_sem, e2]⟩, ⟨x3, by simp [go_sem, e3]⟩,
    by simp [go_sem, q0], by simp [go_sem, q1], by simp [go_sem, r0], by simp [go_sem, r1], by rw [World.cell?_setCell_far _ _ _ _ hg, World.cell?_setCell_far _ _ _ _ hg]; exact o0, by rw [World.cell?_setCell_far _ _ _ _ hg, World.cell?_setCell_far _ _ _ _ hg]; exact o1, gl, by simpa using gs,
    fun o => by simp [go_sem, f2], fun o => by simp [go_sem, f3], fun o => by simp [go_sem, f4], fun o => by simp [go_sem, f5]⟩

/-- A number that is not below 0. -/
theorem NumIs.nat {n : Int} {B : Nat} {W : World} {x : Value} (h : NumIs n B W x) (m : Nat) (hm : n = m) : ∃ p l c, x = .agg #[.bool false, .slice p l c] ∧ NumIs (m : Int) B W (.agg #[.bool false, .slice p l c]) := by
  subst hm
  obtain ⟨p, c, ds, rfl, h1⟩ := h.form
  have e : decide ((m : Int) < 0) = false := by simp
  rw [e]
  exact ⟨p, ds.length, c, rfl, _, ds, by rw [e], h1⟩
theorem nat_form {n : Nat} {B : Nat} {W : World} {b : Bool} {v : Value} (h : NumIs (n : Int) B W (.agg #[.bool b, v])) : ∃ p c ds, v = .slice p ds.length c ∧ Row W B v ds ∧ Norm ds ∧ dv ds = n := by
  obtain ⟨p, c, ds, e, h1, h2, h3⟩ := h.form
  simp only [Value.agg.injEq, Array.mk.injEq, List.cons.injEq, and_true] at e
  obtain ⟨_, rfl⟩ := e
  exact ⟨p, c, ds, rfl, h1, h2, by simpa using h3⟩
theorem rcmp_nat (w : World) (r D B1 B2 : Nat) (v1 v2 : Value) (h1 : NumIs (r : Int) B1 w (.agg #[.bool false, v1])) (h2 : NumIs (D : Int) B2 w (.agg #[.bool false, v2])) :
    Calls Try.prog 50 #[v1, v2] w fun e w' => (∃ c : Int, e = .returned (.int .i64 c) ∧ (0 ≤ c ↔ D ≤ r)) ∧ w = w' := by
  obtain ⟨p1, c1, ds1, -, hr1, hm1, rfl⟩ := nat_form h1
  obtain ⟨p2, c2, ds2, -, hr2, hm2, rfl⟩ := nat_form h2
  exact compare_any w _ _ _ _ ds1 ds2 hr1 hr2 hm1.dig hm2.dig
theorem rless_nat (w : World) (r D B1 B2 : Nat) (v1 v2 : Value) (h1 : NumIs (r : Int) B1 w (.agg #[.bool false, v1])) (h2 : NumIs (D : Int) B2 w (.agg #[.bool false, v2])) (hr : r < 65536 ^ 100) (hD : D < 65536 ^ 100) (hle : D ≤ r) :
    Calls Try.prog 51 #[v1, v2] w fun e w' => ∃ v os, e = .returned v ∧ Row w' w.heap.size v os ∧ Dig os ∧ os.length ≤ 100 ∧ dv os = r - D ∧ Below w.heap.size w w' := by
  obtain ⟨p1, c1, ds1, -, hr1, hm1, rfl⟩ := nat_form h1
  obtain ⟨p2, c2, ds2, -, hr2, hm2, rfl⟩ := nat_form h2
  have l1 := hm1.len hr
  have l2 := hm2.len hD
  refine (rless_any w _ _ _ _ ds1 ds2 hr1 hr2 ⟨by omega, by omega⟩ hm1.dig hm2.dig hle).mono ?_
  rintro e w' ⟨v, os, a, b, c, d, f, g⟩
  exact ⟨v, os, a, b, c, by omega, f, g⟩

theorem num_zero (B : Nat) (W : World) : NumIs ((0 : Nat) : Int) B W (.agg #[.bool false, .slice none 0 0]) :=
  ⟨_, [], rfl, World.ownsRow_nil _ _ _ _, ⟨dig_nil, fun h => absurd rfl h⟩, rfl⟩
theorem F4.first {w W : World} (u1 v1 u2 v2 vo : Value) (T : TypeId)
    (hb : Below ((((((w.alloc (.cells #[u1, v1] T)).alloc (.cells #[u2, v2] T)).alloc (.cells #[.bool false, .slice none 0 0] T)).alloc (.cells #[.bool false, .slice none 0 0] T)).alloc (.cells #[.bool false, .slice none 0 0] T)).alloc (.cells #[.bool false, .slice none 0 0] T)).heap.size ((((((w.alloc (.cells #[u1, v1] T)).alloc (.cells #[u2, v2] T)).alloc (.cells #[.bool false, .slice none 0 0] T)).alloc (.cells #[.bool false, .slice none 0 0] T)).alloc (.cells #[.bool false, .slice none 0 0] T)).alloc (.cells #[.bool false, .slice none 0 0] T)) W) :
    F4 w u1 v1 u2 v2 W.heap.size vo (.slice none 0 0) (.slice none 0 0) (W.alloc (.cells #[.bool false, vo] T)) := by
  have hsz := hb.size
  simp only [World.size_alloc] at hsz
  have hb2 := hb.alloc (by simp; omega) (.cells #[.bool false, vo] T)
  have hc : ∀ b o u, b < w.heap.size + 1 + 1 + 1 + 1 + 1 + 1 → ((((((w.alloc (.cells #[u1, v1] T)).alloc (.cells #[u2, v2] T)).alloc (.cells #[.bool false, .slice none 0 0] T)).alloc (.cells #[.bool false, .slice none 0 0] T)).alloc (.cells #[.bool false, .slice none 0 0] T)).alloc (.cells #[.bool false, .slice none 0 0] T)).cell? ⟨b, o, none⟩ = some u → (W.alloc (.cells #[.bool false, vo] T)).cell? ⟨b, o, none⟩ = some u := by
    intro b o u hlt h
    rw [hb2.cell (by simpa using hlt)]
    exact h
  have hf : ∀ b o, b < w.heap.size + 1 + 1 + 1 + 1 + 1 + 1 → ((((((w.alloc (.cells #[u1, v1] T)).alloc (.cells #[u2, v2] T)).alloc (.cells #[.bool false, .slice none 0 0] T)).alloc (.cells #[.bool false, .slice none 0 0] T)).alloc (.cells #[.bool false, .slice none 0 0] T)).alloc (.cells #[.bool false, .slice none 0 0] T)).frozen? ⟨b, o, none⟩ = false → (W.alloc (.cells #[.bool false, vo] T)).frozen? ⟨b, o, none⟩ = false := by
    intro b o hlt h
    rw [hb2.frozen (by simpa using hlt)]
    exact h
  exact {
    bel := ((((((((Below.refl _ _).alloc (Nat.le_refl _) _).alloc (by simp) _).alloc (by simp; omega) _).alloc (by simp; omega) _).alloc (by simp; omega) _).alloc (by simp; omega) _).trans (hb2.mono (by simp; omega)))
    size := by simp; omega
    c1 := hc _ _ _ (by omega) (by simp [go_sem])
    c2 := hc _ _ _ (by omega) (by simp [go_sem])
    c3 := hc _ _ _ (by omega) (by simp [go_sem])
    c4 := hc _ _ _ (by omega) (by simp [go_sem])
    e0 := ⟨_, hc _ _ _ (by omega) (by simp [go_sem]; rfl)⟩
    e1 := ⟨_, hc _ _ _ (by omega) (by simp [go_sem]; rfl)⟩
    e2 := ⟨_, hc _ _ _ (by omega) (by simp [go_sem]; rfl)⟩
    e3 := ⟨_, hc _ _ _ (by omega) (by simp [go_sem]; rfl)⟩
    q0 := hc _ _ _ (by omega) (by simp [go_sem])
    q1 := hc _ _ _ (by omega) (by simp [go_sem])
    r0 := hc _ _ _ (by omega) (by simp [go_sem])
    r1 := hc _ _ _ (by omega) (by simp [go_sem])
    o0 := by simp [go_sem]
    o1 := by simp [go_sem]
    gl := hsz
    gs := by simp
    f2 := fun o => hf _ _ (by omega) (by simp [go_sem])
    f3 := fun o => hf _ _ (by omega) (by simp [go_sem])
    f4 := fun o => hf _ _ (by omega) (by simp [go_sem])
    f5 := fun o => hf _ _ (by omega) (by simp [go_sem]) }

theorem nq {n : Int} {w W : World} {x : Value} (h : NumIs n (w.heap.size + 1 + 1 + 1 + 1 + 1 + 1) W x) (u v : Value) : NumIs n (w.heap.size + 1 + 1 + 1 + 1 + 1 + 1) ((W.setCell ⟨w.heap.size + 1 + 1 + 1 + 1, 0, none⟩ u).setCell ⟨w.heap.size + 1 + 1 + 1 + 1, 1, none⟩ v) x :=
  (h.put (by simp) u).put (by simp) v
theorem nr {n : Int} {w W : World} {x : Value} (h : NumIs n (w.heap.size + 1 + 1 + 1 + 1 + 1 + 1) W x) (u v : Value) : NumIs n (w.heap.size + 1 + 1 + 1 + 1 + 1 + 1) ((W.setCell ⟨w.heap.size + 1 + 1 + 1 + 1 + 1, 0, none⟩ u).setCell ⟨w.heap.size + 1 + 1 + 1 + 1 + 1, 1, none⟩ v) x :=
  (h.put (by simp) u).put (by simp) v
theorem nat_len {n : Nat} {B : Nat} {W : World} {b : Bool} {p : Option Addr} {l c : Nat} (h : NumIs (n : Int) B W (.agg #[.bool b, .slice p l c])) : l = 0 ↔ n = 0 := by
  obtain ⟨p', c', ds, e, h1, h2, rfl⟩ := nat_form h
  simp only [Value.slice.injEq] at e
  obtain ⟨_, rfl, _⟩ := e
  rw [h2.zero, List.length_eq_zero_iff]
theorem NumIs.parts {n : Int} {B : Nat} {W : World} {x : Value} (h : NumIs n B W x) : ∃ b p l c, x = .agg #[.bool b, .slice p l c] := by
  obtain ⟨p, c, ds, h, _⟩ := h.form
  exact ⟨_, _, _, _, h⟩
/-- A call answers two numbers. -/
def PartsR (q r : Int) (w : World) (e : Ending) (w' : World) : Prop := ∃ x y, e = .returned (.tuple #[x, y]) ∧ NumIs q w.heap.size w' x ∧ NumIs r w.heap.size w' y ∧ Below w.heap.size w w'

theorem parts_done {w W : World} {n m : Int} {x y : Value} (hb : Below w.heap.size w W) (hx : NumIs n (w.heap.size + 1 + 1 + 1 + 1 + 1 + 1) W x) (hy : NumIs m (w.heap.size + 1 + 1 + 1 + 1 + 1 + 1) W y) (a b c d : Value) :
    PartsR n m w (.returned (.tuple #[x, y])) ((((W.setCell ⟨w.heap.size + 1 + 1, 0, none⟩ a).setCell ⟨w.heap.size + 1 + 1, 1, none⟩ b).setCell ⟨w.heap.size + 1 + 1 + 1, 0, none⟩ c).setCell ⟨w.heap.size + 1 + 1 + 1, 1, none⟩ d) :=
  ⟨x, y, rfl, ((((hx.put (by simp) a).put (by simp) b).put (by simp) c).put (by simp) d).mono (by omega), ((((hy.put (by simp) a).put (by simp) b).put (by simp) c).put (by simp) d).mono (by omega),
    (((hb.setCell (p := ⟨w.heap.size + 1 + 1, 0, none⟩) (by simp; omega) a).setCell (p := ⟨w.heap.size + 1 + 1, 1, none⟩) (by simp; omega) b).setCell (p := ⟨w.heap.size + 1 + 1 + 1, 0, none⟩) (by simp; omega) c).setCell (p := ⟨w.heap.size + 1 + 1 + 1, 1, none⟩) (by simp; omega) d⟩

theorem PartsR.drew {n m : Int} {w W : World} {e : Ending} (h : PartsR n m w e W) : PartsR n m w e W.drew := by
  obtain ⟨x, y, h1, h2, h3, h4⟩ := h
  exact ⟨x, y, h1, h2.on (below_drewN (Below.refl _ _) 1) (Nat.le_refl _), h3.on (below_drewN (Below.refl _ _) 1) (Nat.le_refl _), h4.trans (below_drewN (Below.refl _ _) 1)⟩
/-- The same, and the numbers. -/
structure P4 (w : World) (u1 v1 u2 v2 : Value) (g : Nat) (vo vq vr : Value) (q r : Nat) (W : World) : Prop where
  f : F4 w u1 v1 u2 v2 g vo vq vr W
  hq : NumIs (q : Int) (w.heap.size + 1 + 1 + 1 + 1 + 1 + 1) W (.agg #[.bool false, vq])
  hr : NumIs (r : Int) (w.heap.size + 1 + 1 + 1 + 1 + 1 + 1) W (.agg #[.bool false, vr])
  ho : NumIs ((1 : Nat) : Int) (w.heap.size + 1 + 1 + 1 + 1 + 1 + 1) W (.agg #[.bool false, vo])
theorem P4.next {w W W' : World} {u1 v1 u2 v2 vo vq vr : Value} {g q r : Nat} (h : P4 w u1 v1 u2 v2 g vo vq vr q r W) (hb : Below W.heap.size W W') : P4 w u1 v1 u2 v2 g vo vq vr q r W' :=
  ⟨h.f.next hb, h.hq.on hb (Nat.le_refl _), h.hr.on hb (Nat.le_refl _), h.ho.on hb (Nat.le_refl _)⟩
theorem P4.drew {w W : World} {u1 v1 u2 v2 vo vq vr : Value} {g q r : Nat} (h : P4 w u1 v1 u2 v2 g vo vq vr q r W) : P4 w u1 v1 u2 v2 g vo vq vr q r W.drew := h.next (below_drewN (Below.refl _ _) 1)
theorem F4.put2 {w W : World} {u1 v1 u2 v2 vo vq vr : Value} {g : Nat} (h : F4 w u1 v1 u2 v2 g vo vq vr W) (u v : Value) : F4 w u1 v1 u2 v2 g vo vq vr ((W.setCell ⟨w.heap.size + 1 + 1, 0, none⟩ u).setCell ⟨w.heap.size + 1 + 1, 1, none⟩ v) := by
  obtain ⟨h0, hs, h1, h2, h3, h4, ⟨x0, e0⟩, ⟨x1, e1⟩, ⟨x2, e2⟩, ⟨x3, e3⟩, q0, q1, r0, r1, o0, o1, gl, gs, f2, f3, f4, f5⟩ := h
  have hg : w.heap.size + 1 + 1 ≠ g := by omega
  exact ⟨(h0.setCell (by simp; omega) _).setCell (by simp; omega) _, by simpa using hs, by simp [go_sem, h1], by simp [go_sem, h2], by simp [go_sem, h3], by simp [go_sem, h4], ⟨u, by simp [go_sem, e0]⟩, ⟨v, by simp [go_sem, e1]⟩, ⟨x2, by simp [go_sem, e2]⟩, ⟨x3, by simp [go_sem, e3]⟩,
    by simp [go_sem, q0], by simp [go_sem, q1], by simp [go_sem, r0], by simp [go_sem, r1], by rw [World.cell?_setCell_far _ _ _ _ hg, World.cell?_setCell_far _ _ _ _ hg]; exact o0, by rw [World.cell?_setCell_far _ _ _ _ hg, World.cell?_setCell_far _ _ _ _ hg]; exact o1, gl, by simpa using gs,
    fun o => by simp [go_sem, f2], fun o => by simp [go_sem, f3], fun o => by simp [go_sem, f4], fun o => by simp [go_sem, f5]⟩
theorem P4.put2 {w W : World} {u1 v1 u2 v2 vo vq vr : Value} {g q r : Nat} (h : P4 w u1 v1 u2 v2 g vo vq vr q r W) (u v : Value) : P4 w u1 v1 u2 v2 g vo vq vr q r ((W.setCell ⟨w.heap.size + 1 + 1, 0, none⟩ u).setCell ⟨w.heap.size + 1 + 1, 1, none⟩ v) :=
  ⟨h.f.put2 u v, (h.hq.put (by simp) u).put (by simp) v, (h.hr.put (by simp) u).put (by simp) v, (h.ho.put (by simp) u).put (by simp) v⟩
theorem F4.put3 {w W : World} {u1 v1 u2 v2 vo vq vr : Value} {g : Nat} (h : F4 w u1 v1 u2 v2 g vo vq vr W) (u v : Value) : F4 w u1 v1 u2 v2 g vo vq vr ((W.setCell ⟨w.heap.size + 1 + 1 + 1, 0, none⟩ u).setCell ⟨w.heap.size + 1 + 1 + 1, 1, none⟩ v) := by
  obtain ⟨h0, hs, h1, h2, h3, h4, ⟨x0, e0⟩, ⟨x1, e1⟩, ⟨x2, e2⟩, ⟨x3, e3⟩, q0, q1, r0, r1, o0, o1, gl, gs, f2, f3, f4, f5⟩ := h
  have hg : w.heap.size + 1 + 1 + 1 ≠ g := by omega
  exact ⟨(h0.setCell (by simp; omega) _).setCell (by simp; omega) _, by simpa using hs, by simp [go_sem, h1], by simp [go_sem, h2], by simp [go_sem, h3], by simp [go_sem, h4], ⟨x0, by simp [go_sem, e0]⟩, ⟨x1, by simp [go_sem, e1]⟩, ⟨u, by simp [go_sem, e2]⟩, ⟨v, by simp [go_sem, e3]⟩,
    by simp [go_sem, q0], by simp [go_sem, q1], by simp [go_sem, r0], by simp [go_sem, r1], by rw [World.cell?_setCell_far _ _ _ _ hg, World.cell?_setCell_far _ _ _ _ hg]; exact o0, by rw [World.cell?_setCell_far _ _ _ _ hg, World.cell?_setCell_far _ _ _ _ hg]; exact o1, gl, by simpa using gs,
    fun o => by simp [go_sem, f2], fun o => by simp [go_sem, f3], fun o => by simp [go_sem, f4], fun o => by simp [go_sem, f5]⟩
theorem P4.put3 {w W : World} {u1 v1 u2 v2 vo vq vr : Value} {g q r : Nat} (h : P4 w u1 v1 u2 v2 g vo vq vr q r W) (u v : Value) : P4 w u1 v1 u2 v2 g vo vq vr q r ((W.setCell ⟨w.heap.size + 1 + 1 + 1, 0, none⟩ u).setCell ⟨w.heap.size + 1 + 1 + 1, 1, none⟩ v) :=
  ⟨h.f.put3 u v, (h.hq.put (by simp) u).put (by simp) v, (h.hr.put (by simp) u).put (by simp) v, (h.ho.put (by simp) u).put (by simp) v⟩
theorem keepP4 {w W : World} {u1 v1 u2 v2 vo vq vr : Value} {g q r : Nat} (h : P4 w u1 v1 u2 v2 g vo vq vr q r W) : P4 w u1 v1 u2 v2 g vo vq vr q r W ∧ W.cell? ⟨w.heap.size + 1, 0, none⟩ = some u2 ∧ W.cell? ⟨w.heap.size + 1, 1, none⟩ = some v2 ∧ W.cell? ⟨w.heap.size + 1 + 1 + 1 + 1, 0, none⟩ = some (.bool false) ∧ W.cell? ⟨w.heap.size + 1 + 1 + 1 + 1, 1, none⟩ = some vq ∧ W.cell? ⟨w.heap.size + 1 + 1 + 1 + 1 + 1, 0, none⟩ = some (.bool false) ∧ W.cell? ⟨w.heap.size + 1 + 1 + 1 + 1 + 1, 1, none⟩ = some vr ∧ W.cell? ⟨g, 0, none⟩ = some (.bool false) ∧ W.cell? ⟨g, 1, none⟩ = some vo :=
  ⟨h, h.f.c3, h.f.c4, h.f.q0, h.f.q1, h.f.r0, h.f.r1, h.f.o0, h.f.o1⟩

set_option maxHeartbeats 4000000 in
theorem rparts_walk (w : World) (n : Int) (b : Bool) (hb : decide (n < 0) = b) (D : Nat) (ds : List Nat) (B1 B2 c1 l2 c2 K : Nat) (p1 p2 : Option Addr) (hr1 : Row w B1 (.slice p1 ds.length c1) ds) (hd1 : Dig ds) (hv : dv ds = n.natAbs) (hl : ds.length ≤ 100)
    (h2 : NumIs (D : Int) B2 w (.agg #[.bool false, .slice p2 l2 c2])) (hD : 0 < D) (hK : Hid (65536 ^ 100 = K)) (hV : 4 * n.natAbs + 4 < K) (hDK : 4 * D + 4 < K) :
    Calls Try.prog 39 #[.agg #[.bool b, .slice p1 ds.length c1], .agg #[.bool false, .slice p2 l2 c2]] w (PartsR (n / D) (n % D) w) := by
  have HA := Lib.hid (fun (wr : World) (hb : Below w.heap.size w wr) i => digit_at wr B1 _ ds (hr1.on hb (Nat.le_refl _)) i)
  have H2 := Lib.hid (fun (wr : World) (hb : Below w.heap.size w wr) => h2.on hb (Nat.le_refl _))
  have HC := Lib.hid (Cut.first hd1 D)
  have HB := Lib.hid (fun i => bit_at hd1 i)
  rw [hv] at HC HB
  have hbb := hb
  clear hb
  clear hr1 h2
  go_enter Try.func39, Try.ntmps39
  go_wp2_with fail
  refine (rof_any _ 1 (by omega) (by omega)).mono ?_
  rintro e W1 ⟨x, rfl, hx, hb⟩
  obtain ⟨po, lo, co, rfl, ho⟩ := hx.nat 1 (by omega)
  have F := F4.first _ _ _ _ (.slice po lo co) 47 hb
  have ho1 : NumIs ((1 : Nat) : Int) (w.heap.size + 1 + 1 + 1 + 1 + 1 + 1) _ _ := (ho.mono (by simp)).on ((Below.refl W1.heap.size W1).alloc (Nat.le_refl _) (.cells #[.bool false, .slice po lo co] 47)) (Nat.le_refl _)
  clear ho hx hb
  generalize hg : W1.heap.size = g at *
  obtain ⟨hF0, hF1, k1, k2, k3, k4, -, -, -, -, k5, k6, k7, k8, k9, k10, -, -, -, -, -, -⟩ := id F
  go_wp2_with fail
  go_loopw [9] (fun i wr => ∃ (k q r : Nat) (pq : Option Addr) (lq cq : Nat) (pr : Option Addr) (lr cr : Nat), k ≤ 16 * ds.length ∧ i = .int .i64 ((k : Int) - 1) ∧ Hid (Cut n.natAbs D k q r) ∧ F4 w (.bool b) (.slice p1 ds.length c1) (.bool false) (.slice p2 l2 c2) g (.slice po lo co) (.slice pq lq cq) (.slice pr lr cr) wr ∧ NumIs (q : Int) (w.heap.size + 1 + 1 + 1 + 1 + 1 + 1) wr (.agg #[.bool false, .slice pq lq cq]) ∧ NumIs (r : Int) (w.heap.size + 1 + 1 + 1 + 1 + 1 + 1) wr (.agg #[.bool false, .slice pr lr cr]) ∧ NumIs ((1 : Nat) : Int) (w.heap.size + 1 + 1 + 1 + 1 + 1 + 1) wr (.agg #[.bool false, .slice po lo co])) (fun i _ => (intOf i + 1).toNat)
  case atStart => exact ⟨16 * ds.length, 0, 0, none, 0, 0, none, 0, 0, Nat.le_refl _, by go_num, HC, F, num_zero _ _, num_zero _ _, ho1⟩
  case round =>
    clear hF0 hF1 k1 k2 k3 k4 k5 k6 k7 k8 k9 k10 F ho1 HC hg
    obtain ⟨k, q, r, pq, lq, cq, pr, lr, cr, hk, rfl, hc, F, hq, hr, ho⟩ := hrel
    obtain ⟨hF0, hF1, k1, k2, k3, k4, -, -, -, -, k5, k6, k7, k8, k9, k10, -, -, g2, g3, g4, g5⟩ := id F
    cases k with
    | zero =>
      have hK1 := hK.out
      have hqV := hc.out.le
      have hrD := hc.out.lt hD
      obtain ⟨-, -, -, -, -, -, ⟨x0, e0⟩, ⟨x1, e1⟩, ⟨x2, e2⟩, ⟨x3, e3⟩, -, -, -, -, -, -, -, -, -, -, -, -⟩ := id F
      cases b with
      | true =>
        have hn : n < 0 := by simpa using hbb
        clear hbb
        have hrl := nat_len hr
        by_cases hr0 : r = 0
        · obtain rfl : lr = 0 := hrl.2 hr0
          clear hrl
          have A := Lib.hid (show -(q : Int) = n / D ∧ (r : Int) = n % D from by
            obtain ⟨a1, a2⟩ := parts_even n D q r hn hD hc.out hr0
            exact ⟨a1, by rw [hr0]; exact a2⟩)
          clear hr0
          have HP : P4 w (.bool true) (.slice p1 ds.length c1) (.bool false) (.slice p2 l2 c2) g (.slice po lo co) (.slice pq lq cq) (.slice pr 0 cr) q r wr := ⟨F, hq, hr, ho⟩
          clear hq hr ho F hD
          go_wp2_with fail
          go_region_held3 (fun w' => P4 w (.bool true) (.slice p1 ds.length c1) (.bool false) (.slice p2 l2 c2) g (.slice po lo co) (.slice pq lq cq) (.slice pr 0 cr) q r w' ∧ w'.cell? ⟨w.heap.size + 1, 0, none⟩ = some (.bool false) ∧ w'.cell? ⟨w.heap.size + 1, 1, none⟩ = some (.slice p2 l2 c2) ∧ w'.cell? ⟨w.heap.size + 1 + 1 + 1 + 1, 0, none⟩ = some (.bool false) ∧ w'.cell? ⟨w.heap.size + 1 + 1 + 1 + 1, 1, none⟩ = some (.slice pq lq cq) ∧ w'.cell? ⟨w.heap.size + 1 + 1 + 1 + 1 + 1, 0, none⟩ = some (.bool false) ∧ w'.cell? ⟨w.heap.size + 1 + 1 + 1 + 1 + 1, 1, none⟩ = some (.slice pr 0 cr) ∧ w'.cell? ⟨g, 0, none⟩ = some (.bool false) ∧ w'.cell? ⟨g, 1, none⟩ = some (.slice po lo co))
            (first
            | exact keepP4 (P4.drew (by assumption))
            | exact keepP4 (P4.drew (And.left (by assumption)))
            | exact keepP4 (P4.next (And.left (by assumption)) (by assumption))
            | exact keepP4 (P4.put2 (And.left (by assumption)) _ _)
            | exact keepP4 (P4.put3 (And.left (by assumption)) _ _))
            (first | (go_at_call 36; refine (rneg_any _ (q : Int) _ _ (P4.hq (And.left (by assumption))) (by rw [hK1]; omega)).mono ?_; rintro e w4 ⟨z, rfl, hz4, hb4⟩; have P' : P4 w (.bool true) (.slice p1 ds.length c1) (.bool false) (.slice p2 l2 c2) g (.slice po lo co) (.slice pq lq cq) (.slice pr 0 cr) q r w4 := P4.next (And.left (by assumption)) hb4; have z4 := F4.size (P4.f (And.left (by assumption))); obtain ⟨b', p', l', c', rfl⟩ := hz4.parts; obtain ⟨-, -, k1, k2, k3, k4, ⟨x0, e0⟩, ⟨x1, e1⟩, ⟨x2, e2⟩, ⟨x3, e3⟩, k5, k6, k7, k8, k9, k10, -, -, g2, g3, g4, g5⟩ := id P'.f))
          have Q := parts_done (n := -(q : Int)) (m := (r : Int)) P'.f.bel (hz4.mono z4) P'.hr (.bool b') (.slice p' l' c') (.bool false) (.slice pr 0 cr)
          rw [A.out.1, A.out.2] at Q
          have Q := Lib.hid Q
          clear hz4 P' A
          go_wp2_with fail
          refine bodyPost_ret (v := .tuple #[.agg #[.bool b', .slice p' l' c'], .agg #[.bool false, .slice pr 0 cr]]) (by simp [results, Try.results39, go_sem, e0, e1, e2, e3]) rfl Q.out
        · have hl0 : ((lr : Int) == 0) = false := by simp; omega
          clear hrl
          have A := Lib.hid (parts_odd n D q r hn hD hc.out hr0)
          have HP : P4 w (.bool true) (.slice p1 ds.length c1) (.bool false) (.slice p2 l2 c2) g (.slice po lo co) (.slice pq lq cq) (.slice pr lr cr) q r wr := ⟨F, hq, hr, ho⟩
          have HS1 : Hid (∀ W, P4 w (.bool true) (.slice p1 ds.length c1) (.bool false) (.slice p2 l2 c2) g (.slice po lo co) (.slice pq lq cq) (.slice pr lr cr) q r W → Calls Try.prog 35 #[.agg #[.bool false, .slice pq lq cq], .agg #[.bool false, .slice po lo co]] W (NumR ((q : Int) + (1 : Nat)) W)) := Lib.hid fun W h => rsum_any _ _ _ _ _ _ _ h.hq h.ho (by rw [hK1]; omega) (by rw [hK1]; omega)
          have HS2 : Hid (∀ W x B, P4 w (.bool true) (.slice p1 ds.length c1) (.bool false) (.slice p2 l2 c2) g (.slice po lo co) (.slice pq lq cq) (.slice pr lr cr) q r W → NumIs (-(r : Int)) B W x → Calls Try.prog 35 #[.agg #[.bool false, .slice p2 l2 c2], x] W (NumR ((D : Int) + -(r : Int)) W)) := Lib.hid fun W x B h hx => rsum_any _ _ _ _ _ _ _ (H2.out _ h.f.bel) hx (by rw [hK1]; omega) (by rw [hK1]; omega)
          have HN1 : Hid (∀ W x B, NumIs ((q : Int) + (1 : Nat)) B W x → Calls Try.prog 36 #[x] W (NumR (-((q : Int) + (1 : Nat))) W)) := Lib.hid fun W x B hx => rneg_any _ _ _ _ hx (by rw [hK1]; omega)
          have HN2 : Hid (∀ W, P4 w (.bool true) (.slice p1 ds.length c1) (.bool false) (.slice p2 l2 c2) g (.slice po lo co) (.slice pq lq cq) (.slice pr lr cr) q r W → Calls Try.prog 36 #[.agg #[.bool false, .slice pr lr cr]] W (NumR (-(r : Int)) W)) := Lib.hid fun W h => rneg_any _ _ _ _ h.hr (by rw [hK1]; omega)
          clear hq hr ho F hD hr0
          go_wp2_with fail
          go_region_held3 (fun w' => P4 w (.bool true) (.slice p1 ds.length c1) (.bool false) (.slice p2 l2 c2) g (.slice po lo co) (.slice pq lq cq) (.slice pr lr cr) q r w' ∧ w'.cell? ⟨w.heap.size + 1, 0, none⟩ = some (.bool false) ∧ w'.cell? ⟨w.heap.size + 1, 1, none⟩ = some (.slice p2 l2 c2) ∧ w'.cell? ⟨w.heap.size + 1 + 1 + 1 + 1, 0, none⟩ = some (.bool false) ∧ w'.cell? ⟨w.heap.size + 1 + 1 + 1 + 1, 1, none⟩ = some (.slice pq lq cq) ∧ w'.cell? ⟨w.heap.size + 1 + 1 + 1 + 1 + 1, 0, none⟩ = some (.bool false) ∧ w'.cell? ⟨w.heap.size + 1 + 1 + 1 + 1 + 1, 1, none⟩ = some (.slice pr lr cr) ∧ w'.cell? ⟨g, 0, none⟩ = some (.bool false) ∧ w'.cell? ⟨g, 1, none⟩ = some (.slice po lo co))
            (first
            | exact keepP4 (P4.drew (by assumption))
            | exact keepP4 (P4.drew (And.left (by assumption)))
            | exact keepP4 (P4.next (And.left (by assumption)) (by assumption))
            | exact keepP4 (P4.put2 (And.left (by assumption)) _ _)
            | exact keepP4 (P4.put3 (And.left (by assumption)) _ _))
            (first
              | (go_at_call 35; refine (HS1.out _ (And.left (by assumption))).mono ?_; clear HS1; rintro e w4 ⟨z4, rfl, hz4, hb4⟩; have Q4 : P4 w (.bool true) (.slice p1 ds.length c1) (.bool false) (.slice p2 l2 c2) g (.slice po lo co) (.slice pq lq cq) (.slice pr lr cr) q r w4 := P4.next (And.left (by assumption)) hb4; have s4 := F4.size (P4.f (And.left (by assumption))))
              | (go_at_call 36; refine (HN1.out _ _ _ hz4).mono ?_; clear HN1; rintro e w5 ⟨z5, rfl, hz5, hb5⟩; have Q5 : P4 w (.bool true) (.slice p1 ds.length c1) (.bool false) (.slice p2 l2 c2) g (.slice po lo co) (.slice pq lq cq) (.slice pr lr cr) q r w5 := P4.next Q4 hb5; have s5 := Q4.f.size; clear hz4 hb4; obtain ⟨b5, p5, l5, c5, rfl⟩ := hz5.parts)
              | (go_at_call 36; refine (HN2.out _ Q5).mono ?_; clear HN2; rintro e w6 ⟨z6, rfl, hz6, hb6⟩; have Q6 : P4 w (.bool true) (.slice p1 ds.length c1) (.bool false) (.slice p2 l2 c2) g (.slice po lo co) (.slice pq lq cq) (.slice pr lr cr) q r w6 := P4.next Q5 hb6; have hz56 := hz5.on hb6 (Nat.le_refl _))
              | (go_at_call 35; refine (HS2.out _ _ _ Q6 hz6).mono ?_; clear HS2; rintro e w7 ⟨z7, rfl, hz7, hb7⟩; have Q7 : P4 w (.bool true) (.slice p1 ds.length c1) (.bool false) (.slice p2 l2 c2) g (.slice po lo co) (.slice pq lq cq) (.slice pr lr cr) q r w7 := P4.next Q6 hb7; have hz57 := hz56.on hb7 (Nat.le_refl _); have s7 := Q6.f.size; obtain ⟨b7, p7, l7, c7, rfl⟩ := hz7.parts; obtain ⟨-, -, k1, k2, k3, k4, ⟨x0, e0⟩, ⟨x1, e1⟩, ⟨x2, e2⟩, ⟨x3, e3⟩, k5, k6, k7, k8, k9, k10, -, -, g2, g3, g4, g5⟩ := id Q7.f))
          have Q := parts_done (n := -((q : Int) + (1 : Nat))) (m := (D : Int) + -(r : Int)) Q7.f.bel (hz57.mono s5) (hz7.mono s7) (.bool b5) (.slice p5 l5 c5) (.bool b7) (.slice p7 l7 c7)
          rw [show -((q : Int) + (1 : Nat)) = n / D from A.out.1, show (D : Int) + -(r : Int) = n % D by rw [← A.out.2]; rfl] at Q
          have Q := Lib.hid Q
          clear hz57 hz7 hz56 hz5 Q7 Q6 Q5 Q4 A hb5 hb6 hb7
          go_wp2_with fail
          refine bodyPost_ret (v := .tuple #[.agg #[.bool b5, .slice p5 l5 c5], .agg #[.bool b7, .slice p7 l7 c7]]) (by simp [results, Try.results39, go_sem, e0, e1, e2, e3]) rfl Q.out
      | false =>
        have hn : ¬ n < 0 := by simpa using hbb
        clear hbb
        obtain ⟨a1, a2⟩ := parts_up n D q r (by omega) hc.out
        have Q := Lib.hid (parts_done F.bel (a1 ▸ hq) (a2 ▸ hr) (.bool false) (.slice pq lq cq) (.bool false) (.slice pr lr cr))
        clear a1 a2 hq hr ho F
        go_wp2_with fail
        go_region
        go_wp2_with fail
        refine bodyPost_ret (v := .tuple #[.agg #[.bool false, .slice pq lq cq], .agg #[.bool false, .slice pr lr cr]]) (by simp [results, Try.results39, go_sem, e0, e1, e2, e3]) rfl Q.out.drew
    | succ m =>
      have hqV := hc.out.le
      have hrD := hc.out.lt hD
      have hbit := HB.out m
      have hK1 := hK.out
      have hi : ((m + 1 : Nat) : Int) - 1 = m := by omega
      rw [hi]
      clear hi
      go_wp2_with fail
      refine (rsum_any _ q q _ _ _ _ hq hq (by rw [hK1]; omega) (by rw [hK1]; omega)).mono ?_
      rintro e W2 ⟨x, rfl, hx, hb⟩
      obtain ⟨pq2, lq2, cq2, rfl, hq2⟩ := hx.nat (q + q) (by omega)
      have F2 := F.next hb
      have hq2 := nq (hq2.mono F.size) (.bool false) (.slice pq2 lq2 cq2)
      have hr2 := nq (hr.on hb (Nat.le_refl _)) (.bool false) (.slice pq2 lq2 cq2)
      have ho2 := nq (ho.on hb (Nat.le_refl _)) (.bool false) (.slice pq2 lq2 cq2)
      have G2 := F2.putq (.slice pq2 lq2 cq2)
      clear hx hb hq hr ho F hF0 hF1 k1 k2 k3 k4 k5 k6 k7 k8 k9 k10 g2 g3 g4 g5
      obtain ⟨hF0, hF1, k1, k2, k3, k4, -, -, -, -, k5, k6, k7, k8, k9, k10, -, -, g2, g3, g4, g5⟩ := id F2
      go_wp2_with fail
      refine (rsum_any _ r r _ _ _ _ hr2 hr2 (by rw [hK1]; omega) (by rw [hK1]; omega)).mono ?_
      rintro e W3 ⟨x, rfl, hx, hb⟩
      obtain ⟨pr3, lr3, cr3, rfl, hr3⟩ := hx.nat (r + r) (by omega)
      have F3 := G2.next hb
      have hq3 := nr (hq2.on hb (Nat.le_refl _)) (.bool false) (.slice pr3 lr3 cr3)
      have hr3 := nr (hr3.mono G2.size) (.bool false) (.slice pr3 lr3 cr3)
      have ho3 := nr (ho2.on hb (Nat.le_refl _)) (.bool false) (.slice pr3 lr3 cr3)
      have G3 := F3.putr (.slice pr3 lr3 cr3)
      clear hx hb hq2 hr2 ho2 F2 G2 hF0 hF1 k1 k2 k3 k4 k5 k6 k7 k8 k9 k10 g2 g3 g4 g5
      obtain ⟨hF0, hF1, k1, k2, k3, k4, -, -, -, -, k5, k6, k7, k8, k9, k10, -, -, g2, g3, g4, g5⟩ := id F3
      go_wp2_with fail
      generalize ((W3.setCell ⟨w.heap.size + 1 + 1 + 1 + 1 + 1, 0, none⟩ (.bool false)).setCell ⟨w.heap.size + 1 + 1 + 1 + 1 + 1, 1, none⟩ (.slice pr3 lr3 cr3)) = W4 at *
      clear F3 hF0 hF1 k1 k2 k3 k4 k5 k6 k7 k8 k9 k10 g2 g3 g4 g5
      obtain ⟨hF0, hF1, k1, k2, k3, k4, -, -, -, -, k5, k6, k7, k8, k9, k10, -, -, g2, g3, g4, g5⟩ := id G3
      have hd := HA.out _ G3.bel (m / 16)
      rw [show ((m / 16 : Nat) : Int) = (m : Int) / 16 by omega] at hd
      have hdl := hd1 (m / 16)
      generalize dd ds (m / 16) = d at *
      have hd2 : ((d / 2 ^ (m % 16) : Nat) : Int) = (d : Int) / 2 ^ (m % 16) := by simp
      refine hd.mono ?_
      clear hd
      rintro e w' ⟨rfl, rfl⟩
      by_cases ht : d / 2 ^ (m % 16) % 2 = 1
      · have hgt : (((d : Int) / 2 ^ (m % 16)).tmod 2 == 1) = true := by
          rw [← hd2, Int.tmod_eq_emod_of_nonneg (Int.natCast_nonneg _)]
          simp
          omega
        clear hd2
        go_wp2_with fail
        refine (rsum_any _ _ _ _ _ _ _ hr3 ho3 (by rw [hK1]; omega) (by rw [hK1]; omega)).mono ?_
        rintro e W5 ⟨x, rfl, hx, hb⟩
        obtain ⟨pr5, lr5, cr5, rfl, hr5⟩ := hx.nat (r + r + 1) (by omega)
        have F5 := G3.next hb
        have hq5 := nr (hq3.on hb (Nat.le_refl _)) (.bool false) (.slice pr5 lr5 cr5)
        have hr5 := nr (hr5.mono G3.size) (.bool false) (.slice pr5 lr5 cr5)
        have ho5 := nr (ho3.on hb (Nat.le_refl _)) (.bool false) (.slice pr5 lr5 cr5)
        have G5 := F5.putr (.slice pr5 lr5 cr5)
        clear hx hb hq3 hr3 ho3 G3 hF0 hF1 k1 k2 k3 k4 k5 k6 k7 k8 k9 k10 g2 g3 g4 g5
        obtain ⟨hF0, hF1, k1, k2, k3, k4, -, -, -, -, k5, k6, k7, k8, k9, k10, -, -, g2, g3, g4, g5⟩ := id F5
        go_wp2_with fail
        generalize ((W5.setCell ⟨w.heap.size + 1 + 1 + 1 + 1 + 1, 0, none⟩ (.bool false)).setCell ⟨w.heap.size + 1 + 1 + 1 + 1 + 1, 1, none⟩ (.slice pr5 lr5 cr5)) = W6 at *
        clear F5 hF0 hF1 k1 k2 k3 k4 k5 k6 k7 k8 k9 k10 g2 g3 g4 g5
        obtain ⟨hF0, hF1, k1, k2, k3, k4, -, -, -, -, k5, k6, k7, k8, k9, k10, -, -, g2, g3, g4, g5⟩ := id G5
        have HC2 := rcmp_nat W6 (r + r + 1) D _ _ _ _ hr5 (H2.out _ G5.bel)
        refine HC2.mono ?_
        clear HC2
        rintro e w' ⟨⟨cc, rfl, hcc⟩, rfl⟩
        by_cases hge : D ≤ r + r + 1
        · have hc0 : 0 ≤ cc := hcc.2 hge
          clear hcc
          go_wp2_with fail
          refine (rless_nat _ (r + r + 1) D _ _ _ _ hr5 (H2.out _ G5.bel) (by rw [hK1]; omega) (by rw [hK1]; omega) hge).mono ?_
          rintro e W7 ⟨v, os, rfl, hrow, hdig, hlen, hval, hb⟩
          have F7 := G5.next hb
          have hq7 := hq5.on hb (Nat.le_refl _)
          have ho7 := ho5.on hb (Nat.le_refl _)
          have hs7 := G5.size
          clear hb G5 hq5 hr5 ho5 hF0 hF1 k1 k2 k3 k4 k5 k6 k7 k8 k9 k10 g2 g3 g4 g5
          go_wp2_with fail
          refine (whole_any _ false v _ os hrow (by omega) hdig).mono ?_
          rintro e W8 ⟨x, rfl, hx, hb⟩
          obtain ⟨pr8, lr8, cr8, rfl, hr8⟩ := hx.nat (r + r + 1 - D) (by rw [hval]; rfl)
          have F8 := F7.next hb
          have hq8 := nr (hq7.on hb (Nat.le_refl _)) (.bool false) (.slice pr8 lr8 cr8)
          have hr8 := nr (hr8.mono F7.size) (.bool false) (.slice pr8 lr8 cr8)
          have ho8 := nr (ho7.on hb (Nat.le_refl _)) (.bool false) (.slice pr8 lr8 cr8)
          have G8 := F8.putr (.slice pr8 lr8 cr8)
          have j1 := G8.o0
          have j2 := G8.o1
          clear hx hb hq7 ho7 F7 hrow hdig hval hlen
          obtain ⟨hF0, hF1, k1, k2, k3, k4, -, -, -, -, k5, k6, k7, k8, k9, k10, -, -, g2, g3, g4, g5⟩ := id F8
          go_wp2_with fail
          refine (rsum_any _ _ _ _ _ _ _ hq8 ho8 (by rw [hK1]; omega) (by rw [hK1]; omega)).mono ?_
          rintro e W9 ⟨x, rfl, hx, hb⟩
          obtain ⟨pq9, lq9, cq9, rfl, hq9⟩ := hx.nat (q + q + 1) (by omega)
          have F9 := G8.next hb
          have hq9 := nq (hq9.mono G8.size) (.bool false) (.slice pq9 lq9 cq9)
          have hr9 := nq (hr8.on hb (Nat.le_refl _)) (.bool false) (.slice pq9 lq9 cq9)
          have ho9 := nq (ho8.on hb (Nat.le_refl _)) (.bool false) (.slice pq9 lq9 cq9)
          have G9 := F9.putq (.slice pq9 lq9 cq9)
          clear hx hb hq8 hr8 ho8 F8 G8 j1 j2 hF0 hF1 k1 k2 k3 k4 k5 k6 k7 k8 k9 k10 g2 g3 g4 g5
          obtain ⟨hF0, hF1, k1, k2, k3, k4, -, -, -, -, k5, k6, k7, k8, k9, k10, -, -, g2, g3, g4, g5⟩ := id F9
          go_wp2_with fail
          go_roundw
          case rel => exact ⟨m, q + q + 1, r + r + 1 - D, pq9, lq9, cq9, pr8, lr8, cr8, by omega, by go_num, Lib.hid (hc.out.more hD (t := 1) (by omega) hge), G9, hq9, hr9, ho9⟩
          case measure => simp [intOf]
        · have hc0 : cc < 0 := by
            by_cases h : 0 ≤ cc
            · exact absurd (hcc.1 h) hge
            · omega
          clear hcc
          go_wp2_with fail
          go_roundw
          case rel => exact ⟨m, q + q, r + r + 1, pq2, lq2, cq2, pr5, lr5, cr5, by omega, by go_num, Lib.hid (hc.out.less (t := 1) (by omega) (by omega)), G5, hq5, hr5, ho5⟩
          case measure => simp [intOf]
      · have hgt : (((d : Int) / 2 ^ (m % 16)).tmod 2 == 1) = false := by
          rw [← hd2, Int.tmod_eq_emod_of_nonneg (Int.natCast_nonneg _)]
          simp
          omega
        clear hd2
        go_wp2_with fail
        have HC2 := rcmp_nat _ (r + r) D _ _ _ _ hr3 (H2.out _ G3.bel)
        refine HC2.mono ?_
        clear HC2
        rintro e w' ⟨⟨cc, rfl, hcc⟩, rfl⟩
        by_cases hge : D ≤ r + r
        · have hc0 : 0 ≤ cc := hcc.2 hge
          clear hcc
          go_wp2_with fail
          refine (rless_nat _ (r + r) D _ _ _ _ hr3 (H2.out _ G3.bel) (by rw [hK1]; omega) (by rw [hK1]; omega) hge).mono ?_
          rintro e W7 ⟨v, os, rfl, hrow, hdig, hlen, hval, hb⟩
          have F7 := G3.next hb
          have hq7 := hq3.on hb (Nat.le_refl _)
          have ho7 := ho3.on hb (Nat.le_refl _)
          have hs7 := G3.size
          clear hb G3 hq3 hr3 ho3 hF0 hF1 k1 k2 k3 k4 k5 k6 k7 k8 k9 k10 g2 g3 g4 g5
          go_wp2_with fail
          refine (whole_any _ false v _ os hrow (by omega) hdig).mono ?_
          rintro e W8 ⟨x, rfl, hx, hb⟩
          obtain ⟨pr8, lr8, cr8, rfl, hr8⟩ := hx.nat (r + r - D) (by rw [hval]; rfl)
          have F8 := F7.next hb
          have hq8 := nr (hq7.on hb (Nat.le_refl _)) (.bool false) (.slice pr8 lr8 cr8)
          have hr8 := nr (hr8.mono F7.size) (.bool false) (.slice pr8 lr8 cr8)
          have ho8 := nr (ho7.on hb (Nat.le_refl _)) (.bool false) (.slice pr8 lr8 cr8)
          have G8 := F8.putr (.slice pr8 lr8 cr8)
          have j1 := G8.o0
          have j2 := G8.o1
          clear hx hb hq7 ho7 F7 hrow hdig hval hlen
          obtain ⟨hF0, hF1, k1, k2, k3, k4, -, -, -, -, k5, k6, k7, k8, k9, k10, -, -, g2, g3, g4, g5⟩ := id F8
          go_wp2_with fail
          refine (rsum_any _ _ _ _ _ _ _ hq8 ho8 (by rw [hK1]; omega) (by rw [hK1]; omega)).mono ?_
          rintro e W9 ⟨x, rfl, hx, hb⟩
          obtain ⟨pq9, lq9, cq9, rfl, hq9⟩ := hx.nat (q + q + 1) (by omega)
          have F9 := G8.next hb
          have hq9 := nq (hq9.mono G8.size) (.bool false) (.slice pq9 lq9 cq9)
          have hr9 := nq (hr8.on hb (Nat.le_refl _)) (.bool false) (.slice pq9 lq9 cq9)
          have ho9 := nq (ho8.on hb (Nat.le_refl _)) (.bool false) (.slice pq9 lq9 cq9)
          have G9 := F9.putq (.slice pq9 lq9 cq9)
          clear hx hb hq8 hr8 ho8 F8 G8 j1 j2 hF0 hF1 k1 k2 k3 k4 k5 k6 k7 k8 k9 k10 g2 g3 g4 g5
          obtain ⟨hF0, hF1, k1, k2, k3, k4, -, -, -, -, k5, k6, k7, k8, k9, k10, -, -, g2, g3, g4, g5⟩ := id F9
          go_wp2_with fail
          go_roundw
          case rel => exact ⟨m, q + q + 1, r + r - D, pq9, lq9, cq9, pr8, lr8, cr8, by omega, by go_num, Lib.hid (hc.out.more hD (t := 0) (by omega) hge), G9, hq9, hr9, ho9⟩
          case measure => simp [intOf]
        · have hc0 : cc < 0 := by
            by_cases h : 0 ≤ cc
            · exact absurd (hcc.1 h) hge
            · omega
          clear hcc
          go_wp2_with fail
          go_roundw
          case rel => exact ⟨m, q + q, r + r, pq2, lq2, cq2, pr3, lr3, cr3, by omega, by go_num, Lib.hid (hc.out.less (t := 0) (by omega) (by omega)), G3, hq3, hr3, ho3⟩
          case measure => simp [intOf]

theorem rparts_any (w : World) (n : Int) (D : Nat) (x y : Value) (B1 B2 : Nat) (hx : NumIs n B1 w x) (hy : NumIs (D : Int) B2 w y) (hD : 0 < D) (hn : 4 * n.natAbs + 4 < 65536 ^ 100) (hm : 4 * D + 4 < 65536 ^ 100) :
    Calls Try.prog 39 #[x, y] w (PartsR (n / D) (n % D) w) := by
  obtain ⟨p1, c1, ds1, rfl, hr1, hm1, hd1⟩ := hx.form
  obtain ⟨p2, l2, c2, rfl, hy⟩ := hy.nat D rfl
  have l1 := hm1.len (L := 100) (by rw [hd1]; omega)
  exact rparts_walk w n _ rfl D ds1 B1 B2 c1 l2 c2 _ p1 p2 hr1 hm1.dig hd1 (by omega) hy hD (Lib.hid rfl) hn hm

end Go.Proofs.Ytnbloflgggndiaa
