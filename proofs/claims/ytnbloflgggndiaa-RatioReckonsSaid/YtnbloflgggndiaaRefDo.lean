/- The contract of the reference's Do. -/
import Derived.Test.YtnbloflgggndiaaRefCmp
import Derived.Test.YtnbloflgggndiaaRefScale
namespace Go.Proofs.Ytnbloflgggndiaa
open Go.RowKit Rf Rt

theorem two100 {n m : Int} (h1 : n.natAbs ≤ 85070591730234615865843651857942052864) (h2 : m.natAbs ≤ 85070591730234615865843651857942052864) : (n + m).natAbs ≤ 170141183460469231731687303715884105728 := by omega
theorem lt99 {n : Nat} (h : n ≤ 170141183460469231731687303715884105728) : n < 65536 ^ 99 := Nat.lt_of_le_of_lt h (by decide)

/-- What is known of a world within Do: the result's place, and where n and d lie. -/
structure D3 (w : World) (g1 g2 : Nat) (u1 v1 u2 v2 : Value) (W : World) : Prop where
  b : B2 w g1 g2 u1 v1 u2 v2 W
  l0 : w.heap.size + 1 + 1 < g1
  e0 : ∃ u, W.cell? ⟨w.heap.size + 1 + 1, 0, none⟩ = some u
  e1 : ∃ u, W.cell? ⟨w.heap.size + 1 + 1, 1, none⟩ = some u
  f0 : ∀ o, W.frozen? ⟨w.heap.size + 1 + 1, o, none⟩ = false
theorem D3.next {w W W' : World} {g1 g2 : Nat} {u1 v1 u2 v2 : Value} (h : D3 w g1 g2 u1 v1 u2 v2 W) (hb : Below W.heap.size W W') : D3 w g1 g2 u1 v1 u2 v2 W' := by
  have := h.l0
  have := h.b.l12
  have := h.b.l2
  exact ⟨h.b.next hb, h.l0, by rw [hb.cell (by simp; omega)]; exact h.e0, by rw [hb.cell (by simp; omega)]; exact h.e1, fun o => by rw [hb.frozen (by simp; omega)]; exact h.f0 o⟩
theorem D3.put1 {w W : World} {g1 g2 : Nat} {u1 v1 u2 v2 : Value} (h : D3 w g1 g2 u1 v1 u2 v2 W) (u v : Value) : D3 w g1 g2 u v u2 v2 ((W.setCell ⟨g1, 0, none⟩ u).setCell ⟨g1, 1, none⟩ v) := by
  have n : g1 ≠ w.heap.size + 1 + 1 := by have := h.l0; omega
  exact ⟨h.b.put1 u v, h.l0, by rw [World.cell?_setCell_far _ _ _ _ n, World.cell?_setCell_far _ _ _ _ n]; exact h.e0, by rw [World.cell?_setCell_far _ _ _ _ n, World.cell?_setCell_far _ _ _ _ n]; exact h.e1, fun o => by simp [go_sem, h.f0]⟩
theorem D3.put2 {w W : World} {g1 g2 : Nat} {u1 v1 u2 v2 : Value} (h : D3 w g1 g2 u1 v1 u2 v2 W) (u v : Value) : D3 w g1 g2 u1 v1 u v ((W.setCell ⟨g2, 0, none⟩ u).setCell ⟨g2, 1, none⟩ v) := by
  have n : g2 ≠ w.heap.size + 1 + 1 := by have := h.l0; have := h.b.l12; omega
  exact ⟨h.b.put2 u v, h.l0, by rw [World.cell?_setCell_far _ _ _ _ n, World.cell?_setCell_far _ _ _ _ n]; exact h.e0, by rw [World.cell?_setCell_far _ _ _ _ n, World.cell?_setCell_far _ _ _ _ n]; exact h.e1, fun o => by simp [go_sem, h.f0]⟩

/-- Where numbers lie, each with its block and its two parts. -/
structure NV (w : World) (L : List (Nat × Value × Value)) (W : World) : Prop where
  bel : Below w.heap.size w W
  all : ∀ t ∈ L, t.1 < W.heap.size ∧ W.cell? ⟨t.1, 0, none⟩ = some t.2.1 ∧ W.cell? ⟨t.1, 1, none⟩ = some t.2.2 ∧ ∀ o, W.frozen? ⟨t.1, o, none⟩ = false
theorem NV.first (w : World) : NV w [] w := ⟨Below.refl _ _, fun t h => by cases h⟩
theorem NV.next {w W W' : World} {L : List (Nat × Value × Value)} (h : NV w L W) (hb : Below W.heap.size W W') : NV w L W' :=
  ⟨h.bel.trans (hb.mono h.bel.size), fun t ht => by
    obtain ⟨h1, h2, h3, h4⟩ := h.all t ht
    exact ⟨Nat.lt_of_lt_of_le h1 hb.size, by rw [hb.cell (p := ⟨t.1, 0, none⟩) h1, h2], by rw [hb.cell (p := ⟨t.1, 1, none⟩) h1, h3], fun o => by rw [hb.frozen (p := ⟨t.1, o, none⟩) h1, h4]⟩⟩
theorem NV.alloc {w W : World} {L : List (Nat × Value × Value)} (h : NV w L W) (u v : Value) (T : TypeId) : NV w ((W.heap.size, u, v) :: L) (W.alloc (.cells #[u, v] T)) := by
  have h2 := h.next ((Below.refl _ _).alloc (Nat.le_refl _) (.cells #[u, v] T))
  refine ⟨h2.bel, fun t ht => ?_⟩
  cases ht with
  | head => exact ⟨by simp, by simp [go_sem], by simp [go_sem], fun o => by simp [go_sem]⟩
  | tail _ ht => exact h2.all t ht
theorem NV.h1 {w W : World} {t : Nat × Value × Value} {L : List (Nat × Value × Value)} (h : NV w (t :: L) W) : t.1 < W.heap.size ∧ W.cell? ⟨t.1, 0, none⟩ = some t.2.1 ∧ W.cell? ⟨t.1, 1, none⟩ = some t.2.2 ∧ ∀ o, W.frozen? ⟨t.1, o, none⟩ = false := h.all t (by simp)
theorem NV.tl {w W : World} {t : Nat × Value × Value} {L : List (Nat × Value × Value)} (h : NV w (t :: L) W) : NV w L W := ⟨h.bel, fun u hu => h.all u (by simp [hu])⟩

/-- A number whose digits lie below block g. -/
def Old (g : Nat) (n : Int) (W : World) (x : Value) : Prop := ∃ W0 B, NumIs n B W0 x ∧ W0.heap.size ≤ g ∧ Below g W0 W
theorem Old.next {g : Nat} {n : Int} {W W' : World} {x : Value} (h : Old g n W x) (hb : Below W.heap.size W W') (hg : g ≤ W.heap.size) : Old g n W' x := by
  obtain ⟨W0, B, h1, h2, h3⟩ := h
  exact ⟨W0, B, h1, h2, h3.trans (hb.mono hg)⟩
theorem Old.set {g : Nat} {n : Int} {W : World} {x : Value} (h : Old g n W x) (p : Addr) (hp : g ≤ p.block) (u : Value) : Old g n (W.setCell p u) x := by
  obtain ⟨W0, B, h1, h2, h3⟩ := h
  exact ⟨W0, B, h1, h2, h3.setCell hp u⟩
theorem Old.is {g : Nat} {n : Int} {W : World} {x : Value} (h : Old g n W x) : NumE n W x := by
  obtain ⟨W0, B, h1, h2, h3⟩ := h
  exact ⟨B, h1.on h3 h2⟩
theorem NV.far {w W : World} {L : List (Nat × Value × Value)} (h : NV w L W) (p : Addr) (hw : w.heap.size ≤ p.block) (hp : ∀ t ∈ L, p.block ≠ t.1) (u : Value) : NV w L (W.setCell p u) := by
  refine ⟨h.bel.setCell hw u, fun t ht => ?_⟩
  obtain ⟨h1, h2, h3, h4⟩ := h.all t ht
  exact ⟨by simpa using h1, by rw [World.cell?_setCell_far _ _ _ _ (hp t ht)]; exact h2, by rw [World.cell?_setCell_far _ _ _ _ (hp t ht)]; exact h3, fun o => by simp [go_sem, h4]⟩
/-- What Do knows behind its denominator. -/
structure DoR (w : World) (g : Nat) (L : List (Nat × Value × Value)) (N1 D1 N2 D2 d : Int) (x1 x2 x3 x4 xd : Value) (W : World) : Prop where
  v : NV w L W
  far : ∀ t ∈ L, g ≠ t.1
  l0 : w.heap.size + 1 + 1 < g
  gz : g < W.heap.size
  n0 : ∃ u, W.cell? ⟨g, 0, none⟩ = some u
  n1 : ∃ u, W.cell? ⟨g, 1, none⟩ = some u
  fz : ∀ o, W.frozen? ⟨g, o, none⟩ = false
  e1 : Old g N1 W x1
  e2 : Old g D1 W x2
  e3 : Old g N2 W x3
  e4 : Old g D2 W x4
  ed : NumIs d (g + 1) W xd
theorem DoR.next {w W W' : World} {g : Nat} {L : List (Nat × Value × Value)} {N1 D1 N2 D2 d : Int} {x1 x2 x3 x4 xd : Value} (h : DoR w g L N1 D1 N2 D2 d x1 x2 x3 x4 xd W) (hb : Below W.heap.size W W') : DoR w g L N1 D1 N2 D2 d x1 x2 x3 x4 xd W' := by
  have hz := h.gz
  exact ⟨h.v.next hb, h.far, h.l0, Nat.lt_of_lt_of_le hz hb.size, by rw [hb.cell (by simpa using hz)]; exact h.n0, by rw [hb.cell (by simpa using hz)]; exact h.n1, fun o => by rw [hb.frozen (by simpa using hz)]; exact h.fz o,
    h.e1.next hb (by omega), h.e2.next hb (by omega), h.e3.next hb (by omega), h.e4.next hb (by omega), h.ed.on hb (Nat.le_refl _)⟩
theorem DoR.drew {w W : World} {g : Nat} {L : List (Nat × Value × Value)} {N1 D1 N2 D2 d : Int} {x1 x2 x3 x4 xd : Value} (h : DoR w g L N1 D1 N2 D2 d x1 x2 x3 x4 xd W) : DoR w g L N1 D1 N2 D2 d x1 x2 x3 x4 xd W.drew := h.next (below_drewN (Below.refl _ _) 1)
theorem DoR.put {w W : World} {g : Nat} {L : List (Nat × Value × Value)} {N1 D1 N2 D2 d : Int} {x1 x2 x3 x4 xd : Value} (h : DoR w g L N1 D1 N2 D2 d x1 x2 x3 x4 xd W) (u v : Value) : DoR w g L N1 D1 N2 D2 d x1 x2 x3 x4 xd ((W.setCell ⟨g, 0, none⟩ u).setCell ⟨g, 1, none⟩ v) := by
  have hl := h.l0
  obtain ⟨y0, n0⟩ := h.n0
  obtain ⟨y1, n1⟩ := h.n1
  have hz := h.gz
  exact ⟨(h.v.far ⟨g, 0, none⟩ (by simp; omega) h.far u).far ⟨g, 1, none⟩ (by simp; omega) h.far v, h.far, hl, by simpa using hz, ⟨u, by simp [go_sem, n0]⟩, ⟨v, by simp [go_sem, n1]⟩, fun o => by simp [go_sem, h.fz],
    (h.e1.set ⟨g, 0, none⟩ (Nat.le_refl _) u).set ⟨g, 1, none⟩ (Nat.le_refl _) v, (h.e2.set ⟨g, 0, none⟩ (Nat.le_refl _) u).set ⟨g, 1, none⟩ (Nat.le_refl _) v, (h.e3.set ⟨g, 0, none⟩ (Nat.le_refl _) u).set ⟨g, 1, none⟩ (Nat.le_refl _) v, (h.e4.set ⟨g, 0, none⟩ (Nat.le_refl _) u).set ⟨g, 1, none⟩ (Nat.le_refl _) v,
    (h.ed.put (by simp) u).put (by simp) v⟩

theorem DoR.size {w W : World} {g : Nat} {L : List (Nat × Value × Value)} {N1 D1 N2 D2 d : Int} {x1 x2 x3 x4 xd : Value} (h : DoR w g L N1 D1 N2 D2 d x1 x2 x3 x4 xd W) : g < W.heap.size := h.gz
theorem keepD {w W : World} {g g6 g4 g3 g2 g1 g0 : Nat} {N1 D1 N2 D2 d : Int} {y0 z0 y1 z1 y2 z2 y3 z3 y4 z4 y6 z6 x1 x2 x3 x4 xd : Value} (h : DoR w g ((g6, y6, z6) :: (g4, y4, z4) :: (g3, y3, z3) :: (g2, y2, z2) :: (g1, y1, z1) :: (g0, y0, z0) :: []) N1 D1 N2 D2 d x1 x2 x3 x4 xd W) :
    DoR w g ((g6, y6, z6) :: (g4, y4, z4) :: (g3, y3, z3) :: (g2, y2, z2) :: (g1, y1, z1) :: (g0, y0, z0) :: []) N1 D1 N2 D2 d x1 x2 x3 x4 xd W ∧ W.cell? ⟨g1, 0, none⟩ = some y1 ∧ W.cell? ⟨g1, 1, none⟩ = some z1 ∧ W.cell? ⟨g2, 0, none⟩ = some y2 ∧ W.cell? ⟨g2, 1, none⟩ = some z2 ∧ W.cell? ⟨g3, 0, none⟩ = some y3 ∧ W.cell? ⟨g3, 1, none⟩ = some z3 ∧ W.cell? ⟨g4, 0, none⟩ = some y4 ∧ W.cell? ⟨g4, 1, none⟩ = some z4 :=
  ⟨h, h.v.tl.tl.tl.tl.h1.2.1, h.v.tl.tl.tl.tl.h1.2.2.1, h.v.tl.tl.tl.h1.2.1, h.v.tl.tl.tl.h1.2.2.1, h.v.tl.tl.h1.2.1, h.v.tl.tl.h1.2.2.1, h.v.tl.h1.2.1, h.v.tl.h1.2.2.1⟩

set_option maxHeartbeats 1000000 in
theorem rdo_no1 (k : Int) (N1 D1 N2 D2 : Int) (w : World) (h1 : Is64 N1 D1) (hm : mayB N1 D1 = false) : Calls Try.prog 14 #[.int .i64 k, .agg #[.int .i64 N1, .int .i64 D1], .agg #[.int .i64 N2, .int .i64 D2]] w (RatIs 0 0 false w) := by
  have HR := Lib.hid (fun w => right_any N1 D1 w h1)
  rw [hm] at HR
  have V := (((NV.first w).alloc (.int .i64 N1) (.int .i64 D1) 24).alloc (.int .i64 N2) (.int .i64 D2) 24).alloc (.int .i64 0) (.int .i64 0) 24
  go_enter Try.func14, Try.ntmps14
  go_wp2_with fail
  refine (HR.out _).mono ?_
  rintro e w1 ⟨rfl, hb1⟩
  have V1 := V.next hb1
  obtain ⟨z1, k1, k2, f1⟩ := V1.h1
  simp at z1 k1 k2 f1
  have hB := V1.bel
  clear V V1 hb1
  go_wp2_with fail
  refine bodyPost_ret (v := .tuple #[.agg #[.int .i64 0, .int .i64 0], .bool false]) (by simp [results, Try.results14, go_sem, k1, k2]) rfl ⟨rfl, (hB.setCell (p := ⟨w.heap.size + 1 + 1, 0, none⟩) (by simp; omega) (.int .i64 0)).setCell (p := ⟨w.heap.size + 1 + 1, 1, none⟩) (by simp; omega) (.int .i64 0)⟩
set_option maxHeartbeats 1000000 in
theorem rdo_no2 (k : Int) (N1 D1 N2 D2 : Int) (w : World) (h1 : Is64 N1 D1) (hm : mayB N1 D1 = true) (h2 : Is64 N2 D2) (hm2 : mayB N2 D2 = false) : Calls Try.prog 14 #[.int .i64 k, .agg #[.int .i64 N1, .int .i64 D1], .agg #[.int .i64 N2, .int .i64 D2]] w (RatIs 0 0 false w) := by
  have HR := Lib.hid (fun w => right_any N1 D1 w h1)
  have HR2 := Lib.hid (fun w => right_any N2 D2 w h2)
  rw [hm] at HR
  rw [hm2] at HR2
  have V := (((NV.first w).alloc (.int .i64 N1) (.int .i64 D1) 24).alloc (.int .i64 N2) (.int .i64 D2) 24).alloc (.int .i64 0) (.int .i64 0) 24
  go_enter Try.func14, Try.ntmps14
  go_wp2_with fail
  refine (HR.out _).mono ?_
  rintro e w1 ⟨rfl, hb1⟩
  have V1 := V.next hb1
  obtain ⟨z1, k1, k2, f1⟩ := V1.tl.h1
  simp at z1 k1 k2 f1
  go_wp2_with fail
  refine (HR2.out _).mono ?_
  rintro e w2 ⟨rfl, hb2⟩
  have V2 := V1.next hb2
  obtain ⟨z1, k1, k2, f1⟩ := V2.h1
  simp at z1 k1 k2 f1
  have hB := V2.bel
  clear V V1 V2 hb1 hb2
  go_wp2_with fail
  refine bodyPost_ret (v := .tuple #[.agg #[.int .i64 0, .int .i64 0], .bool false]) (by simp [results, Try.results14, go_sem, k1, k2]) rfl ⟨rfl, (hB.setCell (p := ⟨w.heap.size + 1 + 1, 0, none⟩) (by simp; omega) (.int .i64 0)).setCell (p := ⟨w.heap.size + 1 + 1, 1, none⟩) (by simp; omega) (.int .i64 0)⟩

set_option maxHeartbeats 8000000 in
theorem rdo_2 (N1 D1 N2 D2 N D : Int) (b : Bool) (w : World) (h1 : Is64 N1 D1) (hm : mayB N1 D1 = true) (h2 : Is64 N2 D2) (hm2 : mayB N2 D2 = true) (HT : Hid (∀ W x y, NumE (N1 * N2) W x → NumE (D1 * D2) W y → Calls Try.prog 26 #[x, y] W (RatIs N D b W))) :
    Calls Try.prog 14 #[.int .i64 2, .agg #[.int .i64 N1, .int .i64 D1], .agg #[.int .i64 N2, .int .i64 D2]] w (RatIs N D b w) := by
  have HR := Lib.hid (fun w => right_any N1 D1 w h1)
  have HR2 := Lib.hid (fun w => right_any N2 D2 w h2)
  rw [hm] at HR
  rw [hm2] at HR2
  have HO1 := Lib.hid (fun W => rof_any W N1 h1.n1 h1.n2)
  have HO2 := Lib.hid (fun W => rof_any W D1 h1.d1 h1.d2)
  have HO3 := Lib.hid (fun W => rof_any W N2 h2.n1 h2.n2)
  have HO4 := Lib.hid (fun W => rof_any W D2 h2.d1 h2.d2)
  have a1 := small_lt h1.n1 h1.n2
  have a2 := small_lt h1.d1 h1.d2
  have a3 := small_lt h2.n1 h2.n2
  have a4 := small_lt h2.d1 h2.d2
  have m1 := mul_small (small99b h1.n1 h1.n2) (small99b h2.d1 h2.d2)
  have m2 := mul_small (small99b h2.n1 h2.n2) (small99b h1.d1 h1.d2)
  have V := (((NV.first w).alloc (.int .i64 N1) (.int .i64 D1) 24).alloc (.int .i64 N2) (.int .i64 D2) 24).alloc (.int .i64 0) (.int .i64 0) 24
  clear h1 h2 hm hm2
  go_enter Try.func14, Try.ntmps14
  go_wp2_with fail
  refine (HR.out _).mono ?_
  rintro e w1 ⟨rfl, hb1⟩
  have V1 := V.next hb1
  obtain ⟨z1, k1, k2, -⟩ := V1.tl.h1
  simp at z1 k1 k2
  go_wp2_with fail
  refine (HR2.out _).mono ?_
  rintro e w2 ⟨rfl, hb2⟩
  have V2 := V1.next hb2
  clear z1 k1 k2 V V1 hb1 hb2 HR HR2
  obtain ⟨z3, k3, k4, -⟩ := V2.tl.h1
  obtain ⟨z5, k5, k6, -⟩ := V2.tl.tl.h1
  simp at z3 k3 k4 z5 k5 k6
  go_wp2_with fail
  refine (HO1.out _).mono ?_
  rintro e x1 ⟨y1, rfl, hy1, hb1⟩
  obtain ⟨bb1, pp1, ll1, cc1, rfl⟩ := hy1.parts
  have e1 : NumE _ x1 _ := ⟨_, hy1⟩
  have W1 := (V2.next hb1).alloc (.bool bb1) (.slice pp1 ll1 cc1) 47
  have U1 := V2.next hb1
  clear z3 k3 k4 z5 k5 k6
  obtain ⟨z3, k3, k4, -⟩ := U1.tl.h1
  obtain ⟨z5, k5, k6, -⟩ := U1.tl.tl.h1
  simp at z3 k3 k4 z5 k5 k6
  go_wp2_with fail
  refine (HO2.out _).mono ?_
  rintro e x2 ⟨y2, rfl, hy2, hb2⟩
  obtain ⟨bb2, pp2, ll2, cc2, rfl⟩ := hy2.parts
  have e2 : NumE _ x2 _ := ⟨_, hy2⟩
  have e1 := (e1.alloc (.cells #[.bool bb1, .slice pp1 ll1 cc1] 47)).on hb2
  have W2 := (W1.next hb2).alloc (.bool bb2) (.slice pp2 ll2 cc2) 47
  have U2 := W1.next hb2
  clear z3 k3 k4 z5 k5 k6
  obtain ⟨z3, k3, k4, -⟩ := U2.tl.tl.h1
  obtain ⟨z5, k5, k6, -⟩ := U2.tl.tl.tl.h1
  simp at z3 k3 k4 z5 k5 k6
  go_wp2_with fail
  refine (HO3.out _).mono ?_
  rintro e x3 ⟨y3, rfl, hy3, hb3⟩
  obtain ⟨bb3, pp3, ll3, cc3, rfl⟩ := hy3.parts
  have e3 : NumE _ x3 _ := ⟨_, hy3⟩
  have e1 := (e1.alloc (.cells #[.bool bb2, .slice pp2 ll2 cc2] 47)).on hb3
  have e2 := (e2.alloc (.cells #[.bool bb2, .slice pp2 ll2 cc2] 47)).on hb3
  have W3 := (W2.next hb3).alloc (.bool bb3) (.slice pp3 ll3 cc3) 47
  have U3 := W2.next hb3
  clear z3 k3 k4 z5 k5 k6
  obtain ⟨z3, k3, k4, -⟩ := U3.tl.tl.tl.h1
  obtain ⟨z5, k5, k6, -⟩ := U3.tl.tl.tl.tl.h1
  simp at z3 k3 k4 z5 k5 k6
  go_wp2_with fail
  refine (HO4.out _).mono ?_
  rintro e x4 ⟨y4, rfl, hy4, hb4⟩
  obtain ⟨bb4, pp4, ll4, cc4, rfl⟩ := hy4.parts
  have e4 : NumE _ x4 _ := ⟨_, hy4⟩
  have e1 := (e1.alloc (.cells #[.bool bb3, .slice pp3 ll3 cc3] 47)).on hb4
  have e2 := (e2.alloc (.cells #[.bool bb3, .slice pp3 ll3 cc3] 47)).on hb4
  have e3 := (e3.alloc (.cells #[.bool bb3, .slice pp3 ll3 cc3] 47)).on hb4
  have W4 := (W3.next hb4).alloc (.bool bb4) (.slice pp4 ll4 cc4) 47
  have U4 := W3.next hb4
  clear z3 k3 k4 z5 k5 k6
  obtain ⟨z3, k3, k4, -⟩ := U4.tl.tl.tl.tl.h1
  obtain ⟨z5, k5, k6, -⟩ := U4.tl.tl.tl.tl.tl.h1
  simp at z3 k3 k4 z5 k5 k6
  obtain ⟨q1, q2, q3, -⟩ := U4.h1
  obtain ⟨q4, q5, q6, -⟩ := U4.tl.h1
  obtain ⟨q7, q8, q9, -⟩ := U4.tl.tl.h1
  simp at q1 q2 q3 q4 q5 q6 q7 q8 q9
  have W5 := W4.alloc (.bool false) (.slice none 0 0) 47
  have bo : Below x4.heap.size x4 ((x4.alloc (.cells #[.bool bb4, .slice pp4 ll4 cc4] 47)).alloc (.cells #[.bool false, .slice none 0 0] 47)) := ((Below.refl _ _).alloc (Nat.le_refl _) _).alloc (by simp) _
  have f1 := e1.on bo
  have f2 := e2.on bo
  have f3 := e3.on bo
  have f4 := e4.on bo
  have HD := Lib.hid (rtimesE f2 f4 a2 a4)
  clear f1 f2 f3 f4
  go_wp2_with fail
  refine (HD.out).mono ?_
  rintro e x5 ⟨y5, rfl, hy5, hb5⟩
  obtain ⟨bb5, pp5, ll5, cc5, rfl⟩ := hy5.parts
  have s5 := hb5.size
  simp at s5
  have W6 := (W5.next hb5).alloc (.bool bb5) (.slice pp5 ll5 cc5) 47
  have R0 : DoR w (x4.heap.size + 1) ((x5.heap.size, .bool bb5, .slice pp5 ll5 cc5) :: (x4.heap.size, .bool bb4, .slice pp4 ll4 cc4) :: (x3.heap.size, .bool bb3, .slice pp3 ll3 cc3) :: (x2.heap.size, .bool bb2, .slice pp2 ll2 cc2) :: (x1.heap.size, .bool bb1, .slice pp1 ll1 cc1) :: (w.heap.size + 1 + 1, .int .i64 0, .int .i64 0) :: []) N1 D1 N2 D2 (D1 * D2) (.agg #[.bool bb1, .slice pp1 ll1 cc1]) (.agg #[.bool bb2, .slice pp2 ll2 cc2]) (.agg #[.bool bb3, .slice pp3 ll3 cc3]) (.agg #[.bool bb4, .slice pp4 ll4 cc4]) (.agg #[.bool bb5, .slice pp5 ll5 cc5]) (x5.alloc (.cells #[.bool bb5, .slice pp5 ll5 cc5] 47)) := by
    have hn := W6.tl.h1
    have z0 := (U1.h1).1
    have z1 := hb2.size
    have z2 := hb3.size
    have z3 := hb4.size
    simp at hn z0 z1 z2 z3
    refine ⟨⟨W6.bel, fun t ht => W6.all t ?_⟩, ?_, ?_, by simp; omega, ⟨_, hn.2.1⟩, ⟨_, hn.2.2.1⟩, hn.2.2.2, ?_, ?_, ?_, ?_, num_alloc (hy5.mono (by simp)) _⟩
    · simp at ht ⊢
      rcases ht with h | h | h | h | h | h <;> simp [h]
    · intro t ht
      simp at ht
      rcases ht with rfl | rfl | rfl | rfl | rfl | rfl <;> simp <;> omega
    · omega
    · obtain ⟨B, h⟩ := e1
      exact ⟨_, B, num_alloc h (.cells #[.bool bb4, .slice pp4 ll4 cc4] 47), by simp, ((((Below.refl _ _).alloc (by simp) _).trans (hb5.mono (by simp))).alloc (by omega) _)⟩
    · obtain ⟨B, h⟩ := e2
      exact ⟨_, B, num_alloc h (.cells #[.bool bb4, .slice pp4 ll4 cc4] 47), by simp, ((((Below.refl _ _).alloc (by simp) _).trans (hb5.mono (by simp))).alloc (by omega) _)⟩
    · obtain ⟨B, h⟩ := e3
      exact ⟨_, B, num_alloc h (.cells #[.bool bb4, .slice pp4 ll4 cc4] 47), by simp, ((((Below.refl _ _).alloc (by simp) _).trans (hb5.mono (by simp))).alloc (by omega) _)⟩
    · obtain ⟨B, h⟩ := e4
      exact ⟨_, B, num_alloc h (.cells #[.bool bb4, .slice pp4 ll4 cc4] 47), by simp, ((((Below.refl _ _).alloc (by simp) _).trans (hb5.mono (by simp))).alloc (by omega) _)⟩
  clear e1 e2 e3 e4 hy1 hy2 hy3 hy4 hy5 hb1 hb2 hb3 hb4 hb5 W1 W2 W3 W4 W5 W6 U1 U2 U3 U4 V2 HO1 HO2 HO3 HO4 HD bo z3 k3 k4 z5 k5 k6 q1 q2 q3 q4 q5 q6 q7 q8 q9
  generalize hX : x5.alloc (.cells #[.bool bb5, .slice pp5 ll5 cc5] 47) = wr at *
  have n6 : ¬ x4.heap.size + 1 = x5.heap.size := by omega
  have n6' : ¬ x5.heap.size = x4.heap.size + 1 := by omega
  obtain ⟨z6, a6, b6, f6⟩ := R0.v.h1
  obtain ⟨z4, a4', b4, f4⟩ := R0.v.tl.h1
  obtain ⟨z3, a3', b3, f3⟩ := R0.v.tl.tl.h1
  obtain ⟨z2, a2', b2, f2⟩ := R0.v.tl.tl.tl.h1
  obtain ⟨z1, a1', b1, f1⟩ := R0.v.tl.tl.tl.tl.h1
  obtain ⟨z0, a0, b0, f0⟩ := R0.v.tl.tl.tl.tl.tl.h1
  obtain ⟨u0, g0⟩ := R0.n0
  obtain ⟨u1, g1⟩ := R0.n1
  have gf := R0.fz
  have gz := R0.gz
  simp only at z6 a6 b6 f6 z4 a4' b4 f4 z3 a3' b3 f3 z2 a2' b2 f2 z1 a1' b1 f1 z0 a0 b0 f0
  have HX := Lib.hid (rtimesE R0.e1.is R0.e3.is a1 a3)
  have gz0 := gz
  go_wp2_with fail
  refine (HX.out).mono ?_
  rintro e x6 ⟨y6, rfl, hy6, hb6⟩
  obtain ⟨bx, px, lx, cx, rfl⟩ := hy6.parts
  have R6 := R0.next hb6
  clear z6 a6 b6 f6 z4 a4' b4 f4 z3 a3' b3 f3 z2 a2' b2 f2 z1 a1' b1 f1 z0 a0 b0 f0 u0 g0 u1 g1 gf gz
  obtain ⟨z6, a6, b6, f6⟩ := R6.v.h1
  obtain ⟨z4, a4', b4, f4⟩ := R6.v.tl.h1
  obtain ⟨z3, a3', b3, f3⟩ := R6.v.tl.tl.h1
  obtain ⟨z2, a2', b2, f2⟩ := R6.v.tl.tl.tl.h1
  obtain ⟨z1, a1', b1, f1⟩ := R6.v.tl.tl.tl.tl.h1
  obtain ⟨z0, a0, b0, f0⟩ := R6.v.tl.tl.tl.tl.tl.h1
  obtain ⟨u0, g0⟩ := R6.n0
  obtain ⟨u1, g1⟩ := R6.n1
  have gf := R6.fz
  have gz := R6.gz
  simp only at z6 a6 b6 f6 z4 a4' b4 f4 z3 a3' b3 f3 z2 a2' b2 f2 z1 a1' b1 f1 z0 a0 b0 f0
  go_wp2_with fail
  have P := DoR.put R6 (.bool bx) (.slice px lx cx)
  have hnP := (hy6.put (a := ⟨x4.heap.size + 1, 0, none⟩) (by simp; omega) (.bool bx)).put (a := ⟨x4.heap.size + 1, 1, none⟩) (by simp; omega) (.slice px lx cx)
  refine (HT.out _ _ _ ⟨_, hnP⟩ ⟨_, P.ed⟩).mono ?_
  rintro e v9 ⟨rfl, hb9⟩
  have R9 := P.next hb9
  clear z0 a0 b0 f0
  obtain ⟨z0, a0, b0, f0⟩ := R9.v.tl.tl.tl.tl.tl.h1
  simp only at z0 a0 b0 f0
  have hB := R9.v.bel
  have hz9 := hB.size
  clear R9 P hnP
  go_wp2_with fail
  refine bodyPost_ret (v := .tuple #[.agg #[.int .i64 N, .int .i64 D], .bool b]) (by simp [results, Try.results14, go_sem, a0, b0, z0]) rfl ⟨rfl, ?_⟩
  exact ((hB.setCell (p := ⟨w.heap.size + 1 + 1, 0, none⟩) (by simp; omega) _).setCell (p := ⟨w.heap.size + 1 + 1, 1, none⟩) (by simp; omega) _).alloc (by simp; omega) _


set_option maxHeartbeats 8000000 in
theorem rdo_3 (N1 D1 N2 D2 N D : Int) (b : Bool) (w : World) (h1 : Is64 N1 D1) (hm : mayB N1 D1 = true) (h2 : Is64 N2 D2) (hm2 : mayB N2 D2 = true) (HT : Hid (∀ W x y, NumE (N1 * D2) W x → NumE (D1 * N2) W y → Calls Try.prog 26 #[x, y] W (RatIs N D b W))) :
    Calls Try.prog 14 #[.int .i64 3, .agg #[.int .i64 N1, .int .i64 D1], .agg #[.int .i64 N2, .int .i64 D2]] w (RatIs N D b w) := by
  have HR := Lib.hid (fun w => right_any N1 D1 w h1)
  have HR2 := Lib.hid (fun w => right_any N2 D2 w h2)
  rw [hm] at HR
  rw [hm2] at HR2
  have HO1 := Lib.hid (fun W => rof_any W N1 h1.n1 h1.n2)
  have HO2 := Lib.hid (fun W => rof_any W D1 h1.d1 h1.d2)
  have HO3 := Lib.hid (fun W => rof_any W N2 h2.n1 h2.n2)
  have HO4 := Lib.hid (fun W => rof_any W D2 h2.d1 h2.d2)
  have a1 := small_lt h1.n1 h1.n2
  have a2 := small_lt h1.d1 h1.d2
  have a3 := small_lt h2.n1 h2.n2
  have a4 := small_lt h2.d1 h2.d2
  have m1 := mul_small (small99b h1.n1 h1.n2) (small99b h2.d1 h2.d2)
  have m2 := mul_small (small99b h2.n1 h2.n2) (small99b h1.d1 h1.d2)
  have V := (((NV.first w).alloc (.int .i64 N1) (.int .i64 D1) 24).alloc (.int .i64 N2) (.int .i64 D2) 24).alloc (.int .i64 0) (.int .i64 0) 24
  clear h1 h2 hm hm2
  go_enter Try.func14, Try.ntmps14
  go_wp2_with fail
  refine (HR.out _).mono ?_
  rintro e w1 ⟨rfl, hb1⟩
  have V1 := V.next hb1
  obtain ⟨z1, k1, k2, -⟩ := V1.tl.h1
  simp at z1 k1 k2
  go_wp2_with fail
  refine (HR2.out _).mono ?_
  rintro e w2 ⟨rfl, hb2⟩
  have V2 := V1.next hb2
  clear z1 k1 k2 V V1 hb1 hb2 HR HR2
  obtain ⟨z3, k3, k4, -⟩ := V2.tl.h1
  obtain ⟨z5, k5, k6, -⟩ := V2.tl.tl.h1
  simp at z3 k3 k4 z5 k5 k6
  go_wp2_with fail
  refine (HO1.out _).mono ?_
  rintro e x1 ⟨y1, rfl, hy1, hb1⟩
  obtain ⟨bb1, pp1, ll1, cc1, rfl⟩ := hy1.parts
  have e1 : NumE _ x1 _ := ⟨_, hy1⟩
  have W1 := (V2.next hb1).alloc (.bool bb1) (.slice pp1 ll1 cc1) 47
  have U1 := V2.next hb1
  clear z3 k3 k4 z5 k5 k6
  obtain ⟨z3, k3, k4, -⟩ := U1.tl.h1
  obtain ⟨z5, k5, k6, -⟩ := U1.tl.tl.h1
  simp at z3 k3 k4 z5 k5 k6
  go_wp2_with fail
  refine (HO2.out _).mono ?_
  rintro e x2 ⟨y2, rfl, hy2, hb2⟩
  obtain ⟨bb2, pp2, ll2, cc2, rfl⟩ := hy2.parts
  have e2 : NumE _ x2 _ := ⟨_, hy2⟩
  have e1 := (e1.alloc (.cells #[.bool bb1, .slice pp1 ll1 cc1] 47)).on hb2
  have W2 := (W1.next hb2).alloc (.bool bb2) (.slice pp2 ll2 cc2) 47
  have U2 := W1.next hb2
  clear z3 k3 k4 z5 k5 k6
  obtain ⟨z3, k3, k4, -⟩ := U2.tl.tl.h1
  obtain ⟨z5, k5, k6, -⟩ := U2.tl.tl.tl.h1
  simp at z3 k3 k4 z5 k5 k6
  go_wp2_with fail
  refine (HO3.out _).mono ?_
  rintro e x3 ⟨y3, rfl, hy3, hb3⟩
  obtain ⟨bb3, pp3, ll3, cc3, rfl⟩ := hy3.parts
  have e3 : NumE _ x3 _ := ⟨_, hy3⟩
  have e1 := (e1.alloc (.cells #[.bool bb2, .slice pp2 ll2 cc2] 47)).on hb3
  have e2 := (e2.alloc (.cells #[.bool bb2, .slice pp2 ll2 cc2] 47)).on hb3
  have W3 := (W2.next hb3).alloc (.bool bb3) (.slice pp3 ll3 cc3) 47
  have U3 := W2.next hb3
  clear z3 k3 k4 z5 k5 k6
  obtain ⟨z3, k3, k4, -⟩ := U3.tl.tl.tl.h1
  obtain ⟨z5, k5, k6, -⟩ := U3.tl.tl.tl.tl.h1
  simp at z3 k3 k4 z5 k5 k6
  go_wp2_with fail
  refine (HO4.out _).mono ?_
  rintro e x4 ⟨y4, rfl, hy4, hb4⟩
  obtain ⟨bb4, pp4, ll4, cc4, rfl⟩ := hy4.parts
  have e4 : NumE _ x4 _ := ⟨_, hy4⟩
  have e1 := (e1.alloc (.cells #[.bool bb3, .slice pp3 ll3 cc3] 47)).on hb4
  have e2 := (e2.alloc (.cells #[.bool bb3, .slice pp3 ll3 cc3] 47)).on hb4
  have e3 := (e3.alloc (.cells #[.bool bb3, .slice pp3 ll3 cc3] 47)).on hb4
  have W4 := (W3.next hb4).alloc (.bool bb4) (.slice pp4 ll4 cc4) 47
  have U4 := W3.next hb4
  clear z3 k3 k4 z5 k5 k6
  obtain ⟨z3, k3, k4, -⟩ := U4.tl.tl.tl.tl.h1
  obtain ⟨z5, k5, k6, -⟩ := U4.tl.tl.tl.tl.tl.h1
  simp at z3 k3 k4 z5 k5 k6
  obtain ⟨q1, q2, q3, -⟩ := U4.h1
  obtain ⟨q4, q5, q6, -⟩ := U4.tl.h1
  obtain ⟨q7, q8, q9, -⟩ := U4.tl.tl.h1
  simp at q1 q2 q3 q4 q5 q6 q7 q8 q9
  have W5 := W4.alloc (.bool false) (.slice none 0 0) 47
  have bo : Below x4.heap.size x4 ((x4.alloc (.cells #[.bool bb4, .slice pp4 ll4 cc4] 47)).alloc (.cells #[.bool false, .slice none 0 0] 47)) := ((Below.refl _ _).alloc (Nat.le_refl _) _).alloc (by simp) _
  have f1 := e1.on bo
  have f2 := e2.on bo
  have f3 := e3.on bo
  have f4 := e4.on bo
  have HD := Lib.hid (rtimesE f2 f4 a2 a4)
  clear f1 f2 f3 f4
  go_wp2_with fail
  refine (HD.out).mono ?_
  rintro e x5 ⟨y5, rfl, hy5, hb5⟩
  obtain ⟨bb5, pp5, ll5, cc5, rfl⟩ := hy5.parts
  have s5 := hb5.size
  simp at s5
  have W6 := (W5.next hb5).alloc (.bool bb5) (.slice pp5 ll5 cc5) 47
  have R0 : DoR w (x4.heap.size + 1) ((x5.heap.size, .bool bb5, .slice pp5 ll5 cc5) :: (x4.heap.size, .bool bb4, .slice pp4 ll4 cc4) :: (x3.heap.size, .bool bb3, .slice pp3 ll3 cc3) :: (x2.heap.size, .bool bb2, .slice pp2 ll2 cc2) :: (x1.heap.size, .bool bb1, .slice pp1 ll1 cc1) :: (w.heap.size + 1 + 1, .int .i64 0, .int .i64 0) :: []) N1 D1 N2 D2 (D1 * D2) (.agg #[.bool bb1, .slice pp1 ll1 cc1]) (.agg #[.bool bb2, .slice pp2 ll2 cc2]) (.agg #[.bool bb3, .slice pp3 ll3 cc3]) (.agg #[.bool bb4, .slice pp4 ll4 cc4]) (.agg #[.bool bb5, .slice pp5 ll5 cc5]) (x5.alloc (.cells #[.bool bb5, .slice pp5 ll5 cc5] 47)) := by
    have hn := W6.tl.h1
    have z0 := (U1.h1).1
    have z1 := hb2.size
    have z2 := hb3.size
    have z3 := hb4.size
    simp at hn z0 z1 z2 z3
    refine ⟨⟨W6.bel, fun t ht => W6.all t ?_⟩, ?_, ?_, by simp; omega, ⟨_, hn.2.1⟩, ⟨_, hn.2.2.1⟩, hn.2.2.2, ?_, ?_, ?_, ?_, num_alloc (hy5.mono (by simp)) _⟩
    · simp at ht ⊢
      rcases ht with h | h | h | h | h | h <;> simp [h]
    · intro t ht
      simp at ht
      rcases ht with rfl | rfl | rfl | rfl | rfl | rfl <;> simp <;> omega
    · omega
    · obtain ⟨B, h⟩ := e1
      exact ⟨_, B, num_alloc h (.cells #[.bool bb4, .slice pp4 ll4 cc4] 47), by simp, ((((Below.refl _ _).alloc (by simp) _).trans (hb5.mono (by simp))).alloc (by omega) _)⟩
    · obtain ⟨B, h⟩ := e2
      exact ⟨_, B, num_alloc h (.cells #[.bool bb4, .slice pp4 ll4 cc4] 47), by simp, ((((Below.refl _ _).alloc (by simp) _).trans (hb5.mono (by simp))).alloc (by omega) _)⟩
    · obtain ⟨B, h⟩ := e3
      exact ⟨_, B, num_alloc h (.cells #[.bool bb4, .slice pp4 ll4 cc4] 47), by simp, ((((Below.refl _ _).alloc (by simp) _).trans (hb5.mono (by simp))).alloc (by omega) _)⟩
    · obtain ⟨B, h⟩ := e4
      exact ⟨_, B, num_alloc h (.cells #[.bool bb4, .slice pp4 ll4 cc4] 47), by simp, ((((Below.refl _ _).alloc (by simp) _).trans (hb5.mono (by simp))).alloc (by omega) _)⟩
  clear e1 e2 e3 e4 hy1 hy2 hy3 hy4 hy5 hb1 hb2 hb3 hb4 hb5 W1 W2 W3 W4 W5 W6 U1 U2 U3 U4 V2 HO1 HO2 HO3 HO4 HD bo z3 k3 k4 z5 k5 k6 q1 q2 q3 q4 q5 q6 q7 q8 q9
  generalize hX : x5.alloc (.cells #[.bool bb5, .slice pp5 ll5 cc5] 47) = wr at *
  have n6 : ¬ x4.heap.size + 1 = x5.heap.size := by omega
  have n6' : ¬ x5.heap.size = x4.heap.size + 1 := by omega
  obtain ⟨z6, a6, b6, f6⟩ := R0.v.h1
  obtain ⟨z4, a4', b4, f4⟩ := R0.v.tl.h1
  obtain ⟨z3, a3', b3, f3⟩ := R0.v.tl.tl.h1
  obtain ⟨z2, a2', b2, f2⟩ := R0.v.tl.tl.tl.h1
  obtain ⟨z1, a1', b1, f1⟩ := R0.v.tl.tl.tl.tl.h1
  obtain ⟨z0, a0, b0, f0⟩ := R0.v.tl.tl.tl.tl.tl.h1
  obtain ⟨u0, g0⟩ := R0.n0
  obtain ⟨u1, g1⟩ := R0.n1
  have gf := R0.fz
  have gz := R0.gz
  simp only at z6 a6 b6 f6 z4 a4' b4 f4 z3 a3' b3 f3 z2 a2' b2 f2 z1 a1' b1 f1 z0 a0 b0 f0
  have HX := Lib.hid (rtimesE R0.e1.is R0.e4.is a1 a4)
  have gz0 := gz
  go_wp2_with fail
  refine (HX.out).mono ?_
  rintro e x6 ⟨y6, rfl, hy6, hb6⟩
  obtain ⟨bx, px, lx, cx, rfl⟩ := hy6.parts
  have R6 := R0.next hb6
  clear z6 a6 b6 f6 z4 a4' b4 f4 z3 a3' b3 f3 z2 a2' b2 f2 z1 a1' b1 f1 z0 a0 b0 f0 u0 g0 u1 g1 gf gz
  obtain ⟨z6, a6, b6, f6⟩ := R6.v.h1
  obtain ⟨z4, a4', b4, f4⟩ := R6.v.tl.h1
  obtain ⟨z3, a3', b3, f3⟩ := R6.v.tl.tl.h1
  obtain ⟨z2, a2', b2, f2⟩ := R6.v.tl.tl.tl.h1
  obtain ⟨z1, a1', b1, f1⟩ := R6.v.tl.tl.tl.tl.h1
  obtain ⟨z0, a0, b0, f0⟩ := R6.v.tl.tl.tl.tl.tl.h1
  obtain ⟨u0, g0⟩ := R6.n0
  obtain ⟨u1, g1⟩ := R6.n1
  have gf := R6.fz
  have gz := R6.gz
  simp only at z6 a6 b6 f6 z4 a4' b4 f4 z3 a3' b3 f3 z2 a2' b2 f2 z1 a1' b1 f1 z0 a0 b0 f0
  have P6 := DoR.put R6 (.bool bx) (.slice px lx cx)
  have z6' := z6
  have hn6 := (hy6.put (a := ⟨x4.heap.size + 1, 0, none⟩) (by simp; omega) (.bool bx)).put (a := ⟨x4.heap.size + 1, 1, none⟩) (by simp; omega) (.slice px lx cx)
  have HY := Lib.hid (rtimesE P6.e2.is P6.e3.is a2 a3)
  have zz := R0.v.h1.1
  simp only at zz
  have nf2 : ¬ x4.heap.size + 1 = x2.heap.size := R6.far (x2.heap.size, .bool bb2, .slice pp2 ll2 cc2) (by simp)
  have nf3 : ¬ x4.heap.size + 1 = x3.heap.size := R6.far (x3.heap.size, .bool bb3, .slice pp3 ll3 cc3) (by simp)
  have nf2' : ¬ x2.heap.size = x4.heap.size + 1 := fun e => nf2 e.symm
  have nf3' : ¬ x3.heap.size = x4.heap.size + 1 := fun e => nf3 e.symm
  go_wp2_with fail
  refine (HY.out).mono ?_
  rintro e x7 ⟨y7, rfl, hy7, hb7⟩
  obtain ⟨bd, pd, ld, cd, rfl⟩ := hy7.parts
  have R7 := P6.next hb7
  have c50 : x7.cell? ⟨x4.heap.size + 1, 0, none⟩ = some (.bool bx) := (hb7.cell (p := ⟨x4.heap.size + 1, 0, none⟩) (by simp; omega)).trans (by simp [go_sem, g0])
  have c51 : x7.cell? ⟨x4.heap.size + 1, 1, none⟩ = some (.slice px lx cx) := (hb7.cell (p := ⟨x4.heap.size + 1, 1, none⟩) (by simp; omega)).trans (by simp [go_sem, g1])
  have hn7 := ((hn6.on hb7 (Nat.le_refl _)).put (a := ⟨x5.heap.size, 0, none⟩) (by simpa using zz) (.bool bd)).put (a := ⟨x5.heap.size, 1, none⟩) (by simpa using zz) (.slice pd ld cd)
  have hd7 := (hy7.put (a := ⟨x5.heap.size, 0, none⟩) (by simpa using z6') (.bool bd)).put (a := ⟨x5.heap.size, 1, none⟩) (by simpa using z6') (.slice pd ld cd)
  clear z6 a6 b6 f6 z4 a4' b4 f4 z3 a3' b3 f3 z2 a2' b2 f2 z1 a1' b1 f1 z0 a0 b0 f0 u0 g0 u1 g1 gf gz
  obtain ⟨z6, a6, b6, f6⟩ := R7.v.h1
  obtain ⟨z4, a4', b4, f4⟩ := R7.v.tl.h1
  obtain ⟨z3, a3', b3, f3⟩ := R7.v.tl.tl.h1
  obtain ⟨z2, a2', b2, f2⟩ := R7.v.tl.tl.tl.h1
  obtain ⟨z1, a1', b1, f1⟩ := R7.v.tl.tl.tl.tl.h1
  obtain ⟨z0, a0, b0, f0⟩ := R7.v.tl.tl.tl.tl.tl.h1
  obtain ⟨u0, g0⟩ := R7.n0
  obtain ⟨u1, g1⟩ := R7.n1
  have gf := R7.fz
  have gz := R7.gz
  simp only at z6 a6 b6 f6 z4 a4' b4 f4 z3 a3' b3 f3 z2 a2' b2 f2 z1 a1' b1 f1 z0 a0 b0 f0
  have ns : ¬ x5.heap.size = w.heap.size + 1 + 1 := by have := R7.l0; omega
  go_wp2_with fail
  refine (HT.out _ _ _ ⟨_, hn7⟩ ⟨_, hd7⟩).mono ?_
  rintro e v9 ⟨rfl, hb9⟩
  have hl0 := R7.l0
  have a0' : v9.cell? ⟨w.heap.size + 1 + 1, 0, none⟩ = some (.int .i64 0) := (hb9.cell (p := ⟨w.heap.size + 1 + 1, 0, none⟩) (by simp; omega)).trans (by rw [World.cell?_setCell_far _ _ _ _ ns, World.cell?_setCell_far _ _ _ _ ns]; exact a0)
  have b0' : v9.cell? ⟨w.heap.size + 1 + 1, 1, none⟩ = some (.int .i64 0) := (hb9.cell (p := ⟨w.heap.size + 1 + 1, 1, none⟩) (by simp; omega)).trans (by rw [World.cell?_setCell_far _ _ _ _ ns, World.cell?_setCell_far _ _ _ _ ns]; exact b0)
  have f0' : ∀ o, v9.frozen? ⟨w.heap.size + 1 + 1, o, none⟩ = false := fun o => by rw [hb9.frozen (by simp; omega)]; simp [go_sem, f0]
  have hB := ((R7.v.bel.setCell (p := ⟨x5.heap.size, 0, none⟩) (by simp; omega) (.bool bd)).setCell (p := ⟨x5.heap.size, 1, none⟩) (by simp; omega) (.slice pd ld cd)).trans (hb9.mono (by simp; omega))
  have hz9 := hb9.size
  simp at hz9
  have z0' : w.heap.size + 1 + 1 < v9.heap.size := by omega
  have hz9' := hB.size
  clear R7 P6 hn7 hd7 hn6 R6 R0 hb9 hb7 hb6
  go_wp2_with fail
  refine bodyPost_ret (v := .tuple #[.agg #[.int .i64 N, .int .i64 D], .bool b]) (by simp [results, Try.results14, go_sem, a0', b0', z0']) rfl ⟨rfl, ?_⟩
  exact ((hB.setCell (p := ⟨w.heap.size + 1 + 1, 0, none⟩) (by simp; omega) _).setCell (p := ⟨w.heap.size + 1 + 1, 1, none⟩) (by simp; omega) _).alloc (by simp; omega) _


set_option maxHeartbeats 8000000 in
theorem rdo_0 (N1 D1 N2 D2 N D : Int) (b : Bool) (w : World) (h1 : Is64 N1 D1) (hm : mayB N1 D1 = true) (h2 : Is64 N2 D2) (hm2 : mayB N2 D2 = true) (HT : Hid (∀ W x y, NumE (N1 * D2 + N2 * D1) W x → NumE (D1 * D2) W y → Calls Try.prog 26 #[x, y] W (RatIs N D b W))) :
    Calls Try.prog 14 #[.int .i64 0, .agg #[.int .i64 N1, .int .i64 D1], .agg #[.int .i64 N2, .int .i64 D2]] w (RatIs N D b w) := by
  have HR := Lib.hid (fun w => right_any N1 D1 w h1)
  have HR2 := Lib.hid (fun w => right_any N2 D2 w h2)
  rw [hm] at HR
  rw [hm2] at HR2
  have HO1 := Lib.hid (fun W => rof_any W N1 h1.n1 h1.n2)
  have HO2 := Lib.hid (fun W => rof_any W D1 h1.d1 h1.d2)
  have HO3 := Lib.hid (fun W => rof_any W N2 h2.n1 h2.n2)
  have HO4 := Lib.hid (fun W => rof_any W D2 h2.d1 h2.d2)
  have a1 := small_lt h1.n1 h1.n2
  have a2 := small_lt h1.d1 h1.d2
  have a3 := small_lt h2.n1 h2.n2
  have a4 := small_lt h2.d1 h2.d2
  have m1 := mul_small (small99b h1.n1 h1.n2) (small99b h2.d1 h2.d2)
  have m2 := mul_small (small99b h2.n1 h2.n2) (small99b h1.d1 h1.d2)
  have V := (((NV.first w).alloc (.int .i64 N1) (.int .i64 D1) 24).alloc (.int .i64 N2) (.int .i64 D2) 24).alloc (.int .i64 0) (.int .i64 0) 24
  clear h1 h2 hm hm2
  go_enter Try.func14, Try.ntmps14
  go_wp2_with fail
  refine (HR.out _).mono ?_
  rintro e w1 ⟨rfl, hb1⟩
  have V1 := V.next hb1
  obtain ⟨z1, k1, k2, -⟩ := V1.tl.h1
  simp at z1 k1 k2
  go_wp2_with fail
  refine (HR2.out _).mono ?_
  rintro e w2 ⟨rfl, hb2⟩
  have V2 := V1.next hb2
  clear z1 k1 k2 V V1 hb1 hb2 HR HR2
  obtain ⟨z3, k3, k4, -⟩ := V2.tl.h1
  obtain ⟨z5, k5, k6, -⟩ := V2.tl.tl.h1
  simp at z3 k3 k4 z5 k5 k6
  go_wp2_with fail
  refine (HO1.out _).mono ?_
  rintro e x1 ⟨y1, rfl, hy1, hb1⟩
  obtain ⟨bb1, pp1, ll1, cc1, rfl⟩ := hy1.parts
  have e1 : NumE _ x1 _ := ⟨_, hy1⟩
  have W1 := (V2.next hb1).alloc (.bool bb1) (.slice pp1 ll1 cc1) 47
  have U1 := V2.next hb1
  clear z3 k3 k4 z5 k5 k6
  obtain ⟨z3, k3, k4, -⟩ := U1.tl.h1
  obtain ⟨z5, k5, k6, -⟩ := U1.tl.tl.h1
  simp at z3 k3 k4 z5 k5 k6
  go_wp2_with fail
  refine (HO2.out _).mono ?_
  rintro e x2 ⟨y2, rfl, hy2, hb2⟩
  obtain ⟨bb2, pp2, ll2, cc2, rfl⟩ := hy2.parts
  have e2 : NumE _ x2 _ := ⟨_, hy2⟩
  have e1 := (e1.alloc (.cells #[.bool bb1, .slice pp1 ll1 cc1] 47)).on hb2
  have W2 := (W1.next hb2).alloc (.bool bb2) (.slice pp2 ll2 cc2) 47
  have U2 := W1.next hb2
  clear z3 k3 k4 z5 k5 k6
  obtain ⟨z3, k3, k4, -⟩ := U2.tl.tl.h1
  obtain ⟨z5, k5, k6, -⟩ := U2.tl.tl.tl.h1
  simp at z3 k3 k4 z5 k5 k6
  go_wp2_with fail
  refine (HO3.out _).mono ?_
  rintro e x3 ⟨y3, rfl, hy3, hb3⟩
  obtain ⟨bb3, pp3, ll3, cc3, rfl⟩ := hy3.parts
  have e3 : NumE _ x3 _ := ⟨_, hy3⟩
  have e1 := (e1.alloc (.cells #[.bool bb2, .slice pp2 ll2 cc2] 47)).on hb3
  have e2 := (e2.alloc (.cells #[.bool bb2, .slice pp2 ll2 cc2] 47)).on hb3
  have W3 := (W2.next hb3).alloc (.bool bb3) (.slice pp3 ll3 cc3) 47
  have U3 := W2.next hb3
  clear z3 k3 k4 z5 k5 k6
  obtain ⟨z3, k3, k4, -⟩ := U3.tl.tl.tl.h1
  obtain ⟨z5, k5, k6, -⟩ := U3.tl.tl.tl.tl.h1
  simp at z3 k3 k4 z5 k5 k6
  go_wp2_with fail
  refine (HO4.out _).mono ?_
  rintro e x4 ⟨y4, rfl, hy4, hb4⟩
  obtain ⟨bb4, pp4, ll4, cc4, rfl⟩ := hy4.parts
  have e4 : NumE _ x4 _ := ⟨_, hy4⟩
  have e1 := (e1.alloc (.cells #[.bool bb3, .slice pp3 ll3 cc3] 47)).on hb4
  have e2 := (e2.alloc (.cells #[.bool bb3, .slice pp3 ll3 cc3] 47)).on hb4
  have e3 := (e3.alloc (.cells #[.bool bb3, .slice pp3 ll3 cc3] 47)).on hb4
  have W4 := (W3.next hb4).alloc (.bool bb4) (.slice pp4 ll4 cc4) 47
  have U4 := W3.next hb4
  clear z3 k3 k4 z5 k5 k6
  obtain ⟨z3, k3, k4, -⟩ := U4.tl.tl.tl.tl.h1
  obtain ⟨z5, k5, k6, -⟩ := U4.tl.tl.tl.tl.tl.h1
  simp at z3 k3 k4 z5 k5 k6
  obtain ⟨q1, q2, q3, -⟩ := U4.h1
  obtain ⟨q4, q5, q6, -⟩ := U4.tl.h1
  obtain ⟨q7, q8, q9, -⟩ := U4.tl.tl.h1
  simp at q1 q2 q3 q4 q5 q6 q7 q8 q9
  have W5 := W4.alloc (.bool false) (.slice none 0 0) 47
  have bo : Below x4.heap.size x4 ((x4.alloc (.cells #[.bool bb4, .slice pp4 ll4 cc4] 47)).alloc (.cells #[.bool false, .slice none 0 0] 47)) := ((Below.refl _ _).alloc (Nat.le_refl _) _).alloc (by simp) _
  have f1 := e1.on bo
  have f2 := e2.on bo
  have f3 := e3.on bo
  have f4 := e4.on bo
  have HD := Lib.hid (rtimesE f2 f4 a2 a4)
  clear f1 f2 f3 f4
  go_wp2_with fail
  refine (HD.out).mono ?_
  rintro e x5 ⟨y5, rfl, hy5, hb5⟩
  obtain ⟨bb5, pp5, ll5, cc5, rfl⟩ := hy5.parts
  have s5 := hb5.size
  simp at s5
  have W6 := (W5.next hb5).alloc (.bool bb5) (.slice pp5 ll5 cc5) 47
  have R0 : DoR w (x4.heap.size + 1) ((x5.heap.size, .bool bb5, .slice pp5 ll5 cc5) :: (x4.heap.size, .bool bb4, .slice pp4 ll4 cc4) :: (x3.heap.size, .bool bb3, .slice pp3 ll3 cc3) :: (x2.heap.size, .bool bb2, .slice pp2 ll2 cc2) :: (x1.heap.size, .bool bb1, .slice pp1 ll1 cc1) :: (w.heap.size + 1 + 1, .int .i64 0, .int .i64 0) :: []) N1 D1 N2 D2 (D1 * D2) (.agg #[.bool bb1, .slice pp1 ll1 cc1]) (.agg #[.bool bb2, .slice pp2 ll2 cc2]) (.agg #[.bool bb3, .slice pp3 ll3 cc3]) (.agg #[.bool bb4, .slice pp4 ll4 cc4]) (.agg #[.bool bb5, .slice pp5 ll5 cc5]) (x5.alloc (.cells #[.bool bb5, .slice pp5 ll5 cc5] 47)) := by
    have hn := W6.tl.h1
    have z0 := (U1.h1).1
    have z1 := hb2.size
    have z2 := hb3.size
    have z3 := hb4.size
    simp at hn z0 z1 z2 z3
    refine ⟨⟨W6.bel, fun t ht => W6.all t ?_⟩, ?_, ?_, by simp; omega, ⟨_, hn.2.1⟩, ⟨_, hn.2.2.1⟩, hn.2.2.2, ?_, ?_, ?_, ?_, num_alloc (hy5.mono (by simp)) _⟩
    · simp at ht ⊢
      rcases ht with h | h | h | h | h | h <;> simp [h]
    · intro t ht
      simp at ht
      rcases ht with rfl | rfl | rfl | rfl | rfl | rfl <;> simp <;> omega
    · omega
    · obtain ⟨B, h⟩ := e1
      exact ⟨_, B, num_alloc h (.cells #[.bool bb4, .slice pp4 ll4 cc4] 47), by simp, ((((Below.refl _ _).alloc (by simp) _).trans (hb5.mono (by simp))).alloc (by omega) _)⟩
    · obtain ⟨B, h⟩ := e2
      exact ⟨_, B, num_alloc h (.cells #[.bool bb4, .slice pp4 ll4 cc4] 47), by simp, ((((Below.refl _ _).alloc (by simp) _).trans (hb5.mono (by simp))).alloc (by omega) _)⟩
    · obtain ⟨B, h⟩ := e3
      exact ⟨_, B, num_alloc h (.cells #[.bool bb4, .slice pp4 ll4 cc4] 47), by simp, ((((Below.refl _ _).alloc (by simp) _).trans (hb5.mono (by simp))).alloc (by omega) _)⟩
    · obtain ⟨B, h⟩ := e4
      exact ⟨_, B, num_alloc h (.cells #[.bool bb4, .slice pp4 ll4 cc4] 47), by simp, ((((Below.refl _ _).alloc (by simp) _).trans (hb5.mono (by simp))).alloc (by omega) _)⟩
  clear e1 e2 e3 e4 hy1 hy2 hy3 hy4 hy5 hb1 hb2 hb3 hb4 hb5 W1 W2 W3 W4 W5 W6 U1 U2 U3 U4 V2 HO1 HO2 HO3 HO4 HD bo z3 k3 k4 z5 k5 k6 q1 q2 q3 q4 q5 q6 q7 q8 q9
  generalize hX : x5.alloc (.cells #[.bool bb5, .slice pp5 ll5 cc5] 47) = wr at *
  have n6 : ¬ x4.heap.size + 1 = x5.heap.size := by omega
  have n6' : ¬ x5.heap.size = x4.heap.size + 1 := by omega
  obtain ⟨z6, a6, b6, f6⟩ := R0.v.h1
  obtain ⟨z4, a4', b4, f4⟩ := R0.v.tl.h1
  obtain ⟨z3, a3', b3, f3⟩ := R0.v.tl.tl.h1
  obtain ⟨z2, a2', b2, f2⟩ := R0.v.tl.tl.tl.h1
  obtain ⟨z1, a1', b1, f1⟩ := R0.v.tl.tl.tl.tl.h1
  obtain ⟨z0, a0, b0, f0⟩ := R0.v.tl.tl.tl.tl.tl.h1
  obtain ⟨u0, g0⟩ := R0.n0
  obtain ⟨u1, g1⟩ := R0.n1
  have gf := R0.fz
  have gz := R0.gz
  simp only at z6 a6 b6 f6 z4 a4' b4 f4 z3 a3' b3 f3 z2 a2' b2 f2 z1 a1' b1 f1 z0 a0 b0 f0
  have HX1 : Hid (∀ W, DoR w (x4.heap.size + 1) ((x5.heap.size, .bool bb5, .slice pp5 ll5 cc5) :: (x4.heap.size, .bool bb4, .slice pp4 ll4 cc4) :: (x3.heap.size, .bool bb3, .slice pp3 ll3 cc3) :: (x2.heap.size, .bool bb2, .slice pp2 ll2 cc2) :: (x1.heap.size, .bool bb1, .slice pp1 ll1 cc1) :: (w.heap.size + 1 + 1, .int .i64 0, .int .i64 0) :: []) N1 D1 N2 D2 (D1 * D2) (.agg #[.bool bb1, .slice pp1 ll1 cc1]) (.agg #[.bool bb2, .slice pp2 ll2 cc2]) (.agg #[.bool bb3, .slice pp3 ll3 cc3]) (.agg #[.bool bb4, .slice pp4 ll4 cc4]) (.agg #[.bool bb5, .slice pp5 ll5 cc5]) W → Calls Try.prog 34 #[.agg #[.bool bb1, .slice pp1 ll1 cc1], .agg #[.bool bb4, .slice pp4 ll4 cc4]] W (NumR (N1 * D2) W)) := Lib.hid fun W h => rtimesE h.e1.is h.e4.is a1 a4
  have HX2 : Hid (∀ W, DoR w (x4.heap.size + 1) ((x5.heap.size, .bool bb5, .slice pp5 ll5 cc5) :: (x4.heap.size, .bool bb4, .slice pp4 ll4 cc4) :: (x3.heap.size, .bool bb3, .slice pp3 ll3 cc3) :: (x2.heap.size, .bool bb2, .slice pp2 ll2 cc2) :: (x1.heap.size, .bool bb1, .slice pp1 ll1 cc1) :: (w.heap.size + 1 + 1, .int .i64 0, .int .i64 0) :: []) N1 D1 N2 D2 (D1 * D2) (.agg #[.bool bb1, .slice pp1 ll1 cc1]) (.agg #[.bool bb2, .slice pp2 ll2 cc2]) (.agg #[.bool bb3, .slice pp3 ll3 cc3]) (.agg #[.bool bb4, .slice pp4 ll4 cc4]) (.agg #[.bool bb5, .slice pp5 ll5 cc5]) W → Calls Try.prog 34 #[.agg #[.bool bb3, .slice pp3 ll3 cc3], .agg #[.bool bb2, .slice pp2 ll2 cc2]] W (NumR (N2 * D1) W)) := Lib.hid fun W h => rtimesE h.e3.is h.e2.is a3 a2
  have HXS : Hid (∀ W, DoR w (x4.heap.size + 1) ((x5.heap.size, .bool bb5, .slice pp5 ll5 cc5) :: (x4.heap.size, .bool bb4, .slice pp4 ll4 cc4) :: (x3.heap.size, .bool bb3, .slice pp3 ll3 cc3) :: (x2.heap.size, .bool bb2, .slice pp2 ll2 cc2) :: (x1.heap.size, .bool bb1, .slice pp1 ll1 cc1) :: (w.heap.size + 1 + 1, .int .i64 0, .int .i64 0) :: []) N1 D1 N2 D2 (D1 * D2) (.agg #[.bool bb1, .slice pp1 ll1 cc1]) (.agg #[.bool bb2, .slice pp2 ll2 cc2]) (.agg #[.bool bb3, .slice pp3 ll3 cc3]) (.agg #[.bool bb4, .slice pp4 ll4 cc4]) (.agg #[.bool bb5, .slice pp5 ll5 cc5]) W → ∀ x, NumE (N1 * D2) W x → ∀ y, NumE (N2 * D1) W y → Calls Try.prog 35 #[x, y] W (NumR (N1 * D2 + N2 * D1) W)) := Lib.hid fun W _ x hx y hy => rsumE hx hy m1 m2
  go_upto_region 11 with fail
  go_region_held3 (fun w' => DoR w (x4.heap.size + 1) ((x5.heap.size, .bool bb5, .slice pp5 ll5 cc5) :: (x4.heap.size, .bool bb4, .slice pp4 ll4 cc4) :: (x3.heap.size, .bool bb3, .slice pp3 ll3 cc3) :: (x2.heap.size, .bool bb2, .slice pp2 ll2 cc2) :: (x1.heap.size, .bool bb1, .slice pp1 ll1 cc1) :: (w.heap.size + 1 + 1, .int .i64 0, .int .i64 0) :: []) N1 D1 N2 D2 (D1 * D2) (.agg #[.bool bb1, .slice pp1 ll1 cc1]) (.agg #[.bool bb2, .slice pp2 ll2 cc2]) (.agg #[.bool bb3, .slice pp3 ll3 cc3]) (.agg #[.bool bb4, .slice pp4 ll4 cc4]) (.agg #[.bool bb5, .slice pp5 ll5 cc5]) w' ∧ w'.cell? ⟨x1.heap.size, 0, none⟩ = some (.bool bb1) ∧ w'.cell? ⟨x1.heap.size, 1, none⟩ = some (.slice pp1 ll1 cc1) ∧ w'.cell? ⟨x2.heap.size, 0, none⟩ = some (.bool bb2) ∧ w'.cell? ⟨x2.heap.size, 1, none⟩ = some (.slice pp2 ll2 cc2) ∧ w'.cell? ⟨x3.heap.size, 0, none⟩ = some (.bool bb3) ∧ w'.cell? ⟨x3.heap.size, 1, none⟩ = some (.slice pp3 ll3 cc3) ∧ w'.cell? ⟨x4.heap.size, 0, none⟩ = some (.bool bb4) ∧ w'.cell? ⟨x4.heap.size, 1, none⟩ = some (.slice pp4 ll4 cc4))
    (first
      | (refine keepD ?_; repeat (first | assumption | with_reducible refine DoR.put ?_ _ _ | with_reducible refine DoR.drew ?_)))
    (first
      | (go_at_call 34 ; refine (HX1.out _ (And.left (by assumption)) ).mono ?_; clear HX1; rintro e v1 ⟨z1n, rfl, hz1n, hb1⟩; have HR1 : DoR w (x4.heap.size + 1) ((x5.heap.size, .bool bb5, .slice pp5 ll5 cc5) :: (x4.heap.size, .bool bb4, .slice pp4 ll4 cc4) :: (x3.heap.size, .bool bb3, .slice pp3 ll3 cc3) :: (x2.heap.size, .bool bb2, .slice pp2 ll2 cc2) :: (x1.heap.size, .bool bb1, .slice pp1 ll1 cc1) :: (w.heap.size + 1 + 1, .int .i64 0, .int .i64 0) :: []) N1 D1 N2 D2 (D1 * D2) (.agg #[.bool bb1, .slice pp1 ll1 cc1]) (.agg #[.bool bb2, .slice pp2 ll2 cc2]) (.agg #[.bool bb3, .slice pp3 ll3 cc3]) (.agg #[.bool bb4, .slice pp4 ll4 cc4]) (.agg #[.bool bb5, .slice pp5 ll5 cc5]) v1 := DoR.next (And.left (by assumption)) hb1; have rs1 := DoR.size HR1; have ez1n : NumE _ v1 z1n := ⟨_, hz1n⟩)
      | (go_at_call 34 ; refine (HX2.out _ (And.left (by assumption)) ).mono ?_; clear HX2; rintro e v2 ⟨z2n, rfl, hz2n, hb2⟩; have HR2 : DoR w (x4.heap.size + 1) ((x5.heap.size, .bool bb5, .slice pp5 ll5 cc5) :: (x4.heap.size, .bool bb4, .slice pp4 ll4 cc4) :: (x3.heap.size, .bool bb3, .slice pp3 ll3 cc3) :: (x2.heap.size, .bool bb2, .slice pp2 ll2 cc2) :: (x1.heap.size, .bool bb1, .slice pp1 ll1 cc1) :: (w.heap.size + 1 + 1, .int .i64 0, .int .i64 0) :: []) N1 D1 N2 D2 (D1 * D2) (.agg #[.bool bb1, .slice pp1 ll1 cc1]) (.agg #[.bool bb2, .slice pp2 ll2 cc2]) (.agg #[.bool bb3, .slice pp3 ll3 cc3]) (.agg #[.bool bb4, .slice pp4 ll4 cc4]) (.agg #[.bool bb5, .slice pp5 ll5 cc5]) v2 := DoR.next (And.left (by assumption)) hb2; have rs2 := DoR.size HR2; have ez1n := NumE.via ez1n (by first | exact Below.refl _ _ | exact (Below.refl _ _).alloc (Nat.le_refl _) _ | exact ((Below.refl _ _).alloc (Nat.le_refl _) _).alloc (by simp) _) hb2; have ez2n : NumE _ v2 z2n := ⟨_, hz2n⟩; have hb1_2 := below_via hb1 (by first | exact Below.refl _ _ | exact (Below.refl _ _).alloc (Nat.le_refl _) _ | exact ((Below.refl _ _).alloc (Nat.le_refl _) _).alloc (by simp) _) hb2)
      | (go_at_call 35 ; refine (HXS.out _ (And.left (by assumption)) _ (by repeat (first | with_reducible exact ez1n | with_reducible refine NumE.alloc ?_ _)) _ (by repeat (first | with_reducible exact ez2n | with_reducible refine NumE.alloc ?_ _))).mono ?_; clear HXS; rintro e v3 ⟨z3n, rfl, hz3n, hb3⟩; have HR3 : DoR w (x4.heap.size + 1) ((x5.heap.size, .bool bb5, .slice pp5 ll5 cc5) :: (x4.heap.size, .bool bb4, .slice pp4 ll4 cc4) :: (x3.heap.size, .bool bb3, .slice pp3 ll3 cc3) :: (x2.heap.size, .bool bb2, .slice pp2 ll2 cc2) :: (x1.heap.size, .bool bb1, .slice pp1 ll1 cc1) :: (w.heap.size + 1 + 1, .int .i64 0, .int .i64 0) :: []) N1 D1 N2 D2 (D1 * D2) (.agg #[.bool bb1, .slice pp1 ll1 cc1]) (.agg #[.bool bb2, .slice pp2 ll2 cc2]) (.agg #[.bool bb3, .slice pp3 ll3 cc3]) (.agg #[.bool bb4, .slice pp4 ll4 cc4]) (.agg #[.bool bb5, .slice pp5 ll5 cc5]) v3 := DoR.next (And.left (by assumption)) hb3; have rs3 := DoR.size HR3; have ez1n := NumE.via ez1n (by first | exact Below.refl _ _ | exact (Below.refl _ _).alloc (Nat.le_refl _) _ | exact ((Below.refl _ _).alloc (Nat.le_refl _) _).alloc (by simp) _) hb3; have ez2n := NumE.via ez2n (by first | exact Below.refl _ _ | exact (Below.refl _ _).alloc (Nat.le_refl _) _ | exact ((Below.refl _ _).alloc (Nat.le_refl _) _).alloc (by simp) _) hb3; have ez3n : NumE _ v3 z3n := ⟨_, hz3n⟩; have hb1_3 := below_via hb1_2 (by first | exact Below.refl _ _ | exact (Below.refl _ _).alloc (Nat.le_refl _) _ | exact ((Below.refl _ _).alloc (Nat.le_refl _) _).alloc (by simp) _) hb3; have hb2_3 := below_via hb2 (by first | exact Below.refl _ _ | exact (Below.refl _ _).alloc (Nat.le_refl _) _ | exact ((Below.refl _ _).alloc (Nat.le_refl _) _).alloc (by simp) _) hb3; obtain ⟨bx, px, lx, cx, rfl⟩ := hz3n.parts; obtain ⟨u0', g0'⟩ := HR3.n0; obtain ⟨u1', g1'⟩ := HR3.n1; have gf' := HR3.fz))
  clear z6 a6 b6 f6 z4 a4' b4 f4 z3 a3' b3 f3 z2 a2' b2 f2 z1 a1' b1 f1 z0 a0 b0 f0 u0 g0 u1 g1 gf gz
  have gz0 := HR2.gz
  obtain ⟨z6, a6, b6, f6⟩ := HR3.v.h1
  obtain ⟨z4, a4', b4, f4⟩ := HR3.v.tl.h1
  obtain ⟨z3, a3', b3, f3⟩ := HR3.v.tl.tl.h1
  obtain ⟨z2, a2', b2, f2⟩ := HR3.v.tl.tl.tl.h1
  obtain ⟨z1, a1', b1, f1⟩ := HR3.v.tl.tl.tl.tl.h1
  obtain ⟨z0, a0, b0, f0⟩ := HR3.v.tl.tl.tl.tl.tl.h1
  obtain ⟨u0, g0⟩ := HR3.n0
  obtain ⟨u1, g1⟩ := HR3.n1
  have gf := HR3.fz
  have gz := HR3.gz
  simp only at z6 a6 b6 f6 z4 a4' b4 f4 z3 a3' b3 f3 z2 a2' b2 f2 z1 a1' b1 f1 z0 a0 b0 f0
  go_wp2_with fail
  have P := DoR.put HR3 (.bool bx) (.slice px lx cx)
  have hnP := (hz3n.put (a := ⟨x4.heap.size + 1, 0, none⟩) (by simp; omega) (.bool bx)).put (a := ⟨x4.heap.size + 1, 1, none⟩) (by simp; omega) (.slice px lx cx)
  refine (HT.out _ _ _ ⟨_, hnP⟩ ⟨_, P.ed⟩).mono ?_
  rintro e v9 ⟨rfl, hb9⟩
  have R9 := P.next hb9
  clear z0 a0 b0 f0
  obtain ⟨z0, a0, b0, f0⟩ := R9.v.tl.tl.tl.tl.tl.h1
  simp only at z0 a0 b0 f0
  have hB := R9.v.bel
  have hz9 := hB.size
  clear R9 P hnP
  go_wp2_with fail
  refine bodyPost_ret (v := .tuple #[.agg #[.int .i64 N, .int .i64 D], .bool b]) (by simp [results, Try.results14, go_sem, a0, b0, z0]) rfl ⟨rfl, ?_⟩
  exact ((hB.setCell (p := ⟨w.heap.size + 1 + 1, 0, none⟩) (by simp; omega) _).setCell (p := ⟨w.heap.size + 1 + 1, 1, none⟩) (by simp; omega) _).alloc (by simp; omega) _


set_option maxHeartbeats 8000000 in
theorem rdo_1 (N1 D1 N2 D2 N D : Int) (b : Bool) (w : World) (h1 : Is64 N1 D1) (hm : mayB N1 D1 = true) (h2 : Is64 N2 D2) (hm2 : mayB N2 D2 = true) (HT : Hid (∀ W x y, NumE (N1 * D2 + -(N2 * D1)) W x → NumE (D1 * D2) W y → Calls Try.prog 26 #[x, y] W (RatIs N D b W))) :
    Calls Try.prog 14 #[.int .i64 1, .agg #[.int .i64 N1, .int .i64 D1], .agg #[.int .i64 N2, .int .i64 D2]] w (RatIs N D b w) := by
  have HR := Lib.hid (fun w => right_any N1 D1 w h1)
  have HR2 := Lib.hid (fun w => right_any N2 D2 w h2)
  rw [hm] at HR
  rw [hm2] at HR2
  have HO1 := Lib.hid (fun W => rof_any W N1 h1.n1 h1.n2)
  have HO2 := Lib.hid (fun W => rof_any W D1 h1.d1 h1.d2)
  have HO3 := Lib.hid (fun W => rof_any W N2 h2.n1 h2.n2)
  have HO4 := Lib.hid (fun W => rof_any W D2 h2.d1 h2.d2)
  have a1 := small_lt h1.n1 h1.n2
  have a2 := small_lt h1.d1 h1.d2
  have a3 := small_lt h2.n1 h2.n2
  have a4 := small_lt h2.d1 h2.d2
  have m1 := mul_small (small99b h1.n1 h1.n2) (small99b h2.d1 h2.d2)
  have m2 := mul_small (small99b h2.n1 h2.n2) (small99b h1.d1 h1.d2)
  have V := (((NV.first w).alloc (.int .i64 N1) (.int .i64 D1) 24).alloc (.int .i64 N2) (.int .i64 D2) 24).alloc (.int .i64 0) (.int .i64 0) 24
  clear h1 h2 hm hm2
  go_enter Try.func14, Try.ntmps14
  go_wp2_with fail
  refine (HR.out _).mono ?_
  rintro e w1 ⟨rfl, hb1⟩
  have V1 := V.next hb1
  obtain ⟨z1, k1, k2, -⟩ := V1.tl.h1
  simp at z1 k1 k2
  go_wp2_with fail
  refine (HR2.out _).mono ?_
  rintro e w2 ⟨rfl, hb2⟩
  have V2 := V1.next hb2
  clear z1 k1 k2 V V1 hb1 hb2 HR HR2
  obtain ⟨z3, k3, k4, -⟩ := V2.tl.h1
  obtain ⟨z5, k5, k6, -⟩ := V2.tl.tl.h1
  simp at z3 k3 k4 z5 k5 k6
  go_wp2_with fail
  refine (HO1.out _).mono ?_
  rintro e x1 ⟨y1, rfl, hy1, hb1⟩
  obtain ⟨bb1, pp1, ll1, cc1, rfl⟩ := hy1.parts
  have e1 : NumE _ x1 _ := ⟨_, hy1⟩
  have W1 := (V2.next hb1).alloc (.bool bb1) (.slice pp1 ll1 cc1) 47
  have U1 := V2.next hb1
  clear z3 k3 k4 z5 k5 k6
  obtain ⟨z3, k3, k4, -⟩ := U1.tl.h1
  obtain ⟨z5, k5, k6, -⟩ := U1.tl.tl.h1
  simp at z3 k3 k4 z5 k5 k6
  go_wp2_with fail
  refine (HO2.out _).mono ?_
  rintro e x2 ⟨y2, rfl, hy2, hb2⟩
  obtain ⟨bb2, pp2, ll2, cc2, rfl⟩ := hy2.parts
  have e2 : NumE _ x2 _ := ⟨_, hy2⟩
  have e1 := (e1.alloc (.cells #[.bool bb1, .slice pp1 ll1 cc1] 47)).on hb2
  have W2 := (W1.next hb2).alloc (.bool bb2) (.slice pp2 ll2 cc2) 47
  have U2 := W1.next hb2
  clear z3 k3 k4 z5 k5 k6
  obtain ⟨z3, k3, k4, -⟩ := U2.tl.tl.h1
  obtain ⟨z5, k5, k6, -⟩ := U2.tl.tl.tl.h1
  simp at z3 k3 k4 z5 k5 k6
  go_wp2_with fail
  refine (HO3.out _).mono ?_
  rintro e x3 ⟨y3, rfl, hy3, hb3⟩
  obtain ⟨bb3, pp3, ll3, cc3, rfl⟩ := hy3.parts
  have e3 : NumE _ x3 _ := ⟨_, hy3⟩
  have e1 := (e1.alloc (.cells #[.bool bb2, .slice pp2 ll2 cc2] 47)).on hb3
  have e2 := (e2.alloc (.cells #[.bool bb2, .slice pp2 ll2 cc2] 47)).on hb3
  have W3 := (W2.next hb3).alloc (.bool bb3) (.slice pp3 ll3 cc3) 47
  have U3 := W2.next hb3
  clear z3 k3 k4 z5 k5 k6
  obtain ⟨z3, k3, k4, -⟩ := U3.tl.tl.tl.h1
  obtain ⟨z5, k5, k6, -⟩ := U3.tl.tl.tl.tl.h1
  simp at z3 k3 k4 z5 k5 k6
  go_wp2_with fail
  refine (HO4.out _).mono ?_
  rintro e x4 ⟨y4, rfl, hy4, hb4⟩
  obtain ⟨bb4, pp4, ll4, cc4, rfl⟩ := hy4.parts
  have e4 : NumE _ x4 _ := ⟨_, hy4⟩
  have e1 := (e1.alloc (.cells #[.bool bb3, .slice pp3 ll3 cc3] 47)).on hb4
  have e2 := (e2.alloc (.cells #[.bool bb3, .slice pp3 ll3 cc3] 47)).on hb4
  have e3 := (e3.alloc (.cells #[.bool bb3, .slice pp3 ll3 cc3] 47)).on hb4
  have W4 := (W3.next hb4).alloc (.bool bb4) (.slice pp4 ll4 cc4) 47
  have U4 := W3.next hb4
  clear z3 k3 k4 z5 k5 k6
  obtain ⟨z3, k3, k4, -⟩ := U4.tl.tl.tl.tl.h1
  obtain ⟨z5, k5, k6, -⟩ := U4.tl.tl.tl.tl.tl.h1
  simp at z3 k3 k4 z5 k5 k6
  obtain ⟨q1, q2, q3, -⟩ := U4.h1
  obtain ⟨q4, q5, q6, -⟩ := U4.tl.h1
  obtain ⟨q7, q8, q9, -⟩ := U4.tl.tl.h1
  simp at q1 q2 q3 q4 q5 q6 q7 q8 q9
  have W5 := W4.alloc (.bool false) (.slice none 0 0) 47
  have bo : Below x4.heap.size x4 ((x4.alloc (.cells #[.bool bb4, .slice pp4 ll4 cc4] 47)).alloc (.cells #[.bool false, .slice none 0 0] 47)) := ((Below.refl _ _).alloc (Nat.le_refl _) _).alloc (by simp) _
  have f1 := e1.on bo
  have f2 := e2.on bo
  have f3 := e3.on bo
  have f4 := e4.on bo
  have HD := Lib.hid (rtimesE f2 f4 a2 a4)
  clear f1 f2 f3 f4
  go_wp2_with fail
  refine (HD.out).mono ?_
  rintro e x5 ⟨y5, rfl, hy5, hb5⟩
  obtain ⟨bb5, pp5, ll5, cc5, rfl⟩ := hy5.parts
  have s5 := hb5.size
  simp at s5
  have W6 := (W5.next hb5).alloc (.bool bb5) (.slice pp5 ll5 cc5) 47
  have R0 : DoR w (x4.heap.size + 1) ((x5.heap.size, .bool bb5, .slice pp5 ll5 cc5) :: (x4.heap.size, .bool bb4, .slice pp4 ll4 cc4) :: (x3.heap.size, .bool bb3, .slice pp3 ll3 cc3) :: (x2.heap.size, .bool bb2, .slice pp2 ll2 cc2) :: (x1.heap.size, .bool bb1, .slice pp1 ll1 cc1) :: (w.heap.size + 1 + 1, .int .i64 0, .int .i64 0) :: []) N1 D1 N2 D2 (D1 * D2) (.agg #[.bool bb1, .slice pp1 ll1 cc1]) (.agg #[.bool bb2, .slice pp2 ll2 cc2]) (.agg #[.bool bb3, .slice pp3 ll3 cc3]) (.agg #[.bool bb4, .slice pp4 ll4 cc4]) (.agg #[.bool bb5, .slice pp5 ll5 cc5]) (x5.alloc (.cells #[.bool bb5, .slice pp5 ll5 cc5] 47)) := by
    have hn := W6.tl.h1
    have z0 := (U1.h1).1
    have z1 := hb2.size
    have z2 := hb3.size
    have z3 := hb4.size
    simp at hn z0 z1 z2 z3
    refine ⟨⟨W6.bel, fun t ht => W6.all t ?_⟩, ?_, ?_, by simp; omega, ⟨_, hn.2.1⟩, ⟨_, hn.2.2.1⟩, hn.2.2.2, ?_, ?_, ?_, ?_, num_alloc (hy5.mono (by simp)) _⟩
    · simp at ht ⊢
      rcases ht with h | h | h | h | h | h <;> simp [h]
    · intro t ht
      simp at ht
      rcases ht with rfl | rfl | rfl | rfl | rfl | rfl <;> simp <;> omega
    · omega
    · obtain ⟨B, h⟩ := e1
      exact ⟨_, B, num_alloc h (.cells #[.bool bb4, .slice pp4 ll4 cc4] 47), by simp, ((((Below.refl _ _).alloc (by simp) _).trans (hb5.mono (by simp))).alloc (by omega) _)⟩
    · obtain ⟨B, h⟩ := e2
      exact ⟨_, B, num_alloc h (.cells #[.bool bb4, .slice pp4 ll4 cc4] 47), by simp, ((((Below.refl _ _).alloc (by simp) _).trans (hb5.mono (by simp))).alloc (by omega) _)⟩
    · obtain ⟨B, h⟩ := e3
      exact ⟨_, B, num_alloc h (.cells #[.bool bb4, .slice pp4 ll4 cc4] 47), by simp, ((((Below.refl _ _).alloc (by simp) _).trans (hb5.mono (by simp))).alloc (by omega) _)⟩
    · obtain ⟨B, h⟩ := e4
      exact ⟨_, B, num_alloc h (.cells #[.bool bb4, .slice pp4 ll4 cc4] 47), by simp, ((((Below.refl _ _).alloc (by simp) _).trans (hb5.mono (by simp))).alloc (by omega) _)⟩
  clear e1 e2 e3 e4 hy1 hy2 hy3 hy4 hy5 hb1 hb2 hb3 hb4 hb5 W1 W2 W3 W4 W5 W6 U1 U2 U3 U4 V2 HO1 HO2 HO3 HO4 HD bo z3 k3 k4 z5 k5 k6 q1 q2 q3 q4 q5 q6 q7 q8 q9
  generalize hX : x5.alloc (.cells #[.bool bb5, .slice pp5 ll5 cc5] 47) = wr at *
  have n6 : ¬ x4.heap.size + 1 = x5.heap.size := by omega
  have n6' : ¬ x5.heap.size = x4.heap.size + 1 := by omega
  obtain ⟨z6, a6, b6, f6⟩ := R0.v.h1
  obtain ⟨z4, a4', b4, f4⟩ := R0.v.tl.h1
  obtain ⟨z3, a3', b3, f3⟩ := R0.v.tl.tl.h1
  obtain ⟨z2, a2', b2, f2⟩ := R0.v.tl.tl.tl.h1
  obtain ⟨z1, a1', b1, f1⟩ := R0.v.tl.tl.tl.tl.h1
  obtain ⟨z0, a0, b0, f0⟩ := R0.v.tl.tl.tl.tl.tl.h1
  obtain ⟨u0, g0⟩ := R0.n0
  obtain ⟨u1, g1⟩ := R0.n1
  have gf := R0.fz
  have gz := R0.gz
  simp only at z6 a6 b6 f6 z4 a4' b4 f4 z3 a3' b3 f3 z2 a2' b2 f2 z1 a1' b1 f1 z0 a0 b0 f0
  have HX1 : Hid (∀ W, DoR w (x4.heap.size + 1) ((x5.heap.size, .bool bb5, .slice pp5 ll5 cc5) :: (x4.heap.size, .bool bb4, .slice pp4 ll4 cc4) :: (x3.heap.size, .bool bb3, .slice pp3 ll3 cc3) :: (x2.heap.size, .bool bb2, .slice pp2 ll2 cc2) :: (x1.heap.size, .bool bb1, .slice pp1 ll1 cc1) :: (w.heap.size + 1 + 1, .int .i64 0, .int .i64 0) :: []) N1 D1 N2 D2 (D1 * D2) (.agg #[.bool bb1, .slice pp1 ll1 cc1]) (.agg #[.bool bb2, .slice pp2 ll2 cc2]) (.agg #[.bool bb3, .slice pp3 ll3 cc3]) (.agg #[.bool bb4, .slice pp4 ll4 cc4]) (.agg #[.bool bb5, .slice pp5 ll5 cc5]) W → Calls Try.prog 34 #[.agg #[.bool bb1, .slice pp1 ll1 cc1], .agg #[.bool bb4, .slice pp4 ll4 cc4]] W (NumR (N1 * D2) W)) := Lib.hid fun W h => rtimesE h.e1.is h.e4.is a1 a4
  have HX2 : Hid (∀ W, DoR w (x4.heap.size + 1) ((x5.heap.size, .bool bb5, .slice pp5 ll5 cc5) :: (x4.heap.size, .bool bb4, .slice pp4 ll4 cc4) :: (x3.heap.size, .bool bb3, .slice pp3 ll3 cc3) :: (x2.heap.size, .bool bb2, .slice pp2 ll2 cc2) :: (x1.heap.size, .bool bb1, .slice pp1 ll1 cc1) :: (w.heap.size + 1 + 1, .int .i64 0, .int .i64 0) :: []) N1 D1 N2 D2 (D1 * D2) (.agg #[.bool bb1, .slice pp1 ll1 cc1]) (.agg #[.bool bb2, .slice pp2 ll2 cc2]) (.agg #[.bool bb3, .slice pp3 ll3 cc3]) (.agg #[.bool bb4, .slice pp4 ll4 cc4]) (.agg #[.bool bb5, .slice pp5 ll5 cc5]) W → Calls Try.prog 34 #[.agg #[.bool bb3, .slice pp3 ll3 cc3], .agg #[.bool bb2, .slice pp2 ll2 cc2]] W (NumR (N2 * D1) W)) := Lib.hid fun W h => rtimesE h.e3.is h.e2.is a3 a2
  have HXN : Hid (∀ W, DoR w (x4.heap.size + 1) ((x5.heap.size, .bool bb5, .slice pp5 ll5 cc5) :: (x4.heap.size, .bool bb4, .slice pp4 ll4 cc4) :: (x3.heap.size, .bool bb3, .slice pp3 ll3 cc3) :: (x2.heap.size, .bool bb2, .slice pp2 ll2 cc2) :: (x1.heap.size, .bool bb1, .slice pp1 ll1 cc1) :: (w.heap.size + 1 + 1, .int .i64 0, .int .i64 0) :: []) N1 D1 N2 D2 (D1 * D2) (.agg #[.bool bb1, .slice pp1 ll1 cc1]) (.agg #[.bool bb2, .slice pp2 ll2 cc2]) (.agg #[.bool bb3, .slice pp3 ll3 cc3]) (.agg #[.bool bb4, .slice pp4 ll4 cc4]) (.agg #[.bool bb5, .slice pp5 ll5 cc5]) W → ∀ x, NumE (N2 * D1) W x → Calls Try.prog 36 #[x] W (NumR (-(N2 * D1)) W)) := Lib.hid fun W _ x hx => rnegE hx m2
  have HXS : Hid (∀ W, DoR w (x4.heap.size + 1) ((x5.heap.size, .bool bb5, .slice pp5 ll5 cc5) :: (x4.heap.size, .bool bb4, .slice pp4 ll4 cc4) :: (x3.heap.size, .bool bb3, .slice pp3 ll3 cc3) :: (x2.heap.size, .bool bb2, .slice pp2 ll2 cc2) :: (x1.heap.size, .bool bb1, .slice pp1 ll1 cc1) :: (w.heap.size + 1 + 1, .int .i64 0, .int .i64 0) :: []) N1 D1 N2 D2 (D1 * D2) (.agg #[.bool bb1, .slice pp1 ll1 cc1]) (.agg #[.bool bb2, .slice pp2 ll2 cc2]) (.agg #[.bool bb3, .slice pp3 ll3 cc3]) (.agg #[.bool bb4, .slice pp4 ll4 cc4]) (.agg #[.bool bb5, .slice pp5 ll5 cc5]) W → ∀ x, NumE (N1 * D2) W x → ∀ y, NumE (-(N2 * D1)) W y → Calls Try.prog 35 #[x, y] W (NumR (N1 * D2 + -(N2 * D1)) W)) := Lib.hid fun W _ x hx y hy => rsumE hx hy m1 (by rw [Int.natAbs_neg]; exact m2)
  go_upto_region 13 with fail
  go_region_held3 (fun w' => DoR w (x4.heap.size + 1) ((x5.heap.size, .bool bb5, .slice pp5 ll5 cc5) :: (x4.heap.size, .bool bb4, .slice pp4 ll4 cc4) :: (x3.heap.size, .bool bb3, .slice pp3 ll3 cc3) :: (x2.heap.size, .bool bb2, .slice pp2 ll2 cc2) :: (x1.heap.size, .bool bb1, .slice pp1 ll1 cc1) :: (w.heap.size + 1 + 1, .int .i64 0, .int .i64 0) :: []) N1 D1 N2 D2 (D1 * D2) (.agg #[.bool bb1, .slice pp1 ll1 cc1]) (.agg #[.bool bb2, .slice pp2 ll2 cc2]) (.agg #[.bool bb3, .slice pp3 ll3 cc3]) (.agg #[.bool bb4, .slice pp4 ll4 cc4]) (.agg #[.bool bb5, .slice pp5 ll5 cc5]) w' ∧ w'.cell? ⟨x1.heap.size, 0, none⟩ = some (.bool bb1) ∧ w'.cell? ⟨x1.heap.size, 1, none⟩ = some (.slice pp1 ll1 cc1) ∧ w'.cell? ⟨x2.heap.size, 0, none⟩ = some (.bool bb2) ∧ w'.cell? ⟨x2.heap.size, 1, none⟩ = some (.slice pp2 ll2 cc2) ∧ w'.cell? ⟨x3.heap.size, 0, none⟩ = some (.bool bb3) ∧ w'.cell? ⟨x3.heap.size, 1, none⟩ = some (.slice pp3 ll3 cc3) ∧ w'.cell? ⟨x4.heap.size, 0, none⟩ = some (.bool bb4) ∧ w'.cell? ⟨x4.heap.size, 1, none⟩ = some (.slice pp4 ll4 cc4))
    (first
      | (refine keepD ?_; repeat (first | assumption | with_reducible refine DoR.put ?_ _ _ | with_reducible refine DoR.drew ?_)))
    (first
      | (go_at_call 34 ; refine (HX1.out _ (And.left (by assumption)) ).mono ?_; clear HX1; rintro e v1 ⟨z1n, rfl, hz1n, hb1⟩; have HR1 : DoR w (x4.heap.size + 1) ((x5.heap.size, .bool bb5, .slice pp5 ll5 cc5) :: (x4.heap.size, .bool bb4, .slice pp4 ll4 cc4) :: (x3.heap.size, .bool bb3, .slice pp3 ll3 cc3) :: (x2.heap.size, .bool bb2, .slice pp2 ll2 cc2) :: (x1.heap.size, .bool bb1, .slice pp1 ll1 cc1) :: (w.heap.size + 1 + 1, .int .i64 0, .int .i64 0) :: []) N1 D1 N2 D2 (D1 * D2) (.agg #[.bool bb1, .slice pp1 ll1 cc1]) (.agg #[.bool bb2, .slice pp2 ll2 cc2]) (.agg #[.bool bb3, .slice pp3 ll3 cc3]) (.agg #[.bool bb4, .slice pp4 ll4 cc4]) (.agg #[.bool bb5, .slice pp5 ll5 cc5]) v1 := DoR.next (And.left (by assumption)) hb1; have rs1 := DoR.size HR1; have ez1n : NumE _ v1 z1n := ⟨_, hz1n⟩)
      | (go_at_call 34 ; refine (HX2.out _ (And.left (by assumption)) ).mono ?_; clear HX2; rintro e v2 ⟨z2n, rfl, hz2n, hb2⟩; have HR2 : DoR w (x4.heap.size + 1) ((x5.heap.size, .bool bb5, .slice pp5 ll5 cc5) :: (x4.heap.size, .bool bb4, .slice pp4 ll4 cc4) :: (x3.heap.size, .bool bb3, .slice pp3 ll3 cc3) :: (x2.heap.size, .bool bb2, .slice pp2 ll2 cc2) :: (x1.heap.size, .bool bb1, .slice pp1 ll1 cc1) :: (w.heap.size + 1 + 1, .int .i64 0, .int .i64 0) :: []) N1 D1 N2 D2 (D1 * D2) (.agg #[.bool bb1, .slice pp1 ll1 cc1]) (.agg #[.bool bb2, .slice pp2 ll2 cc2]) (.agg #[.bool bb3, .slice pp3 ll3 cc3]) (.agg #[.bool bb4, .slice pp4 ll4 cc4]) (.agg #[.bool bb5, .slice pp5 ll5 cc5]) v2 := DoR.next (And.left (by assumption)) hb2; have rs2 := DoR.size HR2; have ez1n := NumE.via ez1n (by first | exact Below.refl _ _ | exact (Below.refl _ _).alloc (Nat.le_refl _) _ | exact ((Below.refl _ _).alloc (Nat.le_refl _) _).alloc (by simp) _) hb2; have ez2n : NumE _ v2 z2n := ⟨_, hz2n⟩; have hb1_2 := below_via hb1 (by first | exact Below.refl _ _ | exact (Below.refl _ _).alloc (Nat.le_refl _) _ | exact ((Below.refl _ _).alloc (Nat.le_refl _) _).alloc (by simp) _) hb2)
      | (go_at_call 36 ; refine (HXN.out _ (And.left (by assumption)) _ (by repeat (first | with_reducible exact ez2n | with_reducible refine NumE.alloc ?_ _))).mono ?_; clear HXN; rintro e v3 ⟨z3n, rfl, hz3n, hb3⟩; have HR3 : DoR w (x4.heap.size + 1) ((x5.heap.size, .bool bb5, .slice pp5 ll5 cc5) :: (x4.heap.size, .bool bb4, .slice pp4 ll4 cc4) :: (x3.heap.size, .bool bb3, .slice pp3 ll3 cc3) :: (x2.heap.size, .bool bb2, .slice pp2 ll2 cc2) :: (x1.heap.size, .bool bb1, .slice pp1 ll1 cc1) :: (w.heap.size + 1 + 1, .int .i64 0, .int .i64 0) :: []) N1 D1 N2 D2 (D1 * D2) (.agg #[.bool bb1, .slice pp1 ll1 cc1]) (.agg #[.bool bb2, .slice pp2 ll2 cc2]) (.agg #[.bool bb3, .slice pp3 ll3 cc3]) (.agg #[.bool bb4, .slice pp4 ll4 cc4]) (.agg #[.bool bb5, .slice pp5 ll5 cc5]) v3 := DoR.next (And.left (by assumption)) hb3; have rs3 := DoR.size HR3; have ez1n := NumE.via ez1n (by first | exact Below.refl _ _ | exact (Below.refl _ _).alloc (Nat.le_refl _) _ | exact ((Below.refl _ _).alloc (Nat.le_refl _) _).alloc (by simp) _) hb3; have ez2n := NumE.via ez2n (by first | exact Below.refl _ _ | exact (Below.refl _ _).alloc (Nat.le_refl _) _ | exact ((Below.refl _ _).alloc (Nat.le_refl _) _).alloc (by simp) _) hb3; have ez3n : NumE _ v3 z3n := ⟨_, hz3n⟩; have hb1_3 := below_via hb1_2 (by first | exact Below.refl _ _ | exact (Below.refl _ _).alloc (Nat.le_refl _) _ | exact ((Below.refl _ _).alloc (Nat.le_refl _) _).alloc (by simp) _) hb3; have hb2_3 := below_via hb2 (by first | exact Below.refl _ _ | exact (Below.refl _ _).alloc (Nat.le_refl _) _ | exact ((Below.refl _ _).alloc (Nat.le_refl _) _).alloc (by simp) _) hb3)
      | (go_at_call 35 ; refine (HXS.out _ (And.left (by assumption)) _ (by repeat (first | with_reducible exact ez1n | with_reducible refine NumE.alloc ?_ _)) _ (by repeat (first | with_reducible exact ez3n | with_reducible refine NumE.alloc ?_ _))).mono ?_; clear HXS; rintro e v4 ⟨z4n, rfl, hz4n, hb4⟩; have HR4 : DoR w (x4.heap.size + 1) ((x5.heap.size, .bool bb5, .slice pp5 ll5 cc5) :: (x4.heap.size, .bool bb4, .slice pp4 ll4 cc4) :: (x3.heap.size, .bool bb3, .slice pp3 ll3 cc3) :: (x2.heap.size, .bool bb2, .slice pp2 ll2 cc2) :: (x1.heap.size, .bool bb1, .slice pp1 ll1 cc1) :: (w.heap.size + 1 + 1, .int .i64 0, .int .i64 0) :: []) N1 D1 N2 D2 (D1 * D2) (.agg #[.bool bb1, .slice pp1 ll1 cc1]) (.agg #[.bool bb2, .slice pp2 ll2 cc2]) (.agg #[.bool bb3, .slice pp3 ll3 cc3]) (.agg #[.bool bb4, .slice pp4 ll4 cc4]) (.agg #[.bool bb5, .slice pp5 ll5 cc5]) v4 := DoR.next (And.left (by assumption)) hb4; have rs4 := DoR.size HR4; have ez1n := NumE.via ez1n (by first | exact Below.refl _ _ | exact (Below.refl _ _).alloc (Nat.le_refl _) _ | exact ((Below.refl _ _).alloc (Nat.le_refl _) _).alloc (by simp) _) hb4; have ez2n := NumE.via ez2n (by first | exact Below.refl _ _ | exact (Below.refl _ _).alloc (Nat.le_refl _) _ | exact ((Below.refl _ _).alloc (Nat.le_refl _) _).alloc (by simp) _) hb4; have ez3n := NumE.via ez3n (by first | exact Below.refl _ _ | exact (Below.refl _ _).alloc (Nat.le_refl _) _ | exact ((Below.refl _ _).alloc (Nat.le_refl _) _).alloc (by simp) _) hb4; have ez4n : NumE _ v4 z4n := ⟨_, hz4n⟩; have hb1_4 := below_via hb1_3 (by first | exact Below.refl _ _ | exact (Below.refl _ _).alloc (Nat.le_refl _) _ | exact ((Below.refl _ _).alloc (Nat.le_refl _) _).alloc (by simp) _) hb4; have hb2_4 := below_via hb2_3 (by first | exact Below.refl _ _ | exact (Below.refl _ _).alloc (Nat.le_refl _) _ | exact ((Below.refl _ _).alloc (Nat.le_refl _) _).alloc (by simp) _) hb4; have hb3_4 := below_via hb3 (by first | exact Below.refl _ _ | exact (Below.refl _ _).alloc (Nat.le_refl _) _ | exact ((Below.refl _ _).alloc (Nat.le_refl _) _).alloc (by simp) _) hb4; obtain ⟨bx, px, lx, cx, rfl⟩ := hz4n.parts; obtain ⟨u0', g0'⟩ := HR4.n0; obtain ⟨u1', g1'⟩ := HR4.n1; have gf' := HR4.fz))
  clear z6 a6 b6 f6 z4 a4' b4 f4 z3 a3' b3 f3 z2 a2' b2 f2 z1 a1' b1 f1 z0 a0 b0 f0 u0 g0 u1 g1 gf gz
  have gz0 := HR3.gz
  obtain ⟨z6, a6, b6, f6⟩ := HR4.v.h1
  obtain ⟨z4, a4', b4, f4⟩ := HR4.v.tl.h1
  obtain ⟨z3, a3', b3, f3⟩ := HR4.v.tl.tl.h1
  obtain ⟨z2, a2', b2, f2⟩ := HR4.v.tl.tl.tl.h1
  obtain ⟨z1, a1', b1, f1⟩ := HR4.v.tl.tl.tl.tl.h1
  obtain ⟨z0, a0, b0, f0⟩ := HR4.v.tl.tl.tl.tl.tl.h1
  obtain ⟨u0, g0⟩ := HR4.n0
  obtain ⟨u1, g1⟩ := HR4.n1
  have gf := HR4.fz
  have gz := HR4.gz
  simp only at z6 a6 b6 f6 z4 a4' b4 f4 z3 a3' b3 f3 z2 a2' b2 f2 z1 a1' b1 f1 z0 a0 b0 f0
  go_wp2_with fail
  have P := DoR.put HR4 (.bool bx) (.slice px lx cx)
  have hnP := (hz4n.put (a := ⟨x4.heap.size + 1, 0, none⟩) (by simp; omega) (.bool bx)).put (a := ⟨x4.heap.size + 1, 1, none⟩) (by simp; omega) (.slice px lx cx)
  refine (HT.out _ _ _ ⟨_, hnP⟩ ⟨_, P.ed⟩).mono ?_
  rintro e v9 ⟨rfl, hb9⟩
  have R9 := P.next hb9
  clear z0 a0 b0 f0
  obtain ⟨z0, a0, b0, f0⟩ := R9.v.tl.tl.tl.tl.tl.h1
  simp only at z0 a0 b0 f0
  have hB := R9.v.bel
  have hz9 := hB.size
  clear R9 P hnP
  go_wp2_with fail
  refine bodyPost_ret (v := .tuple #[.agg #[.int .i64 N, .int .i64 D], .bool b]) (by simp [results, Try.results14, go_sem, a0, b0, z0]) rfl ⟨rfl, ?_⟩
  exact ((hB.setCell (p := ⟨w.heap.size + 1 + 1, 0, none⟩) (by simp; omega) _).setCell (p := ⟨w.heap.size + 1 + 1, 1, none⟩) (by simp; omega) _).alloc (by simp; omega) _

end Go.Proofs.Ytnbloflgggndiaa
