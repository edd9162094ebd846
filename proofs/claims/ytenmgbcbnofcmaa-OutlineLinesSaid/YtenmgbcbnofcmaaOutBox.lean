/- The contract of Box. -/
import Derived.Test.YtenmgbcbnofcmaaOutCopy
namespace Go.Proofs.Ytenmgbcbnofcmaa
open Go.RowKit

/-- The least and the greatest of points' numbers, from a first one on. -/
def lowI (f : Pn → Int) (a : Int) (ps : List Pn) : Int := ps.foldl (fun m p => min m (f p)) a
def highI (f : Pn → Int) (a : Int) (ps : List Pn) : Int := ps.foldl (fun m p => max m (f p)) a
theorem foldl_take {α β : Type} (f : β → α → β) (a : β) (l : List α) (k : Nat) (d : α) (h : k < l.length) : (l.take (k + 1)).foldl f a = f ((l.take k).foldl f a) (l[k]?.getD d) := by
  rw [List.take_add_one, List.foldl_append, List.getElem?_eq_getElem h]
  rfl
def lowX (ps : List Pn) : Int := lowI Pn.x (ps[0]?.getD default).x ps
def lowY (ps : List Pn) : Int := lowI Pn.y (ps[0]?.getD default).y ps
def highX (ps : List Pn) : Int := highI Pn.x (ps[0]?.getD default).x ps
def highY (ps : List Pn) : Int := highI Pn.y (ps[0]?.getD default).y ps

/-- What is known of a world within Box. -/
structure B3 (w : World) (v1 v2 : Value) (lx ly hx hy : Int) (W : World) : Prop where
  bel : Below w.heap.size w W
  size : w.heap.size + 1 + 1 + 1 ≤ W.heap.size
  c1 : W.cell? ⟨w.heap.size, 0, none⟩ = some v1
  c2 : W.cell? ⟨w.heap.size, 1, none⟩ = some v2
  l0 : W.cell? ⟨w.heap.size + 1, 0, none⟩ = some (.int .i64 lx)
  l1 : W.cell? ⟨w.heap.size + 1, 1, none⟩ = some (.int .i64 ly)
  l2 : W.cell? ⟨w.heap.size + 1, 2, none⟩ = some (.bool false)
  h0 : W.cell? ⟨w.heap.size + 1 + 1, 0, none⟩ = some (.int .i64 hx)
  h1 : W.cell? ⟨w.heap.size + 1 + 1, 1, none⟩ = some (.int .i64 hy)
  h2 : W.cell? ⟨w.heap.size + 1 + 1, 2, none⟩ = some (.bool false)
  f1 : ∀ o, W.frozen? ⟨w.heap.size + 1, o, none⟩ = false
  f2 : ∀ o, W.frozen? ⟨w.heap.size + 1 + 1, o, none⟩ = false
theorem B3.first (w : World) (v1 v2 : Value) (T T' : TypeId) : B3 w v1 v2 0 0 0 0 (((w.alloc (.cells #[v1, v2] T)).alloc (.cells #[.int .i64 0, .int .i64 0, .bool false] T')).alloc (.cells #[.int .i64 0, .int .i64 0, .bool false] T')) :=
  ⟨(((Below.refl _ _).alloc (Nat.le_refl _) _).alloc (by simp) _).alloc (by simp; omega) _, by simp, by simp [go_sem], by simp [go_sem], by simp [go_sem], by simp [go_sem], by simp [go_sem], by simp [go_sem], by simp [go_sem], by simp [go_sem], fun o => by simp [go_sem], fun o => by simp [go_sem]⟩
theorem B3.next {w W W' : World} {v1 v2 : Value} {lx ly hx hy : Int} (h : B3 w v1 v2 lx ly hx hy W) (hb : Below W.heap.size W W') : B3 w v1 v2 lx ly hx hy W' := by
  have hs := h.size
  exact ⟨h.bel.trans (hb.mono h.bel.size), Nat.le_trans hs hb.size, by rw [hb.cell (by simp; omega)]; exact h.c1, by rw [hb.cell (by simp; omega)]; exact h.c2, by rw [hb.cell (by simp; omega)]; exact h.l0, by rw [hb.cell (by simp; omega)]; exact h.l1, by rw [hb.cell (by simp; omega)]; exact h.l2,
    by rw [hb.cell (by simp; omega)]; exact h.h0, by rw [hb.cell (by simp; omega)]; exact h.h1, by rw [hb.cell (by simp; omega)]; exact h.h2, fun o => by rw [hb.frozen (by simp; omega)]; exact h.f1 o, fun o => by rw [hb.frozen (by simp; omega)]; exact h.f2 o⟩
theorem B3.alloc {w W : World} {v1 v2 : Value} {lx ly hx hy : Int} (h : B3 w v1 v2 lx ly hx hy W) (o : Obj) : B3 w v1 v2 lx ly hx hy (W.alloc o) := h.next ((Below.refl _ _).alloc (Nat.le_refl _) o)

theorem B3.drew {w W : World} {v1 v2 : Value} {lx ly hx hy : Int} (h : B3 w v1 v2 lx ly hx hy W) : B3 w v1 v2 lx ly hx hy W.drew := h.next (below_drewN (Below.refl _ _) 1)
theorem B3.putx {w W : World} {v1 v2 : Value} {lx ly hx hy : Int} (h : B3 w v1 v2 lx ly hx hy W) (a b : Int) : B3 w v1 v2 a ly b hy ((W.setCell ⟨w.heap.size + 1, 0, none⟩ (.int .i64 a)).setCell ⟨w.heap.size + 1 + 1, 0, none⟩ (.int .i64 b)) := by
  obtain ⟨hB, hz, k1, k2, l0, l1, l2, m0, m1, m2, f1, f2⟩ := h
  exact ⟨(hB.setCell (by simp) _).setCell (by simp; omega) _, by simpa using hz, by simp [go_sem, k1], by simp [go_sem, k2], by simp [go_sem, l0], by simp [go_sem, l1], by simp [go_sem, l2], by simp [go_sem, m0], by simp [go_sem, m1], by simp [go_sem, m2], fun o => by simp [go_sem, f1], fun o => by simp [go_sem, f2]⟩
theorem B3.puty {w W : World} {v1 v2 : Value} {lx ly hx hy : Int} (h : B3 w v1 v2 lx ly hx hy W) (a b : Int) : B3 w v1 v2 lx a hx b ((W.setCell ⟨w.heap.size + 1, 1, none⟩ (.int .i64 a)).setCell ⟨w.heap.size + 1 + 1, 1, none⟩ (.int .i64 b)) := by
  obtain ⟨hB, hz, k1, k2, l0, l1, l2, m0, m1, m2, f1, f2⟩ := h
  exact ⟨(hB.setCell (by simp) _).setCell (by simp; omega) _, by simpa using hz, by simp [go_sem, k1], by simp [go_sem, k2], by simp [go_sem, l0], by simp [go_sem, l1], by simp [go_sem, l2], by simp [go_sem, m0], by simp [go_sem, m1], by simp [go_sem, m2], fun o => by simp [go_sem, f1], fun o => by simp [go_sem, f2]⟩
/-- A call answers a box. -/
def BoxR (lx ly hx hy : Int) (b : Bool) (w : World) (e : Ending) (w' : World) : Prop := e = .returned (.tuple #[.agg #[.int .i64 lx, .int .i64 ly, .bool false], .agg #[.int .i64 hx, .int .i64 hy, .bool false], .bool b]) ∧ Below w.heap.size w w'

set_option maxHeartbeats 8000000 in
theorem box_some (v1 v2 : Value) (ps : List Pn) (w : World) (h1 : PtsAt w v1 ps) (hp : 0 < ps.length) (h2 : ∃ p n c, v2 = .slice p n c) (hl : ps.length ≤ 9223372036854775807) :
    Calls Try.prog 16 #[.agg #[v1, v2]] w (BoxR (lowX ps) (lowY ps) (highX ps) (highY ps) true w) := by
  obtain ⟨p2, n2, c2, rfl⟩ := h2
  rcases h1 with ⟨-, rfl⟩ | ⟨a, c1, rfl, hg, hlc, -, hcell⟩
  · simp at hp
  · have F := B3.first w (.slice (some a) ps.length c1) (.slice p2 n2 c2) 25 33
    have HC := Lib.hid (fun (W : World) (hb : Below w.heap.size w W) => PtsAt.cells_on hcell hg hb)
    have hle : ((ps.length : Int) == 0) = false := by rw [beq_eq_false_iff_ne]; omega
    obtain ⟨a1, a2, a3⟩ := hcell 0 hp
    rw [Nat.zero_mul, Addr.add_zero'] at a1 a2 a3
    have b1 := HC.out _ F.bel 0 hp
    rw [Nat.zero_mul, Addr.add_zero'] at b1
    obtain ⟨b1, b2, b3⟩ := b1
    generalize hp0 : ps[0]?.getD default = p0 at *
    obtain ⟨X0, Y0, on0⟩ := p0
    simp only at b1 b2 b3
    have HP0 := Lib.hid hp0
    clear a1 a2 a3 hcell hp0
    have F0 : B3 w (.slice (some a) ps.length c1) (.slice p2 n2 c2) X0 Y0 X0 Y0 (((((w.alloc (.cells #[.slice (some a) ps.length c1, .slice p2 n2 c2] 25)).alloc (.cells #[.int .i64 X0, .int .i64 Y0, .bool false] 33)).alloc (.cells #[.int .i64 X0, .int .i64 Y0, .bool false] 33))).alloc (.cells #[.int .i64 X0, .int .i64 Y0, .bool on0] 33)) :=
      B3.alloc ⟨(((Below.refl _ _).alloc (Nat.le_refl _) _).alloc (by simp) _).alloc (by simp; omega) _, by simp, by simp [go_sem], by simp [go_sem], by simp [go_sem], by simp [go_sem], by simp [go_sem], by simp [go_sem], by simp [go_sem], by simp [go_sem], fun o => by simp [go_sem], fun o => by simp [go_sem]⟩ _
    obtain ⟨hB, hz, k1, k2, l0, l1, l2, m0, m1, m2, f1, f2⟩ := id F
    clear F
    go_enter Try.func16, Try.ntmps16
    go_wp2_with fail
    go_loopw [27] (fun i wr => ∃ k : Nat, k ≤ ps.length ∧ i = .int .i64 k ∧ B3 w (.slice (some a) ps.length c1) (.slice p2 n2 c2) (lowI Pn.x X0 (ps.take k)) (lowI Pn.y Y0 (ps.take k)) (highI Pn.x X0 (ps.take k)) (highI Pn.y Y0 (ps.take k)) wr) (fun i _ => (ps.length - intOf i).toNat)
    case atStart => exact ⟨0, by omega, rfl, F0⟩
    case round =>
      clear F0 hB hz k1 k2 l0 l1 l2 m0 m1 m2 f1 f2 b1 b2 b3
      obtain ⟨k, hk, rfl, F⟩ := hrel
      obtain ⟨hB, hz, k1, k2, l0, l1, l2, m0, m1, m2, f1, f2⟩ := id F
      by_cases hlt : k < ps.length
      · obtain ⟨q1, q2, q3⟩ := HC.out wr hB k hlt
        have e1 : lowI Pn.x X0 (ps.take (k + 1)) = min (lowI Pn.x X0 (ps.take k)) (ps[k]?.getD default).x := foldl_take (fun m (p : Pn) => min m p.x) X0 ps k default hlt
        have e2 : lowI Pn.y Y0 (ps.take (k + 1)) = min (lowI Pn.y Y0 (ps.take k)) (ps[k]?.getD default).y := foldl_take (fun m (p : Pn) => min m p.y) Y0 ps k default hlt
        have e3 : highI Pn.x X0 (ps.take (k + 1)) = max (highI Pn.x X0 (ps.take k)) (ps[k]?.getD default).x := foldl_take (fun m (p : Pn) => max m p.x) X0 ps k default hlt
        have e4 : highI Pn.y Y0 (ps.take (k + 1)) = max (highI Pn.y Y0 (ps.take k)) (ps[k]?.getD default).y := foldl_take (fun m (p : Pn) => max m p.y) Y0 ps k default hlt
        generalize ps[k]?.getD default = p at *
        obtain ⟨x, y, on⟩ := p
        simp only at e1 e2 e3 e4 q1 q2 q3
        have E := Lib.hid (And.intro e1 (And.intro e2 (And.intro e3 e4)))
        clear e1 e2 e3 e4
        generalize lowI Pn.x X0 (ps.take k) = LX at *
        generalize lowI Pn.y Y0 (ps.take k) = LY at *
        generalize highI Pn.x X0 (ps.take k) = HX at *
        generalize highI Pn.y Y0 (ps.take k) = HY at *
        have z0 : w.heap.size < wr.heap.size := by omega
        have z1 : w.heap.size + 1 < wr.heap.size := by omega
        have z2 : w.heap.size + 1 + 1 < wr.heap.size := by omega
        have g1 : (if x < LX then x else LX) = lowI Pn.x X0 (ps.take (k + 1)) := by rw [E.out.1]; split <;> omega
        have g2 : (if y < LY then y else LY) = lowI Pn.y Y0 (ps.take (k + 1)) := by rw [E.out.2.1]; split <;> omega
        have g3 : (if HX < x then x else HX) = highI Pn.x X0 (ps.take (k + 1)) := by rw [E.out.2.2.1]; split <;> omega
        have g4 : (if HY < y then y else HY) = highI Pn.y Y0 (ps.take (k + 1)) := by rw [E.out.2.2.2]; split <;> omega
        clear E
        generalize hr1 : lowI Pn.x X0 (ps.take (k + 1)) = LX' at *
        generalize hr2 : lowI Pn.y Y0 (ps.take (k + 1)) = LY' at *
        generalize hr3 : highI Pn.x X0 (ps.take (k + 1)) = HX' at *
        generalize hr4 : highI Pn.y Y0 (ps.take (k + 1)) = HY' at *
        have R := Lib.hid (And.intro hr1 (And.intro hr2 (And.intro hr3 hr4)))
        clear hr1 hr2 hr3 hr4
        have B1 : B3 w (.slice (some a) ps.length c1) (.slice p2 n2 c2) LX' LY HX' HY ((wr.setCell ⟨w.heap.size + 1, 0, none⟩ (.int .i64 LX')).setCell ⟨w.heap.size + 1 + 1, 0, none⟩ (.int .i64 HX')) := B3.putx F LX' HX'
        have hsz : ((wr.setCell ⟨w.heap.size + 1, 0, none⟩ (.int .i64 LX')).setCell ⟨w.heap.size + 1 + 1, 0, none⟩ (.int .i64 HX')).heap.size = wr.heap.size := by simp
        go_wp2_with fail
        go_region
        clear F hB hz k1 k2 l0 l1 l2 m0 m1 m2 f1 f2 q1 q2 q3 g1 g3 z0 z1 z2
        generalize ((wr.setCell ⟨w.heap.size + 1, 0, none⟩ (.int .i64 LX')).setCell ⟨w.heap.size + 1 + 1, 0, none⟩ (.int .i64 HX')) = W1 at *
        generalize wr.heap.size = P at *
        subst hsz
        obtain ⟨hB, hz, k1, k2, l0, l1, l2, m0, m1, m2, f1, f2⟩ := id B1
        have z0 : w.heap.size < W1.heap.size := by omega
        have z1 : w.heap.size + 1 < W1.heap.size := by omega
        have z2 : w.heap.size + 1 + 1 < W1.heap.size := by omega
        go_wp2_with fail
        go_region
        go_wp2_with fail
        go_roundw
        case rel =>
          refine ⟨k + 1, by omega, by go_num, ?_⟩
          rw [R.out.1, R.out.2.1, R.out.2.2.1, R.out.2.2.2]
          exact (((B3.puty B1 LY' HY').alloc _).drew).drew
        case measure => simp [intOf]; omega
      · obtain rfl : k = ps.length := by omega
        rw [List.take_length] at F l0 l1 m0 m1
        go_wp2_with fail
        go_region
        go_wp2_with fail
        refine bodyPost_ret (v := .tuple #[.agg #[.int .i64 (lowI Pn.x X0 ps), .int .i64 (lowI Pn.y Y0 ps), .bool false], .agg #[.int .i64 (highI Pn.x X0 ps), .int .i64 (highI Pn.y Y0 ps), .bool false], .bool true]) (by simp [results, Try.results16, go_sem, l0, l1, l2, m0, m1, m2]) rfl ⟨?_, ?_⟩
        · unfold lowX lowY highX highY
          rw [HP0.out]
        · exact ((((((hB.setCell (p := ⟨w.heap.size + 1, 0, none⟩) (by simp) _).setCell (p := ⟨w.heap.size + 1, 1, none⟩) (by simp) _).setCell (p := ⟨w.heap.size + 1, 2, none⟩) (by simp) _).setCell (p := ⟨w.heap.size + 1 + 1, 0, none⟩) (by simp; omega) _).setCell (p := ⟨w.heap.size + 1 + 1, 1, none⟩) (by simp; omega) _).setCell (p := ⟨w.heap.size + 1 + 1, 2, none⟩) (by simp; omega) _).drew
end Go.Proofs.Ytenmgbcbnofcmaa
