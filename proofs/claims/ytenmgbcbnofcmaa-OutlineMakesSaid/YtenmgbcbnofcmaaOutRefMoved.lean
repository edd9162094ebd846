/- The reference's Moved. -/
import Derived.Test.YtenmgbcbnofcmaaOutRefCopy
import Derived.Test.YtenmgbcbnofcmaaOutMoved
namespace Go.Proofs.Ytenmgbcbnofcmaa
open Go.RowKit

/-- What is known of a world within the reference's Moved. -/
structure RM (w : World) (G g : Nat) (p1 p2 : Value) (ps : List Pn) (es : List Int) (W : World) : Prop where
  bel : Below w.heap.size w W
  g0 : W.cell? ⟨G, 0, none⟩ = some p1
  g1 : W.cell? ⟨G, 1, none⟩ = some p2
  r0 : ∃ u, W.cell? ⟨w.heap.size + 1, 0, none⟩ = some u
  r1 : ∃ u, W.cell? ⟨w.heap.size + 1, 1, none⟩ = some u
  rf : ∀ o, W.frozen? ⟨w.heap.size + 1, o, none⟩ = false
  row : PRow W (w.heap.size + 1 + 1) p1 ps
  ends : ERow W (w.heap.size + 1 + 1) p2 es
  gG : g ≠ G
  gr : w.heap.size + 1 + 1 ≤ G
  gs : G < W.heap.size
theorem RM.set {w W : World} {G g n c : Nat} {p2 : Value} {ps qs : List Pn} {es : List Int} (h : RM w G g (.slice (some ⟨g, 0, none⟩) n c) p2 ps es W) (o : Nat) (u : Value) (hr : PRow (W.setCell ⟨g, o, none⟩ u) (w.heap.size + 1 + 1) (.slice (some ⟨g, 0, none⟩) n c) qs) : RM w G g (.slice (some ⟨g, 0, none⟩) n c) p2 qs es (W.setCell ⟨g, o, none⟩ u) := by
  have hg := h.row
  have hlt := World.ownsRow.lt hg g rfl
  have hn : p2.ownBlock ≠ some g := own_type hg h.ends (by decide) g rfl
  have e : w.heap.size + 1 ≠ g := by omega
  obtain ⟨u0, r0⟩ := h.r0
  obtain ⟨u1, r1⟩ := h.r1
  exact ⟨h.bel.setCell (by simp; omega) u, (World.cell?_setCell_far _ _ _ _ h.gG).trans h.g0, (World.cell?_setCell_far _ _ _ _ h.gG).trans h.g1, ⟨u0, (World.cell?_setCell_far _ _ _ _ e.symm).trans r0⟩, ⟨u1, (World.cell?_setCell_far _ _ _ _ e.symm).trans r1⟩, fun o => (World.frozen?_setCell _ _ _ _).trans (h.rf o), hr, ownsRow_setCell_other h.ends (by simpa using hn) u, h.gG, h.gr, by simpa using h.gs⟩
theorem RM.drew {w W : World} {G g : Nat} {p1 p2 : Value} {ps : List Pn} {es : List Int} (h : RM w G g p1 p2 ps es W) : RM w G g p1 p2 ps es W.drew := by
  have hb : Below W.heap.size W W.drew := (Below.refl _ _).drew
  exact ⟨h.bel.drew, h.g0, h.g1, h.r0, h.r1, h.rf, h.row.on hb (Nat.le_refl _), h.ends.on hb (Nat.le_refl _), h.gG, h.gr, h.gs⟩
theorem encs_setx (ps : List Pn) (i : Nat) (X : Int) (h : i < ps.length) : encs (ps.set i ⟨X, (ps[i]?.getD default).y, (ps[i]?.getD default).on⟩) = (encs ps).set (i * 3) (.int .i64 X) := by
  induction ps generalizing i with
  | nil => simp at h
  | cons q ps ih =>
    cases i with
    | zero => simp [encs]
    | succ i =>
      have := ih i (by simpa using h)
      rw [show (i + 1) * 3 = i * 3 + 3 by omega]
      simpa [encs] using this
theorem encs_sety (ps : List Pn) (i : Nat) (Y : Int) (h : i < ps.length) : encs (ps.set i ⟨(ps[i]?.getD default).x, Y, (ps[i]?.getD default).on⟩) = (encs ps).set (i * 3 + 1) (.int .i64 Y) := by
  induction ps generalizing i with
  | nil => simp at h
  | cons q ps ih =>
    cases i with
    | zero => simp [encs]
    | succ i =>
      have := ih i (by simpa using h)
      rw [show (i + 1) * 3 = i * 3 + 3 by omega]
      simpa [encs] using this
set_option maxHeartbeats 2000000 in
theorem refmoved_any (v1 v2 : Value) (ps : List Pn) (es : List Int) (x y : Int) (w : World) (h1 : PtsAt w v1 ps) (h2 : EndsAt w v2 es) (hl1 : ps.length ≤ 100000) (hl2 : es.length ≤ 100000) :
    Calls Try.prog 25 #[.agg #[v1, v2], .int .i64 x, .int .i64 y] w fun e w' => ∃ z, e = .returned z ∧ OAt w' z (movedO x y ps) es ∧ Below w.heap.size w w' := by
  have hC := Lib.hid (refcopied_any v1 v2 ps es ((w.alloc (.cells #[v1, v2] 25)).alloc (.cells #[.slice none 0 0, .slice none 0 0] 25)) (h1.on (balloc2 _ _ _)) (h2.on (balloc2 _ _ _)) hl1 hl2)
  have C0 := (Cs.nil w).box2 v1 v2 25 |>.box2 (.slice none 0 0) (.slice none 0 0) 25
  clear h1 h2
  go_enter Try.func25, Try.ntmps25
  go_wp2_with fail
  refine hC.out.mono ?_
  rintro e w1 ⟨z, rfl, ⟨u1, u2, rfl, hp, he⟩, hb1⟩
  have hb1 : Below (w.heap.size + 1 + 1) _ w1 := below_at hb1 (by simp) |> fun h => by simpa using h
  have hp : PRow w1 (w.heap.size + 1 + 1) u1 ps := by simpa using hp
  have he : ERow w1 (w.heap.size + 1 + 1) u2 es := by simpa using he
  have hB1 : Below w.heap.size w w1 := (balloc2 w _ _).trans (hb1.mono (by omega))
  have hz1 := hb1.size
  simp only [World.size_alloc] at hz1
  have C1 := C0.next (below_at hb1 (by simp))
  obtain ⟨p1, c1, rfl⟩ := hp.slice
  obtain ⟨p2, c2, rfl⟩ := he.slice
  have q0 : w1.cell? ⟨w.heap.size + 1, 0, none⟩ = some (.slice none 0 0) := by simpa using C1.get 0 rfl
  have q1 : w1.cell? ⟨w.heap.size + 1, 1, none⟩ = some (.slice none 0 0) := by simpa using C1.get 1 rfl
  have qf : ∀ o, w1.frozen? ⟨w.heap.size + 1, o, none⟩ = false := fun o => (hb1.frozen (by simp)).trans (by simp [go_sem])
  have n1 := cell_lt q0
  simp only at n1
  clear C0 C1 hC hb1
  by_cases h0 : ps.length = 0
  · obtain rfl : ps = [] := List.length_eq_zero_iff.1 h0
    have W1p : PRow (w1.alloc (.cells #[.slice p1 0 c1, .slice p2 es.length c2] 25)) (w.heap.size + 1 + 1) (.slice p1 0 c1) [] := World.ownsRow.alloc hp _
    have W1e : ERow (w1.alloc (.cells #[.slice p1 0 c1, .slice p2 es.length c2] 25)) (w.heap.size + 1 + 1) (.slice p2 es.length c2) es := World.ownsRow.alloc he _
    have m0 : (w1.alloc (.cells #[.slice p1 0 c1, .slice p2 es.length c2] 25)).cell? ⟨w.heap.size + 1, 0, none⟩ = some (.slice none 0 0) := by rw [World.cell?_alloc_past _ _ _ n1]; exact q0
    have m1 : (w1.alloc (.cells #[.slice p1 0 c1, .slice p2 es.length c2] 25)).cell? ⟨w.heap.size + 1, 1, none⟩ = some (.slice none 0 0) := by rw [World.cell?_alloc_past _ _ _ n1]; exact q1
    have mf : ∀ o, (w1.alloc (.cells #[.slice p1 0 c1, .slice p2 es.length c2] 25)).frozen? ⟨w.heap.size + 1, o, none⟩ = false := fun o => by rw [World.frozen?_alloc_past _ _ _ n1]; exact qf o
    go_wp2_with fail
    go_loopw [8] (fun i wr => i = .int .i64 0 ∧ Below w.heap.size w wr ∧ (∃ u, wr.cell? ⟨w.heap.size + 1, 0, none⟩ = some u) ∧ (∃ u, wr.cell? ⟨w.heap.size + 1, 1, none⟩ = some u) ∧ (∀ o, wr.frozen? ⟨w.heap.size + 1, o, none⟩ = false) ∧ PRow wr (w.heap.size + 1 + 1) (.slice p1 0 c1) [] ∧ ERow wr (w.heap.size + 1 + 1) (.slice p2 es.length c2) es ∧ wr.cell? ⟨w1.heap.size, 0, none⟩ = some (.slice p1 0 c1) ∧ wr.cell? ⟨w1.heap.size, 1, none⟩ = some (.slice p2 es.length c2)) (fun _ _ => 0)
    case atStart => exact ⟨rfl, hB1.alloc hB1.size _, ⟨_, m0⟩, ⟨_, m1⟩, mf, W1p, W1e, by simp [go_sem], by simp [go_sem]⟩
    case round =>
      clear W1p W1e m0 m1 mf hp he q0 q1 qf
      obtain ⟨rfl, hB, ⟨v0, r0⟩, ⟨v1', r1⟩, rf, hrow, hends, g0, g1⟩ := hrel
      have Q : OAt ((wr.setCell ⟨w.heap.size + 1, 0, none⟩ (.slice p1 0 c1)).setCell ⟨w.heap.size + 1, 1, none⟩ (.slice p2 es.length c2)) (.agg #[.slice p1 0 c1, .slice p2 es.length c2]) (movedO x y []) es :=
        ⟨_, _, rfl, PRow.at (ownsRow_setCell_below (ownsRow_setCell_below hrow (by simp) _) (by simp) _), ERow.at (ownsRow_setCell_below (ownsRow_setCell_below hends (by simp) _) (by simp) _)⟩
      have Qb : Below w.heap.size w ((wr.setCell ⟨w.heap.size + 1, 0, none⟩ (.slice p1 0 c1)).setCell ⟨w.heap.size + 1, 1, none⟩ (.slice p2 es.length c2)) := (hB.setCell (by simp) _).setCell (by simp) _
      have Q := Lib.hid (And.intro Q Qb)
      have f0 := rf 0
      have f1 := rf 1
      clear hrow hends Qb
      go_wp2_with fail
      refine bodyPost_ret (v := .agg #[.slice p1 0 c1, .slice p2 es.length c2]) (by simp [results, Try.results25, go_sem, r0, r1]) rfl ⟨_, rfl, Q.out.1, Q.out.2⟩
  · rcases own_form hp with ⟨-, hh⟩ | ⟨g, c, hv, hg1, hg2, hg3, -⟩
    · exact absurd hh h0
    · simp only [Value.slice.injEq] at hv
      obtain ⟨rfl, -, rfl⟩ := hv
      have R0 : RM w w1.heap.size g (.slice (some ⟨g, 0, none⟩) ps.length c1) (.slice p2 es.length c2) ps es (w1.alloc (.cells #[.slice (some ⟨g, 0, none⟩) ps.length c1, .slice p2 es.length c2] 25)) :=
        ⟨hB1.alloc hB1.size _, by simp [go_sem], by simp [go_sem], ⟨_, by rw [World.cell?_alloc_past _ _ _ (by omega)]; exact q0⟩, ⟨_, by rw [World.cell?_alloc_past _ _ _ (by omega)]; exact q1⟩, fun o => by rw [World.frozen?_alloc_past _ _ _ (by omega)]; exact qf o, World.ownsRow.alloc hp _, World.ownsRow.alloc he _, by omega, by omega, by simp⟩
      go_wp2_with fail
      go_loopw [8] (fun i wr => ∃ k : Nat, k ≤ ps.length ∧ i = .int .i64 k ∧ RM w w1.heap.size g (.slice (some ⟨g, 0, none⟩) ps.length c1) (.slice p2 es.length c2) (mvK x y ps k) es wr) (fun i _ => (ps.length - intOf i).toNat)
      case atStart => exact ⟨0, by omega, rfl, by rw [mvK_zero]; exact R0⟩
      case round =>
        clear R0 hp he q0 q1 qf
        obtain ⟨k, hk, rfl, F⟩ := hrel
        obtain ⟨hB, g0, g1, ⟨v0, r0⟩, ⟨v1', r1⟩, rf, hrow, hends, gG, gr, gs⟩ := id F
        by_cases hlt : k < ps.length
        · have hlen := mvK_len x y ps k
          obtain ⟨e1, e2, -⟩ := encs_get (mvK x y ps k) k (by omega)
          have qx := World.ownsRow.cells hrow (g := g) rfl _ _ e1
          have qy := World.ownsRow.cells hrow (g := g) rfl _ _ e2
          rw [mvK_get x y ps k hlt] at qx qy
          simp only [Addr.add_lit, Nat.zero_add] at qx qy
          have hfr : ∀ o, wr.frozen? ⟨g, o, none⟩ = false := fun o => by
            have h := hrow
            unfold PRow at h
            rw [hlen] at h
            exact World.ownsRow.frozenAt h o
          have f0 := hfr (k * 3)
          have f1 := hfr (k * 3 + 1)
          have hstep := mvK_next x y ps k hlt
          have hmk := mvK_get x y ps k hlt
          obtain ⟨p, hp⟩ : ∃ p, ps[k]?.getD default = p := ⟨_, rfl⟩
          rw [hp] at qx qy hstep hmk
          clear hp
          generalize mvK x y ps k = ms at *
          obtain ⟨X, Y, on⟩ := p
          simp only at qx qy
          have hms : ms.length = ps.length := hlen
          have hs1 := encs_setx ms k (wrap64 (X + x)) (by omega)
          rw [hmk] at hs1
          have R1 : PRow (wr.setCell ⟨g, k * 3, none⟩ (.int .i64 (wrap64 (X + x)))) (w.heap.size + 1 + 1) (.slice (some ⟨g, 0, none⟩) ps.length c1) (ms.set k ⟨wrap64 (X + x), Y, on⟩) := by
            have h := hrow
            unfold PRow at h ⊢
            rw [List.length_set, hms]
            rw [hms] at h
            rw [hs1]
            exact (World.ownsRow.stored h (k * 3) _).1
          have F1 := (F.set (k * 3) (.int .i64 (wrap64 (X + x))) R1).drew
          have hst := Lib.hid hstep
          clear hstep hmk hs1 R1
          go_wp2_with fail
          go_region
          obtain ⟨wa, hwa⟩ : ∃ wa, (wr.setCell ⟨g, k * 3, none⟩ (.int .i64 (wrap64 (X + x)))).drew = wa := ⟨_, rfl⟩
          rw [hwa] at F1 ⊢
          clear F hB g0 g1 r0 r1 rf hrow hends gs qx qy hfr f0 f1 hwa
          obtain ⟨hB, g0, g1, ⟨v0', r0⟩, ⟨v1'', r1⟩, rf, hrow, hends, -, -, gs⟩ := id F1
          have hget : (ms.set k ⟨wrap64 (X + x), Y, on⟩)[k]?.getD default = ⟨wrap64 (X + x), Y, on⟩ := by rw [List.getElem?_set_self (by omega)]; rfl
          have hl1 : (ms.set k ⟨wrap64 (X + x), Y, on⟩).length = ps.length := by rw [List.length_set]; exact hms
          obtain ⟨-, e2, -⟩ := encs_get (ms.set k ⟨wrap64 (X + x), Y, on⟩) k (by omega)
          have qy := World.ownsRow.cells hrow (g := g) rfl _ _ e2
          rw [hget] at qy
          simp only [Addr.add_lit, Nat.zero_add] at qy
          have hfr : ∀ o, wa.frozen? ⟨g, o, none⟩ = false := fun o => by
            have h := hrow
            unfold PRow at h
            rw [hl1] at h
            exact World.ownsRow.frozenAt h o
          have f1 := hfr (k * 3 + 1)
          have hs2 := encs_sety (ms.set k ⟨wrap64 (X + x), Y, on⟩) k (wrap64 (Y + y)) (by omega)
          rw [hget, List.set_set] at hs2
          have R2 : PRow (wa.setCell ⟨g, k * 3 + 1, none⟩ (.int .i64 (wrap64 (Y + y)))) (w.heap.size + 1 + 1) (.slice (some ⟨g, 0, none⟩) ps.length c1) (ms.set k ⟨wrap64 (X + x), wrap64 (Y + y), on⟩) := by
            have h := hrow
            unfold PRow at h ⊢
            rw [List.length_set, hms]
            rw [hl1] at h
            rw [hs2]
            exact (World.ownsRow.stored h (k * 3 + 1) _).1
          have F2 := (F1.set (k * 3 + 1) (.int .i64 (wrap64 (Y + y))) R2).drew
          clear F1 hs2 R2 e2 hget hfr
          go_wp2_with fail
          go_region
          go_wp2_with fail
          go_roundw
          case rel => exact ⟨k + 1, by omega, by go_num, by rw [hst.out]; exact F2⟩
          case measure => simp [intOf]; omega
        · obtain rfl : k = ps.length := by omega
          rw [mvK_last] at hrow
          have hml : (movedO x y ps).length = ps.length := by simp [movedO]
          have n2 := World.ownsRow.lt hrow g rfl
          have Q : OAt ((wr.setCell ⟨w.heap.size + 1, 0, none⟩ (.slice (some ⟨g, 0, none⟩) ps.length c1)).setCell ⟨w.heap.size + 1, 1, none⟩ (.slice p2 es.length c2)) (.agg #[.slice (some ⟨g, 0, none⟩) ps.length c1, .slice p2 es.length c2]) (movedO x y ps) es :=
            ⟨_, _, rfl, PRow.at (ownsRow_setCell_below (ownsRow_setCell_below hrow (by simp) _) (by simp) _), ERow.at (ownsRow_setCell_below (ownsRow_setCell_below hends (by simp) _) (by simp) _)⟩
          have Qb : Below w.heap.size w ((wr.setCell ⟨w.heap.size + 1, 0, none⟩ (.slice (some ⟨g, 0, none⟩) ps.length c1)).setCell ⟨w.heap.size + 1, 1, none⟩ (.slice p2 es.length c2)) := (hB.setCell (by simp) _).setCell (by simp) _
          have Q := Lib.hid (And.intro Q Qb)
          have f0 := rf 0
          have f1 := rf 1
          clear hrow hends Qb F
          go_wp2_with fail
          refine bodyPost_ret (v := .agg #[.slice (some ⟨g, 0, none⟩) ps.length c1, .slice p2 es.length c2]) (by simp [results, Try.results25, go_sem, r0, r1]) rfl ⟨_, rfl, Q.out.1, Q.out.2⟩
end Go.Proofs.Ytenmgbcbnofcmaa
