/- The contract of Moved. -/
import Derived.Test.YtenmgbcbnofcmaaOutCopy
namespace Go.Proofs.Ytenmgbcbnofcmaa
open Go.RowKit

/-- A point moved. -/
def mvP (x y : Int) (p : Pn) : Pn := ⟨wrap64 (p.x + x), wrap64 (p.y + y), p.on⟩
def movedO (x y : Int) (ps : List Pn) : List Pn := ps.map (mvP x y)
/-- The first k points moved. -/
def mvK (x y : Int) (ps : List Pn) (k : Nat) : List Pn := (ps.take k).map (mvP x y) ++ ps.drop k
theorem mvK_len (x y : Int) (ps : List Pn) (k : Nat) : (mvK x y ps k).length = ps.length := by
  unfold mvK
  rw [List.length_append, List.length_map, List.length_take, List.length_drop]
  omega
theorem mvK_zero (x y : Int) (ps : List Pn) : mvK x y ps 0 = ps := by simp [mvK]
theorem mvK_last (x y : Int) (ps : List Pn) : mvK x y ps ps.length = movedO x y ps := by simp [mvK, movedO]
theorem mvK_get (x y : Int) (ps : List Pn) (k : Nat) (h : k < ps.length) : (mvK x y ps k)[k]?.getD default = ps[k]?.getD default := by
  unfold mvK
  rw [List.getElem?_append_right (by rw [List.length_map, List.length_take]; omega), List.length_map, List.length_take, Nat.min_eq_left (by omega), Nat.sub_self, List.getElem?_drop, Nat.add_zero]
theorem mvK_next (x y : Int) (ps : List Pn) (k : Nat) (h : k < ps.length) : mvK x y ps (k + 1) = (mvK x y ps k).set k (mvP x y (ps[k]?.getD default)) := by
  unfold mvK
  rw [List.set_append_right _ _ (by rw [List.length_map, List.length_take]; omega), List.length_map, List.length_take, Nat.min_eq_left (by omega), Nat.sub_self, drop_cons default h, List.set_cons_zero, List.take_add_one, List.map_append, List.append_assoc, List.getElem?_eq_getElem h]
  rfl
theorem encs_set2 (ps : List Pn) (i : Nat) (X Y : Int) (h : i < ps.length) : encs (ps.set i ⟨X, Y, (ps[i]?.getD default).on⟩) = ((encs ps).set (i * 3) (.int .i64 X)).set (i * 3 + 1) (.int .i64 Y) := by
  induction ps generalizing i with
  | nil => simp at h
  | cons q ps ih =>
    cases i with
    | zero => simp [encs]
    | succ i =>
      have := ih i (by simpa using h)
      rw [show (i + 1) * 3 = i * 3 + 3 by omega]
      simpa [encs] using this

/-- What is known of a world within Moved, behind the copy. -/
structure MV (w : World) (v1 v2 : Value) (G : Nat) (x1 x2 : Value) (W : World) : Prop where
  o : O2 w v1 v2 W
  g0 : W.cell? ⟨G, 0, none⟩ = some x1
  g1 : W.cell? ⟨G, 1, none⟩ = some x2
  gl : w.heap.size + 1 + 1 ≤ G
  gs : G < W.heap.size
theorem MV.set {w W : World} {v1 v2 x1 x2 : Value} {G : Nat} (h : MV w v1 v2 G x1 x2 W) (p : Addr) (hp : w.heap.size + 1 + 1 ≤ p.block) (hn : p.block ≠ G) (u : Value) : MV w v1 v2 G x1 x2 (W.setCell p u) :=
  ⟨h.o.set p hp u, by rw [World.cell?_setCell_far _ _ _ _ hn]; exact h.g0, by rw [World.cell?_setCell_far _ _ _ _ hn]; exact h.g1, h.gl, by simpa using h.gs⟩

set_option maxHeartbeats 4000000 in
theorem moved_any (v1 v2 : Value) (ps : List Pn) (es : List Int) (x y : Int) (w : World) (h1 : PtsAt w v1 ps) (h2 : EndsAt w v2 es) (hl1 : ps.length ≤ 100000) (hl2 : es.length ≤ 100000) :
    Calls Try.prog 24 #[.agg #[v1, v2], .int .i64 x, .int .i64 y] w (OutR (movedO x y ps) es w) := by
  have F := O2.first w v1 v2 25
  have HCp := Lib.hid (copied_any v1 v2 ps es _ (h1.on F.bel) (h2.on F.bel) hl1 hl2)
  obtain ⟨pv1, cv1, rfl⟩ := h1.len
  obtain ⟨pv2, cv2, rfl⟩ := h2.len
  clear h1 h2
  go_enter Try.func24, Try.ntmps24
  go_wp2_with fail
  generalize ((w.alloc (.cells #[.slice pv1 ps.length cv1, .slice pv2 es.length cv2] 25)).alloc (.cells #[.slice none 0 0, .slice none 0 0] 25)) = wc at *
  refine (HCp.out).mono ?_
  rintro e w1 ⟨z, rfl, ⟨m, p1, c1, p2, c2, rfl, hr1, hr2, hm, hpm⟩, hb1⟩
  have F1 := F.next hb1
  have sc := F.size
  have sz := hb1.size
  have bel1 : Below w1.heap.size w1 (w1.alloc (.cells #[.slice p1 ps.length c1, .slice p2 es.length c2] 25)) := (Below.refl _ _).alloc (Nat.le_refl _) _
  have M : MV w (.slice pv1 ps.length cv1) (.slice pv2 es.length cv2) w1.heap.size (.slice p1 ps.length c1) (.slice p2 es.length c2) (w1.alloc (.cells #[.slice p1 ps.length c1, .slice p2 es.length c2] 25)) :=
    ⟨F1.next bel1, by simp [go_sem], by simp [go_sem], by omega, by simp⟩
  have hr1' : PRow (w1.alloc (.cells #[.slice p1 ps.length c1, .slice p2 es.length c2] 25)) (w.heap.size + 1 + 1) (.slice p1 ps.length c1) ps := own_mono (hr1.on bel1 (Nat.le_refl _)) sc
  have hr2' : ERow (w1.alloc (.cells #[.slice p1 ps.length c1, .slice p2 es.length c2] 25)) m (.slice p2 es.length c2) es := hr2.on bel1 (Nat.le_refl _)
  have hbl := PRow.below hr1
  have hgG : ∀ a, p1 = some a → a.block ≠ w1.heap.size := fun a ha => by have := (hbl a ha).1; omega
  clear hr1 hr2 hb1 F F1 hbl bel1
  have hms : w.heap.size + 1 + 1 ≤ m := by omega
  clear hm sc sz
  go_wp2_with fail
  generalize w1.heap.size = G at *
  go_loopw [14] (fun i wr => ∃ k : Nat, k ≤ ps.length ∧ i = .int .i64 k ∧ MV w (.slice pv1 ps.length cv1) (.slice pv2 es.length cv2) G (.slice p1 ps.length c1) (.slice p2 es.length c2) wr ∧ PRow wr (w.heap.size + 1 + 1) (.slice p1 ps.length c1) (mvK x y ps k) ∧ ERow wr m (.slice p2 es.length c2) es) (fun i _ => (ps.length - intOf i).toNat)
  case atStart => exact ⟨0, by omega, rfl, M, by rw [mvK_zero]; exact hr1', hr2'⟩
  case round =>
    clear M hr1' hr2'
    obtain ⟨k, hk, rfl, M, hr1, hr2⟩ := hrel
    obtain ⟨⟨hB, hz, k1, k2, ⟨y0, e0⟩, ⟨y1, e1⟩, fz⟩, g0, g1, gl, gs⟩ := id M
    by_cases hlt : k < ps.length
    · have hlen := mvK_len x y ps k
      rcases own_form hr1 with ⟨-, hh⟩ | ⟨g, c, hv, hgl, hgs, -, -⟩
      · rw [hlen] at hh; omega
      · simp only [Value.slice.injEq] at hv
        obtain ⟨rfl, -, rfl⟩ := hv
        have hgG' : g ≠ G := hgG _ rfl
        have hgm : g < m := hpm _ rfl
        obtain ⟨q1, q2, -⟩ := encs_get (mvK x y ps k) k (by omega)
        have qx := World.ownsRow.cells hr1 (g := g) rfl _ _ q1
        have qy := World.ownsRow.cells hr1 (g := g) rfl _ _ q2
        rw [mvK_get x y ps k hlt] at qx qy
        simp only [Addr.add_lit, Nat.zero_add] at qx qy
        have hfr : ∀ o, wr.frozen? ⟨g, o, none⟩ = false := fun o => by
          have h := hr1
          unfold PRow at h
          rw [hlen] at h
          exact World.ownsRow.frozenAt h o
        have hstep := Lib.hid (mvK_next x y ps k hlt)
        have hset := Lib.hid (encs_set2 (mvK x y ps k) k (wrap64 ((ps[k]?.getD default).x + x)) (wrap64 ((ps[k]?.getD default).y + y)) (by omega))
        rw [mvK_get x y ps k hlt] at hset
        have M2 := (M.set ⟨g, k * 3, none⟩ (by simpa using hgl) (by simpa using hgG') (.int .i64 (wrap64 ((ps[k]?.getD default).x + x)))).set ⟨g, k * 3 + 1, none⟩ (by simpa using hgl) (by simpa using hgG') (.int .i64 (wrap64 ((ps[k]?.getD default).y + y)))
        have R2 : PRow ((wr.setCell ⟨g, k * 3, none⟩ (.int .i64 (wrap64 ((ps[k]?.getD default).x + x)))).setCell ⟨g, k * 3 + 1, none⟩ (.int .i64 (wrap64 ((ps[k]?.getD default).y + y)))) (w.heap.size + 1 + 1) (.slice (some ⟨g, 0, none⟩) ps.length c1) (mvK x y ps (k + 1)) := by
          have h := hr1
          unfold PRow at h ⊢
          rw [hlen] at h
          rw [mvK_len, hstep.out]
          show World.ownsRow _ _ _ _ _ _ (encs ((mvK x y ps k).set k ⟨_, _, _⟩))
          rw [hset.out]
          exact (World.ownsRow.stored (World.ownsRow.stored h (k * 3) _).1 (k * 3 + 1) _).1
        have E2 : ERow ((wr.setCell ⟨g, k * 3, none⟩ (.int .i64 (wrap64 ((ps[k]?.getD default).x + x)))).setCell ⟨g, k * 3 + 1, none⟩ (.int .i64 (wrap64 ((ps[k]?.getD default).y + y)))) m (.slice p2 es.length c2) es :=
          ownsRow_setCell_below (ownsRow_setCell_below hr2 (a := ⟨g, k * 3, none⟩) (by simpa using hgm) _) (a := ⟨g, k * 3 + 1, none⟩) (by simpa using hgm) _
        clear hr1 hr2 M hset hstep q1 q2
        generalize ps[k]?.getD default = p at *
        obtain ⟨X, Y, on⟩ := p
        simp only at qx qy M2 R2 E2
        go_wp2_with fail
        go_roundw
        case rel => exact ⟨k + 1, by omega, by go_num, M2, R2, E2⟩
        case measure => simp [intOf]; omega
    · obtain rfl : k = ps.length := by omega
      rw [mvK_last] at hr1
      have Q : OutR (movedO x y ps) es w (.returned (.agg #[.slice p1 ps.length c1, .slice p2 es.length c2])) ((wr.setCell ⟨w.heap.size + 1, 0, none⟩ (.slice p1 ps.length c1)).setCell ⟨w.heap.size + 1, 1, none⟩ (.slice p2 es.length c2)) := by
        have hlen : (movedO x y ps).length = ps.length := by simp [movedO]
        refine ⟨_, rfl, ⟨m, p1, c1, p2, c2, by rw [hlen], ?_, ?_, by omega, fun a ha => by have := hpm a ha; omega⟩, (M.o.put _ _).bel⟩
        · rw [hlen]
          exact own_mono (ownsRow_setCell_below (ownsRow_setCell_below hr1 (a := ⟨w.heap.size + 1, 0, none⟩) (by simp) _) (a := ⟨w.heap.size + 1, 1, none⟩) (by simp) _) (by omega)
        · exact ownsRow_setCell_below (ownsRow_setCell_below hr2 (a := ⟨w.heap.size + 1, 0, none⟩) (by simp; omega) _) (a := ⟨w.heap.size + 1, 1, none⟩) (by simp; omega) _
      have Q := Lib.hid Q
      clear hr1 hr2 M
      go_wp2_with fail
      refine bodyPost_ret (v := .agg #[.slice p1 ps.length c1, .slice p2 es.length c2]) (by simp [results, Try.results24, go_sem, e0, e1]) rfl Q.out
end Go.Proofs.Ytenmgbcbnofcmaa
