/- The contract of copied. -/
import Derived.Test.YtenmgbcbnofcmaaOutRow
import Derived.Deep.RegionHeld3
import Derived.Deep.DeepCutAuto
import Derived.RegionTactic
namespace Go.Proofs.Ytenmgbcbnofcmaa
open Go.RowKit

/-- What is known of a world within a call of one outline that answers two cells: where it lies, and the result. -/
structure O2 (w : World) (v1 v2 : Value) (W : World) : Prop where
  bel : Below w.heap.size w W
  size : w.heap.size + 1 + 1 ≤ W.heap.size
  c1 : W.cell? ⟨w.heap.size, 0, none⟩ = some v1
  c2 : W.cell? ⟨w.heap.size, 1, none⟩ = some v2
  e0 : ∃ u, W.cell? ⟨w.heap.size + 1, 0, none⟩ = some u
  e1 : ∃ u, W.cell? ⟨w.heap.size + 1, 1, none⟩ = some u
  fz : ∀ o, W.frozen? ⟨w.heap.size + 1, o, none⟩ = false
theorem O2.first (w : World) (v1 v2 : Value) (T : TypeId) : O2 w v1 v2 ((w.alloc (.cells #[v1, v2] T)).alloc (.cells #[.slice none 0 0, .slice none 0 0] T)) :=
  ⟨((Below.refl _ _).alloc (Nat.le_refl _) _).alloc (by simp) _, by simp, by simp [go_sem], by simp [go_sem], ⟨_, by simp [go_sem]; rfl⟩, ⟨_, by simp [go_sem]; rfl⟩, fun o => by simp [go_sem]⟩
theorem O2.next {w W W' : World} {v1 v2 : Value} (h : O2 w v1 v2 W) (hb : Below W.heap.size W W') : O2 w v1 v2 W' where
  bel := h.bel.trans (hb.mono h.bel.size)
  size := Nat.le_trans h.size hb.size
  c1 := by rw [hb.cell (by have := h.size; simp; omega)]; exact h.c1
  c2 := by rw [hb.cell (by have := h.size; simp; omega)]; exact h.c2
  e0 := by rw [hb.cell (by have := h.size; simp; omega)]; exact h.e0
  e1 := by rw [hb.cell (by have := h.size; simp; omega)]; exact h.e1
  fz := fun o => by rw [hb.frozen (by have := h.size; simp; omega)]; exact h.fz o
theorem O2.drew {w W : World} {v1 v2 : Value} (h : O2 w v1 v2 W) : O2 w v1 v2 W.drew := h.next (below_drewN (Below.refl _ _) 1)
theorem O2.alloc {w W : World} {v1 v2 : Value} (h : O2 w v1 v2 W) (o : Obj) : O2 w v1 v2 (W.alloc o) := h.next ((Below.refl _ _).alloc (Nat.le_refl _) o)
theorem O2.put {w W : World} {v1 v2 : Value} (h : O2 w v1 v2 W) (u v : Value) : O2 w v1 v2 ((W.setCell ⟨w.heap.size + 1, 0, none⟩ u).setCell ⟨w.heap.size + 1, 1, none⟩ v) := by
  obtain ⟨h0, h1, h2, h3, ⟨x, h6⟩, ⟨y, h7⟩, h8⟩ := h
  exact ⟨(h0.setCell (by simp) _).setCell (by simp) _, by simpa using h1, by simp [go_sem, h2], by simp [go_sem, h3], ⟨u, by simp [go_sem, h6]⟩, ⟨v, by simp [go_sem, h7]⟩, fun o => by simp [go_sem, h8]⟩
theorem O2.set {w W : World} {v1 v2 : Value} (h : O2 w v1 v2 W) (p : Addr) (hp : w.heap.size + 1 + 1 ≤ p.block) (u : Value) : O2 w v1 v2 (W.setCell p u) := by
  have hb : Below (w.heap.size + 1 + 1) W (W.setCell p u) := (Below.refl _ _).setCell hp u
  refine ⟨h.bel.setCell (by omega) u, by simpa using h.size, ?_, ?_, ?_, ?_, fun o => ?_⟩
  · rw [hb.cell (by simp; omega)]; exact h.c1
  · rw [hb.cell (by simp; omega)]; exact h.c2
  · rw [hb.cell (by simp)]; exact h.e0
  · rw [hb.cell (by simp)]; exact h.e1
  · rw [hb.frozen (by simp)]; exact h.fz o
theorem keepO2 {w W : World} {v1 v2 : Value} (h : O2 w v1 v2 W) : O2 w v1 v2 W ∧ W.cell? ⟨w.heap.size, 0, none⟩ = some v1 ∧ W.cell? ⟨w.heap.size, 1, none⟩ = some v2 := ⟨h, h.c1, h.c2⟩

theorem PRow.slice {W : World} {B : Nat} {v : Value} {ps : List Pn} (h : PRow W B v ps) : ∃ p c, v = .slice p ps.length c := h.at.len
theorem ERow.slice {W : World} {B : Nat} {v : Value} {es : List Int} (h : ERow W B v es) : ∃ p c, v = .slice p es.length c := h.at.len
theorem PRow.below {W : World} {B : Nat} {p : Option Addr} {n c : Nat} {ps : List Pn} (h : PRow W B (.slice p n c) ps) : ∀ a, p = some a → a.block < W.heap.size ∧ B ≤ a.block := by
  intro a ha
  subst ha
  rcases own_form h with ⟨h1, _⟩ | ⟨g, c, h1, hB, hg, _⟩
  · simp at h1
  · simp only [Value.slice.injEq, Option.some.injEq] at h1
    obtain ⟨rfl, _⟩ := h1
    exact ⟨hg, hB⟩

/-- An outline of a call's own: its ends lie in a block that is newer than that of its points. -/
def OutIs (ps : List Pn) (es : List Int) (B : Nat) (W : World) (x : Value) : Prop :=
  ∃ (m : Nat) (p1 : Option Addr) (c1 : Nat) (p2 : Option Addr) (c2 : Nat), x = .agg #[.slice p1 ps.length c1, .slice p2 es.length c2] ∧ PRow W B (.slice p1 ps.length c1) ps ∧ ERow W m (.slice p2 es.length c2) es ∧ B ≤ m ∧ ∀ a, p1 = some a → a.block < m
def OutR (ps : List Pn) (es : List Int) (w : World) (e : Ending) (w' : World) : Prop := ∃ x, e = .returned x ∧ OutIs ps es w.heap.size w' x ∧ Below w.heap.size w w'

set_option maxHeartbeats 2000000 in
theorem copied_any (v1 v2 : Value) (ps : List Pn) (es : List Int) (w : World) (h1 : PtsAt w v1 ps) (h2 : EndsAt w v2 es) (hl1 : ps.length ≤ 100000) (hl2 : es.length ≤ 100000) :
    Calls Try.prog 40 #[.agg #[v1, v2]] w (OutR ps es w) := by
  obtain ⟨p1, c1, rfl⟩ := h1.len
  obtain ⟨p2, c2, rfl⟩ := h2.len
  have F := O2.first w (.slice p1 ps.length c1) (.slice p2 es.length c2) 25
  have HP : Hid (∀ W, O2 w (.slice p1 ps.length c1) (.slice p2 es.length c2) W → Calls Try.prog 47 #[.slice p1 ps.length c1] W (PRowR ps W)) := Lib.hid fun W h => cloneP_any _ ps W (h1.on h.bel) hl1
  have HE : Hid (∀ W, O2 w (.slice p1 ps.length c1) (.slice p2 es.length c2) W → Calls Try.prog 49 #[.slice p2 es.length c2] W (ERowR es W)) := Lib.hid fun W h => cloneE_any _ es W (h2.on h.bel) hl2
  clear h1 h2
  go_enter Try.func40, Try.ntmps40
  go_upto_region 1 with fail
  generalize ((w.alloc (.cells #[.slice p1 ps.length c1, .slice p2 es.length c2] 25)).alloc (.cells #[.slice none 0 0, .slice none 0 0] 25)) = wr at *
  obtain ⟨hB, hz, k1, k2, -, -, -⟩ := id F
  go_region_held3 (fun w' => O2 w (.slice p1 ps.length c1) (.slice p2 es.length c2) w' ∧ w'.cell? ⟨w.heap.size, 0, none⟩ = some (.slice p1 ps.length c1) ∧ w'.cell? ⟨w.heap.size, 1, none⟩ = some (.slice p2 es.length c2))
    (first
      | (refine keepO2 ?_; repeat (first | assumption | with_reducible refine O2.put ?_ _ _ | with_reducible refine O2.drew ?_)))
    (first
      | (go_at_call 47; refine (HP.out _ (And.left (by assumption))).mono ?_; rintro e w1 ⟨x1, rfl, hr1, hb1⟩; have F1 : O2 w (.slice p1 ps.length c1) (.slice p2 es.length c2) w1 := O2.next (And.left (by assumption)) hb1; have s1 := O2.size (And.left (by assumption)); obtain ⟨q1, d1, rfl⟩ := hr1.slice)
      | (go_at_call 49; refine (HE.out _ (And.left (by assumption))).mono ?_; rintro e w2 ⟨x2, rfl, hr2, hb2⟩; have F2 : O2 w (.slice p1 ps.length c1) (.slice p2 es.length c2) w2 := O2.next (And.left (by assumption)) hb2; obtain ⟨q2, d2, rfl⟩ := hr2.slice; obtain ⟨x0, e0⟩ := F2.e0; obtain ⟨y0, e1⟩ := F2.e1; have fz := F2.fz))
  have hbl := PRow.below hr1
  have s2 := F1.size
  have Q : OutR ps es w (.returned (.agg #[.slice q1 ps.length d1, .slice q2 es.length d2])) ((w2.setCell ⟨w.heap.size + 1, 0, none⟩ (.slice q1 ps.length d1)).setCell ⟨w.heap.size + 1, 1, none⟩ (.slice q2 es.length d2)) := by
    refine ⟨_, rfl, ⟨w1.heap.size, q1, d1, q2, d2, rfl, ?_, ?_, by omega, fun a ha => (hbl a ha).1⟩, (F2.put _ _).bel⟩
    · exact own_mono (ownsRow_setCell_below (ownsRow_setCell_below (hr1.on hb2 (Nat.le_refl _)) (a := ⟨w.heap.size + 1, 0, none⟩) (by simp at s1 ⊢; omega) _) (a := ⟨w.heap.size + 1, 1, none⟩) (by simp at s1 ⊢; omega) _) (by simp at s1 ⊢; omega)
    · exact ownsRow_setCell_below (ownsRow_setCell_below hr2 (a := ⟨w.heap.size + 1, 0, none⟩) (by simp; omega) _) (a := ⟨w.heap.size + 1, 1, none⟩) (by simp; omega) _
  have Q := Lib.hid Q
  clear hr1 hr2 hb1 hb2 F1 F2 hbl HP HE
  go_wp2_with fail
  refine bodyPost_ret (v := .agg #[.slice q1 ps.length d1, .slice q2 es.length d2]) (by simp [results, Try.results40, go_sem, e0, e1]) rfl Q.out
end Go.Proofs.Ytenmgbcbnofcmaa
