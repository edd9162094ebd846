/- Rows of points and numbers of a call's own; the contracts of slices.Clone. -/
import Derived.Test.YtenmgbcbnofcmaaOutPlain
import Derived.Laws.AppendOwnNone
import Derived.Laws.Cover3
namespace Go.Proofs.Ytenmgbcbnofcmaa
open Go.RowKit

theorem infoInt : (Try.prog.info? 3).map (fun i => (i.zero, i.size, i.bytes)) = some (some (.int .i64 0), 1, 8) := by kernel_rfl
theorem infoPoint : (Try.prog.info? 33).map (fun i => (i.zero, i.size, i.bytes)) = some (some (.agg #[.int .i64 0, .int .i64 0, .bool false]), 3, 24) := by kernel_rfl

/-- The cells of points. -/
def encs : List Pn → List Value
  | [] => []
  | p :: ps => .int .i64 p.x :: .int .i64 p.y :: .bool p.on :: encs ps
theorem encs_len (ps : List Pn) : (encs ps).length = ps.length * 3 := by
  induction ps with
  | nil => rfl
  | cons p ps ih => simp only [encs, List.length_cons, ih]; omega
theorem encs_get (ps : List Pn) (i : Nat) (h : i < ps.length) : (encs ps)[i * 3]? = some (.int .i64 (ps[i]?.getD default).x) ∧ (encs ps)[i * 3 + 1]? = some (.int .i64 (ps[i]?.getD default).y) ∧ (encs ps)[i * 3 + 2]? = some (.bool (ps[i]?.getD default).on) := by
  induction ps generalizing i with
  | nil => simp at h
  | cons p ps ih =>
    cases i with
    | zero => simp [encs]
    | succ i =>
      have := ih i (by simpa using h)
      rw [show (i + 1) * 3 = i * 3 + 3 by omega]
      simpa [encs] using this
theorem encs_set (ps : List Pn) (i : Nat) (p : Pn) (h : i < ps.length) : encs (ps.set i p) = (((encs ps).set (i * 3) (.int .i64 p.x)).set (i * 3 + 1) (.int .i64 p.y)).set (i * 3 + 2) (.bool p.on) := by
  induction ps generalizing i with
  | nil => simp at h
  | cons q ps ih =>
    cases i with
    | zero => simp [encs]
    | succ i =>
      have := ih i (by simpa using h)
      rw [show (i + 1) * 3 = i * 3 + 3 by omega]
      simp [encs, this]
theorem encs_one (ps : List Pn) : ∀ u ∈ encs ps, u.oneCell' = true := by
  induction ps with
  | nil => intro u hu; cases hu
  | cons p ps ih =>
    intro u hu
    simp only [encs, List.mem_cons] at hu
    rcases hu with rfl | rfl | rfl | hu
    · rfl
    · rfl
    · rfl
    · exact ih u hu
theorem add_off (a : Addr) (n : Nat) : (a.add n).off = a.off + n := by unfold Addr.add; split <;> simp_all
theorem add_more (a : Addr) (n m : Nat) : (⟨(a.add n).block, (a.add n).off + (m + 1), none⟩ : Addr) = a.add (n + (m + 1)) := by
  rw [add_block, add_off]
  unfold Addr.add
  rw [if_neg (by omega)]
  simp

/-- A row of points of a call's own. -/
def PRow (W : World) (B : Nat) (v : Value) (ps : List Pn) : Prop := W.ownsRow B 33 3 v ps.length (encs ps)
def encI (es : List Int) : List Value := es.map fun n => .int .i64 n
def ERow (W : World) (B : Nat) (v : Value) (es : List Int) : Prop := W.ownsRow B 3 1 v es.length (encI es)

theorem own_form {W : World} {B : Nat} {T : TypeId} {sz n : Nat} {v : Value} {xs : List Value} (h : W.ownsRow B T sz v n xs) : (v = .slice none 0 0 ∧ n = 0) ∨ ∃ g c, v = .slice (some ⟨g, 0, none⟩) n c ∧ B ≤ g ∧ g < W.heap.size ∧ n ≤ c ∧ c ≤ maxLen := by
  rcases h.2 with h1 | ⟨g, cap, cur, hv, hg, hh, hn, hc, _⟩
  · exact .inl h1
  · exact .inr ⟨g, cap, hv, hg, (Array.getElem?_eq_some_iff.1 hh).1, hn, hc⟩
theorem own_on {W W' : World} {B C : Nat} {T : TypeId} {sz n : Nat} {v : Value} {xs : List Value} (h : W.ownsRow B T sz v n xs) (hb : Below C W W') (hC : W.heap.size ≤ C) : W'.ownsRow B T sz v n xs := by
  obtain ⟨h1, h2⟩ := h
  refine ⟨h1, ?_⟩
  rcases h2 with h2 | ⟨g, cap, cur, hv, hg, hh, r⟩
  · exact .inl h2
  · refine .inr ⟨g, cap, cur, hv, hg, ?_, r⟩
    rw [hb.block g (by have := (Array.getElem?_eq_some_iff.1 hh).1; omega)]
    exact hh
theorem own_mono {W : World} {B C : Nat} {T : TypeId} {sz n : Nat} {v : Value} {xs : List Value} (h : W.ownsRow B T sz v n xs) (hC : C ≤ B) : W.ownsRow C T sz v n xs := by
  obtain ⟨h1, h2⟩ := h
  refine ⟨h1, ?_⟩
  rcases h2 with h2 | ⟨g, cap, cur, hv, hg, r⟩
  · exact .inl h2
  · exact .inr ⟨g, cap, cur, hv, Nat.le_trans hC hg, r⟩
theorem PRow.on {W W' : World} {B C : Nat} {v : Value} {ps : List Pn} (h : PRow W B v ps) (hb : Below C W W') (hC : W.heap.size ≤ C) : PRow W' B v ps := own_on h hb hC
theorem ERow.on {W W' : World} {B C : Nat} {v : Value} {ps : List Int} (h : ERow W B v ps) (hb : Below C W W') (hC : W.heap.size ≤ C) : ERow W' B v ps := own_on h hb hC
theorem PRow.at {W : World} {B : Nat} {v : Value} {ps : List Pn} (h : PRow W B v ps) : PtsAt W v ps := by
  rcases own_form h with ⟨h1, h2⟩ | ⟨g, c, rfl, -, hg, hn, hc⟩
  · exact .inl ⟨h1, List.length_eq_zero_iff.1 h2⟩
  · refine .inr ⟨_, c, rfl, hg, hn, hc, fun i hi => ?_⟩
    obtain ⟨e1, e2, e3⟩ := encs_get ps i hi
    have hc := World.ownsRow.cells h (g := g) rfl
    exact ⟨hc _ _ e1, (by rw [add_more _ _ 0]; exact hc _ _ e2), (by rw [add_more _ _ 1]; exact hc _ _ e3)⟩
theorem ERow.at {W : World} {B : Nat} {v : Value} {es : List Int} (h : ERow W B v es) : EndsAt W v es := by
  rcases own_form h with ⟨h1, h2⟩ | ⟨g, c, rfl, -, hg, hn, hc⟩
  · exact .inl ⟨h1, List.length_eq_zero_iff.1 h2⟩
  · refine .inr ⟨_, c, rfl, hg, hn, hc, fun i hi => ?_⟩
    refine World.ownsRow.cells h (g := g) rfl _ _ ?_
    unfold encI
    rw [List.getElem?_map, List.getElem?_eq_getElem hi]
    rfl
theorem pts_news {W : World} {a : Addr} {ps : List Pn} (h : ∀ i, i < ps.length → W.cell? (a.add (i * 3)) = some (.int .i64 (ps[i]?.getD default).x) ∧ W.cell? ⟨(a.add (i * 3)).block, (a.add (i * 3)).off + 1, none⟩ = some (.int .i64 (ps[i]?.getD default).y) ∧ W.cell? ⟨(a.add (i * 3)).block, (a.add (i * 3)).off + 2, none⟩ = some (.bool (ps[i]?.getD default).on)) :
    ∀ j u, (encs ps)[j]? = some u → W.cell? (a.add j) = some u := by
  intro j u hu
  have hj : j < (encs ps).length := (List.getElem?_eq_some_iff.1 hu).1
  rw [encs_len] at hj
  have hi : j / 3 < ps.length := by omega
  obtain ⟨e1, e2, e3⟩ := encs_get ps (j / 3) hi
  obtain ⟨c1, c2, c3⟩ := h (j / 3) hi
  rw [add_more _ _ 0] at c2
  rw [add_more _ _ 1] at c3
  have hr : j % 3 = 0 ∨ j % 3 = 1 ∨ j % 3 = 2 := by omega
  rcases hr with hr | hr | hr
  · rw [show j / 3 * 3 = j by omega] at e1 c1
    rw [hu] at e1
    rw [c1, ← e1]
  · rw [show j / 3 * 3 + 1 = j by omega] at e2
    rw [show j / 3 * 3 + (0 + 1) = j by omega] at c2
    rw [hu] at e2
    rw [c2, ← e2]
  · rw [show j / 3 * 3 + 2 = j by omega] at e3
    rw [show j / 3 * 3 + (1 + 1) = j by omega] at c3
    rw [hu] at e3
    rw [c3, ← e3]
theorem ends_news {W : World} {a : Addr} {es : List Int} (h : ∀ i, i < es.length → W.cell? (a.add i) = some (.int .i64 (es[i]?.getD 0))) : ∀ j u, (encI es)[j]? = some u → W.cell? (a.add j) = some u := by
  intro j u hu
  have hj : j < (encI es).length := (List.getElem?_eq_some_iff.1 hu).1
  unfold encI at hj hu
  rw [List.length_map] at hj
  rw [List.getElem?_map, List.getElem?_eq_getElem hj] at hu
  rw [h j hj, List.getElem?_eq_getElem hj]
  exact hu

theorem PtsAt.cells_on {W W' : World} {a : Addr} {ps : List Pn} (h : ∀ i, i < ps.length → W.cell? (a.add (i * 3)) = some (.int .i64 (ps[i]?.getD default).x) ∧ W.cell? ⟨(a.add (i * 3)).block, (a.add (i * 3)).off + 1, none⟩ = some (.int .i64 (ps[i]?.getD default).y) ∧ W.cell? ⟨(a.add (i * 3)).block, (a.add (i * 3)).off + 2, none⟩ = some (.bool (ps[i]?.getD default).on)) (hg : a.block < W.heap.size) (hb : Below W.heap.size W W') :
    ∀ i, i < ps.length → W'.cell? (a.add (i * 3)) = some (.int .i64 (ps[i]?.getD default).x) ∧ W'.cell? ⟨(a.add (i * 3)).block, (a.add (i * 3)).off + 1, none⟩ = some (.int .i64 (ps[i]?.getD default).y) ∧ W'.cell? ⟨(a.add (i * 3)).block, (a.add (i * 3)).off + 2, none⟩ = some (.bool (ps[i]?.getD default).on) :=
  fun i hi => ⟨(hb.cell (p := a.add (i * 3)) (by rw [add_block]; exact hg)).trans (h i hi).1, (hb.cell (p := ⟨(a.add (i * 3)).block, (a.add (i * 3)).off + 1, none⟩) (by rw [add_block]; exact hg)).trans (h i hi).2.1, (hb.cell (p := ⟨(a.add (i * 3)).block, (a.add (i * 3)).off + 2, none⟩) (by rw [add_block]; exact hg)).trans (h i hi).2.2⟩
/-- A call answers points of its own. -/
def PRowR (ps : List Pn) (w : World) (e : Ending) (w' : World) : Prop := ∃ v, e = .returned v ∧ PRow w' w.heap.size v ps ∧ Below w.heap.size w w'
def ERowR (es : List Int) (w : World) (e : Ending) (w' : World) : Prop := ∃ v, e = .returned v ∧ ERow w' w.heap.size v es ∧ Below w.heap.size w w'

theorem eqnil_pts (a : Option Addr) (n c : Nat) (w : World) : (binOp .eql 22 (.slice a n c) (.slice none 0 0)).run Try.prog w = .ok (.bool a.isNone) w := by
  simp only [binOp]
  simp [Op.equal, Op.maxDepth, run_equalIn_slice_nil w 9999 _ _ a n c Try.underlying22]
theorem eqnil_ints (a : Option Addr) (n c : Nat) (w : World) : (binOp .eql 23 (.slice a n c) (.slice none 0 0)).run Try.prog w = .ok (.bool a.isNone) w := by
  simp only [binOp]
  simp [Op.equal, Op.maxDepth, run_equalIn_slice_nil w 9999 _ _ a n c Try.underlying23]

set_option maxHeartbeats 1000000 in
theorem cloneP_any (v : Value) (ps : List Pn) (w : World) (h : PtsAt w v ps) (hl : ps.length ≤ 100000) :
    Calls Try.prog 47 #[v] w (PRowR ps w) := by
  obtain ⟨i0, hi, hz0, hz1, hz2⟩ := info_parts infoPoint
  have hq := eqnil_pts
  rcases h with ⟨rfl, rfl⟩ | ⟨a, c, rfl, hg, hlc, hc, hcell⟩
  · go_enter Try.func47, Try.ntmps47
    go_wp2_with fail
    go_ret
    exact ⟨_, rfl, World.ownsRow_nil _ _ _ _, Below.refl _ _⟩
  · have hlit : (w.alloc (.cells #[] 33)).ownsRow w.heap.size 33 3 (.slice (some ⟨w.heap.size, 0, none⟩) 0 0) 0 [] :=
      World.ownsRow_lit (base := w.heap.size) (e := 33) (size := 3) w #[] 0 (Nat.le_refl _) (by unfold maxLen; omega) rfl
    have HC := Lib.hid hcell
    clear hcell
    go_enter Try.func47, Try.ntmps47
    go_wp2_with (at_builtin; go_loud (refine wpList_append_own _ rfl _ _ 22 rfl w.heap.size 33 i0 (.agg #[.int .i64 0, .int .i64 0, .bool false]) 3 24 Try.underlying22 hi hz0 hz1 hz2 rfl (by decide) _ 0 [] rfl hlit a ps.length c (encs ps) rfl (encs_len ps) (pts_news (PtsAt.cells_on HC.out hg ((Below.refl _ _).alloc (Nat.le_refl _) _))) (encs_one ps) (by unfold maxLen; omega) (by omega) (by simp) ?_))
    intro v' w1 hown' hgrow hnil
    have hb1 : Below w.heap.size w w1 := ((Below.refl _ _).alloc (Nat.le_refl _) _).grown hgrow (by simp) (by intro x hx; simp [Value.ownBlock] at hx; omega)
    have Q : PRowR ps w (.returned v') w1 := ⟨v', rfl, by simpa [PRow] using hown', hb1⟩
    clear hnil hown' hgrow hb1
    go_wp2_with fail
    go_ret
    exact Q
theorem encI_one (es : List Int) : ∀ u ∈ encI es, u.oneCell' = true := by
  intro u hu
  obtain ⟨d, _, rfl⟩ := List.mem_map.1 hu
  rfl
set_option maxHeartbeats 1000000 in
theorem cloneE_any (v : Value) (ps : List Int) (w : World) (h : EndsAt w v ps) (hl : ps.length ≤ 100000) :
    Calls Try.prog 49 #[v] w (ERowR ps w) := by
  obtain ⟨i0, hi, hz0, hz1, hz2⟩ := info_parts infoInt
  have hq := eqnil_ints
  rcases h with ⟨rfl, rfl⟩ | ⟨a, c, rfl, hg, hlc, hc, hcell⟩
  · go_enter Try.func49, Try.ntmps49
    go_wp2_with fail
    go_ret
    exact ⟨_, rfl, World.ownsRow_nil _ _ _ _, Below.refl _ _⟩
  · have hlit : (w.alloc (.cells #[] 3)).ownsRow w.heap.size 3 1 (.slice (some ⟨w.heap.size, 0, none⟩) 0 0) 0 [] :=
      World.ownsRow_lit (base := w.heap.size) (e := 3) (size := 1) w #[] 0 (Nat.le_refl _) (by unfold maxLen; omega) rfl
    have HC := Lib.hid hcell
    clear hcell
    go_enter Try.func49, Try.ntmps49
    go_wp2_with (at_builtin; go_loud (refine wpList_append_own _ rfl _ _ 23 rfl w.heap.size 3 i0 (.int .i64 0) 1 8 Try.underlying23 hi hz0 hz1 hz2 rfl (by decide) _ 0 [] rfl hlit a ps.length c (encI ps) rfl (by simp [encI]) (ends_news (fun i hi => (((Below.refl _ _).alloc (Nat.le_refl _) _).cell (p := a.add i) (by rw [add_block]; exact hg)).trans (HC.out i hi))) (encI_one ps) (by unfold maxLen; omega) (by omega) (by simp) ?_))
    intro v' w1 hown' hgrow hnil
    have hb1 : Below w.heap.size w w1 := ((Below.refl _ _).alloc (Nat.le_refl _) _).grown hgrow (by simp) (by intro x hx; simp [Value.ownBlock] at hx; omega)
    have Q : ERowR ps w (.returned v') w1 := ⟨v', rfl, by simpa [ERow] using hown', hb1⟩
    clear hnil hown' hgrow hb1
    go_wp2_with fail
    go_ret
    exact Q
end Go.Proofs.Ytenmgbcbnofcmaa
