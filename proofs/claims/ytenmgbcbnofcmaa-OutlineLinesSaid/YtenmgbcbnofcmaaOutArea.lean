/- The contract of Area. -/
import Derived.Test.YtenmgbcbnofcmaaOutCut
import Derived.Test.YtenmgbcbnofcmaaOutCopy
namespace Go.Proofs.Ytenmgbcbnofcmaa
open Go.RowKit Go.Shelf
attribute [local go_sem] Oper.semAt_some

/-- A contour's points. -/
def pieceO {n : Nat} (ps : List Pn) (c : Cut n) : List Pn := (ps.drop c.1.2.1).take (c.1.2.2 - c.1.2.1)
/-- What a point and the next one add. -/
def stepA (a : Int) (p q : Pn) : Int := wrap64 (a + wrap64 (wrap64 (p.x * q.y) - wrap64 (q.x * p.y)))
def areaC : Int → Pn → List Pn → Int
  | a, _, [] => a
  | a, p, q :: qs => areaC (stepA a p q) q qs
def areaP (a : Int) (qs : List Pn) : Int := areaC a (qs[qs.length - 1]?.getD default) qs
def areaL {n : Nat} (ps : List Pn) (cs : List (Cut n)) : Int := cs.foldl (fun a c => areaP a (pieceO ps c)) 0
def areaO (ps : List Pn) (es : List Int) : Int := areaL ps (cutsO ps.length 0 0 es)

theorem pieceO_len (ps : List Pn) (c : Cut ps.length) : (pieceO ps c).length = c.1.2.2 - c.1.2.1 := by
  have := c.2
  unfold pieceO
  rw [List.length_take, List.length_drop]
  omega
theorem add_add3 (a : Addr) (b i : Nat) : (a.add (b * 3)).add (i * 3) = a.add ((b + i) * 3) := by
  rw [Addr.add_add, ← Nat.add_mul]
theorem piece_at {W : World} {p : Option Addr} {c : Nat} {ps : List Pn} (h : PtsAt W (.slice p ps.length c) ps) (x : Cut ps.length) :
    ∃ a, pieceV p x = .slice (some a) (pieceO ps x).length (pieceO ps x).length ∧ 0 < (pieceO ps x).length ∧ a.block < W.heap.size ∧ ∀ i, i < (pieceO ps x).length → W.cell? (a.add (i * 3)) = some (.int .i64 ((pieceO ps x)[i]?.getD default).x) ∧ W.cell? ⟨(a.add (i * 3)).block, (a.add (i * 3)).off + 1, none⟩ = some (.int .i64 ((pieceO ps x)[i]?.getD default).y) ∧ W.cell? ⟨(a.add (i * 3)).block, (a.add (i * 3)).off + 2, none⟩ = some (.bool ((pieceO ps x)[i]?.getD default).on) := by
  have hx := x.2
  rcases h with ⟨_, h⟩ | ⟨a, c', h, hg, -, -, hcell⟩
  · have h0 : ps.length = 0 := by rw [h]; rfl
    omega
  · simp only [Value.slice.injEq] at h
    obtain ⟨rfl, _⟩ := h
    rw [pieceO_len]
    refine ⟨a.add (x.1.2.1 * 3), rfl, by omega, by rw [add_block]; exact hg, fun i hi => ?_⟩
    have := hcell (x.1.2.1 + i) (by omega)
    rw [add_add3]
    have e : (pieceO ps x)[i]? = ps[x.1.2.1 + i]? := by
      unfold pieceO
      rw [List.getElem?_take, if_pos hi, List.getElem?_drop]
    rw [e]
    exact this

/-- A call answers an int, and makes memory at most. -/
def IntIs (n : Int) (w : World) (e : Ending) (w' : World) : Prop := e = .returned (.int .i64 n) ∧ Below w.heap.size w w'

theorem keepB_b {bs : List Nat} {w : World} (hb : ∀ b ∈ bs, b < w.heap.size) (W : World) (l : Nat) (o o' : Obj) (hl : w.heap.size ≤ l) (_ : W.heap[l]? = some o) (_ : o.isCells = false) (_ : o.isWalk = false) : KeepB bs W (W.putObj l o') :=
  ⟨by simp, fun a ha => World.cell?_of_block (World.putObj_heap_other (by have := hb a.block ha; omega))⟩
theorem KeepB.of_below {bs : List Nat} {C : Nat} {A B : World} (h : Below C A B) (hb : ∀ b ∈ bs, b < C) : KeepB bs A B := ⟨h.size, fun a ha => h.cell (hb a.block ha)⟩

theorem cell_lt {W : World} {a : Addr} {u : Value} (h : W.cell? a = some u) : a.block < W.heap.size := by
  by_cases c : a.block < W.heap.size
  · exact c
  · exfalso
    have : W.heap[a.block]? = none := Array.getElem?_eq_none (by omega)
    simp [World.cell?, this] at h
/-- What is known of a world within a round of Area: the sum, and the point ahead. -/
structure AR (w W : World) (bs : List Nat) (P : Nat) (A : Int) (p : Pn) (wr : World) : Prop where
  bel : Below w.heap.size w wr
  ko : KeepsOthers W wr
  kb : KeepB bs W wr
  hs : ∀ b ∈ bs, b < W.heap.size ∧ b ≠ w.heap.size + 1
  hP : W.heap.size = P
  c : wr.cell? ⟨w.heap.size + 1, 0, none⟩ = some (.int .i64 A)
  f : wr.frozen? ⟨w.heap.size + 1, 0, none⟩ = false
  p0 : wr.cell? ⟨P, 0, none⟩ = some (.int .i64 p.x)
  p1 : wr.cell? ⟨P, 1, none⟩ = some (.int .i64 p.y)
  p2 : wr.cell? ⟨P, 2, none⟩ = some (.bool p.on)
  pf : ∀ o, wr.frozen? ⟨P, o, none⟩ = false
  pn : w.heap.size + 1 < P
  pz : P < wr.heap.size
theorem AR.alloc {w W wr : World} {bs : List Nat} {P : Nat} {A : Int} {p : Pn} (h : AR w W bs P A p wr) (o : Obj) : AR w W bs P A p (wr.alloc o) := by
  have hz := h.pz
  have hn := h.pn
  have hP := h.hP
  exact ⟨h.bel.alloc h.bel.size _, h.ko.trans (KeepsOthers.alloc _ _), h.kb.trans ⟨by simp, fun a ha => ((Below.refl _ wr).alloc (Nat.le_refl _) o).cell (by have := (h.hs a.block ha).1; omega)⟩, h.hs, h.hP,
    by rw [World.cell?_alloc_past _ _ _ (by omega)]; exact h.c, by rw [World.frozen?_alloc_past _ _ _ (by omega)]; exact h.f, by rw [World.cell?_alloc_past _ _ _ hz]; exact h.p0, by rw [World.cell?_alloc_past _ _ _ hz]; exact h.p1, by rw [World.cell?_alloc_past _ _ _ hz]; exact h.p2, fun o => by rw [World.frozen?_alloc_past _ _ _ hz]; exact h.pf o, hn, by simp; omega⟩
theorem AR.setA {w W wr : World} {bs : List Nat} {P : Nat} {A : Int} {p : Pn} (h : AR w W bs P A p wr) (B : Int) : AR w W bs P B p (wr.setCell ⟨w.heap.size + 1, 0, none⟩ (.int .i64 B)) := by
  have hn := h.pn
  have n1 : w.heap.size + 1 ≠ P := by omega
  exact ⟨h.bel.setCell (by simp) _, h.ko.trans (KeepsOthers.setCell _ _ _), h.kb.trans ⟨by simp, fun a ha => World.cell?_setCell_far _ _ _ _ (by have := (h.hs a.block ha).2; simp; omega)⟩, h.hs, h.hP,
    by simp [go_sem, h.c], by simp [go_sem, h.f], by rw [World.cell?_setCell_far _ _ _ _ n1]; exact h.p0, by rw [World.cell?_setCell_far _ _ _ _ n1]; exact h.p1, by rw [World.cell?_setCell_far _ _ _ _ n1]; exact h.p2, fun o => by simp [go_sem, h.pf], hn, by simpa using h.pz⟩
theorem AR.setP {w W wr : World} {bs : List Nat} {P : Nat} {A : Int} {p : Pn} (h : AR w W bs P A p wr) (x y : Int) (on : Bool) : AR w W bs P A ⟨x, y, on⟩ (((wr.setCell ⟨P, 0, none⟩ (.int .i64 x)).setCell ⟨P, 1, none⟩ (.int .i64 y)).setCell ⟨P, 2, none⟩ (.bool on)) := by
  have hn := h.pn
  have hP := h.hP
  have n1 : P ≠ w.heap.size + 1 := by omega
  have k1 : ∀ (V : World) (o : Nat) (u : Value), KeepB bs V (V.setCell ⟨P, o, none⟩ u) := fun V o u => ⟨by simp, fun a ha => World.cell?_setCell_far _ _ _ _ (by have := (h.hs a.block ha).1; simp; omega)⟩
  exact ⟨((h.bel.setCell (by simp; omega) _).setCell (by simp; omega) _).setCell (by simp; omega) _, ((h.ko.trans (KeepsOthers.setCell _ _ _)).trans (KeepsOthers.setCell _ _ _)).trans (KeepsOthers.setCell _ _ _), ((h.kb.trans (k1 _ _ _)).trans (k1 _ _ _)).trans (k1 _ _ _), h.hs, h.hP,
    by rw [World.cell?_setCell_far _ _ _ _ n1, World.cell?_setCell_far _ _ _ _ n1, World.cell?_setCell_far _ _ _ _ n1]; exact h.c, by simp [go_sem, h.f], by simp [go_sem, h.p0], by simp [go_sem, h.p1], by simp [go_sem, h.p2], fun o => by simp [go_sem, h.pf], hn, by simpa using h.pz⟩

set_option maxRecDepth 100000 in
set_option maxHeartbeats 2000000 in
theorem area_any (v1 v2 : Value) (ps : List Pn) (es : List Int) (w : World) (h1 : PtsAt w v1 ps) (h2 : EndsAt w v2 es) (hl1 : ps.length ≤ 100000) (hl2 : es.length ≤ 100000) :
    Calls Try.prog 21 #[.agg #[v1, v2]] w (IntIs (areaO ps es) w) := by
  obtain ⟨p1, c1, rfl⟩ := h1.len
  obtain ⟨p2, c2, rfl⟩ := h2.len
  have hn : 8 = 8 := rfl
  refine (callsIn_wide (n := 8)).1 ?_
  refine callsIn_of_wp_marks Try.func21 rfl trivial ?_ rfl
  simp only [Try.ntmps21, List.size_toArray, List.length_cons, List.length_nil, Nat.reduceAdd, Nat.reduceSub, Array.replicate_succ, Array.replicate_zero, List.push_toArray, List.append_toArray, List.nil_append, List.cons_append]
  gi_wp2
  refine ⟨trivial, ?_⟩
  refine (cut_in Fence.wide 7 trivial rfl p1 p2 _ c1 _ c2 _).mono ?_
  rintro e w' ⟨rfl, rfl⟩
  gi_wp2
  obtain ⟨W0, hW0⟩ : ∃ W0, ((((w.alloc (.cells #[.slice p1 ps.length c1, .slice p2 es.length c2] 25)).alloc (.cells #[.int .i64 0] 3)).alloc (.cells #[.slice p1 ps.length c1] 22)).alloc (.cells #[.slice p2 es.length c2] 23)) = W0 := ⟨_, rfl⟩
  have hsz : W0.heap.size = w.heap.size + 1 + 1 + 1 + 1 := by rw [← hW0]; simp
  have hB0 : Below w.heap.size w W0 := by rw [← hW0]; exact ((((Below.refl _ _).alloc (Nat.le_refl _) _).alloc (by simp) _).alloc (by simp; omega) _).alloc (by simp; omega) _
  have hA : W0.cell? ⟨w.heap.size + 1, 0, none⟩ = some (.int .i64 0) := by rw [← hW0]; simp [go_sem]
  have hAf : W0.frozen? ⟨w.heap.size + 1, 0, none⟩ = false := by rw [← hW0]; simp [go_sem]
  have hP : W0.cell? ⟨w.heap.size + 1 + 1, 0, none⟩ = some (.slice p1 ps.length c1) := by rw [← hW0]; simp [go_sem]
  have hE : W0.cell? ⟨w.heap.size + 1 + 1 + 1, 0, none⟩ = some (.slice p2 es.length c2) := by rw [← hW0]; simp [go_sem]

  rw [hW0]
  clear hW0
  obtain ⟨bs, hbs⟩ : ∃ bs : List Nat, bs = (w.heap.size + 1 + 1) :: (p2.map (·.block)).toList := ⟨_, rfl⟩
  have hbl : ∀ b ∈ bs, b = w.heap.size + 1 + 1 ∨ b < w.heap.size := by
    intro b hb
    rw [hbs] at hb
    rcases List.mem_cons.1 hb with rfl | hb
    · exact .inl rfl
    · simp only [Option.mem_toList, Option.map_eq_some_iff] at hb
      obtain ⟨a, ha, rfl⟩ := hb
      rcases h2 with ⟨h, _⟩ | ⟨a', c', h, hg, _⟩
      · simp only [Value.slice.injEq] at h
        rw [h.1] at ha
        cases ha
      · simp only [Value.slice.injEq] at h
        rw [h.1] at ha
        cases ha
        exact .inr hg
  refine wpIn_rangeFunc_ownF rfl (by omega) (gf := 48) (lb := #[.pointer (some ⟨w.heap.size + 1 + 1 + 1, 0, none⟩), .pointer (some ⟨w.heap.size + 1 + 1, 0, none⟩)]) rfl trivial (enters_of Try.func48 (by kernel_rfl) rfl)
    (cut_stops Fence.wide 7 trivial rfl (by omega) (w.heap.size + 1 + 1 + 1) (w.heap.size + 1 + 1) bs (by rw [hbs]; simp) (.slice p2 es.length c2) p1 ps.length c1 ?hnc ?hp hl1 es hl2 W0 (h2.on hB0) ?hb (by omega) hE hP)
    KeepB.trans (keepB_b (fun b hb => by rcases hbl b hb with h | h <;> omega)) (Below.refl _ _) (fun _ => rfl)
    (fun pre W => (W.cell? ⟨w.heap.size + 1, 0, none⟩ = some (.int .i64 (areaL ps pre)) ∧ W.frozen? ⟨w.heap.size + 1, 0, none⟩ = false ∧ W.cell? ⟨w.heap.size + 1 + 1, 0, none⟩ = some (.slice p1 ps.length c1)) ∧ Below w.heap.size w W)
    (fun _ _ _ => False)
    (OwnFrom.and (Own.from (fun s A B row hs hg hr => ⟨cell_kept hs.1 hg hr, (frozen_kept hs.1 hg hr).trans hs.2.1, cell_kept hs.2.2 hg hr⟩) _) (ownFrom_below (Nat.le_refl _) (by omega)))
    (fun _ => fun _ _ _ _ hs _ _ => hs)
    ⟨⟨hA, hAf, hP⟩, hB0⟩ (fun x => { tmps := #[.agg #[.slice p1 ps.length c1, .slice p2 es.length c2], .pointer (some ⟨w.heap.size, 0, none⟩), .int .i64 0, .pointer (some ⟨w.heap.size + 1, 0, none⟩), undef, pieceV p1 x, undef, undef, undef, .pointer (some ⟨w.heap.size, 0, none⟩), .slice p1 ps.length c1, .pointer (some ⟨w.heap.size, 1, none⟩), .slice p2 es.length c2, .func (.func 48) #[] #[.pointer (some ⟨w.heap.size + 1 + 1 + 1, 0, none⟩), .pointer (some ⟨w.heap.size + 1 + 1, 0, none⟩)], .int .i64 (x.1.1 : Int), pieceV p1 x, undef, undef, undef, undef, undef, undef, undef, undef, undef, undef, undef, undef, undef, undef, undef, undef, undef, undef, undef, undef, undef, undef, undef, undef, undef, undef, undef, undef], defers := [] }) ?assign ?body ?done ?stop
  case hnc =>
    rcases h1 with ⟨h, h0⟩ | ⟨a, c', h, -, hlc, -⟩
    · rw [h0]; exact Nat.zero_le _
    · simp only [Value.slice.injEq] at h
      rw [h.2.2]
      exact hlc
  case hp =>
    intro h0
    rcases h1 with ⟨h, h1⟩ | ⟨a, c', h, -, hlc, -⟩
    · rw [h1] at h0; simp at h0
    · simp only [Value.slice.injEq] at h
      exact ⟨a, h.1⟩
  case hb =>
    intro a l c h
    simp only [Value.slice.injEq] at h
    rw [hbs, h.1]
    simp
  case assign =>
    intro l x W K hK
    gi_wp2
    exact hK
  case body =>
    rintro l pre x W ⟨⟨hc, hf, hPb⟩, hB⟩ _
    obtain ⟨a, hv, hq0, hg, hcell⟩ := piece_at h1 x
    have HC := Lib.hid (fun (W' : World) (hb : Below w.heap.size w W') => PtsAt.cells_on hcell hg hb)
    clear hcell
    have hap : areaL ps (pre ++ [x]) = areaP (areaL ps pre) (pieceO ps x) := by unfold areaL; rw [List.foldl_append]; rfl
    have hql : (pieceO ps x).length ≤ 100000 := by rw [pieceO_len]; have := x.2; omega
    have HAP := Lib.hid hap
    clear hap
    simp only [hv]
    generalize pieceO ps x = qs at *
    generalize areaL ps pre = A0 at *
    have hlast := HC.out W hB (qs.length - 1) (by omega)
    obtain ⟨t1, t2, t3⟩ := hlast
    have hi1 : ((qs.length : Int) - 1) = ((qs.length - 1 : Nat) : Int) := by omega
    have hPz := cell_lt hPb
    simp only at hPz
    have hbl2 : ∀ b ∈ bs, b < W.heap.size ∧ b ≠ w.heap.size + 1 := by
      intro b hb
      have := hB.size
      rcases hbl b hb with h | h <;> omega
    generalize hlp : qs[qs.length - 1]?.getD default = lp at *
    obtain ⟨lx, ly, lo⟩ := lp
    simp only at t1 t2 t3
    have R0 : AR w W bs W.heap.size A0 ⟨lx, ly, lo⟩ (W.alloc (.cells #[.int .i64 lx, .int .i64 ly, .bool lo] 33)) :=
      ⟨hB.alloc hB.size _, KeepsOthers.alloc _ _, ⟨by simp, fun a ha => ((Below.refl _ W).alloc (Nat.le_refl _) _).cell (hbl2 a.block ha).1⟩, hbl2, rfl, by rw [World.cell?_alloc_past _ _ _ (by omega)]; exact hc, by rw [World.frozen?_alloc_past _ _ _ (by omega)]; exact hf, by simp [go_sem], by simp [go_sem], by simp [go_sem], fun o => by simp [go_sem], by omega, by simp⟩
    have HLP := Lib.hid hlp
    clear hlp
    gi_wp2
    gi_loopw [24] (fun i wr => ∃ (k : Nat) (A : Int) (p : Pn), k ≤ qs.length ∧ i = .int .i64 k ∧ Hid (areaC A p (qs.drop k) = areaP A0 qs) ∧ AR w W bs W.heap.size A p wr) (fun i _ => qs.length - (intOf i).toNat)
    case atStart => exact ⟨0, A0, _, by omega, rfl, Lib.hid (by unfold areaP; rw [HLP.out]; rfl), R0⟩
    case round =>
      clear R0 t1 t2 t3 hc hf HLP hi1
      obtain ⟨k, A, p, hk, rfl, hrel, R⟩ := hrel
      obtain ⟨hb, -, -, -, -, c, f, p0, p1', p2', pf, pn, pz⟩ := id R
      obtain ⟨px, py, po⟩ := p
      simp only at p0 p1' p2'
      by_cases hlt : k < qs.length
      · obtain ⟨q1, q2, q3⟩ := HC.out wr hb k hlt
        have hrel := hrel.out
        rw [drop_cons default hlt] at hrel
        generalize qs[k]?.getD default = q at *
        obtain ⟨X, Y, on⟩ := q
        simp only at q1 q2 q3
        unfold areaC at hrel
        obtain ⟨A', hA'⟩ : ∃ A', stepA A ⟨px, py, po⟩ ⟨X, Y, on⟩ = A' := ⟨_, rfl⟩
        rw [hA'] at hrel
        have hrel := Lib.hid hrel
        have g1 : wrap64 (A + wrap64 (wrap64 (px * Y) - wrap64 (X * py))) = A' := hA'
        clear hA'
        have z1 : w.heap.size + 1 < wr.heap.size := by omega
        gi_wp2
        go_roundw
        case rel => exact ⟨k + 1, A', _, by omega, by simp, hrel, ((R.setA A').setP X Y on).alloc _⟩
        case measure => simp [intOf]; omega
      · obtain rfl : k = qs.length := by omega
        have hrel := hrel.out
        rw [List.drop_length] at hrel
        unfold areaC at hrel
        have hrel := Lib.hid hrel
        gi_wp2
        refine ⟨R.ko, R.kb, ⟨?_, R.f, ?_⟩, hb⟩
        · rw [HAP.out, ← hrel.out]; exact R.c
        · exact (R.kb.2 ⟨w.heap.size + 1 + 1, 0, none⟩ (by rw [hbs]; simp)).trans hPb
  case done =>
    rintro D xs W hD rfl ⟨⟨hc, hf, hPb⟩, hB⟩ hK
    gi_wp2
    refine ⟨by simp, .inl ⟨_, _, rfl, run_takeDeferred hK, ?_⟩⟩
    exact ⟨_, results_tmp rfl _ _ _, ⟨rfl, hB.trans (belowK_b (w := w) (Nat.le_refl _) W D _ _ (by omega) hK rfl rfl)⟩⟩
  case stop =>
    rintro D c pre W _ _ h _
    exact h.elim
end Go.Proofs.Ytenmgbcbnofcmaa
