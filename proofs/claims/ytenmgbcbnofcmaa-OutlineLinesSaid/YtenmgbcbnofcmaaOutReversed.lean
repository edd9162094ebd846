/- The contract of Reversed. -/
import Derived.Test.YtenmgbcbnofcmaaOutRev
import Derived.Test.YtenmgbcbnofcmaaOutArea
namespace Go.Proofs.Ytenmgbcbnofcmaa
open Go.RowKit Go.Shelf
attribute [local go_sem] Oper.semAt_some

/-- A contour's points the other way about, behind its first one. -/
def revStep {n : Nat} (ps : List Pn) (x : Cut n) : List Pn := revK ps (x.1.2.1 + 1) (x.1.2.2 - x.1.2.1 - 1) ((x.1.2.2 - x.1.2.1 - 1) / 2)
def revL {n : Nat} (ps : List Pn) (cs : List (Cut n)) : List Pn := cs.foldl revStep ps
def revO (ps : List Pn) (es : List Int) : List Pn := revL ps (cutsO ps.length 0 0 es)
theorem revL_len {n : Nat} (ps : List Pn) (cs : List (Cut n)) : (revL ps cs).length = ps.length := by
  induction cs generalizing ps with
  | nil => rfl
  | cons c cs ih =>
    show (revL (revStep ps c) cs).length = _
    rw [ih]
    exact revK_len _ _ _ _

theorem own_kept {A B : World} {b : Nat} {T : TypeId} {sz n : Nat} {v : Value} {xs : List Value} {row : Option Nat} (h : A.ownsRow b T sz v n xs) (hg : A.grownBy B row) (hr : ∀ r, row = some r → ∃ o : Obj, A.heap[r]? = some o ∧ o.isCells = false) : B.ownsRow b T sz v n xs := by
  refine World.ownsRow.kept h hg ?_
  rcases h.2 with ⟨rfl, _⟩ | ⟨g, cap, cur, rfl, _, hh, _⟩
  · exact .inl rfl
  · refine .inr (fun e => ?_)
    obtain ⟨o, ho, hc⟩ := hr g (by rw [← e]; rfl)
    rw [hh] at ho
    cases ho
    cases hc

theorem two0 {W : World} {g : Nat} (h : ∃ u, W.cell? ⟨g, 0, none⟩ = some u) (v0 v1 : Value) : ((W.setCell ⟨g, 0, none⟩ v0).setCell ⟨g, 1, none⟩ v1).cell? ⟨g, 0, none⟩ = some v0 := by
  obtain ⟨u, h⟩ := h
  simp [go_sem, h]
theorem two1 {W : World} {g : Nat} (h : ∃ u, W.cell? ⟨g, 1, none⟩ = some u) (v0 v1 : Value) : ((W.setCell ⟨g, 0, none⟩ v0).setCell ⟨g, 1, none⟩ v1).cell? ⟨g, 1, none⟩ = some v1 := by
  obtain ⟨u, h⟩ := h
  simp [go_sem, h]
set_option maxRecDepth 100000 in
set_option maxHeartbeats 2000000 in
theorem reversed_any (v1 v2 : Value) (ps : List Pn) (es : List Int) (w : World) (h1 : PtsAt w v1 ps) (h2 : EndsAt w v2 es) (hl1 : ps.length ≤ 100000) (hl2 : es.length ≤ 100000) :
    Calls Try.prog 26 #[.agg #[v1, v2]] w (OutR (revO ps es) es w) := by
  have F := O2.first w v1 v2 25
  have HCp := copied_any v1 v2 ps es _ (h1.on F.bel) (h2.on F.bel) hl1 hl2
  obtain ⟨pv1, cv1, rfl⟩ := h1.len
  obtain ⟨pv2, cv2, rfl⟩ := h2.len
  clear h1 h2
  refine (callsIn_wide (n := 8)).1 ?_
  refine callsIn_of_wp_marks Try.func26 rfl trivial ?_ rfl
  simp only [Try.ntmps26, List.size_toArray, List.length_cons, List.length_nil, Nat.reduceAdd, Nat.reduceSub, Array.replicate_succ, Array.replicate_zero, List.push_toArray, List.append_toArray, List.nil_append, List.cons_append]
  gi_wp2
  refine ⟨trivial, ?_⟩
  refine (callsIn_wide.2 HCp).mono ?_
  clear HCp
  generalize ((w.alloc (.cells #[.slice pv1 ps.length cv1, .slice pv2 es.length cv2] 25)).alloc (.cells #[.slice none 0 0, .slice none 0 0] 25)) = wc at *
  rintro e w1 ⟨z, rfl, ⟨m, p1, c1, p2, c2, rfl, hr1, hr2, hm, hpm⟩, hb1⟩
  have F1 := F.next hb1
  have sc := F.size
  have sz := hb1.size
  gi_wp2
  refine ⟨trivial, ?_⟩
  refine (cut_in Fence.wide 7 trivial rfl p1 p2 _ c1 _ c2 _).mono ?_
  rintro e w' ⟨rfl, rfl⟩
  gi_wp2
  obtain ⟨W0, hW0⟩ : ∃ W0, (((w1.alloc (.cells #[.slice p1 ps.length c1, .slice p2 es.length c2] 25)).alloc (.cells #[.slice p1 ps.length c1] 22)).alloc (.cells #[.slice p2 es.length c2] 23)) = W0 := ⟨_, rfl⟩
  have hsz : W0.heap.size = w1.heap.size + 1 + 1 + 1 := by rw [← hW0]; simp
  have hb0 : Below w1.heap.size w1 W0 := by rw [← hW0]; exact (((Below.refl _ _).alloc (Nat.le_refl _) _).alloc (by simp) _).alloc (by simp; omega) _
  have F0 := F1.next hb0
  have hG0 : W0.cell? ⟨w1.heap.size, 0, none⟩ = some (.slice p1 ps.length c1) := by rw [← hW0]; simp [go_sem]
  have hG1 : W0.cell? ⟨w1.heap.size, 1, none⟩ = some (.slice p2 es.length c2) := by rw [← hW0]; simp [go_sem]
  have hP : W0.cell? ⟨w1.heap.size + 1, 0, none⟩ = some (.slice p1 ps.length c1) := by rw [← hW0]; simp [go_sem]
  have hE : W0.cell? ⟨w1.heap.size + 1 + 1, 0, none⟩ = some (.slice p2 es.length c2) := by rw [← hW0]; simp [go_sem]
  rw [hW0]
  clear hW0
  have R0 : PRow W0 wc.heap.size (.slice p1 ps.length c1) ps := hr1.on hb0 (Nat.le_refl _)
  have E0 : ERow W0 m (.slice p2 es.length c2) es := hr2.on hb0 (Nat.le_refl _)
  have hgb := PRow.below hr1
  have hgw : ∀ a, p1 = some a → a.block < w1.heap.size ∧ wc.heap.size ≤ a.block := hgb
  have heb : ∀ a, p2 = some a → m ≤ a.block ∧ a.block < w1.heap.size := by
    intro a ha
    subst ha
    rcases own_form hr2 with ⟨h, _⟩ | ⟨g, c, h, hB, hg, _⟩
    · simp at h
    · simp only [Value.slice.injEq, Option.some.injEq] at h
      obtain ⟨rfl, _⟩ := h
      exact ⟨hB, hg⟩
  clear hr1 hr2 hgb
  obtain ⟨bs, hbs⟩ : ∃ bs : List Nat, bs = (w1.heap.size + 1) :: (p2.map (·.block)).toList := ⟨_, rfl⟩
  have hbl : ∀ b ∈ bs, b < W0.heap.size ∧ ∀ a, p1 = some a → a.block ≠ b := by
    intro b hb
    rw [hbs] at hb
    rcases List.mem_cons.1 hb with rfl | hb
    · exact ⟨by omega, fun a ha => by have := (hgw a ha).1; omega⟩
    · simp only [Option.mem_toList, Option.map_eq_some_iff] at hb
      obtain ⟨a, ha, rfl⟩ := hb
      have := heb a ha
      exact ⟨by omega, fun a' ha' => by have := hpm a' ha'; omega⟩
  refine wpIn_rangeFunc_ownF rfl (by omega) (gf := 48) (lb := #[.pointer (some ⟨w1.heap.size + 1 + 1, 0, none⟩), .pointer (some ⟨w1.heap.size + 1, 0, none⟩)]) rfl trivial (enters_of Try.func48 (by kernel_rfl) rfl)
    (cut_stops Fence.wide 7 trivial rfl (by omega) (w1.heap.size + 1 + 1) (w1.heap.size + 1) bs (by rw [hbs]; simp) (.slice p2 es.length c2) p1 ps.length c1 ?hnc ?hp hl1 es hl2 W0 E0.at ?hb (by omega) hE hP)
    KeepB.trans (keepB_b (fun b hb => (hbl b hb).1)) (Below.refl _ _) (fun _ => rfl)
    (fun pre W => (PRow W wc.heap.size (.slice p1 ps.length c1) (revL ps pre) ∧ ERow W m (.slice p2 es.length c2) es ∧ W.cell? ⟨w1.heap.size, 0, none⟩ = some (.slice p1 ps.length c1) ∧ W.cell? ⟨w1.heap.size, 1, none⟩ = some (.slice p2 es.length c2) ∧ (∃ u, W.cell? ⟨w.heap.size + 1, 0, none⟩ = some u) ∧ (∃ u, W.cell? ⟨w.heap.size + 1, 1, none⟩ = some u) ∧ W.frozen? ⟨w.heap.size + 1, 0, none⟩ = false ∧ W.frozen? ⟨w.heap.size + 1, 1, none⟩ = false) ∧ Below w.heap.size w W)
    (fun _ _ _ => False)
    (OwnFrom.and (Own.from (fun s A B row hs hg hr => ⟨own_kept hs.1 hg hr, own_kept hs.2.1 hg hr, cell_kept hs.2.2.1 hg hr, cell_kept hs.2.2.2.1 hg hr, by obtain ⟨u, hu⟩ := hs.2.2.2.2.1; exact ⟨u, cell_kept hu hg hr⟩, by obtain ⟨u, hu⟩ := hs.2.2.2.2.2.1; exact ⟨u, cell_kept hu hg hr⟩, by obtain ⟨u, hu⟩ := hs.2.2.2.2.1; exact (frozen_kept hu hg hr).trans hs.2.2.2.2.2.2.1, by obtain ⟨u, hu⟩ := hs.2.2.2.2.2.1; exact (frozen_kept hu hg hr).trans hs.2.2.2.2.2.2.2⟩) _) (ownFrom_below (Nat.le_refl _) (by omega)))
    (fun _ => fun _ _ _ _ hs _ _ => hs)
    ⟨⟨R0, E0, hG0, hG1, F0.e0, F0.e1, F0.fz 0, F0.fz 1⟩, F0.bel⟩ (fun x => { tmps := #[.agg #[.slice pv1 ps.length cv1, .slice pv2 es.length cv2], .pointer (some ⟨w.heap.size, 0, none⟩), .pointer (some ⟨w.heap.size + 1, 0, none⟩), .pointer (some ⟨w1.heap.size, 0, none⟩), undef, pieceV p1 x, .agg #[.slice pv1 ps.length cv1, .slice pv2 es.length cv2], .agg #[.slice p1 ps.length c1, .slice p2 es.length c2], .pointer (some ⟨w1.heap.size, 0, none⟩), .slice p1 ps.length c1, .pointer (some ⟨w1.heap.size, 1, none⟩), .slice p2 es.length c2, .func (.func 48) #[] #[.pointer (some ⟨w1.heap.size + 1 + 1, 0, none⟩), .pointer (some ⟨w1.heap.size + 1, 0, none⟩)], .int .i64 (x.1.1 : Int), pieceV p1 x, undef, undef, undef, undef], defers := [] }) ?assign ?body ?done ?stop
  case hnc =>
    rcases own_form R0 with ⟨h, h0⟩ | ⟨g, c, h, -, -, hn, -⟩
    · rw [h0]; exact Nat.zero_le _
    · simp only [Value.slice.injEq] at h
      rw [h.2.2]
      exact hn
  case hp =>
    intro h0
    rcases own_form R0 with ⟨h, h1⟩ | ⟨g, c, h, -⟩
    · omega
    · simp only [Value.slice.injEq] at h
      exact ⟨_, h.1⟩
  case hb =>
    intro a l c h
    simp only [Value.slice.injEq] at h
    rw [hbs, h.1]
    simp
  case assign =>
    intro l x W K hK
    gi_wp2
    exact hK
  case body =>
    rintro l pre x W ⟨⟨hr, he, g0, g1, ⟨u0, e0⟩, ⟨u1, e1⟩, f0, f1⟩, hB⟩ _
    have hx := x.2
    have hlen := revL_len ps pre
    have hre : revL ps (pre ++ [x]) = revStep (revL ps pre) x := by unfold revL; rw [List.foldl_append]; rfl
    rcases own_form hr with ⟨-, h0⟩ | ⟨g, c, hv, hgl, hgs, hnc, -⟩
    · rw [hlen] at h0; omega
    · simp only [Value.slice.injEq] at hv
      obtain ⟨rfl, -, rfl⟩ := hv
      have hgG : g ≠ w1.heap.size := by have := (hgw _ rfl).1; simp at this; omega
      have hgr : g ≠ w.heap.size + 1 := by omega
      have hgm : g < m := hpm _ rfl
      obtain ⟨⟨nb, b, e⟩, hx1, hx2⟩ := x
      simp only at hx hx1 hx2
      have FIN : ∀ W', PRow W' wc.heap.size (.slice (some ⟨g, 0, none⟩) ps.length c1) (revL ps (pre ++ [⟨(nb, b, e), hx1, hx2⟩])) → OnlyG g W W' → KeepsOthers W W' ∧ KeepB bs W W' ∧ (PRow W' wc.heap.size (.slice (some ⟨g, 0, none⟩) ps.length c1) (revL ps (pre ++ [⟨(nb, b, e), hx1, hx2⟩])) ∧ ERow W' m (.slice p2 es.length c2) es ∧ W'.cell? ⟨w1.heap.size, 0, none⟩ = some (.slice (some ⟨g, 0, none⟩) ps.length c1) ∧ W'.cell? ⟨w1.heap.size, 1, none⟩ = some (.slice p2 es.length c2) ∧ (∃ u, W'.cell? ⟨w.heap.size + 1, 0, none⟩ = some u) ∧ (∃ u, W'.cell? ⟨w.heap.size + 1, 1, none⟩ = some u) ∧ W'.frozen? ⟨w.heap.size + 1, 0, none⟩ = false ∧ W'.frozen? ⟨w.heap.size + 1, 1, none⟩ = false) ∧ Below w.heap.size w W' := fun W' hp hO =>
        ⟨hO.ko, ⟨by rw [hO.size]; exact Nat.le_refl _, fun a ha => hO.cell a (fun e => (hbl a.block ha).2 _ rfl (by simp only; exact e.symm))⟩,
          ⟨hp, hO.row he (fun a l c h => by simp only [Value.slice.injEq] at h; have := heb a h.1; omega), (hO.cell _ (fun e => hgG e.symm)).trans g0, (hO.cell _ (fun e => hgG e.symm)).trans g1, ⟨u0, (hO.cell _ (fun e => hgr e.symm)).trans e0⟩, ⟨u1, (hO.cell _ (fun e => hgr e.symm)).trans e1⟩, (hO.frozen _).trans f0, (hO.frozen _).trans f1⟩,
          hB.trans (hO.bel.mono (by omega))⟩
      have FIN := Lib.hid FIN
      simp only [pieceV, Option.map_some, Addr.add_lit, Nat.zero_add]
      by_cases hone : e - b = 1
      · have hRev := reverse_any W wc.heap.size g ps.length c1 b 0 0 (revL ps pre) hr hlen (by omega) hl1
        rw [revK_zero] at hRev
        have hre2 : revL ps (pre ++ [⟨(nb, b, e), hx1, hx2⟩]) = revL ps pre := by
          rw [hre]
          unfold revStep
          simp only [hone]
          exact revK_zero _ _ _
        have hRev := Lib.hid hRev
        have hre2 := Lib.hid hre2
        rw [hone]
        clear hr he g0 g1 e0 e1 f0 f1 hre
        gi_wp2
        refine ⟨trivial, ?_⟩
        refine (CallsIn.inRound l (callsIn_wide.2 hRev.out)).mono ?_
        rintro e W' ⟨⟨v, rfl⟩, hr', hO⟩
        gi_wp2
        exact FIN.out W' (by rw [hre2.out]; exact hr') hO
      · have hRev := reverse_any W wc.heap.size g ps.length c1 (b + 1) (e - b - 1) (e - b - 1) (revL ps pre) hr hlen (by omega) hl1
        rw [show (b + 1) * 3 = b * 3 + 3 by omega] at hRev
        have hre2 : revL ps (pre ++ [⟨(nb, b, e), hx1, hx2⟩]) = revK (revL ps pre) (b + 1) (e - b - 1) ((e - b - 1) / 2) := hre
        have hRev := Lib.hid hRev
        have hre2 := Lib.hid hre2
        have hL : ∃ L, e - b = L := ⟨_, rfl⟩
        obtain ⟨L, hL⟩ := hL
        have hL1 : 1 < L := by omega
        rw [hL] at hRev hre2 ⊢
        clear hr he g0 g1 e0 e1 f0 f1 hre hone hL
        gi_wp2
        refine ⟨trivial, ?_⟩
        refine (CallsIn.inRound l (callsIn_wide.2 hRev.out)).mono ?_
        rintro e W' ⟨⟨v, rfl⟩, hr', hO⟩
        gi_wp2
        exact FIN.out W' (by rw [hre2.out]; exact hr') hO
  case done =>
    rintro D xs W hD rfl ⟨⟨hr, he, g0, g1, ⟨u0, e0⟩, ⟨u1, e1⟩, f0, f1⟩, hB⟩ hK
    have hr2 : PRow W wc.heap.size (.slice p1 ps.length c1) (revO ps es) := hr
    have hrl : (revO ps es).length = ps.length := revL_len _ _
    generalize revO ps es = rs at *
    clear hr
    have hK' : ((W.setCell ⟨w.heap.size + 1, 0, none⟩ (.slice p1 ps.length c1)).setCell ⟨w.heap.size + 1, 1, none⟩ (.slice p2 es.length c2)).heap[D]? = some (.deferred (some [])) := ((KeepsOthers.setCell W ⟨w.heap.size + 1, 0, none⟩ (.slice p1 ps.length c1)).trans (KeepsOthers.setCell _ ⟨w.heap.size + 1, 1, none⟩ (.slice p2 es.length c2))).same D _ hK rfl
    have hB' : Below w.heap.size w ((W.setCell ⟨w.heap.size + 1, 0, none⟩ (.slice p1 ps.length c1)).setCell ⟨w.heap.size + 1, 1, none⟩ (.slice p2 es.length c2)) := (hB.setCell (p := ⟨w.heap.size + 1, 0, none⟩) (by simp) _).setCell (p := ⟨w.heap.size + 1, 1, none⟩) (by simp) _
    have hgk := grownBy_putObj' ((W.setCell ⟨w.heap.size + 1, 0, none⟩ (.slice p1 ps.length c1)).setCell ⟨w.heap.size + 1, 1, none⟩ (.slice p2 es.length c2)) D (.deferred none)
    have hrow : ∀ r, some D = some r → ∃ o : Obj, ((W.setCell ⟨w.heap.size + 1, 0, none⟩ (.slice p1 ps.length c1)).setCell ⟨w.heap.size + 1, 1, none⟩ (.slice p2 es.length c2)).heap[r]? = some o ∧ o.isCells = false := fun r e => by cases e; exact ⟨_, hK', rfl⟩
    have hc0 := cell_kept (two0 ⟨u0, e0⟩ (.slice p1 ps.length c1) (.slice p2 es.length c2)) hgk hrow
    have hc1 := cell_kept (two1 ⟨u1, e1⟩ (.slice p1 ps.length c1) (.slice p2 es.length c2)) hgk hrow
    have Q : OutR rs es w (.returned (.agg #[.slice p1 ps.length c1, .slice p2 es.length c2])) (((W.setCell ⟨w.heap.size + 1, 0, none⟩ (.slice p1 ps.length c1)).setCell ⟨w.heap.size + 1, 1, none⟩ (.slice p2 es.length c2)).putObj D (.deferred none)) := by
      refine ⟨_, rfl, ⟨m, p1, c1, p2, c2, by rw [hrl], ?_, ?_, by omega, hpm⟩, hB'.trans (belowK_b (w := w) (Nat.le_refl _) _ D _ _ (by omega) hK' rfl rfl)⟩
      · rw [hrl]
        exact own_mono (own_kept (ownsRow_setCell_below (ownsRow_setCell_below hr2 (a := ⟨w.heap.size + 1, 0, none⟩) (by simp; omega) _) (a := ⟨w.heap.size + 1, 1, none⟩) (by simp; omega) _) hgk hrow) (by omega)
      · exact own_kept (ownsRow_setCell_below (ownsRow_setCell_below he (a := ⟨w.heap.size + 1, 0, none⟩) (by simp; omega) _) (a := ⟨w.heap.size + 1, 1, none⟩) (by simp; omega) _) hgk hrow
    have Q := Lib.hid Q
    clear hr2 he hgk hB' hrow
    gi_wp2
    refine ⟨by simp, .inl ⟨_, _, rfl, run_takeDeferred hK', ?_⟩⟩
    refine ⟨.agg #[.slice p1 ps.length c1, .slice p2 es.length c2], ?_, Q.out⟩
    simp [results, Try.results26, go_sem, hc0, hc1]
  case stop =>
    rintro D c pre W _ _ h _
    exact h.elim
end Go.Proofs.Ytenmgbcbnofcmaa
