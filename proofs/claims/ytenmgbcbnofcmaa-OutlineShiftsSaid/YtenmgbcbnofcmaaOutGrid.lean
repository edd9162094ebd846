/- The contract of the laws' grid. -/
import Derived.Test.YtenmgbcbnofcmaaOutRefCopy
import Derived.Test.YtenmgbcbnofcmaaOutBoxP
namespace Go.Proofs.Ytenmgbcbnofcmaa
open Go.RowKit

def gridT (x y : Int) (ps : List Pn) : List (Int × Int) := ps.map fun p => (wrap64 (p.x + x), wrap64 (p.y + y))
def gridB (ps : List Pn) : List Bool := ps.map fun p => p.on
def encB (bs : List Bool) : List Value := bs.map fun b => .bool b
def BRow (W : World) (B : Nat) (v : Value) (bs : List Bool) : Prop := W.ownsRow B 4 1 v bs.length (encB bs)
theorem infoBool : (Try.prog.info? 4).map (fun i => (i.zero, i.size, i.bytes)) = some (some (.bool false), 1, 1) := by kernel_rfl
theorem BRow.at {W : World} {B : Nat} {v : Value} {bs : List Bool} (h : BRow W B v bs) : BsAt W v bs := by
  rcases own_form h with ⟨h1, h2⟩ | ⟨g, c, rfl, -, hg, hn, hc⟩
  · exact .inl ⟨h1, List.length_eq_zero_iff.1 h2⟩
  · refine .inr ⟨_, c, rfl, hg, hn, hc, fun i hi => ?_⟩
    refine World.ownsRow.cells h (g := g) rfl _ _ ?_
    unfold encB
    rw [List.getElem?_map, List.getElem?_eq_getElem hi]
    rfl
theorem TRow.at {W : World} {B : Nat} {v : Value} {ts : List (Int × Int)} (h : TRow W B v ts) : TsAt W v ts := by
  rcases own_form h with ⟨h1, h2⟩ | ⟨g, c, rfl, -, -, -, -⟩
  · exact .inl ⟨h1, List.length_eq_zero_iff.1 h2⟩
  · exact h.cut ts (List.prefix_refl _)
theorem take_map_next {α β : Type} (f : α → β) (l : List α) (k : Nat) (d : α) (h : k < l.length) : (l.take (k + 1)).map f = (l.take k).map f ++ [f (l[k]?.getD d)] := by
  rw [List.take_add_one, List.map_append, List.getElem?_eq_getElem h]
  rfl
set_option maxHeartbeats 4000000 in
theorem grid_any (v1 v2 : Value) (ps : List Pn) (x y : Int) (w : World) (h1 : PtsAt w v1 ps) (h2 : ∃ p n c, v2 = .slice p n c) (hl : ps.length ≤ 100000) :
    Calls Try.prog 31 #[.agg #[v1, v2], .int .i64 x, .int .i64 y] w fun e w' => ∃ u1 u2, e = .returned (.tuple #[u1, u2]) ∧ TsAt w' u1 (gridT x y ps) ∧ BsAt w' u2 (gridB ps) ∧ Below w.heap.size w w' := by
  obtain ⟨i0, hi, hz0, hz1, hz2⟩ := info_parts infoPt
  obtain ⟨j0, hj, hj0, hj1, hj2⟩ := info_parts infoBool
  obtain ⟨p2, n2, c2, rfl⟩ := h2
  obtain ⟨p1, c1, rfl⟩ := h1.len
  have HO := Lib.hid (fun (W : World) (hb : Below w.heap.size w W) i (hi : i < ps.length) => show ∃ a, p1 = some a ∧ W.cell? (a.add (i * 3)) = some (.int .i64 (ps[i]?.getD default).x) ∧ W.cell? ⟨(a.add (i * 3)).block, (a.add (i * 3)).off + 1, none⟩ = some (.int .i64 (ps[i]?.getD default).y) ∧ W.cell? ⟨(a.add (i * 3)).block, (a.add (i * 3)).off + 2, none⟩ = some (.bool (ps[i]?.getD default).on) ∧ a.block < w.heap.size from by
    rcases h1 with ⟨h, hh⟩ | ⟨a, c, h, hg, hlc, hc, hcell⟩
    · rw [hh] at hi; simp at hi
    · simp only [Value.slice.injEq, true_and] at h
      obtain ⟨rfl, rfl⟩ := h
      obtain ⟨q1, q2, q3⟩ := PtsAt.cells_on hcell hg hb i hi
      exact ⟨a, rfl, q1, q2, q3, hg⟩)
  clear h1
  obtain ⟨W, hW⟩ : ∃ W, ((w.alloc (.cells #[.slice p1 ps.length c1, .slice p2 n2 c2] 25)).alloc (.cells #[] 52)).alloc (.cells #[] 4) = W := ⟨_, rfl⟩
  have hB : Below w.heap.size w W := by rw [← hW]; exact balloc3 w _ _ _
  have hsz : W.heap.size = w.heap.size + 1 + 1 + 1 := by rw [← hW]; simp
  have k1 : W.cell? ⟨w.heap.size, 0, none⟩ = some (.slice p1 ps.length c1) := by rw [← hW]; simp [go_sem]
  have hP0 : TRow W (w.heap.size + 1) (.slice (some ⟨w.heap.size + 1, 0, none⟩) 0 0) [] := by
    rw [← hW]
    have h := World.ownsRow_made (base := w.heap.size + 1) (e := 52) (size := 2) (w.alloc (.cells #[.slice p1 ps.length c1, .slice p2 n2 c2] 25)) #[] 0 (by simp) (by unfold maxLen; omega) rfl
    simp only [World.size_alloc] at h
    exact World.ownsRow.alloc h _
  have hE0 : BRow W (w.heap.size + 1) (.slice (some ⟨w.heap.size + 1 + 1, 0, none⟩) 0 0) [] := by
    rw [← hW]
    have h := World.ownsRow_made (base := w.heap.size + 1) (e := 4) (size := 1) ((w.alloc (.cells #[.slice p1 ps.length c1, .slice p2 n2 c2] 25)).alloc (.cells #[] 52)) #[] 0 (by simp) (by unfold maxLen; omega) rfl
    simpa [BRow, encB] using h
  go_enter Try.func31, Try.ntmps31
  go_wp2_with fail
  go_loopw [8, 9, 10] (fun r s i wr => ∃ (k g c g' c' : Nat), k ≤ ps.length ∧ i = .int .i64 k ∧ r = .slice (some ⟨g, 0, none⟩) k c ∧ s = .slice (some ⟨g', 0, none⟩) k c' ∧ TRow wr (w.heap.size + 1) r ((ps.take k).map fun p => (wrap64 (p.x + x), wrap64 (p.y + y))) ∧ BRow wr (w.heap.size + 1) s ((ps.take k).map fun p => p.on) ∧ Below w.heap.size w wr ∧ wr.cell? ⟨w.heap.size, 0, none⟩ = some (.slice p1 ps.length c1) ∧ w.heap.size + 1 ≤ wr.heap.size) (fun _ _ i _ => (ps.length - intOf i).toNat)
  case atStart => exact ⟨0, _, _, _, _, by omega, rfl, rfl, rfl, hP0, hE0, hB, k1, by omega⟩
  case round =>
    clear hP0 hE0 hB k1
    obtain ⟨k, g, c, g', c', hk, rfl, rfl, rfl, hT, hBo, hB, k1, hsw⟩ := hrel
    by_cases hlt : k < ps.length
    · obtain ⟨a, rfl, q1, q2, q3, alt⟩ := HO.out wr hB k hlt
      have nT := take_map_next (fun p : Pn => (wrap64 (p.x + x), wrap64 (p.y + y))) ps k default hlt
      have nB := take_map_next (fun p : Pn => p.on) ps k default hlt
      have lT : ((ps.take k).map fun p : Pn => (wrap64 (p.x + x), wrap64 (p.y + y))).length = k := by rw [List.length_map, List.length_take]; omega
      have lB : ((ps.take k).map fun p : Pn => p.on).length = k := by rw [List.length_map, List.length_take]; omega
      obtain ⟨p, hp⟩ : ∃ p, ps[k]?.getD default = p := ⟨_, rfl⟩
      rw [hp] at q1 q2 q3 nT nB
      have hpk := Lib.hid hp
      clear hp
      obtain ⟨X, Y, on⟩ := p
      simp only at q1 q2 q3 nT nB
      generalize ((ps.take k).map fun p : Pn => (wrap64 (p.x + x), wrap64 (p.y + y))) = TS at *
      generalize ((ps.take k).map fun p : Pn => p.on) = BS at *
      have nT := Lib.hid nT
      have nB := Lib.hid nB
      have hown : wr.ownsRow (w.heap.size + 1) 52 2 (.slice (some ⟨g, 0, none⟩) k c) k (encT TS) := by have h := hT; unfold TRow at h; rwa [lT] at h
      have glt := World.ownsRow.lt hown g rfl
      have glt' := World.ownsRow.lt hBo g' rfl
      have nbl := World.block_lt_of_cell? wr _ q1
      have na : (a.add (k * 3)).block ≠ g := by rw [add_block]; omega
      have hgg : g ≠ g' := fun e => own_type hown hBo (by decide) g rfl (by rw [e]; rfl)
      have nb0 : w.heap.size ≠ g := by omega
      obtain ⟨X1, hX1⟩ : ∃ z, wrap64 (X + x) = z := ⟨_, rfl⟩
      obtain ⟨Y1, hY1⟩ : ∃ z, wrap64 (Y + y) = z := ⟨_, rfl⟩
      have x1 : IntKind.i64.wrap (X + x) = X1 := by rw [← hX1, IntKind.wrap_i64]; unfold wrap64; omega
      have y1 : IntKind.i64.wrap (Y + y) = Y1 := by rw [← hY1, IntKind.wrap_i64]; unfold wrap64; omega
      have nT := nT.out
      rw [hX1, hY1] at nT
      have nT := Lib.hid nT
      clear hX1 hY1
      have bd := ((Below.refl wr.heap.size wr).alloc (Nat.le_refl _) (.cells #[.int .i64 X1, .int .i64 Y1] 52)).drew
      have s1 := (bd.cell (p := ⟨w.heap.size, 0, none⟩) (by simp; omega)).trans k1
      have s2 := (bd.cell (p := a.add (k * 3)) nbl).trans q1
      have s3 := (bd.cell (p := ⟨(a.add (k * 3)).block, (a.add (k * 3)).off + 1, none⟩) nbl).trans q2
      clear bd
      go_wp2_with fail
      go_region_held3 (fun w' => w'.cell? ⟨w.heap.size, 0, none⟩ = some (.slice (some a) ps.length c1) ∧ w'.cell? (a.add (k * 3)) = some (.int .i64 X) ∧ w'.cell? ⟨(a.add (k * 3)).block, (a.add (k * 3)).off + 1, none⟩ = some (.int .i64 Y)) (first | go_keep | exact ⟨(hgrow.cell_far ⟨w.heap.size, 0, none⟩ (by simp; omega) (fun e => nb0 (by simpa [Value.ownBlock] using e))).trans s1, (hgrow.cell_far (a.add (k * 3)) (Nat.lt_of_lt_of_le nbl (by simp)) (fun e => na (by simpa [Value.ownBlock] using e))).trans s2, (hgrow.cell_far ⟨(a.add (k * 3)).block, (a.add (k * 3)).off + 1, none⟩ (Nat.lt_of_lt_of_le nbl (by simp)) (fun e => na (by simpa [Value.ownBlock] using e))).trans s3⟩)
        (first | (refine step_append_lies _ (by rfl) _ _ _ (by rfl) (w.heap.size + 1) 52 i0 _ 2 16 Try.underlying42 hi hz0 hz1 hz2 rfl (by omega) (.slice (some ⟨g, 0, none⟩) k c) k (encT TS) (by rfl) ((hown.alloc _).drew) ⟨wr.heap.size, 0, none⟩ 1 1 [.int .i64 X1, .int .i64 Y1] (by rfl) (by rfl) (World.news_of_block (cs := #[.int .i64 X1, .int .i64 Y1]) (t := 52) (fr := (0, 0)) (heap_alloc_new wr _)) (by simp [Value.oneCell']) (by omega) (by unfold maxLen; omega) (by omega) (by simp; omega) (wr.heap.size + 1) (by simp) ?_; intro gg cap2 w1 hown1 hgrow hat hlt2))
      have hBd : wr.ownsRow (w.heap.size + 1) 4 1 (.slice (some ⟨g', 0, none⟩) k c') k (encB BS) := by have h := hBo; unfold BRow at h; rwa [lB] at h
      have hB1 := own_grown ((World.ownsRow.alloc hBd (.cells #[.int .i64 X1, .int .i64 Y1] 52)).drew) hgrow (fun z hz e => hgg (by simp [Value.ownBlock] at hz e; omega))
      have bw : Below w.heap.size w w1 := ((hB.alloc hB.size _).drew).grown hgrow (by simp; omega) (by intro z hz; simp [Value.ownBlock] at hz; omega)
      have szw := hgrow.size
      simp only [World.size_drew, World.size_alloc] at szw
      have s4 : w1.cell? ⟨(a.add (k * 3)).block, (a.add (k * 3)).off + 2, none⟩ = some (.bool on) := by
        obtain ⟨a', e', -, -, h, -⟩ := HO.out w1 bw k hlt
        rw [hpk.out] at h
        simp only [Option.some.injEq] at e'
        rw [e']
        exact h
      have s5 : w1.cell? ⟨w.heap.size, 0, none⟩ = some (.slice (some a) ps.length c1) := (hgrow.cell_far ⟨w.heap.size, 0, none⟩ (by simp; omega) (fun e => nb0 (by simpa [Value.ownBlock] using e))).trans s1
      have hT1 : TRow w1 (w.heap.size + 1) (.slice (some ⟨gg, 0, none⟩) (k + 1) cap2) (TS ++ [(X1, Y1)]) := TRow.snoc lT hown1
      have hgg1 : gg ≠ g' := fun e => own_type hown1 hB1 (by decide) gg rfl (by rw [e]; rfl)
      clear hgrow hown1 hat s1 s2 s3 q1 q2 q3 k1 hT hBo hBd hown hB
      go_wp2_with (at_builtin; refine wpList_append_lies _ (by rfl) _ _ _ (by rfl) (w.heap.size + 1) 4 j0 _ 1 1 Try.underlying43 hj hj0 hj1 hj2 rfl (by omega) (.slice (some ⟨g', 0, none⟩) k c') k (encB BS) (by rfl) (World.ownsRow.alloc hB1 _) ⟨w1.heap.size, 0, none⟩ 1 1 [.bool on] (by rfl) (by rfl) (World.news_of_block (cs := #[.bool on]) (t := 4) (fr := (0, 0)) (heap_alloc_new w1 _)) (by simp [Value.oneCell']) (by omega) (by unfold maxLen; omega) (by omega) (by simp; omega) (w1.heap.size + 1) (by simp) ?_)
      intro g3 c3 w2 hown2 hgrow2 hat2 hlt3
      have bw2 : Below w.heap.size w w2 := (bw.alloc bw.size _).grown hgrow2 (by simp; omega) (by intro z hz; simp [Value.ownBlock] at hz; omega)
      have hT2 : TRow w2 (w.heap.size + 1) (.slice (some ⟨gg, 0, none⟩) (k + 1) cap2) (TS ++ [(X1, Y1)]) := own_grown (World.ownsRow.alloc hT1 _) hgrow2 (fun z hz e => hgg1 (by simp [Value.ownBlock] at hz e; omega))
      have hB2 : BRow w2 (w.heap.size + 1) (.slice (some ⟨g3, 0, none⟩) (k + 1) c3) (BS ++ [on]) := by
        unfold BRow
        rw [List.length_append, lB]
        simpa [encB] using hown2
      have s6 : w2.cell? ⟨w.heap.size, 0, none⟩ = some (.slice (some a) ps.length c1) := (hgrow2.cell_far ⟨w.heap.size, 0, none⟩ (by simp; omega) (fun e => by simp [Value.ownBlock] at e; omega)).trans (((balloc w1 _).cell (p := ⟨w.heap.size, 0, none⟩) (by simp; omega)).trans s5)
      have sz2 := hgrow2.size
      simp only [World.size_alloc] at sz2
      clear hgrow2 hown2 hT1 hB1
      go_wp2_with fail
      go_roundw
      case rel => exact ⟨k + 1, gg, cap2, g3, c3, by omega, by go_num, rfl, rfl, by rw [nT.out]; exact hT2, by rw [nB.out]; exact hB2, bw2, s6, by omega⟩
      case measure => simp [intOf]; omega
    · obtain rfl : k = ps.length := by omega
      rw [List.take_length] at hT hBo
      have Q := Lib.hid (And.intro (TRow.at hT) (And.intro (BRow.at hBo) hB))
      clear hT hBo hB
      go_wp2_with fail
      refine bodyPost_ret (v := .tuple #[.slice (some ⟨g, 0, none⟩) ps.length c, .slice (some ⟨g', 0, none⟩) ps.length c']) (by simp [results, Try.results31, go_sem]) rfl ⟨_, _, rfl, Q.out.1, Q.out.2.1, Q.out.2.2⟩
end Go.Proofs.Ytenmgbcbnofcmaa
