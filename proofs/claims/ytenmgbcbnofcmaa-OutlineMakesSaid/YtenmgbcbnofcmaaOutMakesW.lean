/- OutlineMakes over plain lists: the walk. -/
import Derived.Test.YtenmgbcbnofcmaaOutTurnsW
import Derived.Test.YtenmgbcbnofcmaaOutRefRev
namespace Go.Proofs.Ytenmgbcbnofcmaa
open Go.RowKit

theorem OAt.refmov {W : World} {x : Value} {ps : List Pn} {es : List Int} (h : OAt W x ps es) (a b : Int) (h1 : ps.length ≤ 100000) (h2 : es.length ≤ 100000) : Calls Try.prog 25 #[x, .int .i64 a, .int .i64 b] W fun e w' => ∃ y, e = .returned y ∧ OAt w' y (movedO a b ps) es ∧ Below W.heap.size W w' := by
  obtain ⟨v1, v2, rfl, a1, a2⟩ := h
  exact refmoved_any v1 v2 ps es a b W a1 a2 h1 h2
theorem OAt.refrev {W : World} {x : Value} {ps : List Pn} {es : List Int} (h : OAt W x ps es) (h1 : ps.length ≤ 100000) (h2 : es.length ≤ 100000) : Calls Try.prog 27 #[x] W fun e w' => ∃ y, e = .returned y ∧ OAt w' y (revO ps es) es ∧ Below W.heap.size W w' := by
  obtain ⟨v1, v2, rfl, a1, a2⟩ := h
  exact refreversed_any v1 v2 ps es W a1 a2 h1 h2
set_option maxRecDepth 100000 in
set_option maxHeartbeats 2000000 in
theorem makes_law (o : Value) (x y : Int) (ps : List Pn) (es : List Int) (w : World) (ho : OAt w o ps es) :
    Calls Try.prog 4 #[o, .int .i64 x, .int .i64 y] w fun e w' => e = .returned (.bool true) ∧ Below w.heap.size w w' := by
  obtain ⟨p1, c1, p2, c2, rfl⟩ := ho.form
  have C1 := (Cs.nil w).box2 (.slice p1 ps.length c1) (.slice p2 es.length c2) 25
  have B1 := balloc w (.cells #[.slice p1 ps.length c1, .slice p2 es.length c2] 25)
  cases hbig : bigO ps es with
  | true =>
    have hB := (ho.on B1).big true hbig
    go_enter Try.func4, Try.ntmps4
    go_wp2_with fail
    refine hB.mono ?_
    rintro e w2 ⟨rfl, hb2⟩
    go_wp2_with fail
    go_ret
    exact ⟨rfl, sames B1 hb2⟩
  | false =>
    have hl1 : ps.length ≤ 1500 := by unfold bigO at hbig; simp at hbig; omega
    have hl2 : es.length ≤ 300 := by unfold bigO at hbig; simp at hbig; omega
    have hB := (ho.on B1).big false hbig
    go_enter Try.func4, Try.ntmps4
    go_wp2_with fail
    refine hB.mono ?_
    rintro e wb ⟨rfl, hb2⟩
    have Bb := sames B1 hb2
    have C2 := C1.next hb2
    have hob := ho.on Bb
    clear C1 hB
    go_wp2_with fail
    have hS0 : Below wb.heap.size wb wb.drew ∧ Cs [(⟨w.heap.size, 0, none⟩, .slice p1 ps.length c1), (⟨w.heap.size, 1, none⟩, .slice p2 es.length c2)] wb.drew := ⟨(Below.refl _ _).drew, C2.next (Below.refl _ _).drew⟩
    refine wp_region_noPanic ?_
    refine wp_region_held_drew (S := fun w' => Below wb.heap.size wb w' ∧ Cs [(⟨w.heap.size, 0, none⟩, .slice p1 ps.length c1), (⟨w.heap.size, 1, none⟩, .slice p2 es.length c2)] w') (by kernel_rfl) hS0 (fun hHeld => ?_)
    have hHeld : Below wb.heap.size wb wb.drew ∧ Cs [(⟨w.heap.size, 0, none⟩, .slice p1 ps.length c1), (⟨w.heap.size, 1, none⟩, .slice p2 es.length c2)] wb.drew := hHeld
    refine wpAnyH_ready (rs := [0]) (by kernel_rfl) (by simp) ?_
    refine AllReadyH.cons (o := _) rfl (fun K hK => ?_) AllReadyH.nil
    go_simp
    refine (drawn_any _).mono ?_
    rintro e v0 ⟨rfl, hc0⟩
    go_wp2_with fail
    have hS1 : Below wb.heap.size wb v0 ∧ Cs [(⟨w.heap.size, 0, none⟩, .slice p1 ps.length c1), (⟨w.heap.size, 1, none⟩, .slice p2 es.length c2)] v0 := ⟨sames hHeld.1 hc0, hHeld.2.next hc0⟩
    refine hK.out _ _ hS1 (fun _ => ?_)
    clear hK K
    try simp only [Act.put, List.getElem_toArray, List.getElem_cons_succ, List.getElem_cons_zero, List.setIfInBounds_toArray, List.set_cons_zero, List.set_cons_succ]
    refine wpAnyH_take (i := 1) (oi := _) (v := .bool true) rfl (by kernel_rfl) (by kernel_rfl) (by kernel_rfl) (fun _ _ _ h => h) (Or.inl ⟨by rfl, fun w' hS => by (go_simp)⟩) hS1 ?_
    try simp only [Act.put, List.getElem_toArray, List.getElem_cons_succ, List.getElem_cons_zero, List.setIfInBounds_toArray, List.set_cons_zero, List.set_cons_succ]
    refine wpAnyH_take (i := 2) (oi := _) (v := .agg #[.slice p1 ps.length c1, .slice p2 es.length c2]) rfl (by kernel_rfl) (by kernel_rfl) (by kernel_rfl) (fun _ _ _ h => h) (Or.inl ⟨by rfl, fun w' hS => by (have s0 := hS.2.get 0 rfl; have s1 := hS.2.get 1 rfl; go_simp)⟩) hS1 ?_
    try simp only [Act.put, List.getElem_toArray, List.getElem_cons_succ, List.getElem_cons_zero, List.setIfInBounds_toArray, List.set_cons_zero, List.set_cons_succ]
    refine wpAnyH_take (i := 3) (oi := _) (v := .int .i64 x) rfl (by kernel_rfl) (by kernel_rfl) (by kernel_rfl) (fun _ _ _ h => h) (Or.inl ⟨by rfl, fun w' hS => by (go_simp)⟩) hS1 ?_
    try simp only [Act.put, List.getElem_toArray, List.getElem_cons_succ, List.getElem_cons_zero, List.setIfInBounds_toArray, List.set_cons_zero, List.set_cons_succ]
    refine wpAnyH_take (i := 4) (oi := _) (v := .int .i64 y) rfl (by kernel_rfl) (by kernel_rfl) (by kernel_rfl) (fun _ _ _ h => h) (Or.inl ⟨by rfl, fun w' hS => by (go_simp)⟩) hS1 ?_
    try simp only [Act.put, List.getElem_toArray, List.getElem_cons_succ, List.getElem_cons_zero, List.setIfInBounds_toArray, List.set_cons_zero, List.set_cons_succ]
    refine wpAnyH_take (i := 6) (oi := _) (v := .agg #[.slice p1 ps.length c1, .slice p2 es.length c2]) rfl (by kernel_rfl) (by kernel_rfl) (by kernel_rfl) (fun _ _ _ h => h) (Or.inl ⟨by rfl, fun w' hS => by (have s0 := hS.2.get 0 rfl; have s1 := hS.2.get 1 rfl; go_simp)⟩) hS1 ?_
    try simp only [Act.put, List.getElem_toArray, List.getElem_cons_succ, List.getElem_cons_zero, List.setIfInBounds_toArray, List.set_cons_zero, List.set_cons_succ]
    refine wpAnyH_take (i := 7) (oi := _) (v := .int .i64 x) rfl (by kernel_rfl) (by kernel_rfl) (by kernel_rfl) (fun _ _ _ h => h) (Or.inl ⟨by rfl, fun w' hS => by (go_simp)⟩) hS1 ?_
    try simp only [Act.put, List.getElem_toArray, List.getElem_cons_succ, List.getElem_cons_zero, List.setIfInBounds_toArray, List.set_cons_zero, List.set_cons_succ]
    refine wpAnyH_take (i := 8) (oi := _) (v := .int .i64 y) rfl (by kernel_rfl) (by kernel_rfl) (by kernel_rfl) (fun _ _ _ h => h) (Or.inl ⟨by rfl, fun w' hS => by (go_simp)⟩) hS1 ?_
    try simp only [Act.put, List.getElem_toArray, List.getElem_cons_succ, List.getElem_cons_zero, List.setIfInBounds_toArray, List.set_cons_zero, List.set_cons_succ]
    refine wpAnyH_ready (rs := [5]) (by kernel_rfl) (by simp) ?_
    refine AllReadyH.cons (o := _) rfl (fun K hK => ?_) AllReadyH.nil
    go_simp
    refine ((hob.on hS1.1).mov x y (by omega) (by omega)).mono ?_
    rintro e v1 ⟨m, rfl, hm, hc1⟩
    go_wp2_with fail
    have hS2 : Below wb.heap.size wb v1 ∧ Cs [(⟨w.heap.size, 0, none⟩, .slice p1 ps.length c1), (⟨w.heap.size, 1, none⟩, .slice p2 es.length c2)] v1 := ⟨sames hS1.1 hc1, hS1.2.next hc1⟩
    refine hK.out _ _ hS2 (fun _ => ?_)
    clear hK K
    try simp only [Act.put, List.getElem_toArray, List.getElem_cons_succ, List.getElem_cons_zero, List.setIfInBounds_toArray, List.set_cons_zero, List.set_cons_succ]
    refine wpAnyH_ready (rs := [9]) (by kernel_rfl) (by simp) ?_
    refine AllReadyH.cons (o := _) rfl (fun K hK => ?_) AllReadyH.nil
    go_simp
    refine ((hob.on hS2.1).refmov x y (by omega) (by omega)).mono ?_
    rintro e v2 ⟨n, rfl, hn, hc2⟩
    go_wp2_with fail
    have hS3 : Below wb.heap.size wb v2 ∧ Cs [(⟨w.heap.size, 0, none⟩, .slice p1 ps.length c1), (⟨w.heap.size, 1, none⟩, .slice p2 es.length c2)] v2 := ⟨sames hS2.1 hc2, hS2.2.next hc2⟩
    refine hK.out _ _ hS3 (fun _ => ?_)
    clear hK K
    try simp only [Act.put, List.getElem_toArray, List.getElem_cons_succ, List.getElem_cons_zero, List.setIfInBounds_toArray, List.set_cons_zero, List.set_cons_succ]
    refine wpAnyH_ready (rs := [10]) (by kernel_rfl) (by simp) ?_
    refine AllReadyH.cons (o := _) rfl (fun K hK => ?_) AllReadyH.nil
    go_simp
    refine (OAt.same (hm.on hc2) hn rfl rfl (by rw [movedO_len]; omega) (by omega)).mono ?_
    rintro e v3 ⟨rfl, hc3⟩
    go_wp2_with fail
    have hS4 : Below wb.heap.size wb v3 ∧ Cs [(⟨w.heap.size, 0, none⟩, .slice p1 ps.length c1), (⟨w.heap.size, 1, none⟩, .slice p2 es.length c2)] v3 := ⟨sames hS3.1 hc3, hS3.2.next hc3⟩
    refine hK.out _ _ hS4 (fun _ => ?_)
    clear hK K
    try simp only [Act.put, List.getElem_toArray, List.getElem_cons_succ, List.getElem_cons_zero, List.setIfInBounds_toArray, List.set_cons_zero, List.set_cons_succ]
    refine wpAnyH_take (i := 11) (oi := _) (v := .bool true) rfl (by kernel_rfl) (by kernel_rfl) (by kernel_rfl) (fun _ _ _ h => h) (Or.inl ⟨by rfl, fun w' hS => by (go_simp)⟩) hS4 ?_
    try simp only [Act.put, List.getElem_toArray, List.getElem_cons_succ, List.getElem_cons_zero, List.setIfInBounds_toArray, List.set_cons_zero, List.set_cons_succ]
    refine wpAnyH_take (i := 12) (oi := _) (v := .bool true) rfl (by kernel_rfl) (by kernel_rfl) (by kernel_rfl) (fun _ _ _ h => h) (Or.inl ⟨by rfl, fun w' hS => by (go_simp)⟩) hS4 ?_
    try simp only [Act.put, List.getElem_toArray, List.getElem_cons_succ, List.getElem_cons_zero, List.setIfInBounds_toArray, List.set_cons_zero, List.set_cons_succ]
    refine wpAnyH_take (i := 13) (oi := _) (v := .agg #[.slice p1 ps.length c1, .slice p2 es.length c2]) rfl (by kernel_rfl) (by kernel_rfl) (by kernel_rfl) (fun _ _ _ h => h) (Or.inl ⟨by rfl, fun w' hS => by (have s0 := hS.2.get 0 rfl; have s1 := hS.2.get 1 rfl; go_simp)⟩) hS4 ?_
    try simp only [Act.put, List.getElem_toArray, List.getElem_cons_succ, List.getElem_cons_zero, List.setIfInBounds_toArray, List.set_cons_zero, List.set_cons_succ]
    refine wpAnyH_take (i := 15) (oi := _) (v := .agg #[.slice p1 ps.length c1, .slice p2 es.length c2]) rfl (by kernel_rfl) (by kernel_rfl) (by kernel_rfl) (fun _ _ _ h => h) (Or.inl ⟨by rfl, fun w' hS => by (have s0 := hS.2.get 0 rfl; have s1 := hS.2.get 1 rfl; go_simp)⟩) hS4 ?_
    try simp only [Act.put, List.getElem_toArray, List.getElem_cons_succ, List.getElem_cons_zero, List.setIfInBounds_toArray, List.set_cons_zero, List.set_cons_succ]
    refine wpAnyH_ready (rs := [14]) (by kernel_rfl) (by simp) ?_
    refine AllReadyH.cons (o := _) rfl (fun K hK => ?_) AllReadyH.nil
    go_simp
    refine ((hob.on hS4.1).rev (by omega) (by omega)).mono ?_
    rintro e v4 ⟨r, rfl, hr, hc4⟩
    go_wp2_with fail
    have hS5 : Below wb.heap.size wb v4 ∧ Cs [(⟨w.heap.size, 0, none⟩, .slice p1 ps.length c1), (⟨w.heap.size, 1, none⟩, .slice p2 es.length c2)] v4 := ⟨sames hS4.1 hc4, hS4.2.next hc4⟩
    refine hK.out _ _ hS5 (fun _ => ?_)
    clear hK K
    try simp only [Act.put, List.getElem_toArray, List.getElem_cons_succ, List.getElem_cons_zero, List.setIfInBounds_toArray, List.set_cons_zero, List.set_cons_succ]
    refine wpAnyH_ready (rs := [16]) (by kernel_rfl) (by simp) ?_
    refine AllReadyH.cons (o := _) rfl (fun K hK => ?_) AllReadyH.nil
    go_simp
    refine ((hob.on hS5.1).refrev (by omega) (by omega)).mono ?_
    rintro e v5 ⟨s, rfl, hs, hc5⟩
    go_wp2_with fail
    have hS6 : Below wb.heap.size wb v5 ∧ Cs [(⟨w.heap.size, 0, none⟩, .slice p1 ps.length c1), (⟨w.heap.size, 1, none⟩, .slice p2 es.length c2)] v5 := ⟨sames hS5.1 hc5, hS5.2.next hc5⟩
    refine hK.out _ _ hS6 (fun _ => ?_)
    clear hK K
    try simp only [Act.put, List.getElem_toArray, List.getElem_cons_succ, List.getElem_cons_zero, List.setIfInBounds_toArray, List.set_cons_zero, List.set_cons_succ]
    refine wpAnyH_ready (rs := [17]) (by kernel_rfl) (by simp) ?_
    refine AllReadyH.cons (o := _) rfl (fun K hK => ?_) AllReadyH.nil
    go_simp
    refine (OAt.same (hr.on hc5) hs rfl rfl (by rw [revO_len]; omega) (by omega)).mono ?_
    rintro e v6 ⟨rfl, hc6⟩
    go_wp2_with fail
    have hS7 : Below wb.heap.size wb v6 ∧ Cs [(⟨w.heap.size, 0, none⟩, .slice p1 ps.length c1), (⟨w.heap.size, 1, none⟩, .slice p2 es.length c2)] v6 := ⟨sames hS6.1 hc6, hS6.2.next hc6⟩
    refine hK.out _ _ hS7 (fun _ => ?_)
    clear hK K
    try simp only [Act.put, List.getElem_toArray, List.getElem_cons_succ, List.getElem_cons_zero, List.setIfInBounds_toArray, List.set_cons_zero, List.set_cons_succ]
    refine wpAnyH_take (i := 18) (oi := _) (v := .bool true) rfl (by kernel_rfl) (by kernel_rfl) (by kernel_rfl) (fun _ _ _ h => h) (Or.inl ⟨by rfl, fun w' hS => by (go_simp)⟩) hS7 ?_
    try simp only [Act.put, List.getElem_toArray, List.getElem_cons_succ, List.getElem_cons_zero, List.setIfInBounds_toArray, List.set_cons_zero, List.set_cons_succ]
    refine wpAnyH_take (i := 19) (oi := _) (v := .bool true) rfl (by kernel_rfl) (by kernel_rfl) (by kernel_rfl) (fun _ _ _ h => h) (Or.inl ⟨by rfl, fun w' hS => by (go_simp)⟩) hS7 ?_
    try simp only [Act.put, List.getElem_toArray, List.getElem_cons_succ, List.getElem_cons_zero, List.setIfInBounds_toArray, List.set_cons_zero, List.set_cons_succ]
    refine wpAnyH_done (by kernel_rfl) ?_ _
    refine NoPanic.normal ?_
    have Q := Lib.hid (sames Bb hS7.1)
    go_wp2_with fail
    go_ret
    exact ⟨rfl, Q.out⟩
end Go.Proofs.Ytenmgbcbnofcmaa
