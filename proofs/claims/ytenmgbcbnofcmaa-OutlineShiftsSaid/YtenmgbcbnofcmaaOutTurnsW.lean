/- OutlineTurns over plain lists: the walk. -/
import Derived.Test.YtenmgbcbnofcmaaOutDrawn
import Derived.Test.YtenmgbcbnofcmaaOutTurn
import Derived.Test.YtenmgbcbnofcmaaOutOpen
namespace Go.Proofs.Ytenmgbcbnofcmaa
open Go.RowKit

theorem OAt.rev {W : World} {x : Value} {ps : List Pn} {es : List Int} (h : OAt W x ps es) (h1 : ps.length ≤ 100000) (h2 : es.length ≤ 100000) : Calls Try.prog 26 #[x] W fun e w' => ∃ y, e = .returned y ∧ OAt w' y (revO ps es) es ∧ Below W.heap.size W w' := by
  obtain ⟨v1, v2, rfl, a1, a2⟩ := h
  refine (reversed_any v1 v2 ps es W a1 a2 h1 h2).mono ?_
  rintro e w' ⟨y, rfl, hy, hb⟩
  exact ⟨y, rfl, hy.at, hb⟩
theorem OAt.mov {W : World} {x : Value} {ps : List Pn} {es : List Int} (h : OAt W x ps es) (a b : Int) (h1 : ps.length ≤ 100000) (h2 : es.length ≤ 100000) : Calls Try.prog 24 #[x, .int .i64 a, .int .i64 b] W fun e w' => ∃ y, e = .returned y ∧ OAt w' y (movedO a b ps) es ∧ Below W.heap.size W w' := by
  obtain ⟨v1, v2, rfl, a1, a2⟩ := h
  refine (moved_any v1 v2 ps es a b W a1 a2 h1 h2).mono ?_
  rintro e w' ⟨y, rfl, hy, hb⟩
  exact ⟨y, rfl, hy.at, hb⟩
theorem OAt.area {W : World} {x : Value} {ps : List Pn} {es : List Int} (h : OAt W x ps es) (h1 : ps.length ≤ 100000) (h2 : es.length ≤ 100000) (n : Int) (hn : areaO ps es = n) : Calls Try.prog 21 #[x] W (IntIs n W) := by
  obtain ⟨v1, v2, rfl, a1, a2⟩ := h
  subst hn
  exact area_any v1 v2 ps es W a1 a2 h1 h2
theorem OAt.right {W : World} {x : Value} {ps : List Pn} {es : List Int} (h : OAt W x ps es) (b : Bool) (hb : rightO ps es = b) : Calls Try.prog 19 #[x] W (BoolIs b W) := by
  obtain ⟨v1, v2, rfl, a1, a2⟩ := h
  subst hb
  exact right_any v1 v2 ps es W a1 a2
theorem OAt.same {W : World} {x y : Value} {ps qs : List Pn} {es fs : List Int} (h : OAt W x ps es) (k : OAt W y qs fs) (h1 : ps = qs) (h2 : es = fs) (h3 : ps.length ≤ 100000) (h4 : es.length ≤ 100000) : Calls Try.prog 23 #[x, y] W (BoolIs true W) := by
  obtain ⟨v1, v2, rfl, a1, a2⟩ := h
  obtain ⟨u1, u2, rfl, b1, b2⟩ := k
  have := same_any v1 v2 u1 u2 ps qs es fs W a1 a2 b1 b2 (by omega) (by omega)
  rwa [decide_eq_true ⟨h1, h2⟩] at this
theorem OAt.big {W : World} {x : Value} {ps : List Pn} {es : List Int} (h : OAt W x ps es) (b : Bool) (hb : bigO ps es = b) : Calls Try.prog 12 #[x] W (BoolIs b W) := by
  obtain ⟨v1, v2, rfl, a1, a2⟩ := h
  subst hb
  exact big_any v1 v2 ps es W a1 a2
theorem revO_len (ps : List Pn) (es : List Int) : (revO ps es).length = ps.length := revL_len _ _
theorem movedO_len (x y : Int) (ps : List Pn) : (movedO x y ps).length = ps.length := by simp [movedO]

set_option maxRecDepth 100000 in
set_option maxHeartbeats 600000 in
theorem turns_walk (o : Value) (x y nx ny nA : Int) (ps : List Pn) (es : List Int) (w : World) (ho : OAt w o ps es) (hr1 : revO (revO ps es) es = ps) (hnA : IntKind.i64.wrap (-areaO ps es) = nA) (hnx : IntKind.i64.wrap (-x) = nx) (hny : IntKind.i64.wrap (-y) = ny) (hr2 : areaO (revO ps es) es = nA) (hm1 : movedO nx ny (movedO x y ps) = ps) (hm2 : areaO (movedO x y ps) es = areaO ps es) (hr3 : rightO (revO ps es) es = rightO ps es) :
    Calls Try.prog 6 #[o, .int .i64 x, .int .i64 y] w fun e w' => e = .returned (.bool true) ∧ Below w.heap.size w w' := by
  obtain ⟨p1, c1, p2, c2, rfl⟩ := ho.form
  have C1 := (Cs.nil w).box2 (.slice p1 ps.length c1) (.slice p2 es.length c2) 25
  have B1 := balloc w (.cells #[.slice p1 ps.length c1, .slice p2 es.length c2] 25)
  cases hbig : bigO ps es with
  | true =>
    have hB := (ho.on B1).big true hbig
    go_enter Try.func6, Try.ntmps6
    go_wp2_with fail
    refine hB.mono ?_
    rintro e w2 ⟨rfl, hb2⟩
    go_wp2_with fail
    go_ret
    exact ⟨rfl, sames B1 hb2⟩
  | false =>
    have hl1 : ps.length ≤ 1500 := by unfold bigO at hbig; simp at hbig; omega
    have hl2 : es.length ≤ 300 := by unfold bigO at hbig; simp at hbig; omega
    have hB := (ho.on B1).big false hbig
    go_enter Try.func6, Try.ntmps6
    go_wp2_with fail
    refine hB.mono ?_
    rintro e w2 ⟨rfl, hb2⟩
    have B2 := sames B1 hb2
    have C2 := C1.next hb2
    have k1 := C2.get 0 rfl
    have k2 := C2.get 1 rfl
    have hR := (ho.on B2).rev (by omega) (by omega)
    clear C1 hB
    go_wp2_with fail
    refine hR.mono ?_
    rintro e w3 ⟨r, rfl, hr, hb3⟩
    obtain ⟨q1, d1, q2, d2, rfl⟩ := hr.form
    have B3 := sames B2 hb3
    have C3 := (C2.next hb3).box2 (.slice q1 (revO ps es).length d1) (.slice q2 es.length d2) 25
    have b3' := balloc w3 (.cells #[.slice q1 (revO ps es).length d1, .slice q2 es.length d2] 25)
    have B3' := sames B3 b3'
    clear k1 k2 hR C2
    have k1 := C3.get 2 rfl
    have k2 := C3.get 3 rfl
    have l1 := cell_lt ((C3.get 2 rfl))
    have hM := (ho.on B3').mov x y (by omega) (by omega)
    have z3 := hb3.size
    have z2 := B2.size
    have z1 := hb2.size
    simp only [World.size_alloc] at z1
    go_wp2_with fail
    refine hM.mono ?_
    rintro e w4 ⟨m, rfl, hm, hb4⟩
    obtain ⟨f1, g1, f2, g2, rfl⟩ := hm.form
    have B4 := sames B3' hb4
    have C4 := (C3.next hb4).box2 (.slice f1 (movedO x y ps).length g1) (.slice f2 es.length g2) 25
    have b4' := balloc w4 (.cells #[.slice f1 (movedO x y ps).length g1, .slice f2 es.length g2] 25)
    have hr' := hr.on (sames b3' hb4)
    clear k1 k2 l1 hM C3 hr
    go_wp2_with fail
    rw [revO_len, movedO_len] at *
    obtain ⟨wb, hwb⟩ : ∃ wb, w4.alloc (.cells #[.slice f1 ps.length g1, .slice f2 es.length g2] 25) = wb := ⟨_, rfl⟩
    rw [hwb] at C4 b4' ⊢
    have Bb := sames B4 b4'
    have hrb := hr'.on b4'
    have hmb := hm.on b4'
    have hob := ho.on Bb
    clear hr' hm hwb
    obtain ⟨A, hA⟩ : ∃ A, areaO ps es = A := ⟨_, rfl⟩
    rw [hA] at hnA
    have hS0 : Below wb.heap.size wb wb.drew ∧ Cs [(⟨w4.heap.size, 0, none⟩, .slice f1 ps.length g1), (⟨w4.heap.size, 1, none⟩, .slice f2 es.length g2), (⟨w3.heap.size, 0, none⟩, .slice q1 ps.length d1), (⟨w3.heap.size, 1, none⟩, .slice q2 es.length d2), (⟨w.heap.size, 0, none⟩, .slice p1 ps.length c1), (⟨w.heap.size, 1, none⟩, .slice p2 es.length c2)] wb.drew := ⟨(Below.refl _ _).drew, C4.next (Below.refl _ _).drew⟩
    refine wp_region_noPanic ?_
    refine wp_region_held_drew (S := fun w' => Below wb.heap.size wb w' ∧ Cs [(⟨w4.heap.size, 0, none⟩, .slice f1 ps.length g1), (⟨w4.heap.size, 1, none⟩, .slice f2 es.length g2), (⟨w3.heap.size, 0, none⟩, .slice q1 ps.length d1), (⟨w3.heap.size, 1, none⟩, .slice q2 es.length d2), (⟨w.heap.size, 0, none⟩, .slice p1 ps.length c1), (⟨w.heap.size, 1, none⟩, .slice p2 es.length c2)] w') (by kernel_rfl) hS0 (fun hHeld => ?_)
    have hHeld : Below wb.heap.size wb wb.drew ∧ Cs [(⟨w4.heap.size, 0, none⟩, .slice f1 ps.length g1), (⟨w4.heap.size, 1, none⟩, .slice f2 es.length g2), (⟨w3.heap.size, 0, none⟩, .slice q1 ps.length d1), (⟨w3.heap.size, 1, none⟩, .slice q2 es.length d2), (⟨w.heap.size, 0, none⟩, .slice p1 ps.length c1), (⟨w.heap.size, 1, none⟩, .slice p2 es.length c2)] wb.drew := hHeld
    refine wpAnyH_take (i := 0) (oi := _) (v := .agg #[.slice q1 ps.length d1, .slice q2 es.length d2]) rfl (by kernel_rfl) (by kernel_rfl) (by kernel_rfl) (fun _ _ _ h => h) (Or.inl ⟨by rfl, fun w' hS => by (have s2 := hS.2.get 2 rfl; have s3 := hS.2.get 3 rfl; go_simp)⟩) hHeld ?_
    try simp only [Act.put, List.getElem_toArray, List.getElem_cons_zero, List.setIfInBounds_toArray, List.set_cons_zero, List.set_cons_succ]
    refine wpAnyH_take (i := 2) (oi := _) (v := .agg #[.slice p1 ps.length c1, .slice p2 es.length c2]) rfl (by kernel_rfl) (by kernel_rfl) (by kernel_rfl) (fun _ _ _ h => h) (Or.inl ⟨by rfl, fun w' hS => by (have s4 := hS.2.get 4 rfl; have s5 := hS.2.get 5 rfl; go_simp)⟩) hHeld ?_
    try simp only [Act.put, List.getElem_toArray, List.getElem_cons_succ, List.getElem_cons_zero, List.setIfInBounds_toArray, List.set_cons_zero, List.set_cons_succ]
    refine wpAnyH_ready (rs := [1]) (by kernel_rfl) (by simp) ?_
    refine AllReadyH.cons (o := _) rfl (fun K hK => ?_) AllReadyH.nil
    go_simp
    refine ((hrb.on hHeld.1).rev (by rw [revO_len]; omega) (by omega)).mono ?_
    rintro e v1 ⟨s, rfl, hs, hb1⟩
    go_wp2_with fail
    have hS1 : Below wb.heap.size wb v1 ∧ Cs [(⟨w4.heap.size, 0, none⟩, .slice f1 ps.length g1), (⟨w4.heap.size, 1, none⟩, .slice f2 es.length g2), (⟨w3.heap.size, 0, none⟩, .slice q1 ps.length d1), (⟨w3.heap.size, 1, none⟩, .slice q2 es.length d2), (⟨w.heap.size, 0, none⟩, .slice p1 ps.length c1), (⟨w.heap.size, 1, none⟩, .slice p2 es.length c2)] v1 := ⟨sames hHeld.1 hb1, hHeld.2.next hb1⟩
    refine hK.out _ _ hS1 (fun _ => ?_)
    clear hK K
    rw [hr1] at hs
    try simp only [Act.put, List.getElem_toArray, List.getElem_cons_succ, List.getElem_cons_zero, List.setIfInBounds_toArray, List.set_cons_zero, List.set_cons_succ]
    refine wpAnyH_ready (rs := [3]) (by kernel_rfl) (by simp) ?_
    refine AllReadyH.cons (o := _) rfl (fun K hK => ?_) AllReadyH.nil
    go_simp
    refine (OAt.same hs (hob.on hS1.1) rfl rfl (by omega) (by omega)).mono ?_
    rintro e v2 ⟨rfl, hb2'⟩
    go_wp2_with fail
    have hS2 : Below wb.heap.size wb v2 ∧ Cs [(⟨w4.heap.size, 0, none⟩, .slice f1 ps.length g1), (⟨w4.heap.size, 1, none⟩, .slice f2 es.length g2), (⟨w3.heap.size, 0, none⟩, .slice q1 ps.length d1), (⟨w3.heap.size, 1, none⟩, .slice q2 es.length d2), (⟨w.heap.size, 0, none⟩, .slice p1 ps.length c1), (⟨w.heap.size, 1, none⟩, .slice p2 es.length c2)] v2 := ⟨sames hS1.1 hb2', hS1.2.next hb2'⟩
    refine hK.out _ _ hS2 (fun _ => ?_)
    clear hK K
    try simp only [Act.put, List.getElem_toArray, List.getElem_cons_succ, List.getElem_cons_zero, List.setIfInBounds_toArray, List.set_cons_zero, List.set_cons_succ]
    refine wpAnyH_take (i := 4) (oi := _) (v := .bool false) rfl (by kernel_rfl) (by kernel_rfl) (by kernel_rfl) (fun _ _ _ h => h) (Or.inl ⟨by rfl, fun w' hS => by (go_simp)⟩) hS2 ?_
    try simp only [Act.put, List.getElem_toArray, List.getElem_cons_succ, List.getElem_cons_zero, List.setIfInBounds_toArray, List.set_cons_zero, List.set_cons_succ]
    refine wpAnyH_take (i := 5) (oi := _) (v := .bool false) rfl (by kernel_rfl) (by kernel_rfl) (by kernel_rfl) (fun _ _ _ h => h) (Or.inl ⟨by rfl, fun w' hS => by (go_simp)⟩) hS2 ?_
    try simp only [Act.put, List.getElem_toArray, List.getElem_cons_succ, List.getElem_cons_zero, List.setIfInBounds_toArray, List.set_cons_zero, List.set_cons_succ]
    refine wpAnyH_take (i := 6) (oi := _) (v := .agg #[.slice q1 ps.length d1, .slice q2 es.length d2]) rfl (by kernel_rfl) (by kernel_rfl) (by kernel_rfl) (fun _ _ _ h => h) (Or.inl ⟨by rfl, fun w' hS => by (have s2 := hS.2.get 2 rfl; have s3 := hS.2.get 3 rfl; go_simp)⟩) hS2 ?_
    try simp only [Act.put, List.getElem_toArray, List.getElem_cons_succ, List.getElem_cons_zero, List.setIfInBounds_toArray, List.set_cons_zero, List.set_cons_succ]
    refine wpAnyH_take (i := 8) (oi := _) (v := .agg #[.slice p1 ps.length c1, .slice p2 es.length c2]) rfl (by kernel_rfl) (by kernel_rfl) (by kernel_rfl) (fun _ _ _ h => h) (Or.inl ⟨by rfl, fun w' hS => by (have s4 := hS.2.get 4 rfl; have s5 := hS.2.get 5 rfl; go_simp)⟩) hS2 ?_
    try simp only [Act.put, List.getElem_toArray, List.getElem_cons_succ, List.getElem_cons_zero, List.setIfInBounds_toArray, List.set_cons_zero, List.set_cons_succ]
    refine wpAnyH_ready (rs := [7]) (by kernel_rfl) (by simp) ?_
    refine AllReadyH.cons (o := _) rfl (fun K hK => ?_) AllReadyH.nil
    go_simp
    refine (OAt.area (hrb.on hS2.1) (by rw [revO_len]; omega) (by omega) nA hr2).mono ?_
    rintro e v3 ⟨rfl, hb3'⟩
    go_wp2_with fail
    have hS3 : Below wb.heap.size wb v3 ∧ Cs [(⟨w4.heap.size, 0, none⟩, .slice f1 ps.length g1), (⟨w4.heap.size, 1, none⟩, .slice f2 es.length g2), (⟨w3.heap.size, 0, none⟩, .slice q1 ps.length d1), (⟨w3.heap.size, 1, none⟩, .slice q2 es.length d2), (⟨w.heap.size, 0, none⟩, .slice p1 ps.length c1), (⟨w.heap.size, 1, none⟩, .slice p2 es.length c2)] v3 := ⟨sames hS2.1 hb3', hS2.2.next hb3'⟩
    refine hK.out _ _ hS3 (fun _ => ?_)
    clear hK K
    try simp only [Act.put, List.getElem_toArray, List.getElem_cons_succ, List.getElem_cons_zero, List.setIfInBounds_toArray, List.set_cons_zero, List.set_cons_succ]
    refine wpAnyH_ready (rs := [9]) (by kernel_rfl) (by simp) ?_
    refine AllReadyH.cons (o := _) rfl (fun K hK => ?_) AllReadyH.nil
    go_simp
    refine (OAt.area (hob.on hS3.1) (by omega) (by omega) A hA).mono ?_
    rintro e v4 ⟨rfl, hb4'⟩
    go_wp2_with fail
    have hS4 : Below wb.heap.size wb v4 ∧ Cs [(⟨w4.heap.size, 0, none⟩, .slice f1 ps.length g1), (⟨w4.heap.size, 1, none⟩, .slice f2 es.length g2), (⟨w3.heap.size, 0, none⟩, .slice q1 ps.length d1), (⟨w3.heap.size, 1, none⟩, .slice q2 es.length d2), (⟨w.heap.size, 0, none⟩, .slice p1 ps.length c1), (⟨w.heap.size, 1, none⟩, .slice p2 es.length c2)] v4 := ⟨sames hS3.1 hb4', hS3.2.next hb4'⟩
    refine hK.out _ _ hS4 (fun _ => ?_)
    clear hK K
    try simp only [Act.put, List.getElem_toArray, List.getElem_cons_succ, List.getElem_cons_zero, List.setIfInBounds_toArray, List.set_cons_zero, List.set_cons_succ]
    refine wpAnyH_take (i := 10) (oi := _) (v := .int .i64 nA) rfl (by kernel_rfl) (by kernel_rfl) (by kernel_rfl) (fun _ _ _ h => h) (Or.inl ⟨by rfl, fun w' hS => by (go_simp)⟩) hS4 ?_
    try simp only [Act.put, List.getElem_toArray, List.getElem_cons_succ, List.getElem_cons_zero, List.setIfInBounds_toArray, List.set_cons_zero, List.set_cons_succ]
    refine wpAnyH_take (i := 11) (oi := _) (v := .bool false) rfl (by kernel_rfl) (by kernel_rfl) (by kernel_rfl) (fun _ _ _ h => h) (Or.inl ⟨by rfl, fun w' hS => by (go_simp)⟩) hS4 ?_
    try simp only [Act.put, List.getElem_toArray, List.getElem_cons_succ, List.getElem_cons_zero, List.setIfInBounds_toArray, List.set_cons_zero, List.set_cons_succ]
    refine wpAnyH_take (i := 12) (oi := _) (v := .bool false) rfl (by kernel_rfl) (by kernel_rfl) (by kernel_rfl) (fun _ _ _ h => h) (Or.inl ⟨by rfl, fun w' hS => by (go_simp)⟩) hS4 ?_
    try simp only [Act.put, List.getElem_toArray, List.getElem_cons_succ, List.getElem_cons_zero, List.setIfInBounds_toArray, List.set_cons_zero, List.set_cons_succ]
    refine wpAnyH_take (i := 13) (oi := _) (v := .bool false) rfl (by kernel_rfl) (by kernel_rfl) (by kernel_rfl) (fun _ _ _ h => h) (Or.inl ⟨by rfl, fun w' hS => by (go_simp)⟩) hS4 ?_
    try simp only [Act.put, List.getElem_toArray, List.getElem_cons_succ, List.getElem_cons_zero, List.setIfInBounds_toArray, List.set_cons_zero, List.set_cons_succ]
    refine wpAnyH_take (i := 14) (oi := _) (v := .agg #[.slice f1 ps.length g1, .slice f2 es.length g2]) rfl (by kernel_rfl) (by kernel_rfl) (by kernel_rfl) (fun _ _ _ h => h) (Or.inl ⟨by rfl, fun w' hS => by (have s0 := hS.2.get 0 rfl; have s1 := hS.2.get 1 rfl; go_simp)⟩) hS4 ?_
    try simp only [Act.put, List.getElem_toArray, List.getElem_cons_succ, List.getElem_cons_zero, List.setIfInBounds_toArray, List.set_cons_zero, List.set_cons_succ]
    refine wpAnyH_take (i := 15) (oi := _) (v := .int .i64 x) rfl (by kernel_rfl) (by kernel_rfl) (by kernel_rfl) (fun _ _ _ h => h) (Or.inl ⟨by rfl, fun w' hS => by (go_simp)⟩) hS4 ?_
    try simp only [Act.put, List.getElem_toArray, List.getElem_cons_succ, List.getElem_cons_zero, List.setIfInBounds_toArray, List.set_cons_zero, List.set_cons_succ]
    refine wpAnyH_take (i := 16) (oi := _) (v := .int .i64 nx) rfl (by kernel_rfl) (by kernel_rfl) (by kernel_rfl) (fun _ _ _ h => h) (Or.inl ⟨by rfl, fun w' hS => by (go_simp)⟩) hS4 ?_
    try simp only [Act.put, List.getElem_toArray, List.getElem_cons_succ, List.getElem_cons_zero, List.setIfInBounds_toArray, List.set_cons_zero, List.set_cons_succ]
    refine wpAnyH_take (i := 17) (oi := _) (v := .int .i64 y) rfl (by kernel_rfl) (by kernel_rfl) (by kernel_rfl) (fun _ _ _ h => h) (Or.inl ⟨by rfl, fun w' hS => by (go_simp)⟩) hS4 ?_
    try simp only [Act.put, List.getElem_toArray, List.getElem_cons_succ, List.getElem_cons_zero, List.setIfInBounds_toArray, List.set_cons_zero, List.set_cons_succ]
    refine wpAnyH_take (i := 18) (oi := _) (v := .int .i64 ny) rfl (by kernel_rfl) (by kernel_rfl) (by kernel_rfl) (fun _ _ _ h => h) (Or.inl ⟨by rfl, fun w' hS => by (go_simp)⟩) hS4 ?_
    try simp only [Act.put, List.getElem_toArray, List.getElem_cons_succ, List.getElem_cons_zero, List.setIfInBounds_toArray, List.set_cons_zero, List.set_cons_succ]
    refine wpAnyH_take (i := 20) (oi := _) (v := .agg #[.slice p1 ps.length c1, .slice p2 es.length c2]) rfl (by kernel_rfl) (by kernel_rfl) (by kernel_rfl) (fun _ _ _ h => h) (Or.inl ⟨by rfl, fun w' hS => by (have s4 := hS.2.get 4 rfl; have s5 := hS.2.get 5 rfl; go_simp)⟩) hS4 ?_
    try simp only [Act.put, List.getElem_toArray, List.getElem_cons_succ, List.getElem_cons_zero, List.setIfInBounds_toArray, List.set_cons_zero, List.set_cons_succ]
    refine wpAnyH_ready (rs := [19]) (by kernel_rfl) (by simp) ?_
    refine AllReadyH.cons (o := _) rfl (fun K hK => ?_) AllReadyH.nil
    go_simp
    refine (OAt.mov (hmb.on hS4.1) nx ny (by rw [movedO_len]; omega) (by omega)).mono ?_
    rintro e v5 ⟨t, rfl, ht, hb5⟩
    go_wp2_with fail
    have hS5 : Below wb.heap.size wb v5 ∧ Cs [(⟨w4.heap.size, 0, none⟩, .slice f1 ps.length g1), (⟨w4.heap.size, 1, none⟩, .slice f2 es.length g2), (⟨w3.heap.size, 0, none⟩, .slice q1 ps.length d1), (⟨w3.heap.size, 1, none⟩, .slice q2 es.length d2), (⟨w.heap.size, 0, none⟩, .slice p1 ps.length c1), (⟨w.heap.size, 1, none⟩, .slice p2 es.length c2)] v5 := ⟨sames hS4.1 hb5, hS4.2.next hb5⟩
    refine hK.out _ _ hS5 (fun _ => ?_)
    clear hK K
    rw [hm1] at ht
    try simp only [Act.put, List.getElem_toArray, List.getElem_cons_succ, List.getElem_cons_zero, List.setIfInBounds_toArray, List.set_cons_zero, List.set_cons_succ]
    refine wpAnyH_ready (rs := [21]) (by kernel_rfl) (by simp) ?_
    refine AllReadyH.cons (o := _) rfl (fun K hK => ?_) AllReadyH.nil
    go_simp
    refine (OAt.same ht (hob.on hS5.1) rfl rfl (by omega) (by omega)).mono ?_
    rintro e v6 ⟨rfl, hb6⟩
    go_wp2_with fail
    have hS6 : Below wb.heap.size wb v6 ∧ Cs [(⟨w4.heap.size, 0, none⟩, .slice f1 ps.length g1), (⟨w4.heap.size, 1, none⟩, .slice f2 es.length g2), (⟨w3.heap.size, 0, none⟩, .slice q1 ps.length d1), (⟨w3.heap.size, 1, none⟩, .slice q2 es.length d2), (⟨w.heap.size, 0, none⟩, .slice p1 ps.length c1), (⟨w.heap.size, 1, none⟩, .slice p2 es.length c2)] v6 := ⟨sames hS5.1 hb6, hS5.2.next hb6⟩
    refine hK.out _ _ hS6 (fun _ => ?_)
    clear hK K
    try simp only [Act.put, List.getElem_toArray, List.getElem_cons_succ, List.getElem_cons_zero, List.setIfInBounds_toArray, List.set_cons_zero, List.set_cons_succ]
    refine wpAnyH_take (i := 22) (oi := _) (v := .bool false) rfl (by kernel_rfl) (by kernel_rfl) (by kernel_rfl) (fun _ _ _ h => h) (Or.inl ⟨by rfl, fun w' hS => by (go_simp)⟩) hS6 ?_
    try simp only [Act.put, List.getElem_toArray, List.getElem_cons_succ, List.getElem_cons_zero, List.setIfInBounds_toArray, List.set_cons_zero, List.set_cons_succ]
    refine wpAnyH_take (i := 23) (oi := _) (v := .bool false) rfl (by kernel_rfl) (by kernel_rfl) (by kernel_rfl) (fun _ _ _ h => h) (Or.inl ⟨by rfl, fun w' hS => by (go_simp)⟩) hS6 ?_
    try simp only [Act.put, List.getElem_toArray, List.getElem_cons_succ, List.getElem_cons_zero, List.setIfInBounds_toArray, List.set_cons_zero, List.set_cons_succ]
    refine wpAnyH_done (by kernel_rfl) ?_ _
    refine NoPanic.normal ?_
    go_wp2_with fail
    obtain ⟨b, hb⟩ : ∃ b, rightO ps es = b := ⟨_, rfl⟩
    have hT0 : Below wb.heap.size wb v6.drew ∧ Cs [(⟨w4.heap.size, 0, none⟩, .slice f1 ps.length g1), (⟨w4.heap.size, 1, none⟩, .slice f2 es.length g2), (⟨w3.heap.size, 0, none⟩, .slice q1 ps.length d1), (⟨w3.heap.size, 1, none⟩, .slice q2 es.length d2), (⟨w.heap.size, 0, none⟩, .slice p1 ps.length c1), (⟨w.heap.size, 1, none⟩, .slice p2 es.length c2)] v6.drew := ⟨hS6.1.drew, hS6.2.next (Below.refl _ _).drew⟩
    refine wp_region_noPanic ?_
    refine wp_region_held_drew (S := fun w' => Below wb.heap.size wb w' ∧ Cs [(⟨w4.heap.size, 0, none⟩, .slice f1 ps.length g1), (⟨w4.heap.size, 1, none⟩, .slice f2 es.length g2), (⟨w3.heap.size, 0, none⟩, .slice q1 ps.length d1), (⟨w3.heap.size, 1, none⟩, .slice q2 es.length d2), (⟨w.heap.size, 0, none⟩, .slice p1 ps.length c1), (⟨w.heap.size, 1, none⟩, .slice p2 es.length c2)] w') (by kernel_rfl) hT0 (fun hHeld => ?_)
    have hHeld : Below wb.heap.size wb v6.drew ∧ Cs [(⟨w4.heap.size, 0, none⟩, .slice f1 ps.length g1), (⟨w4.heap.size, 1, none⟩, .slice f2 es.length g2), (⟨w3.heap.size, 0, none⟩, .slice q1 ps.length d1), (⟨w3.heap.size, 1, none⟩, .slice q2 es.length d2), (⟨w.heap.size, 0, none⟩, .slice p1 ps.length c1), (⟨w.heap.size, 1, none⟩, .slice p2 es.length c2)] v6.drew := hHeld
    refine wpAnyH_ready (rs := [0]) (by kernel_rfl) (by simp) ?_
    refine AllReadyH.cons (o := _) rfl (fun K hK => ?_) AllReadyH.nil
    go_simp
    refine (drawn_any _).mono ?_
    rintro e u1 ⟨rfl, hc1⟩
    go_wp2_with fail
    have hS1 : Below wb.heap.size wb u1 ∧ Cs [(⟨w4.heap.size, 0, none⟩, .slice f1 ps.length g1), (⟨w4.heap.size, 1, none⟩, .slice f2 es.length g2), (⟨w3.heap.size, 0, none⟩, .slice q1 ps.length d1), (⟨w3.heap.size, 1, none⟩, .slice q2 es.length d2), (⟨w.heap.size, 0, none⟩, .slice p1 ps.length c1), (⟨w.heap.size, 1, none⟩, .slice p2 es.length c2)] u1 := ⟨sames hHeld.1 hc1, hHeld.2.next hc1⟩
    refine hK.out _ _ hS1 (fun _ => ?_)
    clear hK K
    try simp only [Act.put, List.getElem_toArray, List.getElem_cons_succ, List.getElem_cons_zero, List.setIfInBounds_toArray, List.set_cons_zero, List.set_cons_succ]
    refine wpAnyH_take (i := 1) (oi := _) (v := .bool true) rfl (by kernel_rfl) (by kernel_rfl) (by kernel_rfl) (fun _ _ _ h => h) (Or.inl ⟨by rfl, fun w' hS => by (go_simp)⟩) hS1 ?_
    try simp only [Act.put, List.getElem_toArray, List.getElem_cons_succ, List.getElem_cons_zero, List.setIfInBounds_toArray, List.set_cons_zero, List.set_cons_succ]
    refine wpAnyH_take (i := 2) (oi := _) (v := .agg #[.slice f1 ps.length g1, .slice f2 es.length g2]) rfl (by kernel_rfl) (by kernel_rfl) (by kernel_rfl) (fun _ _ _ h => h) (Or.inl ⟨by rfl, fun w' hS => by (have s0 := hS.2.get 0 rfl; have s1 := hS.2.get 1 rfl; go_simp)⟩) hS1 ?_
    try simp only [Act.put, List.getElem_toArray, List.getElem_cons_succ, List.getElem_cons_zero, List.setIfInBounds_toArray, List.set_cons_zero, List.set_cons_succ]
    refine wpAnyH_take (i := 4) (oi := _) (v := .agg #[.slice p1 ps.length c1, .slice p2 es.length c2]) rfl (by kernel_rfl) (by kernel_rfl) (by kernel_rfl) (fun _ _ _ h => h) (Or.inl ⟨by rfl, fun w' hS => by (have s4 := hS.2.get 4 rfl; have s5 := hS.2.get 5 rfl; go_simp)⟩) hS1 ?_
    try simp only [Act.put, List.getElem_toArray, List.getElem_cons_succ, List.getElem_cons_zero, List.setIfInBounds_toArray, List.set_cons_zero, List.set_cons_succ]
    refine wpAnyH_ready (rs := [3]) (by kernel_rfl) (by simp) ?_
    refine AllReadyH.cons (o := _) rfl (fun K hK => ?_) AllReadyH.nil
    go_simp
    refine (OAt.area (hmb.on hS1.1) (by rw [movedO_len]; omega) (by omega) A (hm2.trans hA)).mono ?_
    rintro e u2 ⟨rfl, hc2⟩
    go_wp2_with fail
    have hS2 : Below wb.heap.size wb u2 ∧ Cs [(⟨w4.heap.size, 0, none⟩, .slice f1 ps.length g1), (⟨w4.heap.size, 1, none⟩, .slice f2 es.length g2), (⟨w3.heap.size, 0, none⟩, .slice q1 ps.length d1), (⟨w3.heap.size, 1, none⟩, .slice q2 es.length d2), (⟨w.heap.size, 0, none⟩, .slice p1 ps.length c1), (⟨w.heap.size, 1, none⟩, .slice p2 es.length c2)] u2 := ⟨sames hS1.1 hc2, hS1.2.next hc2⟩
    refine hK.out _ _ hS2 (fun _ => ?_)
    clear hK K
    try simp only [Act.put, List.getElem_toArray, List.getElem_cons_succ, List.getElem_cons_zero, List.setIfInBounds_toArray, List.set_cons_zero, List.set_cons_succ]
    refine wpAnyH_ready (rs := [5]) (by kernel_rfl) (by simp) ?_
    refine AllReadyH.cons (o := _) rfl (fun K hK => ?_) AllReadyH.nil
    go_simp
    refine (OAt.area (hob.on hS2.1) (by omega) (by omega) A hA).mono ?_
    rintro e u3 ⟨rfl, hc3⟩
    go_wp2_with fail
    have hS3 : Below wb.heap.size wb u3 ∧ Cs [(⟨w4.heap.size, 0, none⟩, .slice f1 ps.length g1), (⟨w4.heap.size, 1, none⟩, .slice f2 es.length g2), (⟨w3.heap.size, 0, none⟩, .slice q1 ps.length d1), (⟨w3.heap.size, 1, none⟩, .slice q2 es.length d2), (⟨w.heap.size, 0, none⟩, .slice p1 ps.length c1), (⟨w.heap.size, 1, none⟩, .slice p2 es.length c2)] u3 := ⟨sames hS2.1 hc3, hS2.2.next hc3⟩
    refine hK.out _ _ hS3 (fun _ => ?_)
    clear hK K
    try simp only [Act.put, List.getElem_toArray, List.getElem_cons_succ, List.getElem_cons_zero, List.setIfInBounds_toArray, List.set_cons_zero, List.set_cons_succ]
    refine wpAnyH_take (i := 6) (oi := _) (v := .bool true) rfl (by kernel_rfl) (by kernel_rfl) (by kernel_rfl) (fun _ _ _ h => h) (Or.inl ⟨by rfl, fun w' hS => by (go_simp)⟩) hS3 ?_
    try simp only [Act.put, List.getElem_toArray, List.getElem_cons_succ, List.getElem_cons_zero, List.setIfInBounds_toArray, List.set_cons_zero, List.set_cons_succ]
    refine wpAnyH_take (i := 7) (oi := _) (v := .bool true) rfl (by kernel_rfl) (by kernel_rfl) (by kernel_rfl) (fun _ _ _ h => h) (Or.inl ⟨by rfl, fun w' hS => by (go_simp)⟩) hS3 ?_
    try simp only [Act.put, List.getElem_toArray, List.getElem_cons_succ, List.getElem_cons_zero, List.setIfInBounds_toArray, List.set_cons_zero, List.set_cons_succ]
    refine wpAnyH_take (i := 8) (oi := _) (v := .bool true) rfl (by kernel_rfl) (by kernel_rfl) (by kernel_rfl) (fun _ _ _ h => h) (Or.inl ⟨by rfl, fun w' hS => by (go_simp)⟩) hS3 ?_
    try simp only [Act.put, List.getElem_toArray, List.getElem_cons_succ, List.getElem_cons_zero, List.setIfInBounds_toArray, List.set_cons_zero, List.set_cons_succ]
    refine wpAnyH_take (i := 9) (oi := _) (v := .agg #[.slice q1 ps.length d1, .slice q2 es.length d2]) rfl (by kernel_rfl) (by kernel_rfl) (by kernel_rfl) (fun _ _ _ h => h) (Or.inl ⟨by rfl, fun w' hS => by (have s2 := hS.2.get 2 rfl; have s3 := hS.2.get 3 rfl; go_simp)⟩) hS3 ?_
    try simp only [Act.put, List.getElem_toArray, List.getElem_cons_succ, List.getElem_cons_zero, List.setIfInBounds_toArray, List.set_cons_zero, List.set_cons_succ]
    refine wpAnyH_take (i := 11) (oi := _) (v := .agg #[.slice p1 ps.length c1, .slice p2 es.length c2]) rfl (by kernel_rfl) (by kernel_rfl) (by kernel_rfl) (fun _ _ _ h => h) (Or.inl ⟨by rfl, fun w' hS => by (have s4 := hS.2.get 4 rfl; have s5 := hS.2.get 5 rfl; go_simp)⟩) hS3 ?_
    try simp only [Act.put, List.getElem_toArray, List.getElem_cons_succ, List.getElem_cons_zero, List.setIfInBounds_toArray, List.set_cons_zero, List.set_cons_succ]
    refine wpAnyH_ready (rs := [10]) (by kernel_rfl) (by simp) ?_
    refine AllReadyH.cons (o := _) rfl (fun K hK => ?_) AllReadyH.nil
    go_simp
    refine (OAt.right (hrb.on hS3.1) b (hr3.trans hb)).mono ?_
    rintro e u4 ⟨rfl, hc4⟩
    go_wp2_with fail
    have hS4 : Below wb.heap.size wb u4 ∧ Cs [(⟨w4.heap.size, 0, none⟩, .slice f1 ps.length g1), (⟨w4.heap.size, 1, none⟩, .slice f2 es.length g2), (⟨w3.heap.size, 0, none⟩, .slice q1 ps.length d1), (⟨w3.heap.size, 1, none⟩, .slice q2 es.length d2), (⟨w.heap.size, 0, none⟩, .slice p1 ps.length c1), (⟨w.heap.size, 1, none⟩, .slice p2 es.length c2)] u4 := ⟨sames hS3.1 hc4, hS3.2.next hc4⟩
    refine hK.out _ _ hS4 (fun _ => ?_)
    clear hK K
    try simp only [Act.put, List.getElem_toArray, List.getElem_cons_succ, List.getElem_cons_zero, List.setIfInBounds_toArray, List.set_cons_zero, List.set_cons_succ]
    refine wpAnyH_ready (rs := [12]) (by kernel_rfl) (by simp) ?_
    refine AllReadyH.cons (o := _) rfl (fun K hK => ?_) AllReadyH.nil
    go_simp
    refine (OAt.right (hob.on hS4.1) b hb).mono ?_
    rintro e u5 ⟨rfl, hc5⟩
    go_wp2_with fail
    have hS5 : Below wb.heap.size wb u5 ∧ Cs [(⟨w4.heap.size, 0, none⟩, .slice f1 ps.length g1), (⟨w4.heap.size, 1, none⟩, .slice f2 es.length g2), (⟨w3.heap.size, 0, none⟩, .slice q1 ps.length d1), (⟨w3.heap.size, 1, none⟩, .slice q2 es.length d2), (⟨w.heap.size, 0, none⟩, .slice p1 ps.length c1), (⟨w.heap.size, 1, none⟩, .slice p2 es.length c2)] u5 := ⟨sames hS4.1 hc5, hS4.2.next hc5⟩
    refine hK.out _ _ hS5 (fun _ => ?_)
    clear hK K
    try simp only [Act.put, List.getElem_toArray, List.getElem_cons_succ, List.getElem_cons_zero, List.setIfInBounds_toArray, List.set_cons_zero, List.set_cons_succ]
    refine wpAnyH_take (i := 13) (oi := _) (v := .bool true) rfl (by kernel_rfl) (by kernel_rfl) (by kernel_rfl) (fun _ _ _ h => h) (Or.inl ⟨by rfl, fun w' hS => by (go_simp)⟩) hS5 ?_
    try simp only [Act.put, List.getElem_toArray, List.getElem_cons_succ, List.getElem_cons_zero, List.setIfInBounds_toArray, List.set_cons_zero, List.set_cons_succ]
    refine wpAnyH_take (i := 14) (oi := _) (v := .bool true) rfl (by kernel_rfl) (by kernel_rfl) (by kernel_rfl) (fun _ _ _ h => h) (Or.inl ⟨by rfl, fun w' hS => by (go_simp)⟩) hS5 ?_
    try simp only [Act.put, List.getElem_toArray, List.getElem_cons_succ, List.getElem_cons_zero, List.setIfInBounds_toArray, List.set_cons_zero, List.set_cons_succ]
    refine wpAnyH_take (i := 15) (oi := _) (v := .bool true) rfl (by kernel_rfl) (by kernel_rfl) (by kernel_rfl) (fun _ _ _ h => h) (Or.inl ⟨by rfl, fun w' hS => by (go_simp)⟩) hS5 ?_
    try simp only [Act.put, List.getElem_toArray, List.getElem_cons_succ, List.getElem_cons_zero, List.setIfInBounds_toArray, List.set_cons_zero, List.set_cons_succ]
    refine wpAnyH_done (by kernel_rfl) ?_ _
    refine NoPanic.normal ?_
    have Q := Lib.hid (sames Bb hS5.1)
    go_wp2_with fail
    go_ret
    exact ⟨rfl, Q.out⟩
theorem wrap_is (n : Int) : IntKind.i64.wrap n = wrap64 n := by rw [IntKind.wrap_i64]; unfold wrap64; omega
theorem turns_law (o : Value) (x y : Int) (ps : List Pn) (es : List Int) (w : World) (ho : OAt w o ps es) (hk : OutOk ps es) :
    Calls Try.prog 6 #[o, .int .i64 x, .int .i64 y] w fun e w' => e = .returned (.bool true) ∧ Below w.heap.size w w' :=
  turns_walk o x y _ _ _ ps es w ho (rev_twice ps es) rfl rfl rfl ((area_turned ps es).trans (wrap_is _).symm) (moved_back x y _ _ (wrap_is _).symm (wrap_is _).symm ps (fun p hp => hk.1 p hp)) (area_moved x y ps es) (rev_right ps es)
end Go.Proofs.Ytenmgbcbnofcmaa
