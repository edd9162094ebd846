/- The reference's copy of an outline. -/
import Derived.Test.YtenmgbcbnofcmaaOutDrawn
import Derived.Laws.AppendOwnNone
import Derived.Deep.RegionHeld3
namespace Go.Proofs.Ytenmgbcbnofcmaa
open Go.RowKit

theorem grown_refl (W : World) (r : Option Nat) : W.grownBy W r := ⟨rfl, rfl, rfl, Nat.le_refl _, fun _ _ _ => rfl⟩
/-- 'append(s, x...)' to a row of one's own, at a step of a region that draws its order. -/
theorem step_append_src {P : Program} {ops : Array Oper} {o : Oper} {a : Act} {w : World} {K : Act → World → Prop} {Q : Exit → Act → World → Prop} {E : Prop} (hgd : o.guard = none) (s x : Operand) (t : TypeId)
    (ho : o.op = .call { callee := .builtin .append, args := #[s, x], argTypes := #[t, t] })
    (base : Nat) (e : TypeId) (i : TypeInfo) (z : Value) (size bytes : Nat) (ht : P.underlying t = some (.slice e)) (hi : P.info? e = some i) (hz : i.zero = some z)
    (hsize : i.size = size) (hby : i.bytes = bytes) (hzs : z.cells.size = size) (hsz : 0 < size)
    (v : Value) (n : Nat) (xs : List Value) (hs : a.eval s = v) (hown : w.ownsRow base e size v n xs)
    (vx : Value) (m : Nat) (news : List Value) (hx : a.eval x = vx) (hsrc : (vx = .slice none 0 0 ∧ m = 0) ∨ ∃ ad c, vx = .slice (some ad) m c ∧ ∀ j u, news[j]? = some u → w.cell? (ad.add j) = some u) (hl : news.length = m * size) (h1 : ∀ u ∈ news, u.oneCell' = true)
    (h63 : n + m ≤ maxLen) (hbytes : (n + m) * bytes ≤ 140737488355328) (hbase : base ≤ w.heap.size)
    (h : ∀ v' w', w'.ownsRow base e size v' (n + m) (xs ++ news) → w.grownBy w' v.ownBlock → K (a.put o.dst v') w') :
    if Region.wanted o (yielded ops a.tmps) = true then Oper.wp P o a w K Q else E := by
  have hw : Region.wanted o (yielded ops a.tmps) = true := by simp [Region.wanted, hgd]
  rw [if_pos hw]
  rcases hsrc with ⟨rfl, rfl⟩ | ⟨ad, c, rfl, hnews⟩
  · have hrun := run_append_owned_none (P := P) (w := w) base t o.type e i size ht hi v n xs hown
    unfold Oper.wp
    simp [execOp, ho, resolve, invoke, builtin, hs, hx, hrun, Result.andThen]
    refine h v w ?_ (grown_refl _ _)
    obtain rfl : news = [] := List.eq_nil_of_length_eq_zero (by simpa using hl)
    rw [List.append_nil]
    exact hown
  · obtain ⟨v', w', hrun, r1, r2, -⟩ := run_append_own (P := P) w base t o.type e i z size bytes ht hi hz hsize hby hzs hsz v n xs hown ad m c news hl hnews h1 h63 hbytes hbase
    unfold Oper.wp
    simp [execOp, ho, resolve, invoke, builtin, hs, hx, hrun, Result.andThen]
    exact h v' w' r1 r2
theorem own_type {W : World} {B C : Nat} {T U : TypeId} {sz sz' n n' : Nat} {v u : Value} {xs ys : List Value} (h : W.ownsRow B T sz v n xs) (k : W.ownsRow C U sz' u n' ys) (hT : T ≠ U) : ∀ g, v.ownBlock = some g → u.ownBlock ≠ some g := by
  intro g hg e
  rcases h.2 with ⟨rfl, _⟩ | ⟨a, c, cur, rfl, _, hh, _⟩
  · simp [Value.ownBlock] at hg
  · rcases k.2 with ⟨rfl, _⟩ | ⟨a', c', cur', rfl, _, hh', _⟩
    · simp [Value.ownBlock] at e
    · simp only [Value.ownBlock, Option.some.injEq] at hg e
      subst hg
      subst e
      rw [hh] at hh'
      simp only [Option.some.injEq, Obj.cells.injEq] at hh'
      exact hT hh'.2.1
theorem own_grown {W W' : World} {r : Option Nat} {B : Nat} {T : TypeId} {sz n : Nat} {v : Value} {xs : List Value} (h : W.ownsRow B T sz v n xs) (hg : W.grownBy W' r) (hn : ∀ g, v.ownBlock = some g → r ≠ some g) : W'.ownsRow B T sz v n xs := by
  refine World.ownsRow.kept h hg ?_
  rcases h.2 with ⟨rfl, _⟩ | ⟨g, c, cur, rfl, _⟩
  · exact .inl rfl
  · exact .inr (fun e => hn g rfl (by rw [← e]; rfl))
/-- An outline of a call's own. -/
def OwnO (ps : List Pn) (es : List Int) (B : Nat) (W : World) (x : Value) : Prop := ∃ v1 v2, x = .agg #[v1, v2] ∧ PRow W B v1 ps ∧ ERow W B v2 es
theorem OwnO.at {W : World} {x : Value} {B : Nat} {ps : List Pn} {es : List Int} (h : OwnO ps es B W x) : OAt W x ps es := by
  obtain ⟨v1, v2, h1, h2, h3⟩ := h
  exact ⟨_, _, h1, h2.at, h3.at⟩
theorem pts_src {W : World} {v : Value} {ps : List Pn} (h : PtsAt W v ps) : (v = .slice none 0 0 ∧ ps.length = 0) ∨ ∃ ad c, v = .slice (some ad) ps.length c ∧ ∀ j u, (encs ps)[j]? = some u → W.cell? (ad.add j) = some u := by
  rcases h with ⟨h1, rfl⟩ | ⟨a, c, h1, -, -, -, h5⟩
  · exact .inl ⟨h1, rfl⟩
  · exact .inr ⟨a, c, h1, pts_news h5⟩
theorem ends_src {W : World} {v : Value} {es : List Int} (h : EndsAt W v es) : (v = .slice none 0 0 ∧ es.length = 0) ∨ ∃ ad c, v = .slice (some ad) es.length c ∧ ∀ j u, (encI es)[j]? = some u → W.cell? (ad.add j) = some u := by
  rcases h with ⟨h1, rfl⟩ | ⟨a, c, h1, -, -, -, h5⟩
  · exact .inl ⟨h1, rfl⟩
  · exact .inr ⟨a, c, h1, ends_news h5⟩
set_option maxHeartbeats 2000000 in
theorem refcopied_any (v1 v2 : Value) (ps : List Pn) (es : List Int) (w : World) (h1 : PtsAt w v1 ps) (h2 : EndsAt w v2 es) (hl1 : ps.length ≤ 100000) (hl2 : es.length ≤ 100000) :
    Calls Try.prog 41 #[.agg #[v1, v2]] w fun e w' => ∃ x, e = .returned x ∧ OwnO ps es w.heap.size w' x ∧ Below w.heap.size w w' := by
  obtain ⟨i0, hi, hz0, hz1, hz2⟩ := info_parts infoPoint
  obtain ⟨j0, hj, hj0, hj1, hj2⟩ := info_parts infoInt
  obtain ⟨W, hW⟩ : ∃ W, (((w.alloc (.cells #[v1, v2] 25)).alloc (.cells #[.slice none 0 0, .slice none 0 0] 25)).alloc (.cells #[] 33)).alloc (.cells #[] 3) = W := ⟨_, rfl⟩
  have hB : Below w.heap.size w W := by rw [← hW]; exact sames (balloc2 w _ _) (balloc2 _ _ _)
  have hsz : W.heap.size = w.heap.size + 1 + 1 + 1 + 1 := by rw [← hW]; simp
  have k1 : W.cell? ⟨w.heap.size, 0, none⟩ = some v1 := by rw [← hW]; simp [go_sem]
  have k2 : W.cell? ⟨w.heap.size, 1, none⟩ = some v2 := by rw [← hW]; simp [go_sem]
  have r0 : W.cell? ⟨w.heap.size + 1, 0, none⟩ = some (.slice none 0 0) := by rw [← hW]; simp [go_sem]
  have r1 : W.cell? ⟨w.heap.size + 1, 1, none⟩ = some (.slice none 0 0) := by rw [← hW]; simp [go_sem]
  have rf : ∀ o, W.frozen? ⟨w.heap.size + 1, o, none⟩ = false := fun o => by rw [← hW]; simp [go_sem]
  have hP0 : W.ownsRow (w.heap.size + 1 + 1) 33 3 (.slice (some ⟨w.heap.size + 1 + 1, 0, none⟩) 0 0) 0 [] := by
    rw [← hW]
    have h := World.ownsRow_made (base := w.heap.size + 1 + 1) (e := 33) (size := 3) ((w.alloc (.cells #[v1, v2] 25)).alloc (.cells #[.slice none 0 0, .slice none 0 0] 25)) #[] 0 (by simp) (by unfold maxLen; omega) rfl
    simp only [World.size_alloc] at h
    exact World.ownsRow.alloc h _
  have hE0 : W.ownsRow (w.heap.size + 1 + 1) 3 1 (.slice (some ⟨w.heap.size + 1 + 1 + 1, 0, none⟩) 0 0) 0 [] := by
    rw [← hW]
    have h := World.ownsRow_made (base := w.heap.size + 1 + 1) (e := 3) (size := 1) (((w.alloc (.cells #[v1, v2] 25)).alloc (.cells #[.slice none 0 0, .slice none 0 0] 25)).alloc (.cells #[] 33)) #[] 0 (by simp) (by unfold maxLen; omega) rfl
    simpa using h
  have hpW := h1.on hB
  have heW := h2.on hB
  have S0 : Cs [(⟨w.heap.size, 0, none⟩, v1), (⟨w.heap.size, 1, none⟩, v2)] W := ((Cs.nil W).cons k2).cons k1
  have R0 : Cs [(⟨w.heap.size + 1, 0, none⟩, .slice none 0 0), (⟨w.heap.size + 1, 1, none⟩, .slice none 0 0)] W := ((Cs.nil W).cons r1).cons r0
  go_enter Try.func41, Try.ntmps41
  go_wp2_with fail
  refine wp_region_noPanic ?_
  have hS0 : Cs [(⟨w.heap.size, 0, none⟩, v1), (⟨w.heap.size, 1, none⟩, v2)] W.drew := S0.next (Below.refl _ _).drew
  refine wp_region_held_drew (S := fun w' => Cs [(⟨w.heap.size, 0, none⟩, v1), (⟨w.heap.size, 1, none⟩, v2)] w') (by kernel_rfl) hS0 (fun _ => ?_)
  refine wpAnyH_take (i := 0) (oi := _) (v := .slice (some ⟨w.heap.size + 1 + 1, 0, none⟩) 0 0) rfl (by kernel_rfl) (by kernel_rfl) (by kernel_rfl) (fun _ _ _ h => h) (Or.inl ⟨by rfl, fun w' hS => by (go_simp)⟩) hS0 ?_
  try simp only [Act.put, List.getElem_toArray, List.getElem_cons_zero, List.setIfInBounds_toArray, List.set_cons_zero, List.set_cons_succ]
  refine wpAnyH_take (i := 1) (oi := _) (v := .pointer (some ⟨w.heap.size, 0, none⟩)) rfl (by kernel_rfl) (by kernel_rfl) (by kernel_rfl) (fun _ _ _ h => h) (Or.inl ⟨by rfl, fun w' hS => by (go_simp)⟩) hS0 ?_
  try simp only [Act.put, List.getElem_toArray, List.getElem_cons_succ, List.getElem_cons_zero, List.setIfInBounds_toArray, List.set_cons_zero, List.set_cons_succ]
  refine wpAnyH_take (i := 2) (oi := _) (v := v1) rfl (by kernel_rfl) (by kernel_rfl) (by kernel_rfl) (fun _ _ _ h => h) (Or.inl ⟨by rfl, fun w' hS => by (have s0 := hS.get 0 rfl; go_simp)⟩) hS0 ?_
  try simp only [Act.put, List.getElem_toArray, List.getElem_cons_succ, List.getElem_cons_zero, List.setIfInBounds_toArray, List.set_cons_zero, List.set_cons_succ]
  refine wpAnyH_take (i := 4) (oi := _) (v := .slice (some ⟨w.heap.size + 1 + 1 + 1, 0, none⟩) 0 0) rfl (by kernel_rfl) (by kernel_rfl) (by kernel_rfl) (fun _ _ _ h => h) (Or.inl ⟨by rfl, fun w' hS => by (go_simp)⟩) hS0 ?_
  try simp only [Act.put, List.getElem_toArray, List.getElem_cons_succ, List.getElem_cons_zero, List.setIfInBounds_toArray, List.set_cons_zero, List.set_cons_succ]
  refine wpAnyH_take (i := 5) (oi := _) (v := .pointer (some ⟨w.heap.size, 1, none⟩)) rfl (by kernel_rfl) (by kernel_rfl) (by kernel_rfl) (fun _ _ _ h => h) (Or.inl ⟨by rfl, fun w' hS => by (go_simp)⟩) hS0 ?_
  try simp only [Act.put, List.getElem_toArray, List.getElem_cons_succ, List.getElem_cons_zero, List.setIfInBounds_toArray, List.set_cons_zero, List.set_cons_succ]
  refine wpAnyH_take (i := 6) (oi := _) (v := v2) rfl (by kernel_rfl) (by kernel_rfl) (by kernel_rfl) (fun _ _ _ h => h) (Or.inl ⟨by rfl, fun w' hS => by (have s1 := hS.get 1 rfl; go_simp)⟩) hS0 ?_
  try simp only [Act.put, List.getElem_toArray, List.getElem_cons_succ, List.getElem_cons_zero, List.setIfInBounds_toArray, List.set_cons_zero, List.set_cons_succ]
  have hpA := World.ownsRow.drew hP0
  have heA := World.ownsRow.drew hE0
  have psA := hpW.on (Below.refl _ _).drew
  have esA := heW.on (Below.refl _ _).drew
  have szA : W.drew.heap.size = w.heap.size + 1 + 1 + 1 + 1 := hsz
  refine wpAnyH_ready (rs := [3]) (by kernel_rfl) (by simp) ?_
  refine AllReadyH.cons (o := _) rfl (fun K hK => ?_) AllReadyH.nil
  refine step_append_src (by rfl) _ _ 22 (by rfl) (w.heap.size + 1 + 1) 33 i0 _ 3 24 Try.underlying22 hi hz0 hz1 hz2 rfl (by omega) (.slice (some ⟨w.heap.size + 1 + 1, 0, none⟩) 0 0) 0 [] (by rfl) hpA v1 ps.length (encs ps) (by rfl) (pts_src psA) (encs_len ps) (encs_one ps) (by unfold maxLen; omega) (by omega) (by omega) ?_
  intro x1 w1 o1 g1
  have b1 : Below (w.heap.size + 1 + 1) W w1 := (Below.refl _ _).drew.grown g1 (by simp; omega) (by intro x hx; simp [Value.ownBlock] at hx; omega)
  have hS1 : Cs [(⟨w.heap.size, 0, none⟩, v1), (⟨w.heap.size, 1, none⟩, v2)] w1 := fun p hp => (b1.cell (by simp only [List.mem_cons, List.not_mem_nil, or_false] at hp; rcases hp with rfl | rfl <;> (simp; omega))).trans (S0 p hp)
  refine hK.out _ _ hS1 (fun _ => ?_)
  clear hK K
  try simp only [Act.put, List.getElem_toArray, List.getElem_cons_succ, List.getElem_cons_zero, List.setIfInBounds_toArray, List.set_cons_zero, List.set_cons_succ]
  have hpB : w1.ownsRow (w.heap.size + 1 + 1) 33 3 x1 ps.length (encs ps) := by simpa using o1
  have heB := own_grown heA g1 (fun g hg e => by simp [Value.ownBlock] at hg e; omega)
  have bw1 : Below w.heap.size w w1 := hB.trans (b1.mono (by omega))
  have psB := h1.on bw1
  have esB := h2.on bw1
  have szB := b1.size
  refine wpAnyH_ready (rs := [7]) (by kernel_rfl) (by simp) ?_
  refine AllReadyH.cons (o := _) rfl (fun K hK => ?_) AllReadyH.nil
  refine step_append_src (by rfl) _ _ 23 (by rfl) (w.heap.size + 1 + 1) 3 j0 _ 1 8 Try.underlying23 hj hj0 hj1 hj2 rfl (by omega) (.slice (some ⟨w.heap.size + 1 + 1 + 1, 0, none⟩) 0 0) 0 [] (by rfl) heB v2 es.length (encI es) (by rfl) (ends_src esB) (by simp [encI]) (encI_one es) (by unfold maxLen; omega) (by omega) (by omega) ?_
  intro x2 w2 o2 g2
  have b2 : Below (w.heap.size + 1 + 1) W w2 := b1.grown g2 (by omega) (by intro x hx; simp [Value.ownBlock] at hx; omega)
  have hS2 : Cs [(⟨w.heap.size, 0, none⟩, v1), (⟨w.heap.size, 1, none⟩, v2)] w2 := fun p hp => (b2.cell (by simp only [List.mem_cons, List.not_mem_nil, or_false] at hp; rcases hp with rfl | rfl <;> (simp; omega))).trans (S0 p hp)
  refine hK.out _ _ hS2 (fun _ => ?_)
  clear hK K
  try simp only [Act.put, List.getElem_toArray, List.getElem_cons_succ, List.getElem_cons_zero, List.setIfInBounds_toArray, List.set_cons_zero, List.set_cons_succ]
  have heZ : w2.ownsRow (w.heap.size + 1 + 1) 3 1 x2 es.length (encI es) := by simpa using o2
  have hpZ := own_grown hpB g2 (fun g hg => own_type hpB heB (by decide) g hg)
  obtain ⟨p1, n1, rfl⟩ := PRow.slice hpZ
  obtain ⟨p2, n2, rfl⟩ := ERow.slice (es := es) (by unfold ERow; exact heZ)
  refine wpAnyH_take (i := 8) (oi := _) (v := .agg #[(.slice p1 ps.length n1), (.slice p2 es.length n2)]) rfl (by kernel_rfl) (by kernel_rfl) (by kernel_rfl) (fun _ _ _ h => h) (Or.inl ⟨by rfl, fun w' hS => by (go_simp)⟩) hS2 ?_
  try simp only [Act.put, List.getElem_toArray, List.getElem_cons_succ, List.getElem_cons_zero, List.setIfInBounds_toArray, List.set_cons_zero, List.set_cons_succ]
  have z0 : w2.cell? ⟨w.heap.size + 1, 0, none⟩ = some (.slice none 0 0) := (b2.cell (by simp)).trans r0
  have z1 : w2.cell? ⟨w.heap.size + 1, 1, none⟩ = some (.slice none 0 0) := (b2.cell (by simp)).trans r1
  have zf : ∀ o, w2.frozen? ⟨w.heap.size + 1, o, none⟩ = false := fun o => (b2.frozen (by simp)).trans (rf o)
  have f0 := zf 0
  have f1 := zf 1
  refine wpAnyH_ready (rs := [9]) (by kernel_rfl) (by simp) ?_
  refine AllReadyH.cons (o := _) rfl (fun K hK => ?_) AllReadyH.nil
  go_simp
  have hS3 : Cs [(⟨w.heap.size, 0, none⟩, v1), (⟨w.heap.size, 1, none⟩, v2)] ((w2.setCell ⟨w.heap.size + 1, 0, none⟩ (.slice p1 ps.length n1)).setCell ⟨w.heap.size + 1, 1, none⟩ (.slice p2 es.length n2)) := fun p hp => (World.cell?_setCell_far _ _ _ _ (by simp only [List.mem_cons, List.not_mem_nil, or_false] at hp; rcases hp with rfl | rfl <;> simp)).trans ((World.cell?_setCell_far _ _ _ _ (by simp only [List.mem_cons, List.not_mem_nil, or_false] at hp; rcases hp with rfl | rfl <;> simp)).trans (hS2 p hp))
  refine hK.out _ _ hS3 (fun _ => ?_)
  clear hK K
  try simp only [Act.put, List.getElem_toArray, List.getElem_cons_succ, List.getElem_cons_zero, List.setIfInBounds_toArray, List.set_cons_zero, List.set_cons_succ]
  refine wpAnyH_done (by kernel_rfl) ?_ _
  refine NoPanic.normal ?_
  have Q : OwnO ps es w.heap.size ((w2.setCell ⟨w.heap.size + 1, 0, none⟩ (.slice p1 ps.length n1)).setCell ⟨w.heap.size + 1, 1, none⟩ (.slice p2 es.length n2)) (.agg #[(.slice p1 ps.length n1), (.slice p2 es.length n2)]) := ⟨_, _, rfl, own_mono (ownsRow_setCell_below (ownsRow_setCell_below hpZ (by simp) _) (by simp) _) (by omega), own_mono (ownsRow_setCell_below (ownsRow_setCell_below heZ (by simp) _) (by simp) _) (by omega)⟩
  have Qb : Below w.heap.size w ((w2.setCell ⟨w.heap.size + 1, 0, none⟩ (.slice p1 ps.length n1)).setCell ⟨w.heap.size + 1, 1, none⟩ (.slice p2 es.length n2)) := ((hB.trans (b2.mono (by omega))).setCell (by simp) _).setCell (by simp) _
  have Q := Lib.hid (And.intro Q Qb)
  clear hpZ heZ hpB heB psB esB hS3 hS2 hS1 Qb
  go_wp2_with fail
  refine bodyPost_ret (v := .agg #[(.slice p1 ps.length n1), (.slice p2 es.length n2)]) (by simp [results, Try.results41, go_sem, z0, z1]) rfl ⟨_, rfl, Q.out.1, Q.out.2⟩
end Go.Proofs.Ytenmgbcbnofcmaa
