/- The reference's ring. -/
import Derived.Test.YtenmgbcbnofcmaaOutRefMix
import Derived.Test.YtenmgbcbnofcmaaOutRefCopy
namespace Go.Proofs.Ytenmgbcbnofcmaa
open Go.RowKit

theorem infoStep : (Try.prog.info? 79).map (fun i => (i.zero, i.size, i.bytes)) = some (some (.agg #[.int .i64 0, .int .i64 0, .bool false]), 3, 24) := by kernel_rfl
/-- A row of the reference's steps: cells as those of points. -/
def SRow (W : World) (B : Nat) (v : Value) (ps : List Pn) : Prop := W.ownsRow B 79 3 v ps.length (encs ps)
theorem SRow.snoc {W : World} {B : Nat} {v : Value} {ps : List Pn} {x y : Int} {on : Bool} (h : W.ownsRow B 79 3 v (ps.length + 1) (encs ps ++ [.int .i64 x, .int .i64 y, .bool on])) : SRow W B v (ps ++ [⟨x, y, on⟩]) := by
  unfold SRow
  rw [encs_app, List.length_append]
  exact h
theorem SRow.snoc2 {W : World} {B : Nat} {v : Value} {ps : List Pn} {n : Nat} {x y : Int} {on : Bool} (hn : ps.length = n) (h : W.ownsRow B 79 3 v (n + 1) (encs ps ++ [.int .i64 x, .int .i64 y, .bool on])) : SRow W B v (ps ++ [⟨x, y, on⟩]) := by
  subst hn
  exact SRow.snoc h
/-- A ring from where its row begins. -/
def rotO (qs : List Pn) : List Pn := (List.range (ringL qs qs.length).length).map (atO (ringL qs qs.length) (startN qs))
def rotK (r : List Pn) (s k : Nat) : List Pn := (List.range k).map (atO r s)
theorem rotK_next (r : List Pn) (s k : Nat) : rotK r s (k + 1) = rotK r s k ++ [atO r s k] := by
  unfold rotK
  rw [List.range_succ, List.map_append]
  rfl
set_option maxHeartbeats 4000000 in
set_option maxRecDepth 20000 in
theorem refring_any (v1 v2 : Value) (ts : List (Int × Int)) (bs : List Bool) (w : World) (h1 : TsAt w v1 ts) (h2 : BsAt w v2 bs) (hlen : bs.length = ts.length) (h0 : 0 < ts.length) (hl : ts.length ≤ 100000) :
    Calls Try.prog 53 #[v1, v2] w fun e w' => ∃ r, e = .returned r ∧ SRow w' w.heap.size r (rotO (zipO ts bs)) ∧ Below w.heap.size w w' := by
  obtain ⟨i0, hi, hz0, hz1, hz2⟩ := info_parts infoStep
  obtain ⟨p1, c1, rfl⟩ := h1.len
  obtain ⟨p2, c2, rfl⟩ := h2.len
  rw [hlen]
  obtain ⟨qs, hqs⟩ : ∃ qs, zipO ts bs = qs := ⟨_, rfl⟩
  have hql : qs.length = ts.length := by rw [← hqs, zipO_len]
  have hqg : ∀ i, i < ts.length → qs[i]?.getD default = ⟨(ts[i]?.getD default).1, (ts[i]?.getD default).2, bs[i]?.getD default⟩ := fun i hi => by rw [← hqs]; exact zipO_get _ _ _ hi
  rw [hqs]
  clear hqs
  have HT := Lib.hid (fun (W : World) (hb : Below w.heap.size w W) i (hi : i < ts.length) => show ∃ a, p1 = some a ∧ W.cell? (a.add (i * 2)) = some (.int .i64 (qs[i]?.getD default).x) ∧ W.cell? ⟨(a.add (i * 2)).block, (a.add (i * 2)).off + 1, none⟩ = some (.int .i64 (qs[i]?.getD default).y) ∧ a.block < w.heap.size from by
    rw [hqg i hi]
    rcases h1 with ⟨h, hh⟩ | ⟨a, c, h, hg, hlc, hc, hcell⟩
    · rw [hh] at hi; simp at hi
    · simp only [Value.slice.injEq, true_and] at h
      obtain ⟨rfl, rfl⟩ := h
      exact ⟨a, rfl, (hb.cell (p := a.add (i * 2)) (by rw [add_block]; exact hg)).trans (hcell i hi).1, (hb.cell (p := ⟨(a.add (i * 2)).block, (a.add (i * 2)).off + 1, none⟩) (by rw [add_block]; exact hg)).trans (hcell i hi).2, hg⟩)
  have HBo := Lib.hid (fun (W : World) (hb : Below w.heap.size w W) i (hi : i < ts.length) => show ∃ a, p2 = some a ∧ W.cell? (a.add i) = some (.bool (qs[i]?.getD default).on) ∧ a.block < w.heap.size from by
    rw [hqg i hi]
    rcases h2 with ⟨h, hh⟩ | ⟨a, c, h, hg, hlc, hc, hcell⟩
    · rw [← hlen, hh] at hi; simp at hi
    · simp only [Value.slice.injEq] at h
      obtain ⟨rfl, -, rfl⟩ := h
      exact ⟨a, rfl, (hb.cell (p := a.add i) (by rw [add_block]; exact hg)).trans (hcell i (by rw [hlen]; exact hi)), hg⟩)
  rw [← hql] at HT HBo h0 hl
  have HLn := Lib.hid (And.intro hlen hql)
  rw [← hql]
  clear h1 h2 hqg hlen hql
  have HN := Lib.hid (ringL_len qs)
  have HS := Lib.hid (ringL_succ qs)
  have HK := Lib.hid (fun k => show startK qs (k + 1) = if (qs[k]?.getD default).on = true ∧ startK qs k < 0 then ((ringL qs k).length : Int) else startK qs k from rfl)
  have hrow : SRow (w.alloc (.cells #[] 79)) w.heap.size (.slice (some ⟨w.heap.size, 0, none⟩) 0 0) [] := World.ownsRow_made (base := w.heap.size) (e := 79) (size := 3) w #[] 0 (Nat.le_refl _) (by unfold maxLen; omega) rfl
  go_enter Try.func53, Try.ntmps53
  go_wp2_with fail
  go_loopw [6, 7, 8] (fun r st i wr => ∃ (k g cr : Nat), k ≤ qs.length ∧ i = .int .i64 k ∧ st = .int .i64 (startK qs k) ∧ r = .slice (some ⟨g, 0, none⟩) (ringL qs k).length cr ∧ SRow wr w.heap.size r (ringL qs k) ∧ Below w.heap.size w wr) (fun _ _ i _ => (qs.length - intOf i).toNat)
  case atStart => exact ⟨0, _, _, by omega, rfl, rfl, rfl, hrow, balloc _ _⟩
  case round =>
    clear hrow
    obtain ⟨k, g, cr, hk, rfl, rfl, rfl, hown, hB⟩ := hrel
    by_cases hlt : k < qs.length
    · obtain ⟨J, hJ⟩ : ∃ J, (k + 1) % qs.length = J := ⟨_, rfl⟩
      have hj : J < qs.length := by rw [← hJ]; exact Nat.mod_lt _ (by omega)
      obtain ⟨a, rfl, a1, a2, alt⟩ := HT.out wr hB k hlt
      obtain ⟨b, rfl, b1, blt⟩ := HBo.out wr hB k hlt
      have e1 : IntKind.i64.wrap ((k : Int) + 1) = ((k + 1 : Nat) : Int) := by rw [IntWalk.i64_in _ (by omega)]; rfl
      have hs := HS.out k
      have hst := HK.out k
      have hln := HN.out k
      unfold ringAt at hs
      rw [hJ] at hs
      simp only at hs
      unfold SRow at hown
      generalize ringL qs k = L at *
      generalize startK qs k = st at *
      obtain ⟨p, hpk⟩ : ∃ p, qs[k]?.getD default = p := ⟨_, rfl⟩
      obtain ⟨q, hqk⟩ : ∃ q, qs[J]?.getD default = q := ⟨_, rfl⟩
      rw [hpk, hqk] at hs
      rw [hpk] at a1 a2 b1 hst
      have HPK := Lib.hid (And.intro hpk hqk)
      clear hpk hqk
      have la := World.block_lt_of_cell? wr _ a1
      have lb := World.block_lt_of_cell? wr _ b1
      have glt := World.ownsRow.lt hown g rfl
      have na : (a.add (k * 2)).block ≠ g := by rw [add_block]; omega
      have nb : (b.add k).block ≠ g := by rw [add_block]; omega
      obtain ⟨px, py, po⟩ := p
      obtain ⟨qx, qy, qo⟩ := q
      simp only at a1 a2 b1 hst hs
      have hs := Lib.hid hs
      have hst := Lib.hid hst
      cases po with
      | true =>
        by_cases hst0 : st < 0
        · go_wp2_with fail
          go_region_held3 (fun w' => w'.cell? (a.add (k * 2)) = some (.int .i64 px) ∧ w'.cell? ⟨(a.add (k * 2)).block, (a.add (k * 2)).off + 1, none⟩ = some (.int .i64 py) ∧ w'.cell? (b.add k) = some (.bool true))
            (first | go_keep | (go_split_ands; exact ⟨(hgrow.cell_far (a.add (k * 2)) (Nat.lt_of_lt_of_le la (by simp)) (fun e => na (by simpa [Value.ownBlock] using e))).trans (by assumption), (hgrow.cell_far ⟨(a.add (k * 2)).block, (a.add (k * 2)).off + 1, none⟩ (Nat.lt_of_lt_of_le la (by simp)) (fun e => na (by simpa [Value.ownBlock] using e))).trans (by assumption), (hgrow.cell_far (b.add k) (Nat.lt_of_lt_of_le lb (by simp)) (fun e => nb (by simpa [Value.ownBlock] using e))).trans (by assumption)⟩))
            (first | (refine step_append_lies _ (by rfl) _ _ _ (by rfl) w.heap.size 79 i0 _ 3 24 Try.underlying76 hi hz0 hz1 hz2 rfl (by omega) (.slice (some ⟨g, 0, none⟩) L.length cr) L.length (encs L) (by rfl) ((World.ownsRow.alloc hown _).drew) ⟨wr.heap.size, 0, none⟩ 1 1 [.int .i64 px, .int .i64 py, .bool true] (by rfl) (by rfl) (World.news_of_block (cs := #[.int .i64 px, .int .i64 py, .bool true]) (t := 79) (fr := (0, 0)) (heap_alloc_new wr _)) (by simp [Value.oneCell']) (by omega) (by unfold maxLen; omega) (by omega) (by simp; omega) (wr.heap.size + 1) (by simp) ?_; intro g2 c2 w1 hown1 hgrow hat hlt2))
          have hB1 : Below w.heap.size w w1 := ((hB.alloc hB.size _).drew).grown hgrow (by simp; omega) (by intro z hz; simp [Value.ownBlock] at hz; omega)
          have hrow1 : SRow w1 w.heap.size (.slice (some ⟨g2, 0, none⟩) (L.length + 1) c2) (L ++ [⟨px, py, true⟩]) := SRow.snoc hown1
          have e2 : ((k : Int) + 1) % (qs.length : Int) = (J : Int) := by rw [← hJ]; rfl
          have z0 : (0 : Int) ≤ (J : Int) := by omega
          have z1 : (J : Int) < (qs.length : Int) := by omega
          have z4 : ¬ qs.length = 0 := by omega
          have b1' : w1.cell? (b.add k) = some (.bool true) := by
            obtain ⟨b', e', h, -⟩ := HBo.out w1 hB1 k hlt
            rw [HPK.out.1] at h
            simp only [Option.some.injEq] at e'
            rw [e']
            exact h
          have b2' : w1.cell? (b.add J) = some (.bool qo) := by
            obtain ⟨b', e', h, -⟩ := HBo.out w1 hB1 J hj
            rw [HPK.out.2] at h
            simp only [Option.some.injEq] at e'
            rw [e']
            exact h
          have hst2 := Lib.hid (show startK qs (k + 1) = (L.length : Int) from by rw [hst.out]; exact if_pos ⟨trivial, hst0⟩)
          have hrow : SRow w1 w.heap.size (.slice (some ⟨g2, 0, none⟩) (L.length + 1) c2) (ringL qs (k + 1)) := by
            rw [hs.out]
            simpa using hrow1
          clear hgrow hown1 hown hrow1 hat a1 a2 b1 la lb
          have hrl := Lib.hid (show (ringL qs (k + 1)).length = L.length + 1 from by rw [hs.out]; simp)
          go_wp2_with fail
          go_roundw
          case rel => exact ⟨k + 1, g2, c2, by omega, by go_num, by rw [hst2.out], by rw [hrl.out], hrow, hB1⟩
          case measure => simp [intOf]; omega
        · go_wp2_with fail
          go_region_held3 (fun w' => w'.cell? (a.add (k * 2)) = some (.int .i64 px) ∧ w'.cell? ⟨(a.add (k * 2)).block, (a.add (k * 2)).off + 1, none⟩ = some (.int .i64 py) ∧ w'.cell? (b.add k) = some (.bool true))
            (first | go_keep | (go_split_ands; exact ⟨(hgrow.cell_far (a.add (k * 2)) (Nat.lt_of_lt_of_le la (by simp)) (fun e => na (by simpa [Value.ownBlock] using e))).trans (by assumption), (hgrow.cell_far ⟨(a.add (k * 2)).block, (a.add (k * 2)).off + 1, none⟩ (Nat.lt_of_lt_of_le la (by simp)) (fun e => na (by simpa [Value.ownBlock] using e))).trans (by assumption), (hgrow.cell_far (b.add k) (Nat.lt_of_lt_of_le lb (by simp)) (fun e => nb (by simpa [Value.ownBlock] using e))).trans (by assumption)⟩))
            (first | (refine step_append_lies _ (by rfl) _ _ _ (by rfl) w.heap.size 79 i0 _ 3 24 Try.underlying76 hi hz0 hz1 hz2 rfl (by omega) (.slice (some ⟨g, 0, none⟩) L.length cr) L.length (encs L) (by rfl) ((World.ownsRow.alloc hown _).drew) ⟨wr.heap.size, 0, none⟩ 1 1 [.int .i64 px, .int .i64 py, .bool true] (by rfl) (by rfl) (World.news_of_block (cs := #[.int .i64 px, .int .i64 py, .bool true]) (t := 79) (fr := (0, 0)) (heap_alloc_new wr _)) (by simp [Value.oneCell']) (by omega) (by unfold maxLen; omega) (by omega) (by simp; omega) (wr.heap.size + 1) (by simp) ?_; intro g2 c2 w1 hown1 hgrow hat hlt2))
          have hB1 : Below w.heap.size w w1 := ((hB.alloc hB.size _).drew).grown hgrow (by simp; omega) (by intro z hz; simp [Value.ownBlock] at hz; omega)
          have hrow1 : SRow w1 w.heap.size (.slice (some ⟨g2, 0, none⟩) (L.length + 1) c2) (L ++ [⟨px, py, true⟩]) := SRow.snoc hown1
          have e2 : ((k : Int) + 1) % (qs.length : Int) = (J : Int) := by rw [← hJ]; rfl
          have z0 : (0 : Int) ≤ (J : Int) := by omega
          have z1 : (J : Int) < (qs.length : Int) := by omega
          have z4 : ¬ qs.length = 0 := by omega
          have b1' : w1.cell? (b.add k) = some (.bool true) := by
            obtain ⟨b', e', h, -⟩ := HBo.out w1 hB1 k hlt
            rw [HPK.out.1] at h
            simp only [Option.some.injEq] at e'
            rw [e']
            exact h
          have b2' : w1.cell? (b.add J) = some (.bool qo) := by
            obtain ⟨b', e', h, -⟩ := HBo.out w1 hB1 J hj
            rw [HPK.out.2] at h
            simp only [Option.some.injEq] at e'
            rw [e']
            exact h
          have hst2 := Lib.hid (show startK qs (k + 1) = st from by rw [hst.out]; exact if_neg (fun h => by omega))
          have hrow : SRow w1 w.heap.size (.slice (some ⟨g2, 0, none⟩) (L.length + 1) c2) (ringL qs (k + 1)) := by
            rw [hs.out]
            simpa using hrow1
          clear hgrow hown1 hown hrow1 hat a1 a2 b1 la lb
          have hrl := Lib.hid (show (ringL qs (k + 1)).length = L.length + 1 from by rw [hs.out]; simp)
          go_wp2_with fail
          go_roundw
          case rel => exact ⟨k + 1, g2, c2, by omega, by go_num, by rw [hst2.out], by rw [hrl.out], hrow, hB1⟩
          case measure => simp [intOf]; omega
      | false =>
        cases qo with
        | true =>
          go_wp2_with fail
          go_region_held3 (fun w' => w'.cell? (a.add (k * 2)) = some (.int .i64 px) ∧ w'.cell? ⟨(a.add (k * 2)).block, (a.add (k * 2)).off + 1, none⟩ = some (.int .i64 py) ∧ w'.cell? (b.add k) = some (.bool false))
            (first | go_keep | (go_split_ands; exact ⟨(hgrow.cell_far (a.add (k * 2)) (Nat.lt_of_lt_of_le la (by simp)) (fun e => na (by simpa [Value.ownBlock] using e))).trans (by assumption), (hgrow.cell_far ⟨(a.add (k * 2)).block, (a.add (k * 2)).off + 1, none⟩ (Nat.lt_of_lt_of_le la (by simp)) (fun e => na (by simpa [Value.ownBlock] using e))).trans (by assumption), (hgrow.cell_far (b.add k) (Nat.lt_of_lt_of_le lb (by simp)) (fun e => nb (by simpa [Value.ownBlock] using e))).trans (by assumption)⟩))
            (first | (refine step_append_lies _ (by rfl) _ _ _ (by rfl) w.heap.size 79 i0 _ 3 24 Try.underlying76 hi hz0 hz1 hz2 rfl (by omega) (.slice (some ⟨g, 0, none⟩) L.length cr) L.length (encs L) (by rfl) ((World.ownsRow.alloc hown _).drew) ⟨wr.heap.size, 0, none⟩ 1 1 [.int .i64 px, .int .i64 py, .bool false] (by rfl) (by rfl) (World.news_of_block (cs := #[.int .i64 px, .int .i64 py, .bool false]) (t := 79) (fr := (0, 0)) (heap_alloc_new wr _)) (by simp [Value.oneCell']) (by omega) (by unfold maxLen; omega) (by omega) (by simp; omega) (wr.heap.size + 1) (by simp) ?_; intro g2 c2 w1 hown1 hgrow hat hlt2))
          have hB1 : Below w.heap.size w w1 := ((hB.alloc hB.size _).drew).grown hgrow (by simp; omega) (by intro z hz; simp [Value.ownBlock] at hz; omega)
          have hrow1 : SRow w1 w.heap.size (.slice (some ⟨g2, 0, none⟩) (L.length + 1) c2) (L ++ [⟨px, py, false⟩]) := SRow.snoc hown1
          have e2 : ((k : Int) + 1) % (qs.length : Int) = (J : Int) := by rw [← hJ]; rfl
          have z0 : (0 : Int) ≤ (J : Int) := by omega
          have z1 : (J : Int) < (qs.length : Int) := by omega
          have z4 : ¬ qs.length = 0 := by omega
          have b1' : w1.cell? (b.add k) = some (.bool false) := by
            obtain ⟨b', e', h, -⟩ := HBo.out w1 hB1 k hlt
            rw [HPK.out.1] at h
            simp only [Option.some.injEq] at e'
            rw [e']
            exact h
          have b2' : w1.cell? (b.add J) = some (.bool true) := by
            obtain ⟨b', e', h, -⟩ := HBo.out w1 hB1 J hj
            rw [HPK.out.2] at h
            simp only [Option.some.injEq] at e'
            rw [e']
            exact h
          have hst2 := Lib.hid (show startK qs (k + 1) = st from by rw [hst.out]; exact if_neg (fun h => by simp at h))
          have hrow : SRow w1 w.heap.size (.slice (some ⟨g2, 0, none⟩) (L.length + 1) c2) (ringL qs (k + 1)) := by
            rw [hs.out]
            simpa using hrow1
          clear hgrow hown1 hown hrow1 hat a1 a2 b1 la lb
          have hrl := Lib.hid (show (ringL qs (k + 1)).length = L.length + 1 from by rw [hs.out]; simp)
          go_wp2_with fail
          go_roundw
          case rel => exact ⟨k + 1, g2, c2, by omega, by go_num, by rw [hst2.out], by rw [hrl.out], hrow, hB1⟩
          case measure => simp [intOf]; omega
        | false =>
          go_wp2_with fail
          go_region_held3 (fun w' => w'.cell? (a.add (k * 2)) = some (.int .i64 px) ∧ w'.cell? ⟨(a.add (k * 2)).block, (a.add (k * 2)).off + 1, none⟩ = some (.int .i64 py) ∧ w'.cell? (b.add k) = some (.bool false))
            (first | go_keep | (go_split_ands; exact ⟨(hgrow.cell_far (a.add (k * 2)) (Nat.lt_of_lt_of_le la (by simp)) (fun e => na (by simpa [Value.ownBlock] using e))).trans (by assumption), (hgrow.cell_far ⟨(a.add (k * 2)).block, (a.add (k * 2)).off + 1, none⟩ (Nat.lt_of_lt_of_le la (by simp)) (fun e => na (by simpa [Value.ownBlock] using e))).trans (by assumption), (hgrow.cell_far (b.add k) (Nat.lt_of_lt_of_le lb (by simp)) (fun e => nb (by simpa [Value.ownBlock] using e))).trans (by assumption)⟩))
            (first | (refine step_append_lies _ (by rfl) _ _ _ (by rfl) w.heap.size 79 i0 _ 3 24 Try.underlying76 hi hz0 hz1 hz2 rfl (by omega) (.slice (some ⟨g, 0, none⟩) L.length cr) L.length (encs L) (by rfl) ((World.ownsRow.alloc hown _).drew) ⟨wr.heap.size, 0, none⟩ 1 1 [.int .i64 px, .int .i64 py, .bool false] (by rfl) (by rfl) (World.news_of_block (cs := #[.int .i64 px, .int .i64 py, .bool false]) (t := 79) (fr := (0, 0)) (heap_alloc_new wr _)) (by simp [Value.oneCell']) (by omega) (by unfold maxLen; omega) (by omega) (by simp; omega) (wr.heap.size + 1) (by simp) ?_; intro g2 c2 w1 hown1 hgrow hat hlt2))
          have hB1 : Below w.heap.size w w1 := ((hB.alloc hB.size _).drew).grown hgrow (by simp; omega) (by intro z hz; simp [Value.ownBlock] at hz; omega)
          have hrow1 : SRow w1 w.heap.size (.slice (some ⟨g2, 0, none⟩) (L.length + 1) c2) (L ++ [⟨px, py, false⟩]) := SRow.snoc hown1
          have e2 : ((k : Int) + 1) % (qs.length : Int) = (J : Int) := by rw [← hJ]; rfl
          have z0 : (0 : Int) ≤ (J : Int) := by omega
          have z1 : (J : Int) < (qs.length : Int) := by omega
          have z4 : ¬ qs.length = 0 := by omega
          have b1' : w1.cell? (b.add k) = some (.bool false) := by
            obtain ⟨b', e', h, -⟩ := HBo.out w1 hB1 k hlt
            rw [HPK.out.1] at h
            simp only [Option.some.injEq] at e'
            rw [e']
            exact h
          have b2' : w1.cell? (b.add J) = some (.bool false) := by
            obtain ⟨b', e', h, -⟩ := HBo.out w1 hB1 J hj
            rw [HPK.out.2] at h
            simp only [Option.some.injEq] at e'
            rw [e']
            exact h
          have hst2 := Lib.hid (show startK qs (k + 1) = st from by rw [hst.out]; exact if_neg (fun h => by simp at h))
          obtain ⟨L1, hL1⟩ : ∃ L1, L ++ [⟨px, py, false⟩] = L1 := ⟨_, rfl⟩
          have HL1 := Lib.hid (show L1.length = L.length + 1 from by rw [← hL1]; simp)
          have HE1 := Lib.hid hL1
          rw [hL1] at hrow1
          have hown1 : w1.ownsRow w.heap.size 79 3 (.slice (some ⟨g2, 0, none⟩) (L.length + 1) c2) (L.length + 1) (encs L1) := by
            have h := hrow1
            unfold SRow at h
            rw [HL1.out] at h
            exact h
          have a12 : w1.cell? (a.add (k * 2)) = some (.int .i64 px) ∧ w1.cell? ⟨(a.add (k * 2)).block, (a.add (k * 2)).off + 1, none⟩ = some (.int .i64 py) := by
            obtain ⟨a', e', h1, h2, -⟩ := HT.out w1 hB1 k hlt
            rw [HPK.out.1] at h1 h2
            simp only [Option.some.injEq] at e'
            rw [e']
            exact ⟨h1, h2⟩
          have c12 : w1.cell? (a.add (J * 2)) = some (.int .i64 qx) ∧ w1.cell? ⟨(a.add (J * 2)).block, (a.add (J * 2)).off + 1, none⟩ = some (.int .i64 qy) := by
            obtain ⟨a', e', h1, h2, -⟩ := HT.out w1 hB1 J hj
            rw [HPK.out.2] at h1 h2
            simp only [Option.some.injEq] at e'
            rw [e']
            exact ⟨h1, h2⟩
          obtain ⟨a1', a2'⟩ := a12
          obtain ⟨d1', d2'⟩ := c12
          clear hgrow hown hrow1 hat hL1 a1 a2 b1 la lb
          have glt1 := World.ownsRow.lt hown1 g2 rfl
          have la := World.block_lt_of_cell? w1 _ a1'
          have lj := World.block_lt_of_cell? w1 _ d1'
          have na : (a.add (k * 2)).block ≠ g2 := by rw [add_block]; omega
          have nj : (a.add (J * 2)).block ≠ g2 := by rw [add_block]; omega
          have HXX := Lib.hid (fun W => half_any (wrap64 (px + qx)) W (wrap64_in _).1 (wrap64_in _).2)
          have HYY := Lib.hid (fun W => half_any (wrap64 (py + qy)) W (wrap64_in _).1 (wrap64_in _).2)
          have hM : betweenO ⟨px, py, false⟩ ⟨qx, qy, false⟩ = ⟨wrap64 (px + qx) / 2, wrap64 (py + qy) / 2, true⟩ := rfl
          have eX : IntKind.i64.wrap (px + qx) = wrap64 (px + qx) := by rw [IntKind.wrap_i64]; unfold wrap64; omega
          have eY : IntKind.i64.wrap (py + qy) = wrap64 (py + qy) := by rw [IntKind.wrap_i64]; unfold wrap64; omega
          generalize wrap64 (px + qx) = X at *
          generalize wrap64 (py + qy) = Y at *
          generalize X / 2 = X2 at *
          generalize Y / 2 = Y2 at *
          have hM := Lib.hid hM
          clear hB
          generalize hEN : encs L1 = EN at *
          have hEN := Lib.hid hEN
          go_wp2_with fail
          go_region_held3 (fun w' => w'.cell? (a.add (k * 2)) = some (.int .i64 px) ∧ w'.cell? ⟨(a.add (k * 2)).block, (a.add (k * 2)).off + 1, none⟩ = some (.int .i64 py) ∧ w'.cell? (a.add (J * 2)) = some (.int .i64 qx) ∧ w'.cell? ⟨(a.add (J * 2)).block, (a.add (J * 2)).off + 1, none⟩ = some (.int .i64 qy))
            (first | go_keep | (go_split_ands; exact ⟨(hgrow2.cell_far (a.add (k * 2)) (Nat.lt_of_lt_of_le la (by simp)) (fun e => na (by simpa [Value.ownBlock] using e))).trans (by assumption), (hgrow2.cell_far ⟨(a.add (k * 2)).block, (a.add (k * 2)).off + 1, none⟩ (Nat.lt_of_lt_of_le la (by simp)) (fun e => na (by simpa [Value.ownBlock] using e))).trans (by assumption), (hgrow2.cell_far (a.add (J * 2)) (Nat.lt_of_lt_of_le lj (by simp)) (fun e => nj (by simpa [Value.ownBlock] using e))).trans (by assumption), (hgrow2.cell_far ⟨(a.add (J * 2)).block, (a.add (J * 2)).off + 1, none⟩ (Nat.lt_of_lt_of_le lj (by simp)) (fun e => nj (by simpa [Value.ownBlock] using e))).trans (by assumption)⟩))
            (first | (go_at_call 56; (first | with_reducible refine (HXX.out _).mono ?_ | with_reducible refine (HYY.out _).mono ?_); rintro e w' ⟨rfl, rfl⟩) | (refine step_append_lies _ (by rfl) _ _ _ (by rfl) w.heap.size 79 i0 _ 3 24 Try.underlying76 hi hz0 hz1 hz2 rfl (by omega) (.slice (some ⟨g2, 0, none⟩) (L.length + 1) c2) (L.length + 1) EN (by rfl) ((World.ownsRow.alloc hown1 _).drew) ⟨w1.heap.size, 0, none⟩ 1 1 [.int .i64 X2, .int .i64 Y2, .bool true] (by rfl) (by rfl) (World.news_of_block (cs := #[.int .i64 X2, .int .i64 Y2, .bool true]) (t := 79) (fr := (0, 0)) (heap_alloc_new w1 _)) (by simp [Value.oneCell']) (by omega) (by unfold maxLen; omega) (by omega) (by simp; omega) (w1.heap.size + 1) (by simp) ?_; intro g3 c3 w2 hown2 hgrow2 hat2 hlt3))
          have hB2 : Below w.heap.size w w2 := ((hB1.alloc hB1.size _).drew).grown hgrow2 (by simp; omega) (by intro z hz; simp [Value.ownBlock] at hz; omega)
          have hrl := Lib.hid (show (ringL qs (k + 1)).length = L.length + 1 + 1 from by rw [hs.out]; simp)
          have hrow : SRow w2 w.heap.size (.slice (some ⟨g3, 0, none⟩) (L.length + 1 + 1) c3) (ringL qs (k + 1)) := by
            have h : SRow w2 w.heap.size (.slice (some ⟨g3, 0, none⟩) (L.length + 1 + 1) c3) (L1 ++ [⟨X2, Y2, true⟩]) := SRow.snoc2 HL1.out (by rw [hEN.out]; exact hown2)
            rw [hs.out]
            simp only [Bool.not_false, Bool.and_self, if_true]
            rw [hM.out, ← List.singleton_append, ← List.append_assoc, HE1.out]
            exact h
          clear hgrow2 hown2 hown1 hat2 a1' a2' d1' d2' la lj
          go_wp2_with fail
          go_roundw
          case rel => exact ⟨k + 1, g3, c3, by omega, by go_num, by rw [hst2.out], by rw [hrl.out], hrow, hB2⟩
          case measure => simp [intOf]; omega
    · obtain rfl : k = qs.length := by omega
      obtain ⟨wa, hwa⟩ : ∃ x, x = wr := ⟨_, rfl⟩
      subst hwa
      have hKge := startK_ge qs qs.length
      have hSt := startN_eq qs h0
      have hRg := ringL_ge qs qs.length
      have hln := HN.out qs.length
      have hSl := startN_le qs
      have hfin : rotO qs = rotK (ringL qs qs.length) (startN qs) (ringL qs qs.length).length := rfl
      unfold SRow at hown
      have hcell := World.ownsRow.cells hown (g := g) rfl
      have hgl := World.ownsRow.lt hown g rfl
      clear HN HS HK HT HBo
      generalize ringL qs qs.length = L at *
      generalize startN qs = s at *
      generalize startK qs qs.length = st at *
      have hfin := Lib.hid hfin
      have HR := Lib.hid (rotK_next L s)
      have HR0 : rotK L s 0 = [] := rfl
      have HRL := Lib.hid (show ∀ k, (rotK L s k).length = k from fun k => by simp [rotK])
      obtain ⟨A, hA⟩ : ∃ A, (⟨g, 0, none⟩ : Addr) = A := ⟨_, rfl⟩
      have hAb : A.block < wa.heap.size := by rw [← hA]; exact hgl.2
      rw [hA] at hcell
      rw [hA]
      have hcs : ∀ i, i < L.length → wa.cell? (A.add (i * 3)) = some (.int .i64 (L[i]?.getD default).x) ∧ wa.cell? ⟨(A.add (i * 3)).block, (A.add (i * 3)).off + 1, none⟩ = some (.int .i64 (L[i]?.getD default).y) ∧ wa.cell? ⟨(A.add (i * 3)).block, (A.add (i * 3)).off + 2, none⟩ = some (.bool (L[i]?.getD default).on) := fun J hj => by
        obtain ⟨e1, e2, e3⟩ := encs_get L J hj
        exact ⟨hcell _ _ e1, (by rw [add_more _ _ 0]; exact hcell _ _ e2), (by rw [add_more _ _ 1]; exact hcell _ _ e3)⟩
      have HCL := Lib.hid (fun (W : World) (hb : Below wa.heap.size wa W) => PtsAt.cells_on hcs hAb hb)
      clear hcell hcs hown hA
      have hrow0 : SRow (wa.alloc (.cells #[] 79)) wa.heap.size (.slice (some ⟨wa.heap.size, 0, none⟩) 0 0) [] := World.ownsRow_made (base := wa.heap.size) (e := 79) (size := 3) wa #[] 0 (Nat.le_refl _) (by unfold maxLen; omega) rfl
      by_cases hst0 : st < 0
      · rw [if_pos hst0] at hSt
        have e3 : IntKind.i64.wrap ((L.length : Int) - 1) = (s : Int) := by rw [IntWalk.i64_in _ (by omega)]; omega
        try clear hSt
        have hLp : 0 < L.length := by omega
        clear hKge
        go_wp2_with fail
        go_loopw [10, 11] (fun out i wr => ∃ (k g' c' : Nat), k ≤ L.length ∧ i = .int .i64 k ∧ out = .slice (some ⟨g', 0, none⟩) k c' ∧ SRow wr wa.heap.size out (rotK L s k) ∧ Below wa.heap.size wa wr) (fun _ i _ => (L.length - intOf i).toNat)
        case atStart => exact ⟨0, _, _, by omega, rfl, rfl, by rw [HR0]; exact hrow0, balloc _ _⟩
        case round =>
          clear hrow0
          obtain ⟨k, g', c', hk', rfl, rfl, hown, hB2⟩ := hrel
          unfold SRow at hown
          rw [HRL.out k] at hown
          by_cases hlt : k < L.length
          · obtain ⟨J, hJ⟩ : ∃ J, (s + k) % L.length = J := ⟨_, rfl⟩
            have hj : J < L.length := by rw [← hJ]; exact Nat.mod_lt _ (by omega)
            obtain ⟨a1, a2, a3⟩ := HCL.out wr hB2 J hj
            have hs : rotK L s (k + 1) = rotK L s k ++ [L[J]?.getD default] := by rw [HR.out k]; unfold atO; rw [hJ]
            obtain ⟨p, hp⟩ : ∃ p, L[J]?.getD default = p := ⟨_, rfl⟩
            rw [hp] at a1 a2 a3 hs
            clear hp
            obtain ⟨px, py, po⟩ := p
            simp only at a1 a2 a3
            have hs := Lib.hid hs
            have e1 : IntKind.i64.wrap ((s : Int) + (k : Int)) = (s : Int) + (k : Int) := IntWalk.i64_in _ (by omega)
            have e2 : ((s : Int) + (k : Int)) % (L.length : Int) = (J : Int) := by rw [← hJ]; rfl
            have e4 : IntKind.i64.wrap ((k : Int) + 1) = ((k + 1 : Nat) : Int) := by rw [IntWalk.i64_in _ (by omega)]; rfl
            have z0 : (0 : Int) ≤ (J : Int) := by omega
            have z1 : (J : Int) < (L.length : Int) := by omega
            have z4 : ¬ L.length = 0 := by omega
            have HRL2 := Lib.hid (HRL.out k)
            generalize hEN : encs (rotK L s k) = EN at *
            have hEN := Lib.hid hEN
            go_wp2_with (at_builtin; refine wpList_append_lies _ (by rfl) _ _ _ (by rfl) wa.heap.size 79 i0 _ 3 24 Try.underlying76 hi hz0 hz1 hz2 rfl (by omega) _ _ _ (by rfl) (World.ownsRow.alloc hown _) ⟨wr.heap.size, 0, none⟩ 1 1 [.int .i64 px, .int .i64 py, .bool po] (by rfl) (by rfl) (World.news_of_block (cs := #[.int .i64 px, .int .i64 py, .bool po]) (t := 79) (fr := (0, 0)) (heap_alloc_new _ _)) (by simp [Value.oneCell']) (by omega) (by unfold maxLen; omega) (by omega) (by have := hB2.size; simp; omega) (wr.heap.size + 1) (by simp) ?_)
            intro g2 c2 w1 hown1 hgrow hat hlt2
            have hB3 : Below wa.heap.size wa w1 := (hB2.alloc hB2.size _).grown hgrow (by have := hB2.size; simp; omega) (fun x hx => (World.ownsRow.lt hown x hx).1)
            have hrow : SRow w1 wa.heap.size (.slice (some ⟨g2, 0, none⟩) (k + 1) c2) (rotK L s (k + 1)) := by
              rw [hs.out]
              exact SRow.snoc2 HRL2.out (by rw [hEN.out]; exact hown1)
            clear hgrow hown1 hown hat a1 a2 a3
            go_wp2_with fail
            go_roundw
            case rel => exact ⟨k + 1, g2, c2, by omega, by go_num, rfl, hrow, hB3⟩
            case measure => simp [intOf]; omega
          · obtain rfl : k = L.length := by omega
            go_wp2_with fail
            go_ret
            refine ⟨_, rfl, ?_, hB.trans (hB2.mono hB.size)⟩
            rw [hfin.out]
            unfold SRow
            rw [HRL.out]
            exact own_mono hown hB.size
      · rw [if_neg hst0] at hSt
        obtain rfl := hSt
        try clear hSt
        have hLp : 0 < L.length := by omega
        clear hKge
        go_wp2_with fail
        go_loopw [10, 11] (fun out i wr => ∃ (k g' c' : Nat), k ≤ L.length ∧ i = .int .i64 k ∧ out = .slice (some ⟨g', 0, none⟩) k c' ∧ SRow wr wa.heap.size out (rotK L s k) ∧ Below wa.heap.size wa wr) (fun _ i _ => (L.length - intOf i).toNat)
        case atStart => exact ⟨0, _, _, by omega, rfl, rfl, by rw [HR0]; exact hrow0, balloc _ _⟩
        case round =>
          clear hrow0
          obtain ⟨k, g', c', hk', rfl, rfl, hown, hB2⟩ := hrel
          unfold SRow at hown
          rw [HRL.out k] at hown
          by_cases hlt : k < L.length
          · obtain ⟨J, hJ⟩ : ∃ J, (s + k) % L.length = J := ⟨_, rfl⟩
            have hj : J < L.length := by rw [← hJ]; exact Nat.mod_lt _ (by omega)
            obtain ⟨a1, a2, a3⟩ := HCL.out wr hB2 J hj
            have hs : rotK L s (k + 1) = rotK L s k ++ [L[J]?.getD default] := by rw [HR.out k]; unfold atO; rw [hJ]
            obtain ⟨p, hp⟩ : ∃ p, L[J]?.getD default = p := ⟨_, rfl⟩
            rw [hp] at a1 a2 a3 hs
            clear hp
            obtain ⟨px, py, po⟩ := p
            simp only at a1 a2 a3
            have hs := Lib.hid hs
            have e1 : IntKind.i64.wrap ((s : Int) + (k : Int)) = (s : Int) + (k : Int) := IntWalk.i64_in _ (by omega)
            have e2 : ((s : Int) + (k : Int)) % (L.length : Int) = (J : Int) := by rw [← hJ]; rfl
            have e4 : IntKind.i64.wrap ((k : Int) + 1) = ((k + 1 : Nat) : Int) := by rw [IntWalk.i64_in _ (by omega)]; rfl
            have z0 : (0 : Int) ≤ (J : Int) := by omega
            have z1 : (J : Int) < (L.length : Int) := by omega
            have z4 : ¬ L.length = 0 := by omega
            have HRL2 := Lib.hid (HRL.out k)
            generalize hEN : encs (rotK L s k) = EN at *
            have hEN := Lib.hid hEN
            go_wp2_with (at_builtin; refine wpList_append_lies _ (by rfl) _ _ _ (by rfl) wa.heap.size 79 i0 _ 3 24 Try.underlying76 hi hz0 hz1 hz2 rfl (by omega) _ _ _ (by rfl) (World.ownsRow.alloc hown _) ⟨wr.heap.size, 0, none⟩ 1 1 [.int .i64 px, .int .i64 py, .bool po] (by rfl) (by rfl) (World.news_of_block (cs := #[.int .i64 px, .int .i64 py, .bool po]) (t := 79) (fr := (0, 0)) (heap_alloc_new _ _)) (by simp [Value.oneCell']) (by omega) (by unfold maxLen; omega) (by omega) (by have := hB2.size; simp; omega) (wr.heap.size + 1) (by simp) ?_)
            intro g2 c2 w1 hown1 hgrow hat hlt2
            have hB3 : Below wa.heap.size wa w1 := (hB2.alloc hB2.size _).grown hgrow (by have := hB2.size; simp; omega) (fun x hx => (World.ownsRow.lt hown x hx).1)
            have hrow : SRow w1 wa.heap.size (.slice (some ⟨g2, 0, none⟩) (k + 1) c2) (rotK L s (k + 1)) := by
              rw [hs.out]
              exact SRow.snoc2 HRL2.out (by rw [hEN.out]; exact hown1)
            clear hgrow hown1 hown hat a1 a2 a3
            go_wp2_with fail
            go_roundw
            case rel => exact ⟨k + 1, g2, c2, by omega, by go_num, rfl, hrow, hB3⟩
            case measure => simp [intOf]; omega
          · obtain rfl : k = L.length := by omega
            go_wp2_with fail
            go_ret
            refine ⟨_, rfl, ?_, hB.trans (hB2.mono hB.size)⟩
            rw [hfin.out]
            unfold SRow
            rw [HRL.out]
            exact own_mono hown hB.size
end Go.Proofs.Ytenmgbcbnofcmaa
