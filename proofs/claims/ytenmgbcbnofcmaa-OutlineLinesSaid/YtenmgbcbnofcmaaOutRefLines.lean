/- The contract of the reference's Lines. -/
import Derived.Test.YtenmgbcbnofcmaaOutRefLinesP
namespace Go.Proofs.Ytenmgbcbnofcmaa
open Go.RowKit

theorem TsAt.cutL {W : World} {a : Addr} {n c : Nat} {ts : List (Int × Int)} (h : TsAt W (.slice (some a) n c) ts) (x : Nat × Nat) (hx : x.1 < x.2) (hn : x.2 ≤ ts.length) : TsAt W (.slice (some (a.add (x.1 * 2))) (x.2 - x.1) (c - x.1)) (cutL x ts) := by
  have hl := cutL_len x ts hn
  rcases h with ⟨h, -⟩ | ⟨a', c', h, h2, h3, h4, h5⟩
  · simp at h
  · simp only [Value.slice.injEq, Option.some.injEq] at h
    obtain ⟨rfl, -, rfl⟩ := h
    refine .inr ⟨_, _, by rw [hl], by rw [add_block]; exact h2, by omega, by unfold maxLen at *; omega, fun i hi => ?_⟩
    rw [cutL_get x ts i (by omega)]
    have e : (a.add (x.1 * 2)).add (i * 2) = a.add ((x.1 + i) * 2) := by rw [Addr.add_add, ← Nat.add_mul]
    rw [e]
    exact h5 _ (by omega)
theorem BsAt.cutL {W : World} {a : Addr} {n c : Nat} {bs : List Bool} (h : BsAt W (.slice (some a) n c) bs) (x : Nat × Nat) (hx : x.1 < x.2) (hn : x.2 ≤ bs.length) : BsAt W (.slice (some (a.add x.1)) (x.2 - x.1) (c - x.1)) (cutL x bs) := by
  have hl := cutL_len x bs hn
  rcases h with ⟨h, -⟩ | ⟨a', c', h, h2, h3, h4, h5⟩
  · simp at h
  · simp only [Value.slice.injEq, Option.some.injEq] at h
    obtain ⟨rfl, -, rfl⟩ := h
    refine .inr ⟨_, _, by rw [hl], by rw [add_block]; exact h2, by omega, by unfold maxLen at *; omega, fun i hi => ?_⟩
    rw [cutL_get x bs i (by omega), Addr.add_add]
    exact h5 _ (by omega)
set_option maxHeartbeats 4000000 in
theorem reflines_any (v1 v2 v3 : Value) (ts : List (Int × Int)) (bs : List Bool) (es : List Int) (w : World) (h1 : TsAt w v1 ts) (h2 : BsAt w v2 bs) (h3 : EndsAt w v3 es) (hl1 : ts.length ≤ 100000) (hl2 : es.length ≤ 100000) :
    Calls Try.prog 30 #[v1, v2, v3] w fun e w' => ∃ v, e = .returned v ∧ RRow w' w.heap.size v (reflinesR ts bs es) ∧ Below w.heap.size w w' := by
  have hrow0 : RRow (w.alloc (.cells #[] 42)) w.heap.size (.slice (some ⟨w.heap.size, 0, none⟩) 0 0) [] := ⟨[], World.ownsRow_made (base := w.heap.size) (e := 42) (size := 1) w #[] 0 (Nat.le_refl _) (by unfold maxLen; omega) rfl, rfl, fun i hi => by simp at hi⟩
  by_cases hlen : bs.length = ts.length
  · obtain ⟨j0, hj, hj0, hj1, hj2⟩ := info_parts infoPts
    have hR : reflinesR ts bs es = (cutsP ts.length 0 0 es).map (rowP ts bs) := by unfold reflinesR; rw [if_pos hlen]
    rw [hR]
    clear hR
    have hcu := cuts_any v3 es ts.length (w.alloc (.cells #[] 42)) (h3.on (balloc _ _)) hl1 hl2
    have hcm := cutsP_mem ts.length 0 0 es
    have hcl := cutsP_len ts.length 0 0 es
    generalize cutsP ts.length 0 0 es = cs at *
    have HROW := Lib.hid (fun (W : World) (hb : Below w.heap.size w W) (x : Nat × Nat) (hx : x.1 < x.2) (hn : x.2 ≤ ts.length) (a : Addr) (c : Nat) (hv1 : v1 = .slice (some a) ts.length c) (b : Addr) (d : Nat) (hv2 : v2 = .slice (some b) ts.length d) => show Calls Try.prog 45 #[.slice (some (a.add (x.1 * 2))) (x.2 - x.1) (c - x.1), .slice (some (b.add x.1)) (x.2 - x.1) (d - x.1)] W fun e w' => ∃ v', e = .returned v' ∧ TsAt w' v' (rowP ts bs x) ∧ Below W.heap.size W w' ∧ ∀ a l c, v' = .slice (some a) l c → W.heap.size ≤ a.block from
      refrow_any _ _ (cutL x ts) (cutL x bs) W (TsAt.cutL (by have h := h1.on hb; rwa [hv1] at h) x hx hn) (BsAt.cutL (by have h := h2.on hb; rwa [hv2] at h) x hx (by omega)) (by rw [cutL_len x bs (by omega), cutL_len x ts hn]) (by rw [cutL_len x ts hn]; omega) (by rw [cutL_len x ts hn]; omega))
    have HV := Lib.hid (show 0 < ts.length → (∃ a c, v1 = .slice (some a) ts.length c ∧ ts.length ≤ c ∧ c ≤ maxLen) ∧ ∃ b d, v2 = .slice (some b) ts.length d ∧ ts.length ≤ d ∧ d ≤ maxLen from fun h0 => ⟨by
      rcases h1 with ⟨h, hh⟩ | ⟨a, c, h, -, h3', h4', -⟩
      · rw [hh] at h0; simp at h0
      · exact ⟨a, c, h, h3', h4'⟩, by
      rcases h2 with ⟨h, hh⟩ | ⟨a, c, h, -, h3', h4', -⟩
      · rw [← hlen, hh] at h0; simp at h0
      · exact ⟨a, c, by rw [← hlen]; exact h, by omega, h4'⟩⟩)
    obtain ⟨p1, c1, rfl⟩ := h1.len
    obtain ⟨p2, c2, rfl⟩ := h2.len
    rw [hlen] at HROW HV ⊢
    have HLn := Lib.hid hlen
    clear h1 h2 h3 hlen
    go_enter Try.func30, Try.ntmps30
    go_wp2_with fail
    refine hcu.mono ?_
    rintro e w1 ⟨r, rfl, hC, hb1⟩
    go_wp2_with fail
    have hBw1 : Below w.heap.size w w1 := (balloc w _).trans (hb1.mono (by simp))
    have hz1 : w.heap.size + 1 ≤ w1.heap.size := by have := hb1.size; simpa using this
    have hR1 := hrow0.on hb1
    obtain ⟨pA, cA, rfl, HA⟩ : ∃ pA cA, r = .slice pA cs.length cA ∧ (0 < cs.length → ∃ A : Addr, pA = some A ∧ w.heap.size < A.block ∧ A.block < w1.heap.size ∧ ∀ i, i < cs.length → w1.cell? (A.add (i * 2)) = some (.int .i64 ((cs[i]?.getD default).1 : Int)) ∧ w1.cell? ⟨(A.add (i * 2)).block, (A.add (i * 2)).off + 1, none⟩ = some (.int .i64 (((cs[i]?.getD default).2 : Int) - 1))) := by
      rcases own_form hC with ⟨e1, e2⟩ | ⟨g, c, rfl, hg0, hg, hn, hc⟩
      · exact ⟨none, 0, by rw [e1, e2], fun h => by omega⟩
      · refine ⟨_, c, rfl, fun _ => ⟨_, rfl, by simp at hg0; simp only; omega, hg, fun i hi => ?_⟩⟩
        obtain ⟨e1, e2⟩ := encC_get cs i hi
        have hcc := World.ownsRow.cells hC (g := g) rfl
        exact ⟨hcc _ _ e1, (by rw [add_more _ _ 0]; exact hcc _ _ e2)⟩
    have HCS1 := Lib.hid (show ∀ A : Addr, pA = some A → ∀ i, i < cs.length → w1.cell? (A.add (i * 2)) = some (.int .i64 ((cs[i]?.getD default).1 : Int)) ∧ w1.cell? ⟨(A.add (i * 2)).block, (A.add (i * 2)).off + 1, none⟩ = some (.int .i64 (((cs[i]?.getD default).2 : Int) - 1)) ∧ w.heap.size < A.block ∧ A.block < w1.heap.size from fun A hA i hi => by
      obtain ⟨A', e, q1, q2, q3⟩ := HA (by omega)
      rw [hA] at e
      simp only [Option.some.injEq] at e
      subst e
      exact ⟨(q3 i hi).1, (q3 i hi).2, q1, q2⟩)
    have HAs := Lib.hid (show 0 < cs.length → ∃ A : Addr, pA = some A from fun h => by obtain ⟨A, e, -⟩ := HA h; exact ⟨A, e⟩)
    have hb1z := hb1.size
    clear hC HA hrow0 hcu hb1
    go_loopw [7, 9] (fun v i wr => ∃ (k : Nat), k ≤ cs.length ∧ i = .int .i64 k ∧ RRow wr w.heap.size v ((cs.take k).map (rowP ts bs)) ∧ Below w.heap.size w wr ∧ w1.heap.size ≤ wr.heap.size ∧ (∀ g, v.ownBlock = some g → g = w.heap.size ∨ w1.heap.size ≤ g) ∧ Hid (∀ a : Addr, w.heap.size < a.block → a.block < w1.heap.size → wr.cell? a = w1.cell? a)) (fun _ i _ => (cs.length - intOf i).toNat)
    case atStart => exact ⟨0, by omega, rfl, by simpa using hR1, hBw1, Nat.le_refl _, fun g hg => by simp [Value.ownBlock] at hg; exact .inl hg.symm, Lib.hid (fun a _ _ => rfl)⟩
    case round =>
      clear hR1 hBw1
      obtain ⟨k, hk, rfl, hrr, hB, hzr, hgg, hkeep⟩ := hrel
      by_cases hlt : k < cs.length
      · obtain ⟨A, rfl⟩ := HAs.out (by omega)
        obtain ⟨q1, q2, q3, q4⟩ := HCS1.out A rfl k hlt
        rw [← hkeep.out _ (by rw [add_block]; exact q3) (by rw [add_block]; exact q4)] at q1
        rw [← hkeep.out _ (by simp only; rw [add_block]; exact q3) (by simp only; rw [add_block]; exact q4)] at q2
        obtain ⟨x, hx⟩ : ∃ x, cs[k]?.getD default = x := ⟨_, rfl⟩
        have hxm : x ∈ cs := by rw [← hx, List.getElem?_eq_getElem hlt]; exact List.getElem_mem _
        obtain ⟨hx1, hx2⟩ := hcm x hxm
        rw [hx] at q1 q2
        have htk : cs.take (k + 1) = cs.take k ++ [x] := by rw [List.take_add_one, List.getElem?_eq_getElem hlt, ← hx, List.getElem?_eq_getElem hlt]; rfl
        clear hx hxm
        obtain ⟨xs, xe⟩ := x
        simp only at q1 q2 hx1 hx2
        obtain ⟨⟨a, c, ea, hc1, hc2⟩, ⟨b, d, eb, hd1, hd2⟩⟩ := HV.out (by omega)
        simp only [Value.slice.injEq, true_and] at ea eb
        obtain ⟨rfl, rfl⟩ := ea
        obtain ⟨rfl, rfl⟩ := eb
        have HRX := Lib.hid (fun (W : World) (hb : Below w.heap.size w W) => show Calls Try.prog 45 #[.slice (some (a.add (xs * 2))) (xe - xs) (c1 - xs), .slice (some (b.add xs)) (xe - xs) (c2 - xs)] W fun e w' => ∃ v', e = .returned v' ∧ TsAt w' v' (rowP ts bs (xs, xe)) ∧ Below W.heap.size W w' ∧ ∀ a l c, v' = .slice (some a) l c → W.heap.size ≤ a.block from HROW.out W hb (xs, xe) hx1 hx2 a c1 rfl b c2 rfl)
        generalize hrw : rowP ts bs (xs, xe) = rw' at HRX
        have hrw := Lib.hid hrw
        obtain ⟨vs, hvo, hvl, hvs⟩ := hrr
        have hvk : vs.length = k := by rw [hvl, List.length_map, List.length_take]; omega
        have hvlt : ∀ g, u7.ownBlock = some g → w.heap.size ≤ g ∧ g < wr.heap.size := fun g hg => World.ownsRow.lt hvo g hg
        have e1 : IntKind.i64.wrap ((xe : Int) - 1 + 1) = (xe : Int) := by rw [IntWalk.i64_in _ (by omega)]; omega
        have e2 : (xe : Int) - 1 + 1 = (xe : Int) := by omega
        have z1 : (xs : Int) ≤ (xe : Int) := by omega
        have z2 : (xe : Int) ≤ (c1 : Int) := by omega
        have z3 : (xe : Int) ≤ (c2 : Int) := by omega
        have z4 : ¬ c1 = xs := by omega
        have z5 : ¬ c2 = xs := by omega
        have htk := Lib.hid htk
        have hvl := Lib.hid hvl
        have hvk := Lib.hid hvk
        have hvb : vs.length ≤ 100000 := by have := hvk.out; omega
        have HV2 := Lib.hid (fun (W : World) (hb : Below wr.heap.size wr W) => ring_own_on hvo hb)
        go_wp2_with fail
        go_region_held3 (fun _ => True) (first | go_keep | trivial)
          (first | (go_at_call 45; refine (HRX.out _ (by first | exact hB | exact hB.drew | exact below_drewN hB _)).mono ?_; rintro e w2 ⟨t, rfl, ht, hb2, hnt⟩; obtain ⟨pt, ct, rfl⟩ := ht.len; have hbr : Below wr.heap.size wr w2 := (by first | exact hb2 | exact ((Below.refl _ _).drew).trans hb2 | exact (below_drewN (Below.refl _ _) _).trans hb2); have hsz2 := hbr.size) | (refine step_append_lies _ (by rfl) _ _ _ (by rfl) w.heap.size 42 j0 _ 1 24 Try.underlying45 hj hj0 hj1 hj2 rfl (by omega) u7 vs.length vs (by rfl) (by first | exact HV2.out _ (hbr.alloc hbr.size _) | exact HV2.out _ ((hbr.alloc hbr.size _).drew)) ⟨w2.heap.size, 0, none⟩ 1 1 [(.slice pt rw'.length ct)] (by rfl) (by rfl) (World.news_of_block (cs := #[(.slice pt rw'.length ct)]) (t := 42) (fr := (0, 0)) (heap_alloc_new w2 _)) (by simp [Value.oneCell']) (by omega) (by unfold maxLen; omega) (by omega) (by simp; omega) (w2.heap.size + 1) (by simp) ?_; intro g2 cap2 w4 hown4 hgrow hat hlt2))
        have hF : Below wr.heap.size wr (w2.alloc (.cells #[.slice pt rw'.length ct] 42)) := hbr.alloc hbr.size _
        have hnt' : ∀ a l c, (Value.slice pt rw'.length ct) = .slice (some a) l c → wr.heap.size ≤ a.block := fun a l c h => by have := hnt a l c h; simpa using this
        have hR4 := RRow.snoc hvl.out (fun i hi => by obtain ⟨u, u1, u2, u3⟩ := hvs i hi; exact ⟨u, u1, u2.on hF, u3⟩) (ht.on ((Below.refl _ _).alloc (Nat.le_refl _) (.cells #[.slice pt rw'.length ct] 42))) (fun a l c h => ⟨Nat.le_trans hB.size (hnt' a l c h), fun e => by have := hnt' a l c h; have := (hvlt _ e).2; omega⟩) hown4 hgrow (hat.imp id (fun h => by rw [h]; simp))
        have hB4 : Below w.heap.size w w4 := (hB.trans (hF.mono hB.size)).grown hgrow (hB.trans (hF.mono hB.size)).size (fun g hg => (hvlt g hg).1)
        have hz4 : w1.heap.size ≤ w4.heap.size := Nat.le_trans hzr (Nat.le_trans hF.size hgrow.size)
        have hgg4 : ∀ g, (Value.slice (some ⟨g2, 0, none⟩) (vs.length + 1) cap2).ownBlock = some g → g = w.heap.size ∨ w1.heap.size ≤ g := fun g hg => by
          simp only [Value.ownBlock, Option.some.injEq] at hg
          subst hg
          rcases hat with h | h
          · exact hgg _ h
          · right; omega
        have hkeep4 := Lib.hid (show ∀ a : Addr, w.heap.size < a.block → a.block < w1.heap.size → w4.cell? a = w1.cell? a from fun a h1 h2 =>
          ((hgrow.cell_far a (Nat.lt_of_lt_of_le (Nat.lt_of_lt_of_le h2 hzr) hF.size) (fun e => by have := hgg _ e.symm; omega)).trans (hF.cell (Nat.lt_of_lt_of_le h2 hzr))).trans (hkeep.out a h1 h2))
        have hR5 : RRow w4 w.heap.size (.slice (some ⟨g2, 0, none⟩) (vs.length + 1) cap2) ((cs.take (k + 1)).map (rowP ts bs)) := by
          rw [htk.out, List.map_append, List.map_cons, List.map_nil, hrw.out, hvl.out]
          exact hR4
        rw [hvk.out] at hR5 hgg4
        clear hR4 hgrow hown4 hat hvs hvo hvlt hnt hnt' ht hgg hF hbr hb2 q1 q2
        go_wp2_with fail
        go_roundw
        case rel => exact ⟨k + 1, by omega, by go_num, hR5, hB4, hz4, hgg4, hkeep4⟩
        case measure => simp [intOf]; omega
      · obtain rfl : k = cs.length := by omega
        rw [List.take_length] at hrr
        go_wp2_with fail
        go_ret
        exact ⟨_, rfl, hrr, hB⟩
  · have hR : reflinesR ts bs es = [] := by unfold reflinesR; rw [if_neg hlen]
    rw [hR]
    obtain ⟨p1, c1, rfl⟩ := h1.len
    obtain ⟨p2, c2, rfl⟩ := h2.len
    have hne : ¬ ((bs.length : Int) = (ts.length : Int)) := by omega
    clear h1 h2 h3
    go_enter Try.func30, Try.ntmps30
    go_wp2_with fail
    go_ret
    exact ⟨_, rfl, hrow0, balloc _ _⟩
end Go.Proofs.Ytenmgbcbnofcmaa
