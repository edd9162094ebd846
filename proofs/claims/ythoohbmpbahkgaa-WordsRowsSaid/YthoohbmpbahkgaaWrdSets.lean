/- The program's Sets. -/
import Derived.Test.YthoohbmpbahkgaaWrdSetsM
import Derived.Test.YthoohbmpbahkgaaWrdLines
namespace Go.Proofs.Ythoohbmpbahkgaa
open Go.RowKit

/-- A call answers rows of words of its own, and true; or nothing, and false. -/
def SetsR (r : Option (List (List Wd))) (w : World) (e : Ending) (w' : World) : Prop :=
  match r with
  | some rs => ∃ v, e = .returned (.tuple #[v, .bool true]) ∧ RowsR enW 34 w' w.heap.size v rs ∧ Below w.heap.size w w'
  | none => e = .returned (.tuple #[.slice none 0 0, .bool false]) ∧ Below w.heap.size w w'
theorem SetsM.form {W : World} {B : Nat} {v : Value} {acc : List (List Wd)} (h : SetsM W B v acc) : ∃ p c, v = .slice p acc.length c := by
  obtain ⟨vs, h1, h2, -, -⟩ := h
  rcases own_form h1 with ⟨e1, e2⟩ | ⟨g, c, e1, -⟩
  · exact ⟨none, 0, by rw [e1, ← h2, e2]⟩
  · exact ⟨_, c, by rw [e1, h2]⟩

set_option maxHeartbeats 8000000 in
theorem sets_any (va : Value) (ws : List Wd) (w : World) (h : RowAt enW w va ws) (hl : ws.length ≤ 100000) :
    Calls Try.prog 21 #[va] w (SetsR (setsP ws) w) := by
  obtain ⟨i0, hi, hz0, hz1, hz2⟩ := info_parts infoWord
  obtain ⟨j0, hj, hj0, hj1, hj2⟩ := info_parts infoWords
  obtain ⟨R, hR⟩ : ∃ R, setsP ws = R := ⟨_, rfl⟩
  rw [hR]
  have HR : Hid (setsK false [] (ws.drop 0) = R) := Lib.hid hR
  clear hR
  have hM0 := SetsM.nil w w.heap.size
  obtain ⟨pa, ca, rfl, -, -⟩ := h.len
  have HCE := Lib.hid (fun (W : World) (hb : Below w.heap.size w W) (k : Nat) (hk : k < ws.length) => show ∃ a : Addr, pa = some a ∧ W.cell? (a.add (k * 3)) = some (.int .i64 (ws[k]?.getD default).line) ∧ W.cell? ⟨(a.add (k * 3)).block, (a.add (k * 3)).off + 1, none⟩ = some (.int .i64 (ws[k]?.getD default).pos) ∧ W.cell? ⟨(a.add (k * 3)).block, (a.add (k * 3)).off + 2, none⟩ = some (.string (ws[k]?.getD default).text) from by
    rcases h.on hb with ⟨-, h0⟩ | ⟨a, c, e, -, -, -, hcell⟩
    · rw [h0] at hk; simp at hk
    · simp only [Value.slice.injEq] at e
      exact ⟨a, e.1, word_cells hcell k hk⟩)
  clear h
  go_enter Try.func21, Try.ntmps21
  go_wp2_with fail
  go_loopw [4, 5, 11] (fun sv ov iv wr => ∃ (k : Nat) (op : Bool) (v : Value) (acc : List (List Wd)), k ≤ ws.length ∧ iv = .int .i64 k ∧ ov = .bool op ∧ sv = v ∧ Hid (setsK op acc (ws.drop k) = R) ∧ SetsM wr w.heap.size v acc ∧ Below w.heap.size w wr ∧ (op = true → acc ≠ []) ∧ acc.length ≤ k ∧ Hid (∀ i : Nat, (acc[i]?.getD []).length ≤ k)) (fun _ _ iv _ => (ws.length - intOf iv).toNat)
  case atStart => exact ⟨0, false, .slice none 0 0, [], by omega, rfl, rfl, rfl, HR, hM0, Below.refl _ _, (fun h => by cases h), (Nat.le_refl _), Lib.hid (fun i => by simp)⟩
  case round =>
    clear hM0 HR
    obtain ⟨k, op, v, acc, hk, rfl, rfl, rfl, hrel, hM, hB, hop, hal, hlen⟩ := hrel
    obtain ⟨pv, cv, rfl⟩ := hM.form
    by_cases hlt : k < ws.length
    · obtain ⟨A, rfl, q0, q1, q2⟩ := HCE.out wr hB k hlt
      replace hrel := hrel.out
      rw [List.drop_eq_getElem_cons hlt] at hrel
      obtain ⟨x, hx⟩ : ∃ x, ws[k]?.getD default = x := ⟨_, rfl⟩
      rw [show ws[k] = x by rw [← hx, List.getElem?_eq_getElem hlt]; rfl] at hrel
      rw [hx] at q0 q1 q2
      clear hx
      obtain ⟨xl, xp, xt⟩ := x
      simp only at q0 q1 q2
      unfold setsK at hrel
      have hz := hB.size
      have hB1 : Below w.heap.size w (wr.alloc (.cells #[.int .i64 xl, .int .i64 xp, .string xt] 37)) := hB.alloc hz _
      have hM1 := hM.on (balloc1 wr (.cells #[.int .i64 xl, .int .i64 xp, .string xt] 37))
      obtain ⟨W, hW⟩ : ∃ W, wr.alloc (.cells #[.int .i64 xl, .int .i64 xp, .string xt] 37) = W := ⟨_, rfl⟩
      rw [hW] at hB1 hM1
      have hWz : W.heap.size = wr.heap.size + 1 := by rw [← hW]; simp
      have b0 : W.cell? ⟨wr.heap.size, 0, none⟩ = some (.int .i64 xl) := by rw [← hW]; simp [go_sem]
      have b1 : W.cell? ⟨wr.heap.size, 1, none⟩ = some (.int .i64 xp) := by rw [← hW]; simp [go_sem]
      have b2 : W.cell? ⟨wr.heap.size, 2, none⟩ = some (.string xt) := by rw [← hW]; simp [go_sem]
      replace hWz := Lib.hid hWz
      have hWb : Below wr.heap.size wr W := by rw [← hW]; exact balloc1 _ _
      cases hO : isO ⟨xl, xp, xt⟩
      · rw [hO] at hrel
        have eO : (xt.toList == [91]) = false := hO
        simp only [Bool.false_eq_true, if_false] at hrel
        cases hC : isC ⟨xl, xp, xt⟩
        · rw [hC] at hrel
          have eC : (xt.toList == [93]) = false := hC
          simp only [Bool.false_eq_true, if_false] at hrel
          replace hO := Lib.hid hO
          replace hC := Lib.hid hC
          cases op
          · simp only [Bool.false_eq_true, if_false] at hrel
            replace hrel := Lib.hid hrel
            obtain ⟨vs, h1, h2, h3, h4⟩ := hM
            have hvo : W.ownsRow w.heap.size 34 1 (.slice pv acc.length cv) acc.length vs := by have h := own_on h1 hWb (Nat.le_refl _); rwa [h2] at h
            have hpl := own_lt h1
            have lW : wr.heap.size < W.heap.size := by have := hWz.out; omega
            have hWs := hB1.size
            replace h1 := Lib.hid h1
            replace h2 := Lib.hid h2
            replace h3 := Lib.hid h3
            replace h4 := Lib.hid h4
            clear hM1
            go_wp2_with (at_builtin; refine wpList_append_lies _ (by rfl) _ _ 24 (by rfl) w.heap.size 34 j0 _ 1 24 Try.underlying24 hj hj0 hj1 hj2 rfl (by omega) (.slice pv acc.length cv) acc.length vs (by rfl) (World.ownsRow.alloc hvo _) ⟨W.heap.size, 0, none⟩ 1 1 [.slice none 0 0] (by rfl) (by rfl) (World.news_of_block (cs := #[.slice none 0 0]) (t := 34) (fr := (0, 0)) (heap_alloc_new W _)) (by simp [Value.oneCell']) (by omega) (by unfold maxLen; omega) (by omega) (by simp; omega) (W.heap.size + 1) (by simp) ?_)
            intro G cG Wq hownq hgq hatq hltq
            have HLO := LO.of_more h1.out h2.out h3.out h4.out (hWb.trans ((balloc1 W _).mono (by omega))) (by simp; omega) hownq hgq (by rcases hatq with h | h; exact .inl h; right; simp; omega)
            have hBq : Below w.heap.size w Wq := (hB1.alloc hWs _).grown hgq (by simp; omega) (fun x hx => (hpl x hx).1)
            have hAn : some wr.heap.size ≠ (Value.slice pv acc.length cv).ownBlock := fun e => by have := (hpl _ e.symm).2; omega
            replace b0 := (hgq.cell_far ⟨wr.heap.size, 0, none⟩ (by simp; omega) hAn).trans ((World.cell?_alloc_past _ _ _ lW).trans b0)
            replace b1 := (hgq.cell_far ⟨wr.heap.size, 1, none⟩ (by simp; omega) hAn).trans ((World.cell?_alloc_past _ _ _ lW).trans b1)
            replace b2 := (hgq.cell_far ⟨wr.heap.size, 2, none⟩ (by simp; omega) hAn).trans ((World.cell?_alloc_past _ _ _ lW).trans b2)
            have lA : wr.heap.size < Wq.heap.size := by have := hgq.size; simp at this; omega
            have hlen2 := more_len _ _ hlen.out
            clear hownq hgq hatq h1 h2 h3 h4 hAn hpl hvo
            obtain ⟨acc2, hacc2⟩ : ∃ a, acc ++ [[]] = a := ⟨_, rfl⟩
            obtain ⟨N, hNd⟩ : ∃ N, acc.length + 1 = N := ⟨_, rfl⟩
            rw [hNd] at HLO ⊢
            obtain ⟨K, hKd⟩ : ∃ K, acc.length = K := ⟨_, rfl⟩
            obtain ⟨vs2, hvs2⟩ : ∃ z, vs ++ [Value.slice none 0 0] = z := ⟨_, rfl⟩
            rw [hKd, hacc2, hvs2] at HLO
            rw [hacc2] at hrel hlen2
            have hal2 : acc2.length ≤ k + 1 := by rw [← hacc2]; simp; omega
            replace hKd := Lib.hid hKd
            replace hNd := Lib.hid hNd
            replace hacc2 := Lib.hid hacc2
            replace hvs2 := Lib.hid hvs2
            obtain ⟨pu, hpu⟩ : ∃ z, (none : Option Addr) = z := ⟨_, rfl⟩
            obtain ⟨L, hLnil⟩ : ∃ z, ([] : List Wd) = z := ⟨_, rfl⟩
            obtain ⟨cu, hcu⟩ : ∃ z, (0 : Nat) = z := ⟨_, rfl⟩
            rw [hpu, hLnil, show LO w.heap.size Wq wr.heap.size G K N cG acc2 vs2 pu 0 L = LO w.heap.size Wq wr.heap.size G K N cG acc2 vs2 pu cu L by rw [hcu]] at HLO
            replace hpu := Lib.hid hpu
            replace hLnil := Lib.hid hLnil
            replace hcu := Lib.hid hcu
            have kG := (World.ownsRow.cellAt HLO.v1 K (by have := HLO.hN; omega)).trans HLO.hu
            have fG := World.ownsRow.frozenAt HLO.v1 K
            have hGb := (own_lt HLO.v1 G rfl).1
            have lG := (own_lt HLO.v1 G rfl).2
            have hLo : Wq.drew.ownsRow w.heap.size 37 3 (.slice pu L.length cu) L.length (flat enW L) := HLO.lo
            have hLL : L.length ≤ k := by rw [← HLO.ld]; exact hlen2 K
            have hUA := HLO.ua
            have hUG := HLO.ug
            have hK : acc2.length = N := HLO.hK
            have hN : N = K + 1 := HLO.hN
            have kz0 : (0 : Int) ≤ (K : Int) := by omega
            have kz1 : (K : Int) < (N : Int) := by omega
            have eN : IntKind.i64.wrap ((N : Int) - 1) = (K : Int) := by rw [IntWalk.i64_in _ (by omega)]; omega
            have eN2 : (N : Int) - 1 = (K : Int) := by omega
            have hKb : K ≤ 100000 := by omega
            replace hN := Lib.hid hN
            have hKb : K ≤ 100000 := by omega
            replace hK := Lib.hid hK
            have hlen3 := Lib.hid (addLast_len acc2 ⟨xl, xp, xt⟩ k hlen2)
            replace hlen2 := Lib.hid hlen2
            replace HLO := Lib.hid HLO
            go_wp2_with fail
            obtain ⟨S, hSd⟩ : ∃ S : World → Prop, S = fun w' => w'.cell? ⟨G, K, none⟩ = some (.slice pu L.length cu) ∧ w'.cell? ⟨wr.heap.size, 0, none⟩ = some (.int .i64 xl) ∧ w'.cell? ⟨wr.heap.size, 1, none⟩ = some (.int .i64 xp) ∧ w'.cell? ⟨wr.heap.size, 2, none⟩ = some (.string xt) := ⟨_, rfl⟩
            have S1 : S Wq.drew := by rw [hSd]; exact ⟨kG, b0, b1, b2⟩
            have S2 : ∀ o, S (Wq.drew.alloc o) := fun o => by rw [hSd]; exact ⟨(World.cell?_alloc_past _ _ _ lG).trans kG, (World.cell?_alloc_past _ _ _ lA).trans b0, (World.cell?_alloc_past _ _ _ lA).trans b1, (World.cell?_alloc_past _ _ _ lA).trans b2⟩
            have HSd := Lib.hid hSd
            clear hSd
            refine wp_region_D (S := S) (L := [0, 1, 2, 3, 4, 5, 6]) (by kernel_rfl) S1 (fun hD => ?_)
            refine wpAnyD_take (i := 0) (oi := _) (v := .slice (some ⟨G, 0, none⟩) N cG) rfl (by kernel_rfl) (by kernel_rfl) (by kernel_rfl) (by kernel_rfl) (fun _ _ _ h => h) (Or.inl ⟨by rfl, fun w' hS => by rw [HSd.out] at hS; obtain ⟨s1, s2, s3, s4⟩ := hS; go_simp⟩) hD ?_
            try simp only [Act.put, List.getElem_toArray, List.getElem_cons_zero, List.setIfInBounds_toArray, List.set_cons_zero, List.set_cons_succ]
            refine wpAnyD_take (i := 1) (oi := _) (v := .int .i64 (K : Int)) rfl (by kernel_rfl) (by kernel_rfl) (by kernel_rfl) (by kernel_rfl) (fun _ _ _ h => h) (Or.inl ⟨by rfl, fun w' hS => by rw [HSd.out] at hS; obtain ⟨s1, s2, s3, s4⟩ := hS; go_simp⟩) hD ?_
            try simp only [Act.put, List.getElem_toArray, List.getElem_cons_succ, List.getElem_cons_zero, List.setIfInBounds_toArray, List.set_cons_zero, List.set_cons_succ]
            refine wpAnyD_take (i := 2) (oi := _) (v := .slice (some ⟨G, 0, none⟩) N cG) rfl (by kernel_rfl) (by kernel_rfl) (by kernel_rfl) (by kernel_rfl) (fun _ _ _ h => h) (Or.inl ⟨by rfl, fun w' hS => by rw [HSd.out] at hS; obtain ⟨s1, s2, s3, s4⟩ := hS; go_simp⟩) hD ?_
            try simp only [Act.put, List.getElem_toArray, List.getElem_cons_succ, List.getElem_cons_zero, List.setIfInBounds_toArray, List.set_cons_zero, List.set_cons_succ]
            refine wpAnyD_take (i := 3) (oi := _) (v := .int .i64 (K : Int)) rfl (by kernel_rfl) (by kernel_rfl) (by kernel_rfl) (by kernel_rfl) (fun _ _ _ h => h) (Or.inl ⟨by rfl, fun w' hS => by rw [HSd.out] at hS; obtain ⟨s1, s2, s3, s4⟩ := hS; go_simp⟩) hD ?_
            try simp only [Act.put, List.getElem_toArray, List.getElem_cons_succ, List.getElem_cons_zero, List.setIfInBounds_toArray, List.set_cons_zero, List.set_cons_succ]
            refine wpAnyD_take (i := 4) (oi := _) (v := .pointer (some ⟨G, K, none⟩)) rfl (by kernel_rfl) (by kernel_rfl) (by kernel_rfl) (by kernel_rfl) (fun _ _ _ h => h) (Or.inl ⟨by rfl, fun w' hS => by rw [HSd.out] at hS; obtain ⟨s1, s2, s3, s4⟩ := hS; go_simp⟩) hD ?_
            try simp only [Act.put, List.getElem_toArray, List.getElem_cons_succ, List.getElem_cons_zero, List.setIfInBounds_toArray, List.set_cons_zero, List.set_cons_succ]
            refine wpAnyD_take (i := 5) (oi := _) (v := .slice pu L.length cu) rfl (by kernel_rfl) (by kernel_rfl) (by kernel_rfl) (by kernel_rfl) (fun _ _ _ h => h) (Or.inl ⟨by rfl, fun w' hS => by rw [HSd.out] at hS; obtain ⟨s1, s2, s3, s4⟩ := hS; go_simp⟩) hD ?_
            try simp only [Act.put, List.getElem_toArray, List.getElem_cons_succ, List.getElem_cons_zero, List.setIfInBounds_toArray, List.set_cons_zero, List.set_cons_succ]
            refine wpAnyD_take (i := 6) (oi := _) (v := .agg #[.int .i64 xl, .int .i64 xp, .string xt]) rfl (by kernel_rfl) (by kernel_rfl) (by kernel_rfl) (by kernel_rfl) (fun _ _ _ h => h) (Or.inl ⟨by rfl, fun w' hS => by rw [HSd.out] at hS; obtain ⟨s1, s2, s3, s4⟩ := hS; go_simp⟩) hD ?_
            try simp only [Act.put, List.getElem_toArray, List.getElem_cons_succ, List.getElem_cons_zero, List.setIfInBounds_toArray, List.set_cons_zero, List.set_cons_succ]
            refine wpAnyD_one (i := 7) (o := _) (by kernel_rfl) rfl (fun K1 hK1 => ?_)
            go_simp
            refine hK1.out _ _ (fun _ => S2 _) ?_
            clear hK1 K1
            try simp only [Act.put, List.getElem_toArray, List.getElem_cons_succ, List.getElem_cons_zero, List.setIfInBounds_toArray, List.set_cons_zero, List.set_cons_succ]
            refine wpAnyD_one (i := 8) (o := _) (by kernel_rfl) rfl (fun K1 hK1 => ?_)
            refine step_append_lies _ (by rfl) _ _ 34 (by rfl) w.heap.size 37 i0 _ 3 32 Try.underlying34 hi hz0 hz1 hz2 rfl (by omega) (.slice pu L.length cu) L.length (flat enW L) (by rfl) (World.ownsRow.alloc hLo _) ⟨Wq.heap.size, 0, none⟩ 1 1 [.int .i64 xl, .int .i64 xp, .string xt] (by rfl) (by rfl) (World.news_of_block (cs := #[.int .i64 xl, .int .i64 xp, .string xt]) (t := 37) (fr := (0, 0)) (heap_alloc_new Wq.drew _)) (by simp [Value.oneCell']) (by omega) (by unfold maxLen; omega) (by omega) (by simp; omega) (Wq.heap.size + 1) (by simp) ?_
            intro g cap w3 hown3 hgrow3 hat3 hlt3
            have hgr : Wq.grownBy w3 (Value.slice pu L.length cu).ownBlock := by have h := (World.grownBy_alloc Wq.drew _ _).trans hgrow3; exact ⟨h.os, h.tape, h.output, h.size, h.block⟩
            have hfar : ∀ k, k < Wq.heap.size → (Value.slice pu L.length cu).ownBlock ≠ some k → w3.heap[k]? = Wq.heap[k]? := fun k hk hne => hgr.block k hk (fun e => hne e.symm)
            have c0 : w3.cell? ⟨wr.heap.size, 0, none⟩ = _ := (World.cell?_of_block (hfar _ lA hUA)).trans b0
            have c1 : w3.cell? ⟨wr.heap.size, 1, none⟩ = _ := (World.cell?_of_block (hfar _ lA hUA)).trans b1
            have c2 : w3.cell? ⟨wr.heap.size, 2, none⟩ = _ := (World.cell?_of_block (hfar _ lA hUA)).trans b2
            have cG3 : w3.cell? ⟨G, K, none⟩ = _ := (World.cell?_of_block (hfar _ lG hUG)).trans kG
            have fG3 : w3.frozen? ⟨G, K, none⟩ = false := (World.frozen?_of_block (hfar _ lG hUG)).trans fG
            refine hK1.out _ _ (fun _ => by rw [HSd.out]; exact ⟨cG3, c0, c1, c2⟩) ?_
            clear hK1 K1
            try simp only [Act.put, List.getElem_toArray, List.getElem_cons_succ, List.getElem_cons_zero, List.setIfInBounds_toArray, List.set_cons_zero, List.set_cons_succ]
            have hM3 := SetsM.last (x := ⟨xl, xp, xt⟩) (g := g) (c := cap) (cG := cG) (G := G) (hK.out.trans hN.out) (by rw [← hN.out]; exact HLO.out.v1) HLO.out.v2 (by rw [← hN.out]; exact HLO.out.v3) HLO.out.v4 HLO.out.hu (by rw [HLO.out.ld]; show w3.ownsRow _ _ _ _ _ _; rw [List.length_append, List.length_singleton, flat_app, flat_one]; exact hown3) hgr (by rcases hat3 with h | h; exact .inl h; right; omega)
            rw [HLO.out.ld, ← hN.out] at hM3
            have HM3 := Lib.hid hM3
            have hB3 : Below w.heap.size w w3 := hBq.grown hgr (by have := hBq.size; omega) (fun x hx => (own_lt hLo x hx).1)
            have hlG3 : G < w3.heap.size := by have := hgr.size; omega
            clear hM3 hfar hgr hgrow3 hown3 hat3 S1 S2 HSd kG fG b0 b1 b2 c0 c1 c2 hD
            replace hLo := Lib.hid hLo
            refine wpAnyD_last (i := 9) (o := _) (by kernel_rfl) rfl (by kernel_rfl) (fun K1 hK1 => ?_)
            go_simp
            refine hK1.out _ _ ?_
            clear hK1 K1
            try simp only [Act.put, List.getElem_toArray, List.getElem_cons_succ, List.getElem_cons_zero, List.setIfInBounds_toArray, List.set_cons_zero, List.set_cons_succ]
            refine wpAnyD_last (i := 10) (o := _) (by kernel_rfl) rfl (by kernel_rfl) (fun K1 hK1 => ?_)
            go_simp
            refine hK1.out _ _ ?_
            clear hK1 K1
            refine wpAnyD_done (by kernel_rfl) ?_ _
            go_wp2_with fail
            go_roundw
            case rel => exact ⟨k + 1, false, .slice (some ⟨G, 0, none⟩) N cG, addLast acc2 ⟨xl, xp, xt⟩, by omega, by go_num, by first | rfl | simp, by first | rfl | simp, hrel, HM3.out, hB3.setCell hGb _, (fun _ h => by have := congrArg List.length h; simp [addLast] at this; have h2 := hK.out; have h3 := hN.out; rw [this] at h2; simp at h2; omega), by simp only [addLast, List.length_set]; exact hal2, hlen3⟩
            case measure => simp [intOf]; omega

          · simp only [if_true] at hrel
            replace hrel := Lib.hid hrel
            obtain ⟨G, K, N, cG, vs, pu, cu, L, ev, HLO⟩ := LO.of_some hM (hop rfl) hWb
            rw [ev]
            have hBq := hB1
            have lA : wr.heap.size < W.heap.size := by have := hWz.out; omega
            have hlen2 := hlen.out
            have hal2 : acc.length ≤ k + 1 := by omega
            obtain ⟨acc2, hacc2⟩ : ∃ a, acc = a := ⟨_, rfl⟩
            rw [hacc2] at hrel hlen2 hal2 HLO
            replace hacc2 := Lib.hid hacc2
            clear hM hM1 ev
            have kG := (World.ownsRow.cellAt HLO.v1 K (by have := HLO.hN; omega)).trans HLO.hu
            have fG := World.ownsRow.frozenAt HLO.v1 K
            have hGb := (own_lt HLO.v1 G rfl).1
            have lG := (own_lt HLO.v1 G rfl).2
            have hLo : W.drew.ownsRow w.heap.size 37 3 (.slice pu L.length cu) L.length (flat enW L) := HLO.lo
            have hLL : L.length ≤ k := by rw [← HLO.ld]; exact hlen2 K
            have hUA := HLO.ua
            have hUG := HLO.ug
            have hK : acc2.length = N := HLO.hK
            have hN : N = K + 1 := HLO.hN
            have kz0 : (0 : Int) ≤ (K : Int) := by omega
            have kz1 : (K : Int) < (N : Int) := by omega
            have eN : IntKind.i64.wrap ((N : Int) - 1) = (K : Int) := by rw [IntWalk.i64_in _ (by omega)]; omega
            have eN2 : (N : Int) - 1 = (K : Int) := by omega
            have hKb : K ≤ 100000 := by omega
            replace hN := Lib.hid hN
            have hKb : K ≤ 100000 := by omega
            replace hK := Lib.hid hK
            have hlen3 := Lib.hid (addLast_len acc2 ⟨xl, xp, xt⟩ k hlen2)
            replace hlen2 := Lib.hid hlen2
            replace HLO := Lib.hid HLO
            go_wp2_with fail
            obtain ⟨S, hSd⟩ : ∃ S : World → Prop, S = fun w' => w'.cell? ⟨G, K, none⟩ = some (.slice pu L.length cu) ∧ w'.cell? ⟨wr.heap.size, 0, none⟩ = some (.int .i64 xl) ∧ w'.cell? ⟨wr.heap.size, 1, none⟩ = some (.int .i64 xp) ∧ w'.cell? ⟨wr.heap.size, 2, none⟩ = some (.string xt) := ⟨_, rfl⟩
            have S1 : S W.drew := by rw [hSd]; exact ⟨kG, b0, b1, b2⟩
            have S2 : ∀ o, S (W.drew.alloc o) := fun o => by rw [hSd]; exact ⟨(World.cell?_alloc_past _ _ _ lG).trans kG, (World.cell?_alloc_past _ _ _ lA).trans b0, (World.cell?_alloc_past _ _ _ lA).trans b1, (World.cell?_alloc_past _ _ _ lA).trans b2⟩
            have HSd := Lib.hid hSd
            clear hSd
            refine wp_region_D (S := S) (L := [0, 1, 2, 3, 4, 5, 6]) (by kernel_rfl) S1 (fun hD => ?_)
            refine wpAnyD_take (i := 0) (oi := _) (v := .slice (some ⟨G, 0, none⟩) N cG) rfl (by kernel_rfl) (by kernel_rfl) (by kernel_rfl) (by kernel_rfl) (fun _ _ _ h => h) (Or.inl ⟨by rfl, fun w' hS => by rw [HSd.out] at hS; obtain ⟨s1, s2, s3, s4⟩ := hS; go_simp⟩) hD ?_
            try simp only [Act.put, List.getElem_toArray, List.getElem_cons_zero, List.setIfInBounds_toArray, List.set_cons_zero, List.set_cons_succ]
            refine wpAnyD_take (i := 1) (oi := _) (v := .int .i64 (K : Int)) rfl (by kernel_rfl) (by kernel_rfl) (by kernel_rfl) (by kernel_rfl) (fun _ _ _ h => h) (Or.inl ⟨by rfl, fun w' hS => by rw [HSd.out] at hS; obtain ⟨s1, s2, s3, s4⟩ := hS; go_simp⟩) hD ?_
            try simp only [Act.put, List.getElem_toArray, List.getElem_cons_succ, List.getElem_cons_zero, List.setIfInBounds_toArray, List.set_cons_zero, List.set_cons_succ]
            refine wpAnyD_take (i := 2) (oi := _) (v := .slice (some ⟨G, 0, none⟩) N cG) rfl (by kernel_rfl) (by kernel_rfl) (by kernel_rfl) (by kernel_rfl) (fun _ _ _ h => h) (Or.inl ⟨by rfl, fun w' hS => by rw [HSd.out] at hS; obtain ⟨s1, s2, s3, s4⟩ := hS; go_simp⟩) hD ?_
            try simp only [Act.put, List.getElem_toArray, List.getElem_cons_succ, List.getElem_cons_zero, List.setIfInBounds_toArray, List.set_cons_zero, List.set_cons_succ]
            refine wpAnyD_take (i := 3) (oi := _) (v := .int .i64 (K : Int)) rfl (by kernel_rfl) (by kernel_rfl) (by kernel_rfl) (by kernel_rfl) (fun _ _ _ h => h) (Or.inl ⟨by rfl, fun w' hS => by rw [HSd.out] at hS; obtain ⟨s1, s2, s3, s4⟩ := hS; go_simp⟩) hD ?_
            try simp only [Act.put, List.getElem_toArray, List.getElem_cons_succ, List.getElem_cons_zero, List.setIfInBounds_toArray, List.set_cons_zero, List.set_cons_succ]
            refine wpAnyD_take (i := 4) (oi := _) (v := .pointer (some ⟨G, K, none⟩)) rfl (by kernel_rfl) (by kernel_rfl) (by kernel_rfl) (by kernel_rfl) (fun _ _ _ h => h) (Or.inl ⟨by rfl, fun w' hS => by rw [HSd.out] at hS; obtain ⟨s1, s2, s3, s4⟩ := hS; go_simp⟩) hD ?_
            try simp only [Act.put, List.getElem_toArray, List.getElem_cons_succ, List.getElem_cons_zero, List.setIfInBounds_toArray, List.set_cons_zero, List.set_cons_succ]
            refine wpAnyD_take (i := 5) (oi := _) (v := .slice pu L.length cu) rfl (by kernel_rfl) (by kernel_rfl) (by kernel_rfl) (by kernel_rfl) (fun _ _ _ h => h) (Or.inl ⟨by rfl, fun w' hS => by rw [HSd.out] at hS; obtain ⟨s1, s2, s3, s4⟩ := hS; go_simp⟩) hD ?_
            try simp only [Act.put, List.getElem_toArray, List.getElem_cons_succ, List.getElem_cons_zero, List.setIfInBounds_toArray, List.set_cons_zero, List.set_cons_succ]
            refine wpAnyD_take (i := 6) (oi := _) (v := .agg #[.int .i64 xl, .int .i64 xp, .string xt]) rfl (by kernel_rfl) (by kernel_rfl) (by kernel_rfl) (by kernel_rfl) (fun _ _ _ h => h) (Or.inl ⟨by rfl, fun w' hS => by rw [HSd.out] at hS; obtain ⟨s1, s2, s3, s4⟩ := hS; go_simp⟩) hD ?_
            try simp only [Act.put, List.getElem_toArray, List.getElem_cons_succ, List.getElem_cons_zero, List.setIfInBounds_toArray, List.set_cons_zero, List.set_cons_succ]
            refine wpAnyD_one (i := 7) (o := _) (by kernel_rfl) rfl (fun K1 hK1 => ?_)
            go_simp
            refine hK1.out _ _ (fun _ => S2 _) ?_
            clear hK1 K1
            try simp only [Act.put, List.getElem_toArray, List.getElem_cons_succ, List.getElem_cons_zero, List.setIfInBounds_toArray, List.set_cons_zero, List.set_cons_succ]
            refine wpAnyD_one (i := 8) (o := _) (by kernel_rfl) rfl (fun K1 hK1 => ?_)
            refine step_append_lies _ (by rfl) _ _ 34 (by rfl) w.heap.size 37 i0 _ 3 32 Try.underlying34 hi hz0 hz1 hz2 rfl (by omega) (.slice pu L.length cu) L.length (flat enW L) (by rfl) (World.ownsRow.alloc hLo _) ⟨W.heap.size, 0, none⟩ 1 1 [.int .i64 xl, .int .i64 xp, .string xt] (by rfl) (by rfl) (World.news_of_block (cs := #[.int .i64 xl, .int .i64 xp, .string xt]) (t := 37) (fr := (0, 0)) (heap_alloc_new W.drew _)) (by simp [Value.oneCell']) (by omega) (by unfold maxLen; omega) (by omega) (by simp; omega) (W.heap.size + 1) (by simp) ?_
            intro g cap w3 hown3 hgrow3 hat3 hlt3
            have hgr : W.grownBy w3 (Value.slice pu L.length cu).ownBlock := by have h := (World.grownBy_alloc W.drew _ _).trans hgrow3; exact ⟨h.os, h.tape, h.output, h.size, h.block⟩
            have hfar : ∀ k, k < W.heap.size → (Value.slice pu L.length cu).ownBlock ≠ some k → w3.heap[k]? = W.heap[k]? := fun k hk hne => hgr.block k hk (fun e => hne e.symm)
            have c0 : w3.cell? ⟨wr.heap.size, 0, none⟩ = _ := (World.cell?_of_block (hfar _ lA hUA)).trans b0
            have c1 : w3.cell? ⟨wr.heap.size, 1, none⟩ = _ := (World.cell?_of_block (hfar _ lA hUA)).trans b1
            have c2 : w3.cell? ⟨wr.heap.size, 2, none⟩ = _ := (World.cell?_of_block (hfar _ lA hUA)).trans b2
            have cG3 : w3.cell? ⟨G, K, none⟩ = _ := (World.cell?_of_block (hfar _ lG hUG)).trans kG
            have fG3 : w3.frozen? ⟨G, K, none⟩ = false := (World.frozen?_of_block (hfar _ lG hUG)).trans fG
            refine hK1.out _ _ (fun _ => by rw [HSd.out]; exact ⟨cG3, c0, c1, c2⟩) ?_
            clear hK1 K1
            try simp only [Act.put, List.getElem_toArray, List.getElem_cons_succ, List.getElem_cons_zero, List.setIfInBounds_toArray, List.set_cons_zero, List.set_cons_succ]
            have hM3 := SetsM.last (x := ⟨xl, xp, xt⟩) (g := g) (c := cap) (cG := cG) (G := G) (hK.out.trans hN.out) (by rw [← hN.out]; exact HLO.out.v1) HLO.out.v2 (by rw [← hN.out]; exact HLO.out.v3) HLO.out.v4 HLO.out.hu (by rw [HLO.out.ld]; show w3.ownsRow _ _ _ _ _ _; rw [List.length_append, List.length_singleton, flat_app, flat_one]; exact hown3) hgr (by rcases hat3 with h | h; exact .inl h; right; omega)
            rw [HLO.out.ld, ← hN.out] at hM3
            have HM3 := Lib.hid hM3
            have hB3 : Below w.heap.size w w3 := hBq.grown hgr (by have := hBq.size; omega) (fun x hx => (own_lt hLo x hx).1)
            have hlG3 : G < w3.heap.size := by have := hgr.size; omega
            clear hM3 hfar hgr hgrow3 hown3 hat3 S1 S2 HSd kG fG b0 b1 b2 c0 c1 c2 hD
            replace hLo := Lib.hid hLo
            refine wpAnyD_last (i := 9) (o := _) (by kernel_rfl) rfl (by kernel_rfl) (fun K1 hK1 => ?_)
            go_simp
            refine hK1.out _ _ ?_
            clear hK1 K1
            try simp only [Act.put, List.getElem_toArray, List.getElem_cons_succ, List.getElem_cons_zero, List.setIfInBounds_toArray, List.set_cons_zero, List.set_cons_succ]
            refine wpAnyD_last (i := 10) (o := _) (by kernel_rfl) rfl (by kernel_rfl) (fun K1 hK1 => ?_)
            go_simp
            refine hK1.out _ _ ?_
            clear hK1 K1
            refine wpAnyD_done (by kernel_rfl) ?_ _
            go_wp2_with fail
            go_roundw
            case rel => exact ⟨k + 1, true, .slice (some ⟨G, 0, none⟩) N cG, addLast acc2 ⟨xl, xp, xt⟩, by omega, by go_num, by first | rfl | simp, by first | rfl | simp, hrel, HM3.out, hB3.setCell hGb _, (fun _ h => by have := congrArg List.length h; simp [addLast] at this; have h2 := hK.out; have h3 := hN.out; rw [this] at h2; simp at h2; omega), by simp only [addLast, List.length_set]; exact hal2, hlen3⟩
            case measure => simp [intOf]; omega

        · rw [hC] at hrel
          have eC : (xt.toList == [93]) = true := hC
          simp only [if_true] at hrel
          replace hO := Lib.hid hO
          replace hC := Lib.hid hC
          cases op
          · simp only [Bool.false_eq_true, if_false] at hrel
            subst hrel
            replace hM := Lib.hid hM
            replace hM1 := Lib.hid hM1
            go_wp2_with fail
            go_ret2
            exact ⟨rfl, hB1⟩
          · simp only [if_true] at hrel
            replace hrel := Lib.hid hrel
            replace hM := Lib.hid hM
            replace hM1 := Lib.hid hM1
            go_wp2_with fail
            go_roundw
            case rel => exact ⟨k + 1, false, _, acc, by omega, by go_num, rfl, rfl, hrel, hM1.out, hB1, (fun h => by cases h), by omega, Lib.hid (fun i => Nat.le_succ_of_le (hlen.out i))⟩
            case measure => simp [intOf]; omega
      · rw [hO] at hrel
        have eO : (xt.toList == [91]) = true := hO
        simp only [if_true] at hrel
        replace hO := Lib.hid hO
        cases op
        · simp only [Bool.false_eq_true, if_false] at hrel
          replace hrel := Lib.hid hrel
          obtain ⟨vs, h1, h2, h3, h4⟩ := hM
          have hvo : W.ownsRow w.heap.size 34 1 (.slice pv acc.length cv) acc.length vs := by have h := own_on h1 hWb (Nat.le_refl _); rwa [h2] at h
          have hpl := own_lt h1
          have lW : wr.heap.size < W.heap.size := by have := hWz.out; omega
          have hWs := hB1.size
          replace h1 := Lib.hid h1
          replace h2 := Lib.hid h2
          replace h3 := Lib.hid h3
          replace h4 := Lib.hid h4
          clear hM1
          go_wp2_with (at_builtin; refine wpList_append_lies _ (by rfl) _ _ 24 (by rfl) w.heap.size 34 j0 _ 1 24 Try.underlying24 hj hj0 hj1 hj2 rfl (by omega) (.slice pv acc.length cv) acc.length vs (by rfl) (World.ownsRow.alloc hvo _) ⟨W.heap.size, 0, none⟩ 1 1 [.slice none 0 0] (by rfl) (by rfl) (World.news_of_block (cs := #[.slice none 0 0]) (t := 34) (fr := (0, 0)) (heap_alloc_new W _)) (by simp [Value.oneCell']) (by omega) (by unfold maxLen; omega) (by omega) (by simp; omega) (W.heap.size + 1) (by simp) ?_)
          intro G cG Wq hownq hgq hatq hltq
          have hMq := SetsM.more h2.out (fun i hi => by obtain ⟨y, y1, y2, y3⟩ := h3.out i hi; exact ⟨y, y1, own_on y2 (hWb.trans ((balloc1 W _).mono (by omega))) (Nat.le_refl _), y3⟩) h4.out hownq hgq (by rcases hatq with h | h; exact .inl h; right; simp; omega)
          have hBq : Below w.heap.size w Wq := (hB1.alloc hWs _).grown hgq (by simp; omega) (fun x hx => (hpl x hx).1)
          have hlen2 := more_len _ _ hlen.out
          clear hownq hgq hatq h1 h2 h3 h4 hpl hvo b0 b1 b2
          replace hMq := Lib.hid hMq
          go_wp2_with fail
          go_roundw
          case rel => exact ⟨k + 1, true, _, acc ++ [[]], by omega, by go_num, rfl, rfl, hrel, hMq.out, hBq, (fun _ h => by simp at h), by simp; omega, Lib.hid (fun i => Nat.le_succ_of_le (hlen2 i))⟩
          case measure => simp [intOf]; omega
        · simp only [if_true] at hrel
          subst hrel
          replace hM := Lib.hid hM
          replace hM1 := Lib.hid hM1
          go_wp2_with fail
          go_ret2
          exact ⟨rfl, hB1⟩
    · obtain rfl : k = ws.length := by omega
      replace hrel := hrel.out
      rw [List.drop_length] at hrel
      unfold setsK at hrel
      cases op
      · simp only [Bool.false_eq_true, if_false] at hrel
        subst hrel
        have hrows := hM.rows
        replace hM := Lib.hid hM
        go_wp2_with fail
        go_ret2
        exact ⟨_, rfl, hrows, hB⟩
      · simp only [if_true] at hrel
        subst hrel
        replace hM := Lib.hid hM
        go_wp2_with fail
        go_ret2
        exact ⟨rfl, hB⟩
end Go.Proofs.Ythoohbmpbahkgaa
