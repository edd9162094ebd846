/- The closure that ends a word. -/
import Derived.Test.YthoohbmpbahkgaaWrdRow
import Derived.Test.YthoohbmpbahkgaaWrdDraw
import Derived.IntWalk
namespace Go.Proofs.Ythoohbmpbahkgaa
open Go.RowKit

/-- What is known of a world within split, whose blocks begin at n0. -/
structure Sp (n0 : Nat) (s : ByteArray) (num : Int) (ws : List Wd) (beg : Int) (v : Value) (r : ByteArray) (p : Nat) (W : World) : Prop where
  c0 : W.heap[n0]? = some (.cells #[.string s] 9 (0, 0))
  c1 : W.heap[n0 + 1]? = some (.cells #[.int .i64 num] 3 (0, 0))
  c2 : W.heap[n0 + 2]? = some (.cells #[v] 34 (0, 0))
  c3 : W.heap[n0 + 3]? = some (.cells #[.int .i64 beg] 3 (0, 0))
  it : W.heap[n0 + 4]? = some (.stringIter r p)
  row : OwnR enW 37 3 W (n0 + 5) v ws
theorem Sp.size {n0 : Nat} {s : ByteArray} {num : Int} {ws : List Wd} {beg : Int} {v : Value} {r : ByteArray} {p : Nat} {W : World} (h : Sp n0 s num ws beg v r p W) : n0 + 5 ≤ W.heap.size := by
  have := lt_of_block h.it
  omega

theorem heap_other {w : World} {a : Addr} {u : Value} {k : Nat} (h : a.block ≠ k) : (w.setCell a u).heap[k]? = w.heap[k]? := Below.heap_setCell _ _ _ _ (fun e => h e.symm)

set_option maxHeartbeats 2000000 in
theorem split1_any (n0 : Nat) (s : ByteArray) (num : Int) (ws : List Wd) (beg : Int) (v : Value) (r : ByteArray) (p : Nat) (q : Nat) (W : World) (hS : Sp n0 s num ws beg v r p W) (hs : s.size ≤ maxLen) (hq : q ≤ s.size) (hb : beg = -1 ∨ (0 ≤ beg ∧ beg ≤ q)) (hl : ws.length ≤ 10000000) :
    Calls Try.prog 35 #[.int .i64 q, .pointer (some ⟨n0 + 3, 0, none⟩), .pointer (some ⟨n0 + 2, 0, none⟩), .pointer (some ⟨n0 + 1, 0, none⟩), .pointer (some ⟨n0, 0, none⟩)] W fun e W' => e = .returned (.tuple #[]) ∧ (∃ v', Sp n0 s num (endW num s beg q ws) (-1) v' r p W') ∧ Below n0 W W' := by
  obtain ⟨i0, hi, hz0, hz1, hz2⟩ := info_parts infoWord
  unfold maxLen at hs
  have k0 := cell_of_one hS.c0
  have k1 := cell_of_one hS.c1
  have k2 := cell_of_one hS.c2
  have k3 := cell_of_one hS.c3
  have f2 := free_of_one hS.c2
  have f3 := free_of_one hS.c3
  rcases hb with rfl | ⟨hb0, hb1⟩
  · have HS := Lib.hid hS
    clear hS
    go_enter Try.func35, Try.ntmps35
    go_wp2_with fail
    go_end0
    exact ⟨rfl, ⟨v, HS.out⟩, Below.refl _ _⟩
  · obtain ⟨b, rfl⟩ : ∃ b : Nat, beg = b := ⟨beg.toNat, by omega⟩
    obtain ⟨pv, cv, rfl, -, -⟩ := hS.row.at.len
    have hbn : ((b : Int) == -1) = false := by simp <;> omega
    have hbn2 : ((b : Int) != -1) = true := by simp <;> omega
    have hz := hS.size
    have HS := Lib.hid hS
    have hrow : W.drew.ownsRow (n0 + 5) 37 3 (.slice pv ws.length cv) ws.length (flat enW ws) := hS.row
    have hne : ∀ g, (Value.slice pv ws.length cv).ownBlock = some g → n0 + 5 ≤ g ∧ g < W.heap.size := fun g hg => own_lt hS.row g hg
    have e1 : IntKind.i64.wrap (b : Int) = (b : Int) := IntWalk.i64_in _ (by omega)
    have z1 : (b : Int) ≤ (q : Int) := hb1
    have z2 : (q : Int) ≤ (s.size : Int) := by omega
    have z3 : b ≤ q := by omega
    have l0 : n0 < W.heap.size := by omega
    have l1 : n0 + 1 < W.heap.size := by omega
    have l2 : n0 + 2 < W.heap.size := by omega
    have l3 : n0 + 3 < W.heap.size := by omega
    clear hS
    go_enter Try.func35, Try.ntmps35
    go_wp2_with fail
    obtain ⟨S, hSd⟩ : ∃ S : World → Prop, S = fun w' => w'.cell? ⟨n0 + 2, 0, none⟩ = some (.slice pv ws.length cv) ∧ w'.cell? ⟨n0 + 1, 0, none⟩ = some (.int .i64 num) ∧ w'.cell? ⟨n0 + 3, 0, none⟩ = some (.int .i64 (b : Int)) ∧ w'.cell? ⟨n0, 0, none⟩ = some (.string s) := ⟨_, rfl⟩
    have S1 : S W.drew := by rw [hSd]; exact ⟨k2, k1, k3, k0⟩
    have S2 : ∀ o, S (W.drew.alloc o) := fun o => by rw [hSd]; exact ⟨(World.cell?_alloc_past _ _ _ l2).trans k2, (World.cell?_alloc_past _ _ _ l1).trans k1, (World.cell?_alloc_past _ _ _ l3).trans k3, (World.cell?_alloc_past _ _ _ l0).trans k0⟩
    have HSd := Lib.hid hSd
    clear hSd
    refine wp_region_D (S := S) (L := [0, 1, 2, 3, 4, 5, 6, 7]) (by kernel_rfl) S1 (fun hD => ?_)
    refine wpAnyD_take (i := 0) (oi := _) (v := .slice pv ws.length cv) rfl (by kernel_rfl) (by kernel_rfl) (by kernel_rfl) (by kernel_rfl) (fun _ _ _ h => h) (Or.inl ⟨by rfl, fun w' hS => by rw [HSd.out] at hS; obtain ⟨s1, s2, s3, s4⟩ := hS; go_simp⟩) hD ?_
    try simp only [Act.put, List.getElem_toArray, List.getElem_cons_zero, List.setIfInBounds_toArray, List.set_cons_zero, List.set_cons_succ]
    refine wpAnyD_take (i := 1) (oi := _) (v := .int .i64 num) rfl (by kernel_rfl) (by kernel_rfl) (by kernel_rfl) (by kernel_rfl) (fun _ _ _ h => h) (Or.inl ⟨by rfl, fun w' hS => by rw [HSd.out] at hS; obtain ⟨s1, s2, s3, s4⟩ := hS; go_simp⟩) hD ?_
    try simp only [Act.put, List.getElem_toArray, List.getElem_cons_succ, List.getElem_cons_zero, List.setIfInBounds_toArray, List.set_cons_zero, List.set_cons_succ]
    refine wpAnyD_take (i := 2) (oi := _) (v := .int .i64 (b : Int)) rfl (by kernel_rfl) (by kernel_rfl) (by kernel_rfl) (by kernel_rfl) (fun _ _ _ h => h) (Or.inl ⟨by rfl, fun w' hS => by rw [HSd.out] at hS; obtain ⟨s1, s2, s3, s4⟩ := hS; go_simp⟩) hD ?_
    try simp only [Act.put, List.getElem_toArray, List.getElem_cons_succ, List.getElem_cons_zero, List.setIfInBounds_toArray, List.set_cons_zero, List.set_cons_succ]
    refine wpAnyD_take (i := 3) (oi := _) (v := .string s) rfl (by kernel_rfl) (by kernel_rfl) (by kernel_rfl) (by kernel_rfl) (fun _ _ _ h => h) (Or.inl ⟨by rfl, fun w' hS => by rw [HSd.out] at hS; obtain ⟨s1, s2, s3, s4⟩ := hS; go_simp⟩) hD ?_
    try simp only [Act.put, List.getElem_toArray, List.getElem_cons_succ, List.getElem_cons_zero, List.setIfInBounds_toArray, List.set_cons_zero, List.set_cons_succ]
    refine wpAnyD_take (i := 4) (oi := _) (v := .int .i64 (b : Int)) rfl (by kernel_rfl) (by kernel_rfl) (by kernel_rfl) (by kernel_rfl) (fun _ _ _ h => h) (Or.inl ⟨by rfl, fun w' hS => by rw [HSd.out] at hS; obtain ⟨s1, s2, s3, s4⟩ := hS; go_simp⟩) hD ?_
    try simp only [Act.put, List.getElem_toArray, List.getElem_cons_succ, List.getElem_cons_zero, List.setIfInBounds_toArray, List.set_cons_zero, List.set_cons_succ]
    refine wpAnyD_take (i := 5) (oi := _) (v := .int .i64 (q : Int)) rfl (by kernel_rfl) (by kernel_rfl) (by kernel_rfl) (by kernel_rfl) (fun _ _ _ h => h) (Or.inl ⟨by rfl, fun w' hS => by rw [HSd.out] at hS; obtain ⟨s1, s2, s3, s4⟩ := hS; go_simp⟩) hD ?_
    try simp only [Act.put, List.getElem_toArray, List.getElem_cons_succ, List.getElem_cons_zero, List.setIfInBounds_toArray, List.set_cons_zero, List.set_cons_succ]
    refine wpAnyD_take (i := 6) (oi := _) (v := .string (s.extract b q)) rfl (by kernel_rfl) (by kernel_rfl) (by kernel_rfl) (by kernel_rfl) (fun _ _ _ h => h) (Or.inl ⟨by rfl, fun w' hS => by rw [HSd.out] at hS; obtain ⟨s1, s2, s3, s4⟩ := hS; go_simp⟩) hD ?_
    try simp only [Act.put, List.getElem_toArray, List.getElem_cons_succ, List.getElem_cons_zero, List.setIfInBounds_toArray, List.set_cons_zero, List.set_cons_succ]
    refine wpAnyD_take (i := 7) (oi := _) (v := .agg #[.int .i64 num, .int .i64 (b : Int), .string (s.extract b q)]) rfl (by kernel_rfl) (by kernel_rfl) (by kernel_rfl) (by kernel_rfl) (fun _ _ _ h => h) (Or.inl ⟨by rfl, fun w' hS => by rw [HSd.out] at hS; obtain ⟨s1, s2, s3, s4⟩ := hS; go_simp⟩) hD ?_
    try simp only [Act.put, List.getElem_toArray, List.getElem_cons_succ, List.getElem_cons_zero, List.setIfInBounds_toArray, List.set_cons_zero, List.set_cons_succ]
    refine wpAnyD_one (i := 8) (o := _) (by kernel_rfl) rfl (fun K hK => ?_)
    go_simp
    refine hK.out _ _ (fun _ => S2 _) ?_
    clear hK K
    try simp only [Act.put, List.getElem_toArray, List.getElem_cons_succ, List.getElem_cons_zero, List.setIfInBounds_toArray, List.set_cons_zero, List.set_cons_succ]
    have hne2 : ∀ k, k < n0 + 5 → some k ≠ (Value.slice pv ws.length cv).ownBlock := fun k hk e => by have h := hne _ e.symm; omega
    refine wpAnyD_one (i := 9) (o := _) (by kernel_rfl) rfl (fun K hK => ?_)
    refine step_append_lies _ (by rfl) _ _ 34 (by rfl) (n0 + 5) 37 i0 _ 3 32 Try.underlying34 hi hz0 hz1 hz2 rfl (by omega) (.slice pv ws.length cv) ws.length (flat enW ws) (by rfl) (World.ownsRow.alloc hrow _) ⟨W.heap.size, 0, none⟩ 1 1 [.int .i64 num, .int .i64 (b : Int), .string (s.extract b q)] (by rfl) (by rfl) (World.news_of_block (cs := #[.int .i64 num, .int .i64 (b : Int), .string (s.extract b q)]) (t := 37) (fr := (0, 0)) (heap_alloc_new W.drew _)) (by simp [Value.oneCell']) (by omega) (by unfold maxLen; omega) (by omega) (by simp; omega) (W.heap.size + 1) (by simp) ?_
    intro g cap w1 hown1 hgrow hat hlt
    have hfar : ∀ k, k < n0 + 5 → w1.heap[k]? = W.heap[k]? := fun k hk => (hgrow.block k (by simp; omega) (hne2 k hk)).trans (Below.heap_alloc _ _ _ (by show k < W.heap.size; omega))
    have B0 := (hfar n0 (by omega)).trans HS.out.c0
    have B1 := (hfar (n0 + 1) (by omega)).trans HS.out.c1
    have B2 := (hfar (n0 + 2) (by omega)).trans HS.out.c2
    have B3 := (hfar (n0 + 3) (by omega)).trans HS.out.c3
    have B4 := (hfar (n0 + 4) (by omega)).trans HS.out.it
    have j2 := cell_of_one B2
    have j3 := cell_of_one B3
    have g2 := free_of_one B2
    have g3 := free_of_one B3
    refine hK.out _ _ (fun _ => by rw [HSd.out]; exact ⟨j2, cell_of_one B1, j3, cell_of_one B0⟩) ?_
    clear hK K
    try simp only [Act.put, List.getElem_toArray, List.getElem_cons_succ, List.getElem_cons_zero, List.setIfInBounds_toArray, List.set_cons_zero, List.set_cons_succ]
    have hbw : Below n0 W w1 := ((show Below n0 W W.drew from below_drewN (Below.refl _ _) 1).alloc (by simp; omega) _).grown hgrow (by simp; omega) (fun x hx => by have := hne x hx; omega)
    have hg5 : n0 + 5 ≤ g := by rcases hat with h | h; exact (hne g h).1; omega
    have HB := Lib.hid (show Below n0 W w1 ∧ w1.heap[n0]? = _ ∧ w1.heap[n0 + 1]? = _ ∧ w1.heap[n0 + 2]? = _ ∧ w1.heap[n0 + 3]? = _ ∧ w1.heap[n0 + 4]? = _ from ⟨hbw, B0, B1, B2, B3, B4⟩)
    have hlw : n0 + 3 < w1.heap.size := by omega
    clear hbw B0 B1 B2 B3 B4 hfar hgrow hat hne2 hne S1 S2 HSd k0 k1 k2 k3 f2 f3 hD hrow
    have hown := Lib.hid hown1
    clear hown1
    refine wpAnyD_last (i := 10) (o := _) (by kernel_rfl) rfl (by kernel_rfl) (fun K hK => ?_)
    go_simp
    refine hK.out _ _ ?_
    clear hK K
    refine wpAnyD_done (by kernel_rfl) ?_ _
    go_wp2_with fail
    go_end0
    obtain ⟨hbw, B0, B1, B2, B3, B4⟩ := HB.out
    refine ⟨rfl, ⟨.slice (some ⟨g, 0, none⟩) (ws.length + 1) cap, ?_⟩, (hbw.setCell (by simp) _).setCell (by simp) _⟩
    have hend : endW num s (b : Int) q ws = ws ++ [⟨num, b, s.extract b q⟩] := by unfold endW; rw [if_neg (by omega), Int.toNat_natCast]
    rw [hend]
    have C2 := one_setCell (u := .slice (some ⟨g, 0, none⟩) (ws.length + 1) cap) B2
    have C3 : (w1.setCell ⟨n0 + 2, 0, none⟩ (.slice (some ⟨g, 0, none⟩) (ws.length + 1) cap)).heap[n0 + 3]? = _ := (heap_other (by simp)).trans B3
    refine ⟨?_, ?_, ?_, one_setCell C3, ?_, ?_⟩
    · rw [heap_other (by simp), heap_other (by simp)]; exact B0
    · rw [heap_other (by simp), heap_other (by simp)]; exact B1
    · rw [heap_other (by simp)]; exact C2
    · rw [heap_other (by simp), heap_other (by simp)]; exact B4
    · refine ownsRow_setCell_other (ownsRow_setCell_other ?_ (by simp [Value.ownBlock]; omega) _) (by simp [Value.ownBlock]; omega) _
      rw [List.length_append, List.length_singleton, flat_app, flat_one]
      exact hown.out
end Go.Proofs.Ythoohbmpbahkgaa
