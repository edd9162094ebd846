/- The closure that ends a line. -/
import Derived.Test.YthoohbmpbahkgaaWrdSplit
import Derived.Deep.RegionHeld3
namespace Go.Proofs.Ythoohbmpbahkgaa
open Go.RowKit

/-- What is known of a world within Lines, whose blocks begin at n0. -/
structure Ln (n0 : Nat) (s : ByteArray) (num beg : Nat) (v : Value) (rs : List (List Wd)) (p : Nat) (W : World) : Prop where
  c0 : W.heap[n0]? = some (.cells #[.string s] 9 (0, 0))
  c1 : W.heap[n0 + 1]? = some (.cells #[v] 24 (0, 0))
  c2 : W.heap[n0 + 2]? = some (.cells #[.int .i64 num] 3 (0, 0))
  c3 : W.heap[n0 + 3]? = some (.cells #[.int .i64 beg] 3 (0, 0))
  it : W.heap[n0 + 4]? = some (.stringIter s p)
  row : RowsR enW 34 W (n0 + 5) v rs
theorem balloc1 (w : World) (o : Obj) : Below w.heap.size w (w.alloc o) := (Below.refl _ _).alloc (Nat.le_refl _) _
theorem Ln.size {n0 : Nat} {s : ByteArray} {num beg : Nat} {v : Value} {rs : List (List Wd)} {p : Nat} {W : World} (h : Ln n0 s num beg v rs p W) : n0 + 5 ≤ W.heap.size := by
  have := lt_of_block h.it
  omega
theorem Ln.next {n0 : Nat} {s : ByteArray} {num beg : Nat} {v : Value} {rs : List (List Wd)} {p : Nat} {W W' : World} (h : Ln n0 s num beg v rs p W) (hb : Below W.heap.size W W') : Ln n0 s num beg v rs p W' := by
  have hz := h.size
  exact ⟨(hb.block n0 (by omega)).trans h.c0, (hb.block (n0 + 1) (by omega)).trans h.c1, (hb.block (n0 + 2) (by omega)).trans h.c2, (hb.block (n0 + 3) (by omega)).trans h.c3, (hb.block (n0 + 4) (by omega)).trans h.it, h.row.on hb⟩
theorem rowAt_set {α : Type} {en : α → List Value} {W : World} {u : Value} {ts : List α} {a : Addr} (h : RowAt en W u ts) (hu : ∀ b l c, u = .slice (some b) l c → a.block ≠ b.block) (x : Value) : RowAt en (W.setCell a x) u ts := by
  rcases h with h | ⟨b, c, h1, h2, h3, h4, h5⟩
  · exact .inl h
  · have hne := hu b _ _ h1
    refine .inr ⟨b, c, h1, by simpa using h2, h3, h4, fun j y hj => ?_⟩
    rw [World.cell?_setCell_far _ _ _ _ (by rw [add_blk]; exact hne)]
    exact h5 j y hj
theorem rows_set {α : Type} {en : α → List Value} {TS : TypeId} {W : World} {B : Nat} {v : Value} {rs : List (List α)} {a : Addr} (h : RowsR en TS W B v rs) (ha : a.block < B) (x : Value) : RowsR en TS (W.setCell a x) B v rs := by
  obtain ⟨vs, h1, h2, h3⟩ := h
  refine ⟨vs, ownsRow_setCell_other h1 (fun e => by have := own_lt h1 _ e; omega) _, h2, fun i hi => ?_⟩
  obtain ⟨u, u1, u2, u3⟩ := h3 i hi
  exact ⟨u, u1, rowAt_set u2 (fun b l c e => by have := (u3 b l c e).1; omega) _, u3⟩
/-- The number of the line, and where the next one begins, are laid. -/
theorem Ln.step {n0 : Nat} {s : ByteArray} {num beg : Nat} {v : Value} {rs : List (List Wd)} {p : Nat} {W : World} (h : Ln n0 s num beg v rs p W) (m b : Nat) : Ln n0 s m b v rs p ((W.setCell ⟨n0 + 2, 0, none⟩ (.int .i64 m)).setCell ⟨n0 + 3, 0, none⟩ (.int .i64 b)) where
  c0 := (heap_other (by simp)).trans ((heap_other (by simp)).trans h.c0)
  c1 := (heap_other (by simp)).trans ((heap_other (by simp)).trans h.c1)
  c2 := (heap_other (by simp)).trans (one_setCell h.c2)
  c3 := one_setCell ((heap_other (by simp)).trans h.c3)
  it := (heap_other (by simp)).trans ((heap_other (by simp)).trans h.it)
  row := rows_set (rows_set h.row (by simp) _) (by simp) _

set_option maxHeartbeats 2000000 in
theorem line1_any (n0 : Nat) (s : ByteArray) (num beg : Nat) (v : Value) (rs : List (List Wd)) (p q : Nat) (W : World) (hS : Ln n0 s num beg v rs p W) (hs : s.size ≤ 10000000) (hq : q ≤ s.size) (hb : beg ≤ q) (hnum : num ≤ 100000000) (hl : rs.length ≤ 10000000) :
    Calls Try.prog 27 #[.int .i64 q, .pointer (some ⟨n0, 0, none⟩), .pointer (some ⟨n0 + 3, 0, none⟩), .pointer (some ⟨n0 + 2, 0, none⟩), .pointer (some ⟨n0 + 1, 0, none⟩)] W fun e W' => e = .returned (.tuple #[]) ∧ (∃ v', Ln n0 s (num + 1) (q + 1) v' (addNE rs (wordsP num (s.extract beg q))) p W') ∧ Below n0 W W' := by
  obtain ⟨j0, hj, hj0, hj1, hj2⟩ := info_parts infoWords
  have k0 := cell_of_one hS.c0
  have k2 := cell_of_one hS.c2
  have k3 := cell_of_one hS.c3
  have hz := hS.size
  have hwz : (s.extract beg q).size ≤ 10000000 := by rw [ByteArray.size_extract]; omega
  have cS := fun w => split_any (s.extract beg q) (num : Int) w hwz
  have hwl := wordsP_len num (s.extract beg q) (hashAt_le _)
  obtain ⟨ws, hws⟩ : ∃ ws, wordsP (num : Int) (s.extract beg q) = ws := ⟨_, rfl⟩
  rw [hws] at hwl
  simp only [hws] at cS
  have hws := Lib.hid hws
  have HS := Lib.hid hS
  clear hS
  have z0 : (0 : Int) ≤ (beg : Int) := by omega
  have z1 : (beg : Int) ≤ (q : Int) := by omega
  have z2 : (q : Int) ≤ (s.size : Int) := by omega
  have l0 : n0 < W.heap.size := by omega
  have l2 : n0 + 2 < W.heap.size := by omega
  have l3 : n0 + 3 < W.heap.size := by omega
  go_enter Try.func27, Try.ntmps27
  go_wp2_with fail
  go_region_held3 (fun w' => w'.cell? ⟨n0, 0, none⟩ = some (.string s) ∧ w'.cell? ⟨n0 + 3, 0, none⟩ = some (.int .i64 (beg : Int)) ∧ w'.cell? ⟨n0 + 2, 0, none⟩ = some (.int .i64 (num : Int)))
    (first | go_keep | (go_split_ands; exact ⟨(hb1.cell (p := ⟨n0, 0, none⟩) (by simpa using l0)).trans (by simp [go_sem, k0]), (hb1.cell (p := ⟨n0 + 3, 0, none⟩) (by simpa using l3)).trans (by simp [go_sem, k3]), (hb1.cell (p := ⟨n0 + 2, 0, none⟩) (by simpa using l2)).trans (by simp [go_sem, k2])⟩))
    (first | ((with_reducible refine (cS _).mono ?_); rintro e w1 ⟨u, rfl, hu, hb1⟩))
  have hb2 : Below W.heap.size W w1 := (show Below W.heap.size W W.drew from below_drewN (Below.refl _ _) 1).trans hb1
  have hu : OwnR enW 37 3 w1 W.heap.size u ws := hu
  have H1 := HS.out.next hb2
  have hz1 := H1.size
  have hzz : W.heap.size ≤ w1.heap.size := hb2.size
  obtain ⟨pu, cu, rfl, -, -⟩ := hu.at.len
  have j1 := cell_of_one H1.c1
  have j2 := cell_of_one H1.c2
  have j3 := cell_of_one H1.c3
  have f1 := free_of_one H1.c1
  have f2 := free_of_one H1.c2
  have f3 := free_of_one H1.c3
  have e1 : IntKind.i64.wrap ((num : Int) + 1) = (num : Int) + 1 := IntWalk.i64_in _ (by omega)
  have e2 : IntKind.i64.wrap ((q : Int) + 1) = (q : Int) + 1 := IntWalk.i64_in _ (by omega)
  obtain ⟨vs, hvo, hvl, hvs⟩ := H1.row
  have hb0 : Below n0 W w1 := hb2.mono (by omega)
  clear k0 k2 k3 hb1 hb2 cS
  by_cases h0 : ws.length = 0
  · have h00 : ¬ 0 < ws.length := by omega
    have H2 := Lib.hid (H1.step (num + 1) (q + 1))
    replace H1 := Lib.hid H1
    replace h0 := Lib.hid h0
    replace hvl := Lib.hid hvl
    replace hvs := Lib.hid hvs
    clear hvo hu
    go_wp2_with fail
    go_end0
    refine ⟨rfl, ⟨v, ?_⟩, (hb0.setCell (by simp) _).setCell (by simp) _⟩
    rw [hws.out]
    unfold addNE
    rw [if_pos h0.out]
    exact H2.out
  · have h00 : 0 < ws.length := by omega
    have hne : ∀ g, v.ownBlock = some g → n0 + 5 ≤ g ∧ g < w1.heap.size := fun g hg => own_lt hvo g hg
    have hun : ∀ a l c, Value.slice pu ws.length cu = .slice (some a) l c → n0 + 5 ≤ a.block ∧ v.ownBlock ≠ some a.block := fun a l c e => by
      rcases own_form hu with ⟨e1, -⟩ | ⟨g, c', e1, e2, e3, -⟩
      · rw [e1] at e; simp at e
      · rw [e1] at e
        simp only [Value.slice.injEq, Option.some.injEq] at e
        rw [← e.1]
        simp only
        refine ⟨by omega, fun h => ?_⟩
        have hlt : W.heap.size ≤ g := e2
        obtain ⟨vs0, hvo0, -⟩ := HS.out.row
        have := own_lt hvo0 g h
        omega
    have hua := hu.at
    obtain ⟨pv, cv, rfl⟩ : ∃ p c, v = .slice p vs.length c := by
      rcases own_form hvo with ⟨e1, e2⟩ | ⟨g, c, e1, -⟩
      · exact ⟨none, 0, by rw [e1, e2]⟩
      · exact ⟨_, c, e1⟩
    replace H1 := Lib.hid H1
    replace hvs := Lib.hid hvs
    replace hun := Lib.hid hun
    have hvb : vs.length ≤ 10000000 := by omega
    replace hvl := Lib.hid hvl
    replace hu := Lib.hid hu
    replace hua := Lib.hid hua
    have l1 : n0 + 1 < w1.heap.size := by omega
    go_wp2_with (at_builtin; refine wpList_append_lies _ (by rfl) _ _ 24 (by rfl) (n0 + 5) 34 j0 _ 1 24 Try.underlying24 hj hj0 hj1 hj2 rfl (by omega) (.slice pv vs.length cv) vs.length vs (by rfl) (World.ownsRow.alloc hvo _) ⟨w1.heap.size, 0, none⟩ 1 1 [.slice pu ws.length cu] (by rfl) (by rfl) (World.news_of_block (cs := #[.slice pu ws.length cu]) (t := 34) (fr := (0, 0)) (heap_alloc_new w1 _)) (by simp [Value.oneCell']) (by omega) (by unfold maxLen; omega) (by omega) (by simp; omega) (w1.heap.size + 1) (by simp) ?_)
    intro g cap w2 hown2 hgrow hat hlt2
    have hne2 : ∀ k, k < n0 + 5 → some k ≠ (Value.slice pv vs.length cv).ownBlock := fun k hk e => by have h := hne _ e.symm; omega
    have hfar : ∀ k, k < n0 + 5 → w2.heap[k]? = w1.heap[k]? := fun k hk => (hgrow.block k (by simp; omega) (hne2 k hk)).trans (Below.heap_alloc _ _ _ (by omega))
    have B0 := (hfar n0 (by omega)).trans H1.out.c0
    have B1 := (hfar (n0 + 1) (by omega)).trans H1.out.c1
    have B2 := (hfar (n0 + 2) (by omega)).trans H1.out.c2
    have B3 := (hfar (n0 + 3) (by omega)).trans H1.out.c3
    have B4 := (hfar (n0 + 4) (by omega)).trans H1.out.it
    have i1 := cell_of_one B1
    have i2 := cell_of_one B2
    have i3 := cell_of_one B3
    have g1 := free_of_one B1
    have g2 := free_of_one B2
    have g3 := free_of_one B3
    have hbw : Below n0 w1 w2 := ((Below.refl n0 w1).alloc (by omega) _).grown hgrow (by simp; omega) (fun x hx => by have := hne x hx; omega)
    have hR : RowsR enW 34 w2 (n0 + 5) (.slice (some ⟨g, 0, none⟩) (rs.length + 1) cap) (rs ++ [ws]) := by
      have hb := balloc1 w1 (.cells #[.slice pu ws.length cu] 34)
      refine RowsR.snoc hvl.out (fun i hi => ?_) (hua.out.on hb) hun.out hown2 hgrow (by rcases hat with h | h; exact .inl h; right; simp; omega)
      obtain ⟨x, x1, x2, x3⟩ := hvs.out i hi
      exact ⟨x, x1, x2.on hb, x3⟩
    have hgl : n0 + 5 ≤ g := by rcases hat with h | h; exact (hne g h).1; omega
    have hR0 := Lib.hid hR
    have hfin := Lib.hid (⟨B0, B1, B2, B3, B4⟩ : w2.heap[n0]? = _ ∧ w2.heap[n0 + 1]? = _ ∧ w2.heap[n0 + 2]? = _ ∧ w2.heap[n0 + 3]? = _ ∧ w2.heap[n0 + 4]? = _)
    have hle : n0 + 3 < w2.heap.size := by omega
    have hvl2 := hvl.out
    clear B0 B1 B2 B3 B4 hfar hne2 hne hgrow hown2 hat hR j1 j2 j3 f1 f2 f3 hvo
    rw [hvl2]
    replace hvl2 := Lib.hid hvl2
    go_wp2_with fail
    go_end0
    refine ⟨rfl, ⟨.slice (some ⟨g, 0, none⟩) (rs.length + 1) cap, ?_⟩, (((hb0.trans hbw).setCell (by simp) _).setCell (by simp) _).setCell (by simp) _⟩
    obtain ⟨B0, B1, B2, B3, B4⟩ := hfin.out
    rw [hws.out]
    unfold addNE
    rw [if_neg (by omega)]
    refine Ln.step (beg := beg) (num := num) ⟨?_, one_setCell B1, ?_, ?_, ?_, rows_set hR0.out (by simp) _⟩ _ _
    · exact (heap_other (by simp)).trans B0
    · exact (heap_other (by simp)).trans B2
    · exact (heap_other (by simp)).trans B3
    · exact (heap_other (by simp)).trans B4
end Go.Proofs.Ythoohbmpbahkgaa
