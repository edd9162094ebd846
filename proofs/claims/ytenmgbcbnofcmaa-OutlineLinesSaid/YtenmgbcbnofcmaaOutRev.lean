/- The contract of slices.Reverse at points of a call's own. -/
import Derived.Test.YtenmgbcbnofcmaaOutCut
import Derived.Test.YtenmgbcbnofcmaaOutCopy
import Derived.Laws.Rows
namespace Go.Proofs.Ytenmgbcbnofcmaa
open Go.RowKit

/-- Points b up to e the other way about, in a row. -/
def revAt (ps : List Pn) (b e : Nat) : List Pn := ps.take b ++ ((ps.drop b).take (e - b)).reverse ++ ps.drop e
/-- Two points of a row, changed over. -/
def swapP (ps : List Pn) (i j : Nat) : List Pn := (ps.set i (ps[j]?.getD default)).set j (ps[i]?.getD default)
theorem encs_set3 (ps : List Pn) (i : Nat) (p : Pn) (h : i < ps.length) : encs (ps.set i p) = (((encs ps).set (i * 3) (.int .i64 p.x)).set (i * 3 + 1) (.int .i64 p.y)).set (i * 3 + 2) (.bool p.on) := encs_set ps i p h
theorem PRow.set3 {W : World} {B g n c : Nat} {ps : List Pn} (h : PRow W B (.slice (some ⟨g, 0, none⟩) n c) ps) (hn : ps.length = n) (i : Nat) (hi : i < n) (p : Pn) :
    PRow (((W.setCell ⟨g, i * 3, none⟩ (.int .i64 p.x)).setCell ⟨g, i * 3 + 1, none⟩ (.int .i64 p.y)).setCell ⟨g, i * 3 + 2, none⟩ (.bool p.on)) B (.slice (some ⟨g, 0, none⟩) n c) (ps.set i p) := by
  subst hn
  unfold PRow at h ⊢
  rw [List.length_set, encs_set ps i p hi]
  exact (World.ownsRow.stored (World.ownsRow.stored (World.ownsRow.stored h (i * 3) _).1 (i * 3 + 1) _).1 (i * 3 + 2) _).1

/-- The row while it is turned about: i done from either end, of those from b on, m many. -/
def revK (ps : List Pn) (b m k : Nat) : List Pn := (List.range ps.length).map fun j => if b ≤ j ∧ j < b + m ∧ (j < b + k ∨ b + m ≤ j + k) then ps[b + (b + m - 1 - j)]?.getD default else ps[j]?.getD default
theorem revK_len (ps : List Pn) (b m k : Nat) : (revK ps b m k).length = ps.length := by simp [revK]
theorem revK_get (ps : List Pn) (b m k j : Nat) (h : j < ps.length) : (revK ps b m k)[j]?.getD default = if b ≤ j ∧ j < b + m ∧ (j < b + k ∨ b + m ≤ j + k) then ps[b + (b + m - 1 - j)]?.getD default else ps[j]?.getD default := by
  unfold revK
  rw [List.getElem?_map, List.getElem?_range h]
  rfl
theorem list_ext_d {xs ys : List Pn} (hl : xs.length = ys.length) (h : ∀ j, j < xs.length → xs[j]?.getD default = ys[j]?.getD default) : xs = ys := by
  apply List.ext_getElem hl
  intro j h1 h2
  have := h j h1
  rw [List.getElem?_eq_getElem h1, List.getElem?_eq_getElem h2] at this
  exact this
theorem set_get (xs : List Pn) (i j : Nat) (p : Pn) (h : i < xs.length) : (xs.set i p)[j]?.getD default = if i = j then p else xs[j]?.getD default := by
  rw [List.getElem?_set]
  by_cases e : i = j
  · subst e
    simp [h]
  · rw [if_neg e, if_neg e]
theorem revK_next (ps : List Pn) (b m k : Nat) (hb : b + m ≤ ps.length) (hk : 2 * k + 1 < m) : revK ps b m (k + 1) = swapP (revK ps b m k) (b + k) (b + (m - 1 - k)) := by
  have l1 := revK_len ps b m k
  apply list_ext_d
  · unfold swapP
    rw [List.length_set, List.length_set, l1, revK_len]
  · intro j hj
    rw [revK_len] at hj
    unfold swapP
    rw [set_get _ _ _ _ (by rw [List.length_set]; omega), set_get _ _ _ _ (by omega)]
    rw [revK_get _ _ _ _ _ hj, revK_get _ _ _ _ (b + k) (by omega), revK_get _ _ _ _ (b + (m - 1 - k)) (by omega), revK_get _ _ _ _ j hj]
    rw [if_neg (show ¬ (b ≤ b + k ∧ b + k < b + m ∧ (b + k < b + k ∨ b + m ≤ b + k + k)) by omega), if_neg (show ¬ (b ≤ b + (m - 1 - k) ∧ b + (m - 1 - k) < b + m ∧ (b + (m - 1 - k) < b + k ∨ b + m ≤ b + (m - 1 - k) + k)) by omega)]
    by_cases c1 : b + (m - 1 - k) = j
    · rw [if_pos c1, if_pos (by omega)]
      congr 2
      omega
    · rw [if_neg c1]
      by_cases c2 : b + k = j
      · rw [if_pos c2, if_pos (by omega)]
        congr 2
        omega
      · rw [if_neg c2]
        by_cases c3 : b ≤ j ∧ j < b + m ∧ (j < b + k ∨ b + m ≤ j + k)
        · rw [if_pos c3, if_pos (by omega)]
        · rw [if_neg c3, if_neg (by omega)]
theorem revK_zero (ps : List Pn) (b m : Nat) : revK ps b m 0 = ps := by
  apply list_ext_d (revK_len ps b m 0)
  intro j hj
  rw [revK_len] at hj
  rw [revK_get _ _ _ _ _ hj, if_neg (by omega)]

/-- Nothing but cells of one block has changed. -/
structure OnlyG (g : Nat) (W W' : World) : Prop where
  size : W'.heap.size = W.heap.size
  ko : KeepsOthers W W'
  cell : ∀ a : Addr, a.block ≠ g → W'.cell? a = W.cell? a
  frozen : ∀ a : Addr, W'.frozen? a = W.frozen? a
  bel : Below g W W'
  blk : ∀ k : Nat, k ≠ g → W'.heap[k]? = W.heap[k]?
theorem OnlyG.refl (g : Nat) (W : World) : OnlyG g W W := ⟨rfl, KeepsOthers.refl _, fun _ _ => rfl, fun _ => rfl, Below.refl _ _, fun _ _ => rfl⟩
theorem OnlyG.set {g : Nat} {W W' : World} (h : OnlyG g W W') (o : Nat) (u : Value) : OnlyG g W (W'.setCell ⟨g, o, none⟩ u) :=
  ⟨by simpa using h.size, h.ko.trans (KeepsOthers.setCell _ _ _), fun a ha => (World.cell?_setCell_far _ _ _ _ (fun e => ha e.symm)).trans (h.cell a ha), fun a => (World.frozen?_setCell _ _ _ _).trans (h.frozen a), h.bel.setCell (by simp) _, fun k hk => (heap_setCell_other _ _ _ _ hk).trans (h.blk k hk)⟩
theorem OnlyG.drew {g : Nat} {W W' : World} (h : OnlyG g W W') : OnlyG g W W'.drew :=
  ⟨by simpa using h.size, h.ko.trans (KeepsOthers.drew _), fun a ha => h.cell a ha, fun a => h.frozen a, h.bel.drew, fun k hk => h.blk k hk⟩

theorem OnlyG.row {g : Nat} {W W' : World} (h : OnlyG g W W') {B : Nat} {T : TypeId} {sz n : Nat} {v : Value} {xs : List Value} (hr : W.ownsRow B T sz v n xs) (hg : ∀ a l c, v = .slice (some a) l c → a.block ≠ g) : W'.ownsRow B T sz v n xs := by
  refine ⟨hr.1, ?_⟩
  rcases hr.2 with h1 | ⟨g', cap, cur, rfl, hB, hh, r⟩
  · exact .inl h1
  · exact .inr ⟨g', cap, cur, rfl, hB, (h.blk g' (hg _ _ _ rfl)).trans hh, r⟩
set_option maxHeartbeats 1000000 in
theorem reverse_any (w : World) (B g n c b m c' : Nat) (ps : List Pn) (hr : PRow w B (.slice (some ⟨g, 0, none⟩) n c) ps) (hn : ps.length = n) (hb : b + m ≤ n) (hn2 : n ≤ 100000) :
    Calls Try.prog 42 #[.slice (some ⟨g, b * 3, none⟩) m c'] w fun e w' => (∃ v, e = .returned v) ∧ PRow w' B (.slice (some ⟨g, 0, none⟩) n c) (revK ps b m (m / 2)) ∧ OnlyG g w w' := by
  go_enter Try.func42, Try.ntmps42
  go_wp2_with fail
  go_loopw [2, 3] (fun i j wr => ∃ k : Nat, 2 * k ≤ m ∧ i = .int .i64 k ∧ j = .int .i64 ((m : Int) - 1 - k) ∧ PRow wr B (.slice (some ⟨g, 0, none⟩) n c) (revK ps b m k) ∧ OnlyG g w wr) (fun i _ _ => (m - intOf i).toNat)
  case atStart => exact ⟨0, by omega, rfl, by go_num, by rw [revK_zero]; exact hr, OnlyG.refl _ _⟩
  case round =>
    clear hr
    obtain ⟨k, hk, rfl, rfl, hr, hG⟩ := hrel
    by_cases hlt : 2 * k + 1 < m
    · have hl := revK_len ps b m k
      obtain ⟨q1, q2, q3⟩ := encs_get (revK ps b m k) (b + k) (by omega)
      obtain ⟨r1, r2, r3⟩ := encs_get (revK ps b m k) (b + (m - 1 - k)) (by omega)
      have hc := World.ownsRow.cells hr (g := g) rfl
      have a1 := hc _ _ q1
      have a2 := hc _ _ q2
      have a3 := hc _ _ q3
      have b1 := hc _ _ r1
      have b2 := hc _ _ r2
      have b3 := hc _ _ r3
      simp only [Addr.add_lit, Nat.zero_add] at a1 a2 a3 b1 b2 b3
      have hfz : ∀ o, wr.frozen? ⟨g, o, none⟩ = false := fun o => by
        have h := hr
        unfold PRow at h
        rw [hl, hn] at h
        exact World.ownsRow.frozenAt h o
      have hnx := Lib.hid (revK_next ps b m k (by omega) hlt)
      unfold swapP at hnx
      have hj : ((m : Int) - 1 - k) = ((m - 1 - k : Nat) : Int) := by omega
      rw [hj]
      generalize hp : (revK ps b m k)[b + k]?.getD default = p at *
      generalize hq : (revK ps b m k)[b + (m - 1 - k)]?.getD default = q at *
      obtain ⟨px, py, po⟩ := p
      obtain ⟨qx, qy, qo⟩ := q
      simp only at a1 a2 a3 b1 b2 b3
      rw [show (b + k) * 3 = b * 3 + k * 3 by omega] at a1 a2 a3
      rw [show (b + (m - 1 - k)) * 3 = b * 3 + (m - 1 - k) * 3 by omega] at b1 b2 b3
      generalize hjj : m - 1 - k = j at *
      have hkj : k < j := by omega
      have hjm : j < m := by omega
      have hlr : (revK ps b m k).length = n := by rw [hl, hn]
      have R2 := (PRow.set3 (PRow.set3 hr hlr (b + k) (by omega) ⟨qx, qy, qo⟩) (by rw [List.length_set]; exact hlr) (b + j) (by omega) ⟨px, py, po⟩).on (below_drewN (Below.refl _ _) 1) (Nat.le_refl _)
      rw [← hnx.out] at R2
      simp only at R2
      rw [show (b + k) * 3 = b * 3 + k * 3 by omega, show (b + j) * 3 = b * 3 + j * 3 by omega] at R2
      have G2 := ((((((hG.set (b * 3 + k * 3) (.int .i64 qx)).set (b * 3 + k * 3 + 1) (.int .i64 qy)).set (b * 3 + k * 3 + 2) (.bool qo)).set (b * 3 + j * 3) (.int .i64 px)).set (b * 3 + j * 3 + 1) (.int .i64 py)).set (b * 3 + j * 3 + 2) (.bool po)).drew
      clear q1 q2 q3 r1 r2 r3 hc hp hq hj hr hG hnx
      go_wp2_with fail
      go_region
      clear a1 a2 a3 b1 b2 b3 hfz
      go_wp2_with fail
      go_roundw
      case rel => exact ⟨k + 1, by omega, by go_num, by go_num, R2, G2⟩
      case measure => simp [intOf]; omega
    · go_wp2_with fail
      go_end0
      refine ⟨⟨_, rfl⟩, ?_, hG⟩
      have hkm : m / 2 = k ∨ m / 2 = k := by omega
      rw [show m / 2 = k by omega]
      exact hr
end Go.Proofs.Ytenmgbcbnofcmaa
