/- The laws' same. -/
import Derived.Test.YthoohbmpbahkgaaWrdRefLines
import Derived.Test.YthoohbmpbahkgaaWrdShown
import Derived.Deep.QuietTactic
import Derived.BigQuiet
namespace Go.Proofs.Ythoohbmpbahkgaa
open Go.RowKit

/-- Rows of words, wherever they lie. -/
def RowsAt (W : World) (v : Value) (rs : List (List Wd)) : Prop :=
  (v = .slice none 0 0 ∧ rs = []) ∨ ∃ a c, v = .slice (some a) rs.length c ∧ a.block < W.heap.size ∧ ∀ i, i < rs.length → ∃ u, W.cell? (a.add i) = some u ∧ RowAt enW W u (rs[i]?.getD [])
theorem RowsR.at {TS : TypeId} {W : World} {B : Nat} {v : Value} {rs : List (List Wd)} (h : RowsR enW TS W B v rs) : RowsAt W v rs := by
  obtain ⟨vs, h1, h2, h3⟩ := h
  rcases own_form h1 with ⟨e1, e2⟩ | ⟨g, c, e1, e2, e3, -⟩
  · exact .inl ⟨e1, List.length_eq_zero_iff.1 (by omega)⟩
  · subst e1
    refine .inr ⟨_, c, by rw [h2], e3, fun i hi => ?_⟩
    obtain ⟨u, u1, u2, -⟩ := h3 i (by omega)
    exact ⟨u, World.ownsRow.cells h1 (g := g) rfl _ _ u1, u2⟩
theorem RowsAt.on {W W' : World} {v : Value} {rs : List (List Wd)} (h : RowsAt W v rs) (hb : Below W.heap.size W W') : RowsAt W' v rs := by
  rcases h with h | ⟨a, c, h1, h2, h3⟩
  · exact .inl h
  · refine .inr ⟨a, c, h1, Nat.lt_of_lt_of_le h2 hb.size, fun i hi => ?_⟩
    obtain ⟨u, u1, u2⟩ := h3 i hi
    exact ⟨u, (hb.cell (p := a.add i) (by rw [add_blk]; exact h2)).trans u1, u2.on hb⟩
theorem RowsAt.len {W : World} {v : Value} {rs : List (List Wd)} (h : RowsAt W v rs) : ∃ p c, v = .slice p rs.length c := by
  rcases h with ⟨h, h0⟩ | ⟨a, c, h, -⟩
  · exact ⟨none, 0, by rw [h, h0]; rfl⟩
  · exact ⟨_, _, h⟩
/-- One of them. -/
theorem RowsAt.get {W : World} {p : Option Addr} {n c : Nat} {rs : List (List Wd)} (h : RowsAt W (.slice p n c) rs) (i : Nat) (hi : i < rs.length) :
    ∃ a q d, p = some a ∧ W.cell? (a.add i) = some (.slice q (rs[i]?.getD []).length d) ∧ RowAt enW W (.slice q (rs[i]?.getD []).length d) (rs[i]?.getD []) := by
  rcases h with ⟨-, h0⟩ | ⟨a, c', h1, h2, h3⟩
  · rw [h0] at hi; simp at hi
  · simp only [Value.slice.injEq] at h1
    obtain ⟨u, u1, u2⟩ := h3 i hi
    obtain ⟨q, d, rfl, -⟩ := u2.len
    exact ⟨a, q, d, h1.1, u1, u2⟩
/-- One word of a row. -/
theorem RowAt.word {W : World} {p : Option Addr} {n c : Nat} {ws : List Wd} (h : RowAt enW W (.slice p n c) ws) (i : Nat) (hi : i < ws.length) :
    ∃ a, p = some a ∧ W.cell? (a.add (i * 3)) = some (.int .i64 (ws[i]?.getD default).line) ∧ W.cell? ⟨(a.add (i * 3)).block, (a.add (i * 3)).off + 1, none⟩ = some (.int .i64 (ws[i]?.getD default).pos) ∧ W.cell? ⟨(a.add (i * 3)).block, (a.add (i * 3)).off + 2, none⟩ = some (.string (ws[i]?.getD default).text) := by
  rcases h with ⟨-, h0⟩ | ⟨a, c', h1, h2, h3, h4, h5⟩
  · rw [h0] at hi; simp at hi
  · simp only [Value.slice.injEq] at h1
    exact ⟨a, h1.1, word_cells h5 i hi⟩

set_option maxRecDepth 100000 in
set_option maxHeartbeats 4000000 in
theorem same_any (va vb : Value) (rs : List (List Wd)) (w : World) (ha : RowsAt w va rs) (hb : RowsAt w vb rs) (hl : rs.length ≤ 10000000) (hll : ∀ i : Nat, (rs[i]?.getD []).length ≤ 10000000) :
    Calls Try.prog 13 #[va, vb] w fun e w' => e = .returned (.bool true) ∧ Below w.heap.size w w' := by
  obtain ⟨pa, ca, rfl⟩ := ha.len
  obtain ⟨pb, cb, rfl⟩ := hb.len
  have HA := Lib.hid (fun (W : World) (h : Below w.heap.size w W) => ha.on h)
  have HB := Lib.hid (fun (W : World) (h : Below w.heap.size w W) => hb.on h)
  have HLL := Lib.hid hll
  clear ha hb hll
  go_enter Try.func13, Try.ntmps13
  go_wp2_with fail
  go_loopw [5] (fun iv wr => ∃ i : Nat, i ≤ rs.length ∧ iv = .int .i64 i ∧ Below w.heap.size w wr) (fun iv _ => (rs.length - intOf iv).toNat)
  case atStart => exact ⟨0, by omega, rfl, Below.refl _ _⟩
  case round =>
    obtain ⟨i, hi, rfl, hBo⟩ := hrel
    obtain ⟨wo, hwo⟩ : ∃ x, x = wr := ⟨_, rfl⟩
    subst hwo
    by_cases hlt : i < rs.length
    · obtain ⟨a, qa, da, rfl, ha1, ha2⟩ := (HA.out wo hBo).get i hlt
      obtain ⟨b, qb, db, rfl, hb1, hb2⟩ := (HB.out wo hBo).get i hlt
      have hLb := HLL.out i
      obtain ⟨L, hL⟩ : ∃ L, rs[i]?.getD [] = L := ⟨_, rfl⟩
      rw [hL] at ha1 ha2 hb1 hb2 hLb
      replace hL := Lib.hid hL
      have zi0 : (0 : Int) ≤ (i : Int) := by omega
      have zi1 : (i : Int) < (rs.length : Int) := by omega
      have HA2 := Lib.hid (fun (W : World) (h : Below wo.heap.size wo W) => ha2.on h)
      have HB2 := Lib.hid (fun (W : World) (h : Below wo.heap.size wo W) => hb2.on h)
      have la := World.block_lt_of_cell? wo _ ha1
      have lb := World.block_lt_of_cell? wo _ hb1
      have HA1 := Lib.hid (fun (W : World) (h : Below wo.heap.size wo W) => (h.cell (p := a.add i) la).trans ha1)
      have HB1 := Lib.hid (fun (W : World) (h : Below wo.heap.size wo W) => (h.cell (p := b.add i) lb).trans hb1)
      clear ha2 hb2 la lb
      have eL : (((L.length : Nat) : Int) != (L.length : Int)) = false := by simp
      go_wp2_with fail
      go_quiet (fail)
      go_wp2_with fail
      clear ha1 hb1
      go_loopw [6] (fun kv wr => ∃ k : Nat, k ≤ L.length ∧ kv = .int .i64 k ∧ Below wo.heap.size wo wr) (fun kv _ => (L.length - intOf kv).toNat)
      case atStart => exact ⟨0, by omega, rfl, below_drewN (Below.refl _ _) _⟩
      case round =>
        obtain ⟨k, hk, rfl, hBi⟩ := hrel
        have ha1 := HA1.out wr hBi
        have hb1 := HB1.out wr hBi
        by_cases hkk : k < L.length
        · obtain ⟨x, rfl, x0, x1, x2⟩ := (HA2.out wr hBi).word k hkk
          obtain ⟨y, rfl, y0, y1, y2⟩ := (HB2.out wr hBi).word k hkk
          obtain ⟨t, ht⟩ : ∃ t, L[k]?.getD default = t := ⟨_, rfl⟩
          rw [ht] at x0 x1 x2 y0 y1 y2
          replace ht := Lib.hid ht
          obtain ⟨tl, tp, tt⟩ := t
          simp only at x0 x1 x2 y0 y1 y2
          have el : ((tl : Int) != tl) = false := by simp
          have ep : ((tp : Int) != tp) = false := by simp
          have et : (tt.toList != tt.toList) = false := by simp
          have zk0 : (0 : Int) ≤ (k : Int) := by omega
          have zk1 : (k : Int) < (L.length : Int) := by omega
          go_wp2_with fail
          go_quiet (fail)
          go_wp2_with fail
          go_roundw
          case rel => exact ⟨k + 1, by omega, by go_num, below_drewN hBi _⟩
          case measure => simp [intOf]; omega
        · obtain rfl : k = L.length := by omega
          have hBf := hBo.trans (hBi.mono hBo.size)
          go_wp2_with fail
          go_roundw
          case rel => exact ⟨i + 1, by omega, by go_num, hBf⟩
          case measure => simp [intOf]; omega
    · obtain rfl : i = rs.length := by omega
      go_wp2_with fail
      go_ret
      exact ⟨rfl, hBo⟩
end Go.Proofs.Ythoohbmpbahkgaa
