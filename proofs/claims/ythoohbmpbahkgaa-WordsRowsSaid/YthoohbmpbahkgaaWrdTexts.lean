/- The laws' texts. -/
import Derived.Test.YthoohbmpbahkgaaWrdSame
namespace Go.Proofs.Ythoohbmpbahkgaa
open Go.RowKit

set_option maxRecDepth 100000 in
set_option maxHeartbeats 4000000 in
theorem texts_any (va vb : Value) (rs ts : List (List Wd)) (w : World) (ha : RowsAt w va rs) (hb : RowsAt w vb ts) (hl : rs.length ≤ 10000000) (hll : ∀ i : Nat, (rs[i]?.getD []).length ≤ 10000000) (hlen : ts.length = rs.length) (heq : ∀ i : Nat, (ts[i]?.getD []).length = (rs[i]?.getD []).length ∧ ∀ k : Nat, ((ts[i]?.getD [])[k]?.getD default).text = ((rs[i]?.getD [])[k]?.getD default).text) :
    Calls Try.prog 24 #[va, vb] w fun e w' => e = .returned (.bool true) ∧ Below w.heap.size w w' := by
  obtain ⟨pa, ca, rfl⟩ := ha.len
  obtain ⟨pb, cb, rfl⟩ := hb.len
  have HA := Lib.hid (fun (W : World) (h : Below w.heap.size w W) => ha.on h)
  have HB := Lib.hid (fun (W : World) (h : Below w.heap.size w W) => hb.on h)
  have HLL := Lib.hid hll
  have HEQ := Lib.hid heq
  have HLN := Lib.hid hlen
  rw [hlen]
  have HTL := Lib.hid (fun i : Nat => (heq i).1)
  clear ha hb hll heq hlen
  go_enter Try.func24, Try.ntmps24
  go_wp2_with fail
  go_loopw [5] (fun iv wr => ∃ i : Nat, i ≤ rs.length ∧ iv = .int .i64 i ∧ Below w.heap.size w wr) (fun iv _ => (rs.length - intOf iv).toNat)
  case atStart => exact ⟨0, by omega, rfl, Below.refl _ _⟩
  case round =>
    obtain ⟨i, hi, rfl, hBo⟩ := hrel
    obtain ⟨wo, hwo⟩ : ∃ x, x = wr := ⟨_, rfl⟩
    subst hwo
    by_cases hlt : i < rs.length
    · obtain ⟨a, qa, da, rfl, ha1, ha2⟩ := (HA.out wo hBo).get i hlt
      obtain ⟨b, qb, db, rfl, hb1, hb2⟩ := (HB.out wo hBo).get i (by have := HLN.out; omega)
      have hEQ := HEQ.out i
      obtain ⟨L2, hL2⟩ : ∃ L, ts[i]?.getD [] = L := ⟨_, rfl⟩
      rw [hL2] at hb1 hb2 hEQ
      have hLb := HLL.out i
      obtain ⟨L, hL⟩ : ∃ L, rs[i]?.getD [] = L := ⟨_, rfl⟩
      rw [hL] at ha1 ha2 hLb hEQ
      obtain ⟨hE1, hE2⟩ := hEQ
      rw [hE1] at hb1 hb2
      have HE2 := Lib.hid hE2
      have HE1 := Lib.hid hE1
      clear hE1 hE2
      replace hL2 := Lib.hid hL2
      replace hL := Lib.hid hL
      have zi0 : (0 : Int) ≤ (i : Int) := by omega
      have zi1 : (i : Int) < (rs.length : Int) := by omega
      have HA2 := Lib.hid (fun (W : World) (h : Below wo.heap.size wo W) => ha2.on h)
      have HB2 := Lib.hid (fun (W : World) (h : Below wo.heap.size wo W) => hb2.on h)
      have la := World.block_lt_of_cell? wo _ ha1
      have lb := World.block_lt_of_cell? wo _ hb1
      have HA1 := Lib.hid (fun (W : World) (h : Below wo.heap.size wo W) => (h.cell (p := a.add i) la).trans ha1)
      have HB1 := Lib.hid (fun (W : World) (h : Below wo.heap.size wo W) => (h.cell (p := b.add i) lb).trans hb1)
      clear ha2 hb2 la lb
      have eL : (((L.length : Nat) : Int) != (L.length : Int)) = false := by simp
      go_wp2_with fail
      go_quiet (fail)
      go_wp2_with fail
      clear ha1 hb1
      go_loopw [6] (fun kv wr => ∃ k : Nat, k ≤ L.length ∧ kv = .int .i64 k ∧ Below wo.heap.size wo wr) (fun kv _ => (L.length - intOf kv).toNat)
      case atStart => exact ⟨0, by omega, rfl, below_drewN (Below.refl _ _) _⟩
      case round =>
        obtain ⟨k, hk, rfl, hBi⟩ := hrel
        have ha1 := HA1.out wr hBi
        have hb1 := HB1.out wr hBi
        by_cases hkk : k < L.length
        · obtain ⟨x, rfl, x0, x1, x2⟩ := (HA2.out wr hBi).word k hkk
          obtain ⟨y, rfl, y0, y1, y2⟩ := (HB2.out wr hBi).word k (by have := HE1.out; omega)
          obtain ⟨t, ht⟩ : ∃ t, L[k]?.getD default = t := ⟨_, rfl⟩
          have hE := HE2.out k
          rw [ht] at x2 hE
          rw [hE] at y2
          replace ht := Lib.hid ht
          obtain ⟨tl, tp, tt⟩ := t
          simp only at x2 y2
          clear x0 x1 y0 y1 hE
          have et : (tt.toList != tt.toList) = false := by simp
          have zk0 : (0 : Int) ≤ (k : Int) := by omega
          have zk1 : (k : Int) < (L.length : Int) := by omega
          go_wp2_with fail
          go_quiet (fail)
          go_wp2_with fail
          go_roundw
          case rel => exact ⟨k + 1, by omega, by go_num, below_drewN hBi _⟩
          case measure => simp [intOf]; omega
        · obtain rfl : k = L.length := by omega
          have hBf := hBo.trans (hBi.mono hBo.size)
          go_wp2_with fail
          go_roundw
          case rel => exact ⟨i + 1, by omega, by go_num, hBf⟩
          case measure => simp [intOf]; omega
    · obtain rfl : i = rs.length := by omega
      go_wp2_with fail
      go_ret
      exact ⟨rfl, hBo⟩
end Go.Proofs.Ythoohbmpbahkgaa
