/- The iterator over contours: what it tells, for whatever loop. -/
import Derived.Test.YtenmgbcbnofcmaaOutRow
import Derived.RangeFuncNested
import Derived.RangeFuncBound
import Derived.RangeFuncCalls
import Derived.RangeFuncLeaves
import Derived.RangeFuncFrom
import Derived.Shelf.Abstract
import Derived.Shelf.RegionOpen
import Derived.OwnWalkIn
import Derived.TacticsInMore
import Derived.LoopNIn
import Derived.LoopIn
namespace Go.Proofs.Ytenmgbcbnofcmaa
open Go.RowKit Go.Shelf
attribute [local go_sem] Oper.semAt_some

/-- A contour of so many points: its number, where it begins, and what lies behind it. -/
abbrev Cut (n : Nat) := { c : Nat × Nat × Nat // c.2.1 < c.2.2 ∧ c.2.2 ≤ n }
def cutsO (n : Nat) : Nat → Nat → List Int → List (Cut n)
  | _, _, [] => []
  | k, b, e :: es => if h : (b : Int) ≤ e ∧ e < (n : Int) then ⟨(k, b, e.toNat + 1), ⟨by simp only; omega, by simp only; omega⟩⟩ :: cutsO n (k + 1) (e.toNat + 1) es else []
/-- What a loop over contours must keep. -/
def KeepB (bs : List Nat) (A B : World) : Prop := A.heap.size ≤ B.heap.size ∧ ∀ a : Addr, a.block ∈ bs → B.cell? a = A.cell? a
theorem KeepB.refl (bs : List Nat) (A : World) : KeepB bs A A := ⟨Nat.le_refl _, fun _ _ => rfl⟩
theorem KeepB.trans {bs : List Nat} {A B C : World} (h : KeepB bs A B) (k : KeepB bs B C) : KeepB bs A C := ⟨Nat.le_trans h.1 k.1, fun a ha => (k.2 a ha).trans (h.2 a ha)⟩

/-- The piece of points that a contour is. -/
def pieceV {n : Nat} (p : Option Addr) (c : Cut n) : Value := .slice (p.map fun a => a.add (c.1.2.1 * 3)) (c.1.2.2 - c.1.2.1) (c.1.2.2 - c.1.2.1)

set_option maxRecDepth 100000 in
set_option maxHeartbeats 2000000 in
theorem cut1_in (F : Fence) (n : Nat) (hF : F.fn 48) (hro : F.round = none) (hn : 1 ≤ n) (l Be Bp : Nat) (bs : List Nat) (hbp : Bp ∈ bs) (p : Option Addr) (np cp : Nat) (hnc : np ≤ cp) (hp : 0 < np → ∃ b, p = some b) (hnp : np ≤ 100000) (es : List Int) (hes : es.length ≤ 100000) (a : Addr) (ce : Nat) (ha : a.block ∈ bs) (J Jx : List (Cut np) → World → Prop)
    (hY : ∀ pre x W, J pre W → pre.length < es.length → YieldAt F (n - 1) Try.prog l #[.int .i64 (x.1.1 : Int), pieceV p x] W fun e W' =>
      (e = .returned (.bool true) ∧ J (pre ++ [x]) W' ∧ KeepB bs W W') ∨ (e = .returned (.bool false) ∧ Jx (pre ++ [x]) W'))
    (W : World) (hBe : W.cell? ⟨Be, 0, none⟩ = some (.slice (some a) es.length ce)) (hBp : W.cell? ⟨Bp, 0, none⟩ = some (.slice p np cp)) (hc : ∀ i, i < es.length → W.cell? (a.add i) = some (.int .i64 (es[i]?.getD 0))) (h0 : J [] W) :
    CallsIn F n Try.prog 48 #[.func (.yield l) #[] #[], .pointer (some ⟨Be, 0, none⟩), .pointer (some ⟨Bp, 0, none⟩)] W fun e W' => (∃ v, e = .returned v) ∧
      ((∃ xs, xs = cutsO np 0 0 es ∧ J xs W') ∨ (∃ pre, pre <+: cutsO np 0 0 es ∧ Jx pre W')) := by
  refine callsIn_of_wp Try.func48 rfl hF ?_ hro
  simp only [Try.ntmps48, List.size_toArray, List.length_cons, List.length_nil, Nat.reduceAdd, Nat.reduceSub, Array.replicate_succ, Array.replicate_zero, List.push_toArray, List.append_toArray, List.nil_append, List.cons_append]
  obtain ⟨R, hR⟩ : ∃ R, cutsO np 0 0 es = R := ⟨_, rfl⟩
  have HR := Lib.hid hR
  clear hR
  gi_wp2
  gi_loopw [4, 10] (fun b i wr => ∃ (k beg : Nat) (pre : List (Cut np)), k ≤ es.length ∧ i = .int .i64 k ∧ b = .int .i64 beg ∧ beg ≤ np ∧ pre.length ≤ k ∧ pre ++ cutsO np k beg (es.drop k) = R ∧ J pre wr ∧ KeepB bs W wr) (fun _ i _ => es.length - (intOf i).toNat)
  case atStart => exact ⟨0, 0, [], by omega, rfl, rfl, by omega, by simp, by rw [List.nil_append, List.drop_zero]; exact HR.out, h0, KeepB.refl _ _⟩
  case round =>
    obtain ⟨k, beg, pre, hk, rfl, rfl, hbeg, hpre, hcut, hJ, hK⟩ := hrel
    have hBp' := (hK.2 ⟨Bp, 0, none⟩ hbp).trans hBp
    by_cases hlt : k < es.length
    · have hck := (hK.2 (a.add k) (by rw [add_block]; exact ha)).trans (hc k hlt)
      rw [drop_cons 0 hlt] at hcut
      generalize es[k]?.getD 0 = e at *
      unfold cutsO at hcut
      by_cases h1 : e < (beg : Int)
      · rw [dif_neg (by omega), List.append_nil] at hcut
        have hcut := Lib.hid hcut
        gi_wp2
        refine bodyPost_ret (results_none rfl _ _ _) rfl ?_
        exact ⟨⟨_, rfl⟩, .inl ⟨_, hcut.out.trans HR.out.symm, hJ⟩⟩
      · by_cases h2 : (np : Int) ≤ e
        · rw [dif_neg (by omega), List.append_nil] at hcut
          have hcut := Lib.hid hcut
          gi_wp2
          refine bodyPost_ret (results_none rfl _ _ _) rfl ?_
          exact ⟨⟨_, rfl⟩, .inl (by rw [HR.out, ← hcut.out]; exact hJ)⟩
        · rw [dif_pos (by omega)] at hcut
          obtain ⟨m, rfl⟩ : ∃ m : Nat, e = m := ⟨e.toNat, by omega⟩
          obtain ⟨b, rfl⟩ := hp (by omega)
          simp only [Int.toNat_natCast] at hcut
          obtain ⟨fn, tmps, assign, body, hy, hRd⟩ := hY pre ⟨(k, beg, m + 1), ⟨by simp only; omega, by simp only; omega⟩⟩ wr hJ (by omega)
          simp only [pieceV, Option.map_some] at hy
          have hcut := Lib.hid hcut
          gi_wp2
          refine hRd.mono ?_
          rintro e W3 (⟨rfl, hJ3, hk3⟩ | ⟨rfl, hJx3⟩)
          · gi_wp2
            go_roundw
            case rel => exact ⟨k + 1, m + 1, pre ++ [⟨(k, beg, m + 1), ⟨by simp only; omega, by simp only; omega⟩⟩], by omega, by simp, by simp, by omega, by simp; omega, by rw [List.append_assoc]; exact hcut.out, hJ3, hK.trans hk3⟩
            case measure => simp [intOf]; omega
          · gi_wp2
            refine bodyPost_ret (results_none rfl _ _ _) rfl ?_
            exact ⟨⟨_, rfl⟩, .inr ⟨_, ⟨_, by rw [HR.out, List.append_assoc]; exact hcut.out⟩, hJx3⟩⟩
    · obtain rfl : k = es.length := by omega
      rw [List.drop_length] at hcut
      unfold cutsO at hcut
      rw [List.append_nil] at hcut
      have hcut := Lib.hid hcut
      gi_wp2
      go_end0
      exact ⟨⟨_, rfl⟩, .inl ⟨_, hcut.out.trans HR.out.symm, hJ⟩⟩

set_option maxRecDepth 100000 in
set_option maxHeartbeats 1000000 in
/-- .. of no ends: no round. -/
theorem cut1_nil (F : Fence) (n : Nat) (hF : F.fn 48) (hro : F.round = none) (l Be Bp : Nat) {np : Nat} (J : List (Cut np) → World → Prop)
    (W : World) (hBe : W.cell? ⟨Be, 0, none⟩ = some (.slice none 0 0)) (h0 : J [] W) :
    CallsIn F n Try.prog 48 #[.func (.yield l) #[] #[], .pointer (some ⟨Be, 0, none⟩), .pointer (some ⟨Bp, 0, none⟩)] W fun e W' => (∃ v, e = .returned v) ∧ J [] W' := by
  refine callsIn_of_wp Try.func48 rfl hF ?_ hro
  simp only [Try.ntmps48, List.size_toArray, List.length_cons, List.length_nil, Nat.reduceAdd, Nat.reduceSub, Array.replicate_succ, Array.replicate_zero, List.push_toArray, List.append_toArray, List.nil_append, List.cons_append]
  gi_wp2
  gi_loopw [4, 10] (fun b i wr => b = .int .i64 0 ∧ i = .int .i64 0 ∧ J [] wr) (fun _ _ _ => 0)
  case atStart => exact ⟨rfl, rfl, h0⟩
  case round =>
    obtain ⟨rfl, rfl, hJ⟩ := hrel
    gi_wp2
    go_end0
    exact ⟨⟨_, rfl⟩, hJ⟩

theorem cut_in (F : Fence) (n : Nat) (hF : F.fn 38) (hro : F.round = none) (p1 p2 : Option Addr) (n1 c1 n2 c2 : Nat) (w : World) :
    CallsIn F n Try.prog 38 #[.slice p1 n1 c1, .slice p2 n2 c2] w fun e w' => e = .returned (.func (.func 48) #[] #[.pointer (some ⟨w.heap.size + 1, 0, none⟩), .pointer (some ⟨w.heap.size, 0, none⟩)]) ∧ w' = (w.alloc (.cells #[.slice p1 n1 c1] 22)).alloc (.cells #[.slice p2 n2 c2] 23) := by
  refine callsIn_of_wp Try.func38 rfl hF ?_ hro
  simp only [Try.ntmps38, List.size_toArray, List.length_cons, List.length_nil, Nat.reduceAdd, Nat.reduceSub, Array.replicate_succ, Array.replicate_zero, List.push_toArray, List.append_toArray, List.nil_append, List.cons_append]
  gi_wp2
  go_ret
  exact ⟨rfl, rfl⟩

/-- The contract of what cut hands back. -/
theorem cut_stops (F : Fence) (n : Nat) (hF : F.fn 48) (hro : F.round = none) (hn : 1 ≤ n) (Be Bp : Nat) (bs : List Nat) (hbp : Bp ∈ bs) (v : Value) (p : Option Addr) (np cp : Nat) (hnc : np ≤ cp) (hp : 0 < np → ∃ b, p = some b) (hnp : np ≤ 100000) (es : List Int) (hes : es.length ≤ 100000)
    (w : World) (hev : EndsAt w v es) (hb : ∀ a l c, v = .slice (some a) l c → a.block ∈ bs) (hz : Be < w.heap.size ∧ Bp < w.heap.size) (hBe : w.cell? ⟨Be, 0, none⟩ = some v) (hBp : w.cell? ⟨Bp, 0, none⟩ = some (.slice p np cp)) :
    SeqStopsK F n Try.prog 48 #[.pointer (some ⟨Be, 0, none⟩), .pointer (some ⟨Bp, 0, none⟩)] (fun x : Cut np => #[Value.int .i64 (x.1.1 : Int), pieceV p x]) (KeepB bs) (fun xs => xs = cutsO np 0 0 es) (fun pre => pre <+: cutsO np 0 0 es) es.length w := fun l J Jx W hW _ _ hY h0 => by
  have hBe' := (hW.cell (p := ⟨Be, 0, none⟩) hz.1).trans hBe
  have hBp' := (hW.cell (p := ⟨Bp, 0, none⟩) hz.2).trans hBp
  rcases hev.on hW with ⟨rfl, rfl⟩ | ⟨a, c, rfl, -, -, -, hcell⟩
  · exact (cut1_nil F n hF hro l Be Bp J W hBe' h0).mono fun e W' ⟨he, hj⟩ => ⟨he, .inl ⟨_, rfl, hj⟩⟩
  · exact cut1_in F n hF hro hn l Be Bp bs hbp p np cp hnc hp hnp es hes a c (hb a _ _ rfl) J Jx hY W hBe' hBp' hcell h0
end Go.Proofs.Ytenmgbcbnofcmaa
