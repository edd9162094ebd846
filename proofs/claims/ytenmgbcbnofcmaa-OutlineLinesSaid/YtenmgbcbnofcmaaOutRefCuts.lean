/- The reference's Cuts. -/
import Derived.Test.YtenmgbcbnofcmaaOutRefCopy
namespace Go.Proofs.Ytenmgbcbnofcmaa
open Go.RowKit

/-- Where contours begin, and what lies behind them. -/
def cutsP (n : Nat) (k b : Nat) (es : List Int) : List (Nat × Nat) := (cutsO n k b es).map fun c => c.1.2
def encC : List (Nat × Nat) → List Value
  | [] => []
  | t :: ts => .int .i64 (t.1 : Int) :: .int .i64 ((t.2 : Int) - 1) :: encC ts
theorem encC_app (ts us : List (Nat × Nat)) : encC (ts ++ us) = encC ts ++ encC us := by
  induction ts with
  | nil => rfl
  | cons p ps ih => simp only [encC, List.cons_append, ih]
theorem encC_get (ts : List (Nat × Nat)) (i : Nat) (h : i < ts.length) : (encC ts)[i * 2]? = some (.int .i64 ((ts[i]?.getD default).1 : Int)) ∧ (encC ts)[i * 2 + 1]? = some (.int .i64 (((ts[i]?.getD default).2 : Int) - 1)) := by
  induction ts generalizing i with
  | nil => simp at h
  | cons p ps ih =>
    cases i with
    | zero => simp [encC]
    | succ i =>
      have := ih i (by simpa using h)
      rw [show (i + 1) * 2 = i * 2 + 2 by omega]
      simpa [encC] using this
def CRow (W : World) (B : Nat) (v : Value) (cs : List (Nat × Nat)) : Prop := W.ownsRow B 59 2 v cs.length (encC cs)
theorem infoC : (Try.prog.info? 59).map (fun i => (i.zero, i.size, i.bytes)) = some (some (.agg #[.int .i64 0, .int .i64 0]), 2, 16) := by kernel_rfl
theorem CRow.snoc {W : World} {B : Nat} {v : Value} {cs : List (Nat × Nat)} {b e : Nat} (h : W.ownsRow B 59 2 v (cs.length + 1) (encC cs ++ [.int .i64 (b : Int), .int .i64 (e : Int)])) : CRow W B v (cs ++ [(b, e + 1)]) := by
  unfold CRow
  rw [encC_app, List.length_append]
  have : ((e + 1 : Nat) : Int) - 1 = (e : Int) := by omega
  simpa [encC, this] using h
set_option maxHeartbeats 2000000 in
theorem cuts_any (v : Value) (es : List Int) (n : Nat) (w : World) (h : EndsAt w v es) (hn : n ≤ 100000) (hl : es.length ≤ 100000) :
    Calls Try.prog 34 #[v, .int .i64 (n : Int)] w fun e w' => ∃ r, e = .returned r ∧ CRow w' w.heap.size r (cutsP n 0 0 es) ∧ Below w.heap.size w w' := by
  obtain ⟨i0, hi, hz0, hz1, hz2⟩ := info_parts infoC
  obtain ⟨p, c, rfl⟩ := h.len
  have HE := Lib.hid (fun (W : World) (hb : Below w.heap.size w W) i (hi : i < es.length) => show ∃ a, p = some a ∧ W.cell? (a.add i) = some (.int .i64 (es[i]?.getD 0)) from by
    rcases h.on hb with ⟨h, hh⟩ | ⟨a, c', h, hg, hlc, hc, hcell⟩
    · rw [hh] at hi; simp at hi
    · simp only [Value.slice.injEq, true_and] at h
      obtain ⟨rfl, rfl⟩ := h
      exact ⟨a, rfl, hcell i hi⟩)
  obtain ⟨R, hR⟩ : ∃ R, cutsP n 0 0 es = R := ⟨_, rfl⟩
  rw [hR]
  have HR := Lib.hid hR
  clear hR h
  have hrow : CRow (w.alloc (.cells #[] 59)) w.heap.size (.slice (some ⟨w.heap.size, 0, none⟩) 0 0) [] := World.ownsRow_made (base := w.heap.size) (e := 59) (size := 2) w #[] 0 (Nat.le_refl _) (by unfold maxLen; omega) rfl
  go_enter Try.func34, Try.ntmps34
  go_wp2_with fail
  go_loopw [5, 6, 7] (fun r l i wr => ∃ (k b : Nat) (pre : List (Nat × Nat)), k ≤ es.length ∧ i = .int .i64 k ∧ l = .int .i64 ((b : Int) - 1) ∧ b ≤ n ∧ pre.length ≤ k ∧ Hid (pre ++ cutsP n k b (es.drop k) = R) ∧ CRow wr w.heap.size r pre ∧ Below w.heap.size w wr) (fun _ _ i _ => (es.length - intOf i).toNat)
  case atStart => exact ⟨0, 0, [], by omega, rfl, by go_num, by omega, by simp, Lib.hid (by rw [List.nil_append, List.drop_zero]; exact HR.out), hrow, balloc _ _⟩
  case round =>
    clear hrow
    obtain ⟨k, b, pre, hk, rfl, rfl, hb, hpre, hrel, hown, hB⟩ := hrel
    obtain ⟨pr, cr, rfl⟩ : ∃ p c, u5 = .slice p pre.length c := by
      rcases own_form hown with ⟨h, h0⟩ | ⟨g, c, h, -⟩
      · exact ⟨none, 0, by rw [h, h0]⟩
      · exact ⟨_, _, h⟩
    have hrel := hrel.out
    by_cases hlt : k < es.length
    · obtain ⟨a, rfl, a1⟩ := HE.out wr hB k hlt
      rw [drop_cons 0 hlt] at hrel
      obtain ⟨e, he⟩ : ∃ e, es[k]?.getD 0 = e := ⟨_, rfl⟩
      rw [he] at hrel a1
      have HEe := Lib.hid he
      clear he
      unfold cutsP cutsO at hrel
      by_cases c1 : e < (b : Int)
      · rw [dif_neg (by omega), List.map_nil, List.append_nil] at hrel
        subst hrel
        go_wp2_with fail
        go_ret
        exact ⟨_, rfl, hown, hB⟩
      · by_cases c2 : (n : Int) ≤ e
        · rw [dif_neg (by omega), List.map_nil, List.append_nil] at hrel
          subst hrel
          go_wp2_with fail
          go_ret
          exact ⟨_, rfl, hown, hB⟩
        · rw [dif_pos (by omega), List.map_cons] at hrel
          obtain ⟨m, rfl⟩ : ∃ m : Nat, e = m := ⟨e.toNat, by omega⟩
          simp only [Int.toNat_natCast] at hrel
          have hrel := Lib.hid hrel
          have e1 : IntKind.i64.wrap ((b : Int) - 1 + 1) = (b : Int) := by rw [IntWalk.i64_in _ (by omega)]; omega
          have e2 : (b : Int) - 1 + 1 = (b : Int) := by omega
          go_wp2_with (at_builtin; refine wpList_append_lies _ (by rfl) _ _ _ (by rfl) w.heap.size 59 i0 _ 2 16 Try.underlying57 hi hz0 hz1 hz2 rfl (by omega) (.slice pr pre.length cr) pre.length (encC pre) (by rfl) (World.ownsRow.alloc hown _) ⟨wr.heap.size, 0, none⟩ 1 1 [.int .i64 (b : Int), .int .i64 (m : Int)] (by rfl) (by rfl) (World.news_of_block (cs := #[.int .i64 (b : Int), .int .i64 (m : Int)]) (t := 59) (fr := (0, 0)) (heap_alloc_new wr _)) (by simp [Value.oneCell']) (by omega) (by unfold maxLen; omega) (by omega) (by have := hB.size; simp; omega) (wr.heap.size + 1) (by simp) ?_)
          intro g2 cap2 w4 hown4 hgrow hat hlt2
          have hB4 : Below w.heap.size w w4 := (hB.alloc hB.size _).grown hgrow (by have := hB.size; simp; omega) (fun x hx => (World.ownsRow.lt hown x hx).1)
          have a2 : w4.cell? (a.add k) = some (.int .i64 (m : Int)) := by
            obtain ⟨a', e', h⟩ := HE.out w4 hB4 k hlt
            rw [HEe.out] at h
            simp only [Option.some.injEq] at e'
            rw [e']
            exact h
          have hown5 : CRow w4 w.heap.size (.slice (some ⟨g2, 0, none⟩) (pre.length + 1) cap2) (pre ++ [(b, m + 1)]) := CRow.snoc hown4
          clear hgrow hat hown4
          go_wp2_with fail
          go_roundw
          case rel => exact ⟨k + 1, m + 1, pre ++ [(b, m + 1)], by omega, by go_num, by go_num, by omega, by simp; omega, Lib.hid (by rw [List.append_assoc]; exact hrel.out), hown5, hB4⟩
          case measure => simp [intOf]; omega
    · obtain rfl : k = es.length := by omega
      rw [List.drop_length] at hrel
      unfold cutsP cutsO at hrel
      rw [List.map_nil, List.append_nil] at hrel
      subst hrel
      go_wp2_with fail
      go_ret
      exact ⟨_, rfl, hown, hB⟩
end Go.Proofs.Ytenmgbcbnofcmaa
