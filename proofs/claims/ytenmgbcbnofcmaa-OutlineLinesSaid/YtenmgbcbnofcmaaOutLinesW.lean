/- OutlineLines over plain lists. -/
import Derived.Test.YtenmgbcbnofcmaaOutRefLines
import Derived.Test.YtenmgbcbnofcmaaOutSame
import Derived.Test.YtenmgbcbnofcmaaOutDrawn
namespace Go.Proofs.Ytenmgbcbnofcmaa
open Go.RowKit

theorem goO_len (qs : List Pn) (s f i : Nat) (a : Pn) : (goO qs s f i a).length ≤ 8 * f := by
  induction f generalizing i a with
  | zero => simp [goO]
  | succ f ih =>
    rw [goO]
    split
    · simp
    · split
      · have := ih (i + 1) (atO qs s i)
        simp only [List.length_cons]
        omega
      · have := ih (i + 2) (atO qs s (i + 1))
        rw [List.length_append, linesO_len]
        omega
theorem rowO_len (q : List Pn) : (rowO q).length ≤ 16 * q.length + 1 := by
  have h := ringL_len q q.length
  have h2 := goO_len (ringL q q.length) (startN q) (ringL q q.length).length 1 (atO (ringL q q.length) (startN q) 0)
  unfold rowO onceO roundO
  rw [List.length_dropLast, List.length_cons]
  omega
theorem linesR_len (ts : List (Int × Int)) (bs : List Bool) (es : List Int) : (linesR ts bs es).length ≤ es.length := by
  rw [reflines_eq]
  unfold reflinesR
  split
  · rw [List.length_map]; exact cutsP_len _ _ _ _
  · simp
theorem linesR_row (ts : List (Int × Int)) (bs : List Bool) (es : List Int) (i : Nat) : ((linesR ts bs es)[i]?.getD []).length ≤ 16 * ts.length + 1 := by
  cases h : (linesR ts bs es)[i]? with
  | none => simp
  | some r =>
    have hm := List.mem_of_getElem? h
    rw [Option.getD_some]
    unfold linesR at hm
    split at hm
    · unfold rowsL at hm
      obtain ⟨c, -, rfl⟩ := List.mem_map.1 hm
      have h1 := rowO_len (pieceO (zipO ts bs) c)
      have h2 := pieceO_len (zipO ts bs) c
      have h3 := zipO_len ts bs
      have h4 := c.2
      omega
    · simp at hm
set_option maxHeartbeats 1000000 in
theorem lines_law (v1 v2 v3 : Value) (ts : List (Int × Int)) (bs : List Bool) (es : List Int) (w : World) (h1 : TsAt w v1 ts) (h2 : BsAt w v2 bs) (h3 : EndsAt w v3 es) :
    Calls Try.prog 5 #[v1, v2, v3] w fun e w' => e = .returned (.bool true) ∧ Below w.heap.size w w' := by
  have B0 := Below.refl w.heap.size w
  obtain ⟨p1, c1, rfl⟩ := h1.len
  obtain ⟨p2, c2, rfl⟩ := h2.len
  obtain ⟨p3, c3, rfl⟩ := h3.len
  by_cases a1 : 1500 < ts.length
  · have e1 : decide ((1500 : Int) < (ts.length : Int)) = true := decide_eq_true (by omega)
    clear h1 h2 h3 a1
    go_enter Try.func5, Try.ntmps5
    go_wp2_with fail
    go_ret
    exact ⟨rfl, B0⟩
  · have e1 : decide ((1500 : Int) < (ts.length : Int)) = false := decide_eq_false (by omega)
    by_cases a2 : 300 < es.length
    · have e2 : decide ((300 : Int) < (es.length : Int)) = true := decide_eq_true (by omega)
      clear h1 h2 h3 a1 a2
      go_enter Try.func5, Try.ntmps5
      go_wp2_with fail
      go_ret
      exact ⟨rfl, B0⟩
    · have e2 : decide ((300 : Int) < (es.length : Int)) = false := decide_eq_false (by omega)
      have hL := linesR_len ts bs es
      have hRw := linesR_row ts bs es
      have HP := Lib.hid (fun (W : World) (hb : Below w.heap.size w W) => lines_any _ _ _ ts bs es W (h1.on hb) (h2.on hb) (h3.on hb) (by omega) (by omega))
      have HR := Lib.hid (fun (W : World) (hb : Below w.heap.size w W) => reflines_any _ _ _ ts bs es W (h1.on hb) (h2.on hb) (h3.on hb) (by omega) (by omega))
      rw [← reflines_eq] at HR
      have HLb := Lib.hid (show (linesR ts bs es).length ≤ 100000000 ∧ ∀ i : Nat, ((linesR ts bs es)[i]?.getD []).length ≤ 100000000 from ⟨by omega, fun i => by have := hRw i; omega⟩)
      clear hL hRw h1 h2 h3 a1 a2
      generalize linesR ts bs es = LR at *
      go_enter Try.func5, Try.ntmps5
      go_wp2_with fail
      refine (drawn_any _).mono ?_
      rintro e w1 ⟨rfl, hb1⟩
      have B1 := sames B0 hb1
      go_wp2_with fail
      refine (HP.out _ B1).mono ?_
      rintro e w2 ⟨l, rfl, hl, hb2⟩
      have B2 := sames B1 hb2
      go_wp2_with fail
      refine (HR.out _ B2).mono ?_
      rintro e w3 ⟨m, rfl, hm, hb3⟩
      have B3 := sames B2 hb3
      have hS := sameRows_any l m LR LR w3 (RRow.at (hl.on hb3)) (RRow.at hm) HLb.out.1 HLb.out.2
      rw [decide_eq_true rfl] at hS
      go_wp2_with fail
      refine hS.mono ?_
      rintro e w4 ⟨rfl, hb4⟩
      have B4 := sames B3 hb4
      go_wp2_with fail
      go_ret
      exact ⟨rfl, B4⟩
end Go.Proofs.Ytenmgbcbnofcmaa
