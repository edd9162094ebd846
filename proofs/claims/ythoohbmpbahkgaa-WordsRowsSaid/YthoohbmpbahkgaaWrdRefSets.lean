/- The reference's Sets. -/
import Derived.Test.YthoohbmpbahkgaaWrdRefLines
import Derived.Test.YthoohbmpbahkgaaWrdSets
import Derived.Test.YthoohbmpbahkgaaWrdSame
namespace Go.Proofs.Ythoohbmpbahkgaa
open Go.RowKit

theorem addLast_app (acc : List (List Wd)) (cur : List Wd) (x : Wd) : addLast (acc ++ [cur]) x = acc ++ [cur ++ [x]] := by
  unfold addLast
  have h : (acc ++ [cur]).length - 1 = acc.length := by simp
  rw [h, List.getElem?_append_right (Nat.le_refl _), Nat.sub_self, List.set_append_right _ _ (Nat.le_refl _), Nat.sub_self]
  simp
/-- A call answers rows of the reference's words of its own, and true; or nothing, and false. -/
def SetsR2 (r : Option (List (List Wd))) (w : World) (e : Ending) (w' : World) : Prop :=
  match r with
  | some rs => ∃ v, e = .returned (.tuple #[v, .bool true]) ∧ RowsR enW 35 w' w.heap.size v rs ∧ Below w.heap.size w w'
  | none => e = .returned (.tuple #[.slice none 0 0, .bool false]) ∧ Below w.heap.size w w'
/-- What is known within a round, whether a bracket is open or not. -/
def RSt (w wr : World) (op : Bool) (v r : Value) (acc : List (List Wd)) (cur : List Wd) : Prop :=
  match op with
  | false => RowsR enW 35 wr w.heap.size v acc
  | true => ∃ Wh : World, RowsR enW 35 Wh w.heap.size v acc ∧ Below Wh.heap.size Wh wr ∧ OwnR enW 38 3 wr Wh.heap.size r cur ∧ w.heap.size ≤ Wh.heap.size
def curO (op : Bool) (acc : List (List Wd)) (cur : List Wd) : List (List Wd) := if op then acc ++ [cur] else acc

set_option maxHeartbeats 8000000 in
theorem refsets_any (va : Value) (ws : List Wd) (w : World) (h : RowAt enW w va ws) (hl : ws.length ≤ 100000) :
    Calls Try.prog 22 #[va] w (SetsR2 (setsP ws) w) := by
  obtain ⟨i0, hi, hz0, hz1, hz2⟩ := info_parts infoWord2
  obtain ⟨j0, hj, hj0, hj1, hj2⟩ := info_parts infoWords2
  obtain ⟨R, hR⟩ : ∃ R, setsP ws = R := ⟨_, rfl⟩
  rw [hR]
  have HR : Hid (setsK false (curO false [] []) (ws.drop 0) = R) := Lib.hid hR
  clear hR
  obtain ⟨pa, ca, rfl, -, -⟩ := h.len
  have HCE := Lib.hid (fun (W : World) (hb : Below w.heap.size w W) (k : Nat) (hk : k < ws.length) => (h.on hb).word k hk)
  clear h
  have hrow0 : RowsR enW 35 (w.alloc (.cells #[] 35)) w.heap.size (.slice (some ⟨w.heap.size, 0, none⟩) 0 0) [] := ⟨[], World.ownsRow_made (base := w.heap.size) (e := 35) (size := 1) w #[] 0 (Nat.le_refl _) (by unfold maxLen; omega) rfl, rfl, fun i hi => by simp at hi⟩
  replace hrow0 := hrow0.on (balloc1 _ (.cells #[] 38))
  have hB0 : Below w.heap.size w ((w.alloc (.cells #[] 35)).alloc (.cells #[] 38)) := (balloc1 _ _).trans ((balloc1 _ _).mono (by simp))
  go_enter Try.func22, Try.ntmps22
  go_wp2_with fail
  go_loopw [4, 5, 6, 7] (fun sv ov rv iv wr => ∃ (k : Nat) (op : Bool) (p : Option Addr) (c : Nat) (acc : List (List Wd)) (cur : List Wd), k ≤ ws.length ∧ iv = .int .i64 k ∧ ov = .bool op ∧ sv = .slice p acc.length c ∧ Hid (setsK op (curO op acc cur) (ws.drop k) = R) ∧ Hid (RSt w wr op (.slice p acc.length c) rv acc cur) ∧ Below w.heap.size w wr ∧ acc.length ≤ k ∧ cur.length ≤ k) (fun _ _ _ iv _ => (ws.length - intOf iv).toNat)
  case atStart => exact ⟨0, false, _, _, [], [], by omega, rfl, rfl, rfl, HR, Lib.hid hrow0, hB0, Nat.le_refl _, Nat.le_refl _⟩
  case round =>
    clear hrow0 HR hB0
    obtain ⟨k, op, p, c, acc, cur, hk, rfl, rfl, rfl, hrel, hM, hB, hal, hcl⟩ := hrel
    by_cases hlt : k < ws.length
    · obtain ⟨A, rfl, q0, q1, q2⟩ := HCE.out wr hB k hlt
      replace hrel := hrel.out
      rw [List.drop_eq_getElem_cons hlt] at hrel
      obtain ⟨x, hx⟩ : ∃ x, ws[k]?.getD default = x := ⟨_, rfl⟩
      rw [show ws[k] = x by rw [← hx, List.getElem?_eq_getElem hlt]; rfl] at hrel
      rw [hx] at q0 q1 q2
      clear hx
      obtain ⟨xl, xp, xt⟩ := x
      simp only at q0 q1 q2
      unfold setsK at hrel
      have hz := hB.size
      have zk1 : (k : Int) < (ws.length : Int) := by omega
      cases hO : isO ⟨xl, xp, xt⟩
      · rw [hO] at hrel
        have eO : (xt.toList == [91]) = false := hO
        simp only [Bool.false_eq_true, if_false] at hrel
        cases hC : isC ⟨xl, xp, xt⟩
        · rw [hC] at hrel
          have eC : (xt.toList == [93]) = false := hC
          simp only [Bool.false_eq_true, if_false] at hrel
          replace hO := Lib.hid hO
          replace hC := Lib.hid hC
          cases op
          · simp only [Bool.false_eq_true, if_false, curO, addLast_app, List.nil_append] at hrel
            replace hrel := Lib.hid hrel
            have hrow : RowsR enW 35 wr w.heap.size (.slice p acc.length c) acc := hM.out
            have hbW := balloc1 wr (.cells #[.int .i64 xl, .int .i64 xp, .string xt] 38)
            obtain ⟨W, hW⟩ : ∃ W, wr.alloc (.cells #[.int .i64 xl, .int .i64 xp, .string xt] 38) = W := ⟨_, rfl⟩
            have hat1 : RowAt enW W (.slice (some ⟨wr.heap.size, 0, none⟩) 1 1) [⟨xl, xp, xt⟩] := by
              rw [← hW]
              exact .inr ⟨_, 1, rfl, by simp, Nat.le_refl _, by unfold maxLen; decide, fun j u hj => World.news_of_block (heap_alloc_new wr (.cells #[.int .i64 xl, .int .i64 xp, .string xt] 38)) j u hj⟩
            have hWz : W.heap.size = wr.heap.size + 1 := by rw [← hW]; simp
            rw [hW] at hbW
            have hrW := hrow.on hbW
            obtain ⟨vs0, hvo0, -⟩ := hrow
            have hvl0 : ∀ g, (Value.slice p acc.length c).ownBlock = some g → g < wr.heap.size := fun g hg => (own_lt hvo0 g hg).2
            clear hvo0
            obtain ⟨vs, hvo, hvl, hvs⟩ := hrW
            rw [hvl] at hvo
            have hBW : Below w.heap.size w W := sames hB hbW
            have hzW := hBW.size
            have lW : wr.heap.size < W.heap.size := by omega
            have hpl := own_lt hvo
            replace hWz := Lib.hid hWz
            replace hvl := Lib.hid hvl
            replace hvs := Lib.hid hvs
            replace hat1 := Lib.hid hat1
            replace hvl0 := Lib.hid hvl0
            clear hbW
            go_wp2_with (at_builtin; refine wpList_append_lies _ (by rfl) _ _ 27 (by rfl) w.heap.size 35 j0 _ 1 24 Try.underlying27 hj hj0 hj1 hj2 rfl (by omega) (.slice p acc.length c) acc.length vs (by rfl) (World.ownsRow.alloc hvo _) ⟨W.heap.size, 0, none⟩ 1 1 [.slice (some ⟨wr.heap.size, 0, none⟩) 1 1] (by rfl) (by rfl) (World.news_of_block (cs := #[.slice (some ⟨wr.heap.size, 0, none⟩) 1 1]) (t := 35) (fr := (0, 0)) (heap_alloc_new W _)) (by simp [Value.oneCell']) (by omega) (by unfold maxLen; omega) (by omega) (by simp; omega) (W.heap.size + 1) (by simp) ?_)
            intro g cap w2 hown2 hgrow hat hlt2
            have hbw : Below w.heap.size w w2 := (hBW.alloc hzW _).grown hgrow (by simp; omega) (fun x hx => (hpl x hx).1)
            have hRR : RowsR enW 35 w2 w.heap.size (.slice (some ⟨g, 0, none⟩) (acc.length + 1) cap) (acc ++ [[⟨xl, xp, xt⟩]]) := by
              have hb := balloc1 W (.cells #[.slice (some ⟨wr.heap.size, 0, none⟩) 1 1] 35)
              refine RowsR.snoc hvl.out (fun i hi => ?_) (hat1.out.on hb) (fun a l d e => ?_) (by rw [hvl.out]; exact hown2) hgrow (by rcases hat with h | h; exact .inl h; right; simp; omega)
              · obtain ⟨x, x1, x2, x3⟩ := hvs.out i hi
                exact ⟨x, x1, x2.on hb, x3⟩
              · simp only [Value.slice.injEq, Option.some.injEq] at e
                rw [← e.1]
                exact ⟨by simp only; omega, fun h => by have := hvl0.out _ h; simp only at this; omega⟩
            clear hgrow hown2 hat hpl hvo hW
            replace hRR := Lib.hid hRR
            go_wp2_with fail
            go_roundw
            case rel => exact ⟨k + 1, false, some ⟨g, 0, none⟩, cap, acc ++ [[(⟨xl, xp, xt⟩ : Wd)]], cur, by omega, by go_num, rfl, by simp, hrel, Lib.hid (by have h := hRR.out; show RowsR _ _ _ _ _ _; simpa using h), hbw, by simp; omega, by omega⟩
            case measure => simp [intOf] <;> omega
          · simp only [if_true, curO, addLast_app] at hrel
            replace hrel := Lib.hid hrel
            obtain ⟨Wh, hrow, hbh, hown, hwh⟩ : ∃ Wh : World, RowsR enW 35 Wh w.heap.size (.slice p acc.length c) acc ∧ Below Wh.heap.size Wh wr ∧ OwnR enW 38 3 wr Wh.heap.size u6 cur ∧ w.heap.size ≤ Wh.heap.size := hM.out
            obtain ⟨pr, cr, rfl, -, -⟩ := hown.at.len
            have hzh := hbh.size
            have hpl := own_lt hown
            have hown' : wr.ownsRow Wh.heap.size 38 3 (.slice pr cur.length cr) cur.length (flat enW cur) := hown
            replace hM := Lib.hid hM
            replace hrow := Lib.hid hrow
            clear hown
            go_wp2_with (at_builtin; refine wpList_append_lies _ (by rfl) _ _ 35 (by rfl) Wh.heap.size 38 i0 _ 3 32 Try.underlying35 hi hz0 hz1 hz2 rfl (by omega) (.slice pr cur.length cr) cur.length (flat enW cur) (by rfl) (World.ownsRow.alloc hown' _) ⟨wr.heap.size, 0, none⟩ 1 1 [.int .i64 xl, .int .i64 xp, .string xt] (by rfl) (by rfl) (World.news_of_block (cs := #[.int .i64 xl, .int .i64 xp, .string xt]) (t := 38) (fr := (0, 0)) (heap_alloc_new wr _)) (by simp [Value.oneCell']) (by omega) (by unfold maxLen; omega) (by omega) (by simp; omega) (wr.heap.size + 1) (by simp) ?_)
            intro g cap w2 hown2 hgrow hat hlt2
            have hbw : Below w.heap.size w w2 := (hB.alloc hz _).grown hgrow (by simp; omega) (fun x hx => by have := (hpl x hx).1; omega)
            have hbh2 : Below Wh.heap.size Wh w2 := (hbh.alloc hzh _).grown hgrow (by simp; omega) (fun x hx => (hpl x hx).1)
            have hrow2 : OwnR enW 38 3 w2 Wh.heap.size (.slice (some ⟨g, 0, none⟩) (cur.length + 1) cap) (cur ++ [⟨xl, xp, xt⟩]) := by
              show w2.ownsRow _ _ _ _ _ _
              rw [List.length_append, List.length_singleton, flat_app, flat_one]
              exact hown2
            replace hrow2 := Lib.hid hrow2
            clear hgrow hown2 hat hpl hown' hbh
            go_wp2_with fail
            go_roundw
            case rel => exact ⟨k + 1, true, p, c, acc, cur ++ [(⟨xl, xp, xt⟩ : Wd)], by omega, by go_num, rfl, rfl, hrel, Lib.hid ⟨Wh, hrow.out, hbh2, hrow2.out, hwh⟩, hbw, by omega, by simp; omega⟩
            case measure => simp [intOf] <;> omega
        · rw [hC] at hrel
          have eC : (xt.toList == [93]) = true := hC
          simp only [if_true] at hrel
          replace hO := Lib.hid hO
          replace hC := Lib.hid hC
          cases op
          · simp only [Bool.false_eq_true, if_false] at hrel
            subst hrel
            go_wp2_with fail
            go_ret2
            exact ⟨rfl, hB⟩
          · simp only [if_true, curO] at hrel
            replace hrel := Lib.hid hrel
            obtain ⟨Wh, hrow, hbh, hown, hwh⟩ : ∃ Wh : World, RowsR enW 35 Wh w.heap.size (.slice p acc.length c) acc ∧ Below Wh.heap.size Wh wr ∧ OwnR enW 38 3 wr Wh.heap.size u6 cur ∧ w.heap.size ≤ Wh.heap.size := hM.out
            obtain ⟨pr, cr, rfl, -, -⟩ := hown.at.len
            have hzh := hbh.size
            have hrW := hrow.on hbh
            obtain ⟨vs0, hvo0, -⟩ := hrow
            have hvl0 : ∀ g, (Value.slice p acc.length c).ownBlock = some g → g < Wh.heap.size := fun g hg => (own_lt hvo0 g hg).2
            clear hvo0
            obtain ⟨vs, hvo, hvl, hvs⟩ := hrW
            rw [hvl] at hvo
            have hpl := own_lt hvo
            have hat1 := hown.at
            have hun : ∀ a l d, Value.slice pr cur.length cr = .slice (some a) l d → w.heap.size ≤ a.block ∧ (Value.slice p acc.length c).ownBlock ≠ some a.block := fun a l d e => by
              rcases own_form hown with ⟨e1, -⟩ | ⟨g, c', e1, e2, e3, -⟩
              · rw [e1] at e; simp at e
              · rw [e1] at e
                simp only [Value.slice.injEq, Option.some.injEq] at e
                rw [← e.1]
                simp only
                exact ⟨by omega, fun h => by have := hvl0 g h; omega⟩
            replace hvl := Lib.hid hvl
            replace hvs := Lib.hid hvs
            replace hat1 := Lib.hid hat1
            replace hun := Lib.hid hun
            replace hown := Lib.hid hown
            replace hM := Lib.hid hM
            clear hvl0 hbh
            go_wp2_with (at_builtin; refine wpList_append_lies _ (by rfl) _ _ 27 (by rfl) w.heap.size 35 j0 _ 1 24 Try.underlying27 hj hj0 hj1 hj2 rfl (by omega) (.slice p acc.length c) acc.length vs (by rfl) (World.ownsRow.alloc hvo _) ⟨wr.heap.size, 0, none⟩ 1 1 [.slice pr cur.length cr] (by rfl) (by rfl) (World.news_of_block (cs := #[.slice pr cur.length cr]) (t := 35) (fr := (0, 0)) (heap_alloc_new wr _)) (by simp [Value.oneCell']) (by omega) (by unfold maxLen; omega) (by omega) (by simp; omega) (wr.heap.size + 1) (by simp) ?_)
            intro g cap w2 hown2 hgrow hat hlt2
            have hbw : Below w.heap.size w w2 := (hB.alloc hz _).grown hgrow (by simp; omega) (fun x hx => (hpl x hx).1)
            have hRR : RowsR enW 35 w2 w.heap.size (.slice (some ⟨g, 0, none⟩) (acc.length + 1) cap) (acc ++ [cur]) := by
              have hb := balloc1 wr (.cells #[.slice pr cur.length cr] 35)
              refine RowsR.snoc hvl.out (fun i hi => ?_) (hat1.out.on hb) hun.out (by rw [hvl.out]; exact hown2) hgrow (by rcases hat with h | h; exact .inl h; right; simp; omega)
              obtain ⟨x, x1, x2, x3⟩ := hvs.out i hi
              exact ⟨x, x1, x2.on hb, x3⟩
            clear hgrow hown2 hat hpl hvo
            replace hRR := Lib.hid hRR
            go_wp2_with fail
            go_roundw
            case rel => exact ⟨k + 1, false, some ⟨g, 0, none⟩, cap, acc ++ [cur], cur, by omega, by go_num, rfl, by simp, hrel, Lib.hid (by have h := hRR.out; show RowsR _ _ _ _ _ _; simpa using h), hbw, by simp; omega, by omega⟩
            case measure => simp [intOf] <;> omega
      · rw [hO] at hrel
        have eO : (xt.toList == [91]) = true := hO
        have eC : (xt.toList == [93]) = false := by have h := eq_of_beq eO; rw [h]; rfl
        simp only [if_true] at hrel
        replace hO := Lib.hid hO
        cases op
        · simp only [Bool.false_eq_true, if_false, curO] at hrel
          replace hrel := Lib.hid hrel
          have hrow : RowsR enW 35 wr w.heap.size (.slice p acc.length c) acc := hM.out
          have hown0 : OwnR enW 38 3 (wr.alloc (.cells #[] 38)) wr.heap.size (.slice (some ⟨wr.heap.size, 0, none⟩) 0 0) [] := World.ownsRow_made (base := wr.heap.size) (e := 38) (size := 3) wr #[] 0 (Nat.le_refl _) (by unfold maxLen; omega) rfl
          have hbW := balloc1 wr (.cells #[] 38)
          have hBW : Below w.heap.size w (wr.alloc (.cells #[] 38)) := sames hB hbW
          have hRS : Hid (RSt w (wr.alloc (.cells #[] 38)) true (.slice p acc.length c) (.slice (some ⟨wr.heap.size, 0, none⟩) 0 0) acc []) := Lib.hid ⟨wr, hrow, hbW, hown0, hz⟩
          clear hrow hown0 hbW
          go_wp2_with fail
          go_roundw
          case rel => exact ⟨k + 1, true, p, c, acc, [], by omega, by go_num, rfl, rfl, hrel, hRS, hBW, by omega, by simp⟩
          case measure => simp [intOf] <;> omega
        · simp only [if_true] at hrel
          subst hrel
          go_wp2_with fail
          go_ret2
          exact ⟨rfl, hB⟩
    · obtain rfl : k = ws.length := by omega
      replace hrel := hrel.out
      rw [List.drop_length] at hrel
      unfold setsK at hrel
      cases op
      · simp only [Bool.false_eq_true, if_false, curO] at hrel
        subst hrel
        go_wp2_with fail
        go_ret2
        exact ⟨_, rfl, hM.out, hB⟩
      · simp only [if_true] at hrel
        subst hrel
        go_wp2_with fail
        go_ret2
        exact ⟨rfl, hB⟩
end Go.Proofs.Ythoohbmpbahkgaa
