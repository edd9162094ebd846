/- OutlineShifts over plain lists: the walk. -/
import Derived.Test.YtenmgbcbnofcmaaOutTurnsW
import Derived.Test.YtenmgbcbnofcmaaOutShift
namespace Go.Proofs.Ytenmgbcbnofcmaa
open Go.RowKit

theorem OAt.grid {W : World} {o : Value} {ps : List Pn} {es : List Int} (h : OAt W o ps es) (x y : Int) (hl : ps.length ≤ 100000) : Calls Try.prog 31 #[o, .int .i64 x, .int .i64 y] W fun e w' => ∃ u1 u2, e = .returned (.tuple #[u1, u2]) ∧ TsAt w' u1 (gridT x y ps) ∧ BsAt w' u2 (gridB ps) ∧ Below W.heap.size W w' := by
  obtain ⟨v1, v2, rfl, a1, a2⟩ := h
  obtain ⟨p2, c2, rfl⟩ := a2.len
  exact grid_any v1 _ ps x y W a1 ⟨_, _, _, rfl⟩ hl
def Far6 (b : Bool) (x y : Int) : Prop := b = false ∨ 1000000 < x ∨ x < -1000000 ∨ 1000000 < y ∨ y < -1000000
set_option maxRecDepth 100000 in
set_option maxHeartbeats 2000000 in
theorem shifts_far (o : Value) (x y : Int) (ps : List Pn) (es : List Int) (w : World) (ho : OAt w o ps es) (hf : Far6 (rightO ps es) x y) :
    Calls Try.prog 8 #[o, .int .i64 x, .int .i64 y] w fun e w' => e = .returned (.bool true) ∧ Below w.heap.size w w' := by
  obtain ⟨p1, c1, p2, c2, rfl⟩ := ho.form
  have B1 := balloc w (.cells #[.slice p1 ps.length c1, .slice p2 es.length c2] 25)
  cases hr : rightO ps es with
  | false =>
    have hRt := (ho.on B1).right false hr
    go_enter Try.func8, Try.ntmps8
    go_wp2_with fail
    refine hRt.mono ?_
    rintro e w3 ⟨rfl, hb3⟩
    have B4 := sames B1 hb3
    go_wp2_with fail
    refine (drawn_any _).mono ?_
    rintro e w4 ⟨rfl, hb4⟩
    go_wp2_with fail
    go_ret
    exact ⟨rfl, sames B4 hb4⟩
  | true =>
    have hRt := (ho.on B1).right true hr
    rw [hr] at hf
    have hf : 1000000 < x ∨ x < -1000000 ∨ 1000000 < y ∨ y < -1000000 := by
      rcases hf with h | h
      · cases h
      · exact h
    by_cases a1 : 1000000 < x
    · have e1 : decide ((1000000 : Int) < x) = true := decide_eq_true a1
      go_enter Try.func8, Try.ntmps8
      go_wp2_with fail
      refine hRt.mono ?_
      rintro e w3 ⟨rfl, hb3⟩
      have B4 := sames B1 hb3
      go_wp2_with fail
      refine (drawn_any _).mono ?_
      rintro e w4 ⟨rfl, hb4⟩
      go_wp2_with fail
      go_ret
      exact ⟨rfl, sames B4 hb4⟩
    · by_cases a2 : x < -1000000
      · have e1 : decide ((1000000 : Int) < x) = false := decide_eq_false a1
        have e2 : decide (x < (-1000000 : Int)) = true := decide_eq_true a2
        go_enter Try.func8, Try.ntmps8
        go_wp2_with fail
        refine hRt.mono ?_
        rintro e w3 ⟨rfl, hb3⟩
        have B4 := sames B1 hb3
        go_wp2_with fail
        refine (drawn_any _).mono ?_
        rintro e w4 ⟨rfl, hb4⟩
        go_wp2_with fail
        go_ret
        exact ⟨rfl, sames B4 hb4⟩
      · by_cases a3 : 1000000 < y
        · have e1 : decide ((1000000 : Int) < x) = false := decide_eq_false a1
          have e2 : decide (x < (-1000000 : Int)) = false := decide_eq_false a2
          have e3 : decide ((1000000 : Int) < y) = true := decide_eq_true a3
          go_enter Try.func8, Try.ntmps8
          go_wp2_with fail
          refine hRt.mono ?_
          rintro e w3 ⟨rfl, hb3⟩
          have B4 := sames B1 hb3
          go_wp2_with fail
          refine (drawn_any _).mono ?_
          rintro e w4 ⟨rfl, hb4⟩
          go_wp2_with fail
          go_ret
          exact ⟨rfl, sames B4 hb4⟩
        · have a4 : y < -1000000 := by omega
          have e1 : decide ((1000000 : Int) < x) = false := decide_eq_false a1
          have e2 : decide (x < (-1000000 : Int)) = false := decide_eq_false a2
          have e3 : decide ((1000000 : Int) < y) = false := decide_eq_false a3
          have e4 : decide (y < (-1000000 : Int)) = true := decide_eq_true a4
          go_enter Try.func8, Try.ntmps8
          go_wp2_with fail
          refine hRt.mono ?_
          rintro e w3 ⟨rfl, hb3⟩
          have B4 := sames B1 hb3
          go_wp2_with fail
          refine (drawn_any _).mono ?_
          rintro e w4 ⟨rfl, hb4⟩
          go_wp2_with fail
          go_ret
          exact ⟨rfl, sames B4 hb4⟩

set_option maxRecDepth 100000 in
set_option maxHeartbeats 4000000 in
theorem shifts_near (o : Value) (x y : Int) (ps : List Pn) (es : List Int) (w : World) (ho : OAt w o ps es) (hr : rightO ps es = true) (hx : Lim x y) :
    Calls Try.prog 8 #[o, .int .i64 x, .int .i64 y] w fun e w' => e = .returned (.bool true) ∧ Below w.heap.size w w' := by
  obtain ⟨hl1, hl2, -, -⟩ := right_near hr
  obtain ⟨hR1, hR2, hR3⟩ := shifts_rows hx hr
  obtain ⟨LR, hLR⟩ : ∃ l, linesR (gridT 0 0 ps) (gridB ps) es = l := ⟨_, rfl⟩
  obtain ⟨MR, hMR⟩ : ∃ l, linesR (gridT x y ps) (gridB ps) es = l := ⟨_, rfl⟩
  rw [hLR] at hR1 hR2 hR3
  rw [hMR] at hR2 hR3
  have hR2 : MR.length = es.length := hR2.trans hR1
  rw [hR1] at hR3
  have HR3 := Lib.hid hR3
  have HLM := Lib.hid (And.intro hLR hMR)
  have gl : ∀ a b, (gridT a b ps).length ≤ 100000 := fun a b => by simp [gridT]; omega
  clear hR3 hLR hMR
  obtain ⟨v1, v2, hv, hp, he⟩ := id ho
  obtain ⟨p1, c1, rfl⟩ := hp.len
  obtain ⟨p2, c2, rfl⟩ := he.len
  subst hv
  have C1 := (Cs.nil w).box2 (.slice p1 ps.length c1) (.slice p2 es.length c2) 25
  have B1 := balloc w (.cells #[.slice p1 ps.length c1, .slice p2 es.length c2] 25)
  have hRt := (ho.on B1).right true hr
  have e1 : decide ((1000000 : Int) < x) = false := decide_eq_false (by have := hx.x1; omega)
  have e2 : decide (x < (-1000000 : Int)) = false := decide_eq_false (by have := hx.x0; omega)
  have e3 : decide ((1000000 : Int) < y) = false := decide_eq_false (by have := hx.y1; omega)
  have e4 : decide (y < (-1000000 : Int)) = false := decide_eq_false (by have := hx.y0; omega)
  have HG := Lib.hid (fun (W : World) (hb : Below w.heap.size w W) (a b : Int) => (ho.on hb).grid a b (by omega))
  have HE := Lib.hid (fun (W : World) (hb : Below w.heap.size w W) => he.on hb)
  clear hp he hx
  go_enter Try.func8, Try.ntmps8
  go_wp2_with fail
  refine hRt.mono ?_
  rintro e w2 ⟨rfl, hb2⟩
  have B2 := sames B1 hb2
  have C2 := C1.next hb2
  have k1 := C2.get 0 rfl
  have k2 := C2.get 1 rfl
  clear hRt C1
  go_wp2_with fail
  refine (HG.out _ B2 0 0).mono ?_
  rintro e w3 ⟨u1, u2, rfl, ht1, hb1', hb3⟩
  have B3 := sames B2 hb3
  have C3 := C2.next hb3
  clear k1 k2 C2
  have k1 := C3.get 0 rfl
  have k2 := C3.get 1 rfl
  go_wp2_with fail
  refine (HG.out _ B3 x y).mono ?_
  rintro e w4 ⟨u3, u4, rfl, ht2, hb2', hb4⟩
  have B4 := sames B3 hb4
  have C4 := C3.next hb4
  clear k1 k2 C3
  have k1 := C4.get 0 rfl
  have k2 := C4.get 1 rfl
  have hL1 := lines_any u1 u2 _ _ _ es w4 (ht1.on hb4) (hb1'.on hb4) (HE.out _ B4) (gl 0 0) (by omega)
  go_wp2_with fail
  refine hL1.mono ?_
  rintro e w5 ⟨l, rfl, hl, hb5⟩
  have B5 := sames B4 hb5
  have C5 := C4.next hb5
  have hL2 := lines_any u3 u2 _ _ _ es w5 (ht2.on hb5) (hb1'.on (sames hb4 hb5)) (HE.out _ B5) (gl x y) (by omega)
  clear k1 k2 C4 hL1
  have k1 := C5.get 0 rfl
  have k2 := C5.get 1 rfl
  go_wp2_with fail
  refine hL2.mono ?_
  rintro e w6 ⟨m, rfl, hm, hb6⟩
  have B6 := sames B5 hb6
  have C6 := C5.next hb6
  have hl6 := RRow.at (hl.on hb6)
  have hm6 := RRow.at hm
  rw [HLM.out.1] at hl6
  rw [HLM.out.2] at hm6
  obtain ⟨pl, cl, rfl⟩ := hl6.len
  obtain ⟨pm, cm, rfl⟩ := hm6.len
  have HLr := Lib.hid (fun (W : World) (hb : Below w6.heap.size w6 W) i (hi : i < es.length) => show ∃ a, pl = some a ∧ ∃ u, W.cell? (a.add i) = some u ∧ TsAt W u (LR[i]?.getD []) from by
    rcases hl6.on hb with ⟨h, hh⟩ | ⟨a, c, h, hg, hlc, hc, hcell⟩
    · rw [← hR1, hh] at hi; simp at hi
    · simp only [Value.slice.injEq, true_and] at h
      obtain ⟨rfl, rfl⟩ := h
      exact ⟨a, rfl, hcell i (by rw [hR1]; exact hi)⟩)
  have HMr := Lib.hid (fun (W : World) (hb : Below w6.heap.size w6 W) i (hi : i < es.length) => show ∃ a, pm = some a ∧ ∃ u, W.cell? (a.add i) = some u ∧ TsAt W u (MR[i]?.getD []) from by
    rcases hm6.on hb with ⟨h, hh⟩ | ⟨a, c, h, hg, hlc, hc, hcell⟩
    · rw [← hR2, hh] at hi; simp at hi
    · simp only [Value.slice.injEq, true_and] at h
      obtain ⟨rfl, rfl⟩ := h
      exact ⟨a, rfl, hcell i (by rw [hR2]; exact hi)⟩)
  rw [hR1, hR2]
  have HRR := Lib.hid (And.intro hR1 hR2)
  clear k1 k2 C5 hL2 hl hm hl6 hm6 ht1 ht2 hb1' hb2' hR1 hR2 HG HE
  have k1 := C6.get 0 rfl
  have k2 := C6.get 1 rfl
  go_wp2_with fail
  go_loopw [13] (fun i wr => ∃ k : Nat, k ≤ es.length ∧ i = .int .i64 k ∧ Below w6.heap.size w6 wr) (fun i _ => (es.length - intOf i).toNat)
  case atStart => exact ⟨0, by omega, rfl, Below.refl _ _⟩
  case round =>
    clear k1 k2 C6
    obtain ⟨i, hi, rfl, hB⟩ := hrel
    by_cases hlt : i < es.length
    · obtain ⟨a, rfl, u, a1, a2⟩ := HLr.out wr hB i hlt
      obtain ⟨b, rfl, v, b1, b2⟩ := HMr.out wr hB i hlt
      obtain ⟨pu, cu, rfl⟩ := a2.len
      obtain ⟨pv, cv, rfl⟩ := b2.len
      obtain ⟨hln, hrw⟩ := HR3.out i hlt
      rw [hln] at b1
      have HRW := Lib.hid hrw
      have HA := Lib.hid (fun (W : World) (hb : Below wr.heap.size wr W) j (hj : j < (LR[i]?.getD []).length) => show ∃ c, pu = some c ∧ W.cell? (c.add (j * 2)) = some (.int .i64 (((LR[i]?.getD [])[j]?.getD default).1)) ∧ W.cell? ⟨(c.add (j * 2)).block, (c.add (j * 2)).off + 1, none⟩ = some (.int .i64 (((LR[i]?.getD [])[j]?.getD default).2)) from by
        rcases a2.on hb with ⟨h, hh⟩ | ⟨a, c, h, hg, hlc, hc, hcell⟩
        · rw [hh] at hj; simp at hj
        · simp only [Value.slice.injEq, true_and] at h
          obtain ⟨rfl, rfl⟩ := h
          exact ⟨a, rfl, hcell j hj⟩)
      have HBB := Lib.hid (fun (W : World) (hb : Below wr.heap.size wr W) j (hj : j < (LR[i]?.getD []).length) => show ∃ c, pv = some c ∧ W.cell? (c.add (j * 2)) = some (.int .i64 (((MR[i]?.getD [])[j]?.getD default).1)) ∧ W.cell? ⟨(c.add (j * 2)).block, (c.add (j * 2)).off + 1, none⟩ = some (.int .i64 (((MR[i]?.getD [])[j]?.getD default).2)) from by
        rcases b2.on hb with ⟨h, hh⟩ | ⟨a, c, h, hg, hlc, hc, hcell⟩
        · rw [← hln, hh] at hj; simp at hj
        · simp only [Value.slice.injEq, true_and] at h
          obtain ⟨rfl, rfl⟩ := h
          exact ⟨a, rfl, hcell j (by rw [hln]; exact hj)⟩)
      generalize LR[i]?.getD [] = lr at *
      generalize MR[i]?.getD [] = mr at *
      have la := World.block_lt_of_cell? wr _ a1
      have lb := World.block_lt_of_cell? wr _ b1
      have hlm : lr.length ≤ 9223372036854775807 := by
        rcases a2 with ⟨-, h⟩ | ⟨_, _, -, -, h1, h2, -⟩
        · rw [h]; simp
        · unfold maxLen at h2; omega
      clear a2 b2 hrw hln
      go_wp2_with fail
      go_quiet (fail)
      go_wp2_with fail
      go_loopw [14] (fun j wi => ∃ k : Nat, k ≤ lr.length ∧ j = .int .i64 k ∧ Below wr.heap.size wr wi) (fun j _ => (lr.length - intOf j).toNat)
      case atStart => exact ⟨0, by omega, rfl, below_drewN (Below.refl _ _) nq⟩
      case round =>
        obtain ⟨j, hj, rfl, hB2⟩ := hrel
        have a1' := (hB2.cell la).trans a1
        have b1' := (hB2.cell lb).trans b1
        have hBw := sames hB hB2
        by_cases hltj : j < lr.length
        · obtain ⟨c, rfl, s1, s2⟩ := HA.out _ hB2 j hltj
          obtain ⟨d, rfl, t1, t2⟩ := HBB.out _ hB2 j hltj
          have e := HRW.out j hltj
          obtain ⟨p, hp⟩ : ∃ p, lr[j]?.getD default = p := ⟨_, rfl⟩
          obtain ⟨q, hq⟩ : ∃ q, mr[j]?.getD default = q := ⟨_, rfl⟩
          rw [hp] at s1 s2 e
          rw [hq] at t1 t2 e
          obtain ⟨lx, ly⟩ := p
          obtain ⟨mx, my⟩ := q
          simp only [Prod.mk.injEq] at e s1 s2 t1 t2
          have x1 : IntKind.i64.wrap (lx + x) = mx := (wrap_is _).trans e.1.symm
          have y1 : IntKind.i64.wrap (ly + y) = my := (wrap_is _).trans e.2.symm
          clear hp hq e a1 b1 la lb
          go_wp2_with fail
          go_quiet (fail)
          go_wp2_with fail
          go_roundw
          case rel => exact ⟨j + 1, by omega, by go_num, below_drewN hB2 nq⟩
          case measure => simp [intOf]; omega
        · obtain rfl : j = lr.length := by omega
          clear a1 b1 la lb
          go_wp2_with fail
          go_roundw
          case rel => exact ⟨i + 1, by omega, by go_num, hBw⟩
          case measure => simp [intOf]; omega
    · obtain rfl : i = es.length := by omega
      have Q := Lib.hid (sames B6 hB)
      go_wp2_with fail
      refine (drawn_any _).mono ?_
      rintro e w7 ⟨rfl, hb7⟩
      go_wp2_with fail
      go_ret
      exact ⟨rfl, sames Q.out hb7⟩
theorem shifts_law (o : Value) (x y : Int) (ps : List Pn) (es : List Int) (w : World) (ho : OAt w o ps es) :
    Calls Try.prog 8 #[o, .int .i64 x, .int .i64 y] w fun e w' => e = .returned (.bool true) ∧ Below w.heap.size w w' := by
  by_cases h : Far6 (rightO ps es) x y
  · exact shifts_far o x y ps es w ho h
  · unfold Far6 at h
    refine shifts_near o x y ps es w ho ?_ ⟨by omega, by omega, by omega, by omega⟩
    cases hr : rightO ps es with
    | true => rfl
    | false => exact absurd (.inl hr) h
end Go.Proofs.Ytenmgbcbnofcmaa
