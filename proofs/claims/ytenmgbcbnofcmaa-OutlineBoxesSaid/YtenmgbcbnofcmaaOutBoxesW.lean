/- OutlineBoxes over plain lists: the walk. -/
import Derived.Test.YtenmgbcbnofcmaaOutTurnsW
import Derived.Test.YtenmgbcbnofcmaaOutBoxP
import Derived.ChangeKeysEq
namespace Go.Proofs.Ytenmgbcbnofcmaa
open Go.RowKit

theorem OAt.box {W : World} {x : Value} {ps : List Pn} {es : List Int} (h : OAt W x ps es) : Calls Try.prog 16 #[x] W (BoxR (lowX ps) (lowY ps) (highX ps) (highY ps) (decide (0 < ps.length)) W) := by
  obtain ⟨v1, v2, rfl, a1, a2⟩ := h
  have hl : ps.length ≤ 9223372036854775807 := by
    rcases a1 with ⟨-, rfl⟩ | ⟨a, c, -, -, h1, h2, -⟩
    · simp
    · unfold maxLen at h2; omega
  obtain ⟨p2, c2, rfl⟩ := a2.len
  exact box_any v1 _ ps W a1 ⟨_, _, _, rfl⟩ hl
/-- The law goes no further than its own examples. -/
def Far (b : Bool) (x y : Int) : Prop := b = false ∨ 100000 < x ∨ x < -100000 ∨ 100000 < y ∨ y < -100000
set_option maxRecDepth 100000 in
set_option maxHeartbeats 2000000 in
theorem boxes_far (o : Value) (x y : Int) (ps : List Pn) (es : List Int) (w : World) (ho : OAt w o ps es) (hf : Far (rightO ps es) x y) :
    Calls Try.prog 7 #[o, .int .i64 x, .int .i64 y] w fun e w' => e = .returned (.bool true) ∧ Below w.heap.size w w' := by
  obtain ⟨p1, c1, p2, c2, rfl⟩ := ho.form
  have C1 := (Cs.nil w).box2 (.slice p1 ps.length c1) (.slice p2 es.length c2) 25
  have B1 := balloc w (.cells #[.slice p1 ps.length c1, .slice p2 es.length c2] 25)
  have hBx := (ho.on B1).box
  have HR := Lib.hid (fun (W : World) (hb : Below w.heap.size w W) (b : Bool) (hb' : rightO ps es = b) => (ho.on hb).right b hb')
  generalize lowX ps = LX at *
  generalize lowY ps = LY at *
  generalize highX ps = HX at *
  generalize highY ps = HY at *
  generalize decide (0 < ps.length) = ok at *
  cases hr : rightO ps es with
  | false =>
    go_enter Try.func7, Try.ntmps7
    go_wp2_with fail
    refine hBx.mono ?_
    rintro e w2 ⟨rfl, hb2⟩
    have B2 := sames B1 hb2
    have C2 := (C1.next hb2).next (balloc2 w2 (.cells #[.int .i64 LX, .int .i64 LY, .bool false] 33) (.cells #[.int .i64 HX, .int .i64 HY, .bool false] 33))
    have k1 := (C1.next hb2).get 0 rfl
    have k2 := (C1.next hb2).get 1 rfl
    have l1 := cell_lt k1
    simp only at l1
    have B3 := sames B2 (balloc2 w2 (.cells #[.int .i64 LX, .int .i64 LY, .bool false] 33) (.cells #[.int .i64 HX, .int .i64 HY, .bool false] 33))
    go_wp2_with fail
    refine (HR.out _ B3 false hr).mono ?_
    rintro e w3 ⟨rfl, hb3⟩
    have B4 := sames B3 hb3
    go_wp2_with fail
    refine (drawn_any _).mono ?_
    rintro e w4 ⟨rfl, hb4⟩
    go_wp2_with fail
    go_ret
    exact ⟨rfl, sames B4 hb4⟩
  | true =>
    rw [hr] at hf
    have hf : 100000 < x ∨ x < -100000 ∨ 100000 < y ∨ y < -100000 := by
      rcases hf with h | h
      · cases h
      · exact h
    by_cases a1 : 100000 < x
    · have e1 : decide ((100000 : Int) < x) = true := decide_eq_true a1
      go_enter Try.func7, Try.ntmps7
      go_wp2_with fail
      refine hBx.mono ?_
      rintro e w2 ⟨rfl, hb2⟩
      have B2 := sames B1 hb2
      have k1 := (C1.next hb2).get 0 rfl
      have k2 := (C1.next hb2).get 1 rfl
      have l1 := cell_lt k1
      simp only at l1
      have B3 := sames B2 (balloc2 w2 (.cells #[.int .i64 LX, .int .i64 LY, .bool false] 33) (.cells #[.int .i64 HX, .int .i64 HY, .bool false] 33))
      go_wp2_with fail
      refine (HR.out _ B3 true hr).mono ?_
      rintro e w3 ⟨rfl, hb3⟩
      have B4 := sames B3 hb3
      go_wp2_with fail
      refine (drawn_any _).mono ?_
      rintro e w4 ⟨rfl, hb4⟩
      go_wp2_with fail
      go_ret
      exact ⟨rfl, sames B4 hb4⟩
    · by_cases a2 : x < -100000
      · have e1 : decide ((100000 : Int) < x) = false := decide_eq_false a1
        have e2 : decide (x < (-100000 : Int)) = true := decide_eq_true a2
        go_enter Try.func7, Try.ntmps7
        go_wp2_with fail
        refine hBx.mono ?_
        rintro e w2 ⟨rfl, hb2⟩
        have B2 := sames B1 hb2
        have k1 := (C1.next hb2).get 0 rfl
        have k2 := (C1.next hb2).get 1 rfl
        have l1 := cell_lt k1
        simp only at l1
        have B3 := sames B2 (balloc2 w2 (.cells #[.int .i64 LX, .int .i64 LY, .bool false] 33) (.cells #[.int .i64 HX, .int .i64 HY, .bool false] 33))
        go_wp2_with fail
        refine (HR.out _ B3 true hr).mono ?_
        rintro e w3 ⟨rfl, hb3⟩
        have B4 := sames B3 hb3
        go_wp2_with fail
        refine (drawn_any _).mono ?_
        rintro e w4 ⟨rfl, hb4⟩
        go_wp2_with fail
        go_ret
        exact ⟨rfl, sames B4 hb4⟩
      · by_cases a3 : 100000 < y
        · have e1 : decide ((100000 : Int) < x) = false := decide_eq_false a1
          have e2 : decide (x < (-100000 : Int)) = false := decide_eq_false a2
          have e3 : decide ((100000 : Int) < y) = true := decide_eq_true a3
          go_enter Try.func7, Try.ntmps7
          go_wp2_with fail
          refine hBx.mono ?_
          rintro e w2 ⟨rfl, hb2⟩
          have B2 := sames B1 hb2
          have k1 := (C1.next hb2).get 0 rfl
          have k2 := (C1.next hb2).get 1 rfl
          have l1 := cell_lt k1
          simp only at l1
          have B3 := sames B2 (balloc2 w2 (.cells #[.int .i64 LX, .int .i64 LY, .bool false] 33) (.cells #[.int .i64 HX, .int .i64 HY, .bool false] 33))
          go_wp2_with fail
          refine (HR.out _ B3 true hr).mono ?_
          rintro e w3 ⟨rfl, hb3⟩
          have B4 := sames B3 hb3
          go_wp2_with fail
          refine (drawn_any _).mono ?_
          rintro e w4 ⟨rfl, hb4⟩
          go_wp2_with fail
          go_ret
          exact ⟨rfl, sames B4 hb4⟩
        · have a4 : y < -100000 := by omega
          have e1 : decide ((100000 : Int) < x) = false := decide_eq_false a1
          have e2 : decide (x < (-100000 : Int)) = false := decide_eq_false a2
          have e3 : decide ((100000 : Int) < y) = false := decide_eq_false a3
          have e4 : decide (y < (-100000 : Int)) = true := decide_eq_true a4
          go_enter Try.func7, Try.ntmps7
          go_wp2_with fail
          refine hBx.mono ?_
          rintro e w2 ⟨rfl, hb2⟩
          have B2 := sames B1 hb2
          have k1 := (C1.next hb2).get 0 rfl
          have k2 := (C1.next hb2).get 1 rfl
          have l1 := cell_lt k1
          simp only at l1
          have B3 := sames B2 (balloc2 w2 (.cells #[.int .i64 LX, .int .i64 LY, .bool false] 33) (.cells #[.int .i64 HX, .int .i64 HY, .bool false] 33))
          go_wp2_with fail
          refine (HR.out _ B3 true hr).mono ?_
          rintro e w3 ⟨rfl, hb3⟩
          have B4 := sames B3 hb3
          go_wp2_with fail
          refine (drawn_any _).mono ?_
          rintro e w4 ⟨rfl, hb4⟩
          go_wp2_with fail
          go_ret
          exact ⟨rfl, sames B4 hb4⟩

theorem eq_sides (W : World) : (Op.equalIn 10000 48 (.agg #[.bool true, .bool true, .bool true, .bool true]) (.agg #[.bool true, .bool true, .bool true, .bool true])).run Try.prog W = .ok true W := by
  obtain ⟨i, hi⟩ : ∃ i, Try.prog.info? 4 = some i := Option.isSome_iff_exists.1 (by kernel_rfl)
  rw [run_equalIn_array (P := Try.prog) W 9999 _ _ Try.underlying48 hi]
  have he : Try.prog.plainKey 4 = true := by kernel_rfl
  have has : (List.range 4).mapM (fun i => Try.prog.keyLits 10 4 (((#[Value.bool true, .bool true, .bool true, .bool true] : Array Value).toList.drop (i * Try.prog.cellsOf 4)).take (Try.prog.cellsOf 4))) = some [[Lit.bool true], [.bool true], [.bool true], [.bool true]] := by kernel_rfl
  obtain ⟨r, hr, hi⟩ := run_eqItems_plain (P := Try.prog) W 9998 he _ _ _ _ _ has has
  rw [hr, hi.2 rfl]
set_option maxRecDepth 100000 in
set_option maxHeartbeats 8000000 in
theorem boxes_near (o : Value) (x y : Int) (ps : List Pn) (es : List Int) (w : World) (ho : OAt w o ps es) (hr : rightO ps es = true) (hx : -100000 ≤ x ∧ x ≤ 100000) (hy : -100000 ≤ y ∧ y ≤ 100000) :
    Calls Try.prog 7 #[o, .int .i64 x, .int .i64 y] w fun e w' => e = .returned (.bool true) ∧ Below w.heap.size w w' := by
  obtain ⟨p1, c1, p2, c2, rfl⟩ := ho.form
  obtain ⟨hl1, hl2, hnr, -⟩ := right_near hr
  have C1 := (Cs.nil w).box2 (.slice p1 ps.length c1) (.slice p2 es.length c2) 25
  have B1 := balloc w (.cells #[.slice p1 ps.length c1, .slice p2 es.length c2] 25)
  have hBx := (ho.on B1).box
  have HR := Lib.hid (fun (W : World) (hb : Below w.heap.size w W) => (ho.on hb).right true hr)
  have HM := Lib.hid (fun (W : World) (hb : Below w.heap.size w W) => (ho.on hb).mov x y (by omega) (by omega))
  obtain ⟨LX, hLX⟩ : ∃ a, lowX ps = a := ⟨_, rfl⟩
  obtain ⟨LY, hLY⟩ : ∃ a, lowY ps = a := ⟨_, rfl⟩
  obtain ⟨HX, hHX⟩ : ∃ a, highX ps = a := ⟨_, rfl⟩
  obtain ⟨HY, hHY⟩ : ∃ a, highY ps = a := ⟨_, rfl⟩
  rw [hLX, hLY, hHX, hHY] at hBx
  obtain ⟨ok, hok⟩ : ∃ b, decide (0 < ps.length) = b := ⟨_, rfl⟩
  rw [hok] at hBx
  have HOK := Lib.hid hok
  clear hok
  have HBnd := Lib.hid (show ∀ i, i < ps.length → (LX ≤ (ps[i]?.getD default).x ∧ (ps[i]?.getD default).x ≤ HX) ∧ LY ≤ (ps[i]?.getD default).y ∧ (ps[i]?.getD default).y ≤ HY from fun i hi => by
    have hm : ps[i]?.getD default ∈ ps := by rw [List.getElem?_eq_getElem hi]; exact List.getElem_mem hi
    have h1 := (lowI_le Pn.x ps (ps[0]?.getD default).x).2 _ hm
    have h2 := (lowI_le Pn.y ps (ps[0]?.getD default).y).2 _ hm
    have h3 := (highI_ge Pn.x ps (ps[0]?.getD default).x).2 _ hm
    have h4 := (highI_ge Pn.y ps (ps[0]?.getD default).y).2 _ hm
    unfold lowX at hLX
    unfold lowY at hLY
    unfold highX at hHX
    unfold highY at hHY
    rw [hLX] at h1
    rw [hLY] at h2
    rw [hHX] at h3
    rw [hHY] at h4
    exact ⟨⟨h1, h3⟩, h2, h4⟩)
  have HAll := Lib.hid (show 0 < ps.length → (sdK Pn.x LX ps ps.length = true ∧ sdK Pn.x HX ps ps.length = true ∧ sdK Pn.y LY ps ps.length = true ∧ sdK Pn.y HY ps ps.length = true) ∧ (lowX (movedO x y ps) = LX + x ∧ lowY (movedO x y ps) = LY + y ∧ highX (movedO x y ps) = HX + x ∧ highY (movedO x y ps) = HY + y) ∧ (-16384 ≤ LX ∧ LX ≤ 16384) ∧ (-16384 ≤ LY ∧ LY ≤ 16384) ∧ (-16384 ≤ HX ∧ HX ≤ 16384) ∧ (-16384 ≤ HY ∧ HY ≤ 16384) from fun h => by
    have h1 := box_moved (x := x) (y := y) (by omega) (by omega) hnr h
    have h2 := box_near hnr h
    rw [hLX, hLY, hHX, hHY] at h1 h2
    refine ⟨⟨sdK_all _ _ _ ?_, sdK_all _ _ _ ?_, sdK_all _ _ _ ?_, sdK_all _ _ _ ?_⟩, h1, h2⟩
    · rw [← hLX]; exact low_mem Pn.x ps h
    · rw [← hHX]; exact high_mem Pn.x ps h
    · rw [← hLY]; exact low_mem Pn.y ps h
    · rw [← hHY]; exact high_mem Pn.y ps h)
  clear hLX hLY hHX hHY
  have HO := Lib.hid (fun (W : World) (hb : Below w.heap.size w W) i (hi : i < ps.length) => show ∃ a, p1 = some a ∧ W.cell? (a.add (i * 3)) = some (.int .i64 (ps[i]?.getD default).x) ∧ W.cell? ⟨(a.add (i * 3)).block, (a.add (i * 3)).off + 1, none⟩ = some (.int .i64 (ps[i]?.getD default).y) ∧ W.cell? ⟨(a.add (i * 3)).block, (a.add (i * 3)).off + 2, none⟩ = some (.bool (ps[i]?.getD default).on) from by
    obtain ⟨v1, v2, hv, h1, h2⟩ := ho
    simp only [Value.agg.injEq, Array.mk.injEq, List.cons.injEq, and_true] at hv
    obtain ⟨rfl, rfl⟩ := hv
    rcases h1.on hb with ⟨h, hh⟩ | ⟨a, c, h, hg, hlc, hc, hcell⟩
    · rw [hh] at hi; simp at hi
    · simp only [Value.slice.injEq, true_and] at h
      obtain ⟨rfl, rfl⟩ := h
      exact ⟨a, rfl, hcell i hi⟩)
  have e1 : decide ((100000 : Int) < x) = false := decide_eq_false (by omega)
  have e2 : decide (x < (-100000 : Int)) = false := decide_eq_false (by omega)
  have e3 : decide ((100000 : Int) < y) = false := decide_eq_false (by omega)
  have e4 : decide (y < (-100000 : Int)) = false := decide_eq_false (by omega)
  go_enter Try.func7, Try.ntmps7
  go_wp2_with fail
  refine hBx.mono ?_
  rintro e w2 ⟨rfl, hb2⟩
  have B2 := sames B1 hb2
  have C2 := (C1.next hb2).box3 (.int .i64 LX) (.int .i64 LY) (.bool false) 33 |>.box3 (.int .i64 HX) (.int .i64 HY) (.bool false) 33
  have k1 := (C1.next hb2).get 0 rfl
  have k2 := (C1.next hb2).get 1 rfl
  have l1 := cell_lt k1
  simp only at l1
  have B3 := sames B2 (balloc2 w2 (.cells #[.int .i64 LX, .int .i64 LY, .bool false] 33) (.cells #[.int .i64 HX, .int .i64 HY, .bool false] 33))
  clear hBx C1
  go_wp2_with fail
  refine (HR.out _ B3).mono ?_
  rintro e w3 ⟨rfl, hb3⟩
  have B4 := sames B3 hb3
  have C3 := (C2.next hb3).alloc (.cells #[.bool false, .bool false, .bool false, .bool false] 48)
  have z2 := hb3.size
  simp only [World.size_alloc] at z2
  have z1 := B2.size
  clear k1 k2 HR C2
  obtain ⟨L, hL⟩ : ∃ L : List (Addr × Value), L = [(⟨w2.heap.size + 1, 0, none⟩, .int .i64 HX), (⟨w2.heap.size + 1, 1, none⟩, .int .i64 HY), (⟨w2.heap.size + 1, 2, none⟩, .bool false), (⟨w2.heap.size, 0, none⟩, .int .i64 LX), (⟨w2.heap.size, 1, none⟩, .int .i64 LY), (⟨w2.heap.size, 2, none⟩, .bool false), (⟨w.heap.size, 0, none⟩, .slice p1 ps.length c1), (⟨w.heap.size, 1, none⟩, .slice p2 es.length c2)] := ⟨_, rfl⟩
  have C3 : Cs L (w3.alloc (.cells #[.bool false, .bool false, .bool false, .bool false] 48)) := by rw [hL]; simpa using C3
  have hLb : ∀ p ∈ L, p.1.block ≠ w3.heap.size := by
    rw [hL]
    intro p hp
    simp only [List.mem_cons, List.not_mem_nil, or_false] at hp
    rcases hp with rfl | rfl | rfl | rfl | rfl | rfl | rfl | rfl <;> (simp; omega)
  have HLb := Lib.hid hLb
  have HL := Lib.hid hL
  clear hLb hL
  go_wp2_with fail
  go_loopw [11] (fun i wr => ∃ (k : Nat) (s0 s1 s2 s3 : Bool), k ≤ ps.length ∧ i = .int .i64 k ∧ Hid (s0 = sdK Pn.x LX ps k ∧ s1 = sdK Pn.x HX ps k ∧ s2 = sdK Pn.y LY ps k ∧ s3 = sdK Pn.y HY ps k) ∧ Below w.heap.size w wr ∧ Cs L wr ∧ wr.cell? ⟨w3.heap.size, 0, none⟩ = some (.bool s0) ∧ wr.cell? ⟨w3.heap.size, 1, none⟩ = some (.bool s1) ∧ wr.cell? ⟨w3.heap.size, 2, none⟩ = some (.bool s2) ∧ wr.cell? ⟨w3.heap.size, 3, none⟩ = some (.bool s3) ∧ (∀ o, wr.frozen? ⟨w3.heap.size, o, none⟩ = false)) (fun i _ => (ps.length - intOf i).toNat)
  case atStart => exact ⟨0, false, false, false, false, by omega, rfl, Lib.hid ⟨rfl, rfl, rfl, rfl⟩, B4.alloc B4.size _, C3, by simp [go_sem], by simp [go_sem], by simp [go_sem], by simp [go_sem], fun o => by simp [go_sem]⟩
  case round =>
    clear C3 hb3 hb2 B4 B3 B2 l1
    obtain ⟨k, s0, s1, s2, s3, hk, rfl, hs, hB, hC, t0, t1, t2, t3, tf⟩ := hrel
    have hC' := hC
    rw [HL.out] at hC'
    have m0 := hC'.get 0 rfl
    have m1 := hC'.get 1 rfl
    have m2 := hC'.get 2 rfl
    have n0 := hC'.get 3 rfl
    have n1 := hC'.get 4 rfl
    have n2 := hC'.get 5 rfl
    have o0 := hC'.get 6 rfl
    have o1 := hC'.get 7 rfl
    have lm := cell_lt m0
    have ln := cell_lt n0
    have lo := cell_lt o0
    have lt := cell_lt t0
    simp only at lm ln lo lt
    have f0 := tf 0
    have f1 := tf 1
    have f2 := tf 2
    have f3 := tf 3
    clear hC'
    by_cases hlt : k < ps.length
    · obtain ⟨a, rfl, a1, a2, a3⟩ := HO.out wr hB k hlt
      obtain ⟨⟨b1, b2⟩, b3, b4⟩ := HBnd.out k hlt
      have g0 := sdK_next Pn.x LX ps k hlt
      have g1 := sdK_next Pn.x HX ps k hlt
      have g2 := sdK_next Pn.y LY ps k hlt
      have g3 := sdK_next Pn.y HY ps k hlt
      rw [← hs.out.1] at g0
      rw [← hs.out.2.1] at g1
      rw [← hs.out.2.2.1] at g2
      rw [← hs.out.2.2.2] at g3
      generalize ps[k]?.getD default = p at *
      obtain ⟨X, Y, on⟩ := p
      simp only at a1 a2 a3 b1 b2 b3 b4 g0 g1 g2 g3
      have la := World.block_lt_of_cell? wr _ a1
      have d1 : decide (X < LX) = false := decide_eq_false (by omega)
      have d2 : decide (HX < X) = false := decide_eq_false (by omega)
      have d3 : decide (Y < LY) = false := decide_eq_false (by omega)
      have d4 : decide (HY < Y) = false := decide_eq_false (by omega)
      obtain ⟨q0, hq0⟩ : ∃ q, (X == LX) = q := ⟨_, rfl⟩
      obtain ⟨q1, hq1⟩ : ∃ q, (X == HX) = q := ⟨_, rfl⟩
      obtain ⟨q2, hq2⟩ : ∃ q, (Y == LY) = q := ⟨_, rfl⟩
      obtain ⟨q3, hq3⟩ : ∃ q, (Y == HY) = q := ⟨_, rfl⟩
      rw [hq0] at g0
      rw [hq1] at g1
      rw [hq2] at g2
      rw [hq3] at g3
      have FIN : ∀ r0 r1 r2 r3 : Bool, (s0 || q0) = r0 → (s1 || q1) = r1 → (s2 || q2) = r2 → (s3 || q3) = r3 → ∃ (k' : Nat) (s0 s1 s2 s3 : Bool), k' ≤ ps.length ∧ Value.int .i64 ((k : Int) + 1) = .int .i64 k' ∧ Hid (s0 = sdK Pn.x LX ps k' ∧ s1 = sdK Pn.x HX ps k' ∧ s2 = sdK Pn.y LY ps k' ∧ s3 = sdK Pn.y HY ps k') ∧ Below w.heap.size w (((((wr.setCell ⟨w3.heap.size, 0, none⟩ (.bool r0)).setCell ⟨w3.heap.size, 1, none⟩ (.bool r1)).setCell ⟨w3.heap.size, 2, none⟩ (.bool r2)).setCell ⟨w3.heap.size, 3, none⟩ (.bool r3)).alloc (.cells #[.int .i64 X, .int .i64 Y, .bool on] 33)) ∧ Cs L (((((wr.setCell ⟨w3.heap.size, 0, none⟩ (.bool r0)).setCell ⟨w3.heap.size, 1, none⟩ (.bool r1)).setCell ⟨w3.heap.size, 2, none⟩ (.bool r2)).setCell ⟨w3.heap.size, 3, none⟩ (.bool r3)).alloc (.cells #[.int .i64 X, .int .i64 Y, .bool on] 33)) ∧ (((((wr.setCell ⟨w3.heap.size, 0, none⟩ (.bool r0)).setCell ⟨w3.heap.size, 1, none⟩ (.bool r1)).setCell ⟨w3.heap.size, 2, none⟩ (.bool r2)).setCell ⟨w3.heap.size, 3, none⟩ (.bool r3)).alloc (.cells #[.int .i64 X, .int .i64 Y, .bool on] 33)).cell? ⟨w3.heap.size, 0, none⟩ = some (.bool s0) ∧ (((((wr.setCell ⟨w3.heap.size, 0, none⟩ (.bool r0)).setCell ⟨w3.heap.size, 1, none⟩ (.bool r1)).setCell ⟨w3.heap.size, 2, none⟩ (.bool r2)).setCell ⟨w3.heap.size, 3, none⟩ (.bool r3)).alloc (.cells #[.int .i64 X, .int .i64 Y, .bool on] 33)).cell? ⟨w3.heap.size, 1, none⟩ = some (.bool s1) ∧ (((((wr.setCell ⟨w3.heap.size, 0, none⟩ (.bool r0)).setCell ⟨w3.heap.size, 1, none⟩ (.bool r1)).setCell ⟨w3.heap.size, 2, none⟩ (.bool r2)).setCell ⟨w3.heap.size, 3, none⟩ (.bool r3)).alloc (.cells #[.int .i64 X, .int .i64 Y, .bool on] 33)).cell? ⟨w3.heap.size, 2, none⟩ = some (.bool s2) ∧ (((((wr.setCell ⟨w3.heap.size, 0, none⟩ (.bool r0)).setCell ⟨w3.heap.size, 1, none⟩ (.bool r1)).setCell ⟨w3.heap.size, 2, none⟩ (.bool r2)).setCell ⟨w3.heap.size, 3, none⟩ (.bool r3)).alloc (.cells #[.int .i64 X, .int .i64 Y, .bool on] 33)).cell? ⟨w3.heap.size, 3, none⟩ = some (.bool s3) ∧ (∀ o, (((((wr.setCell ⟨w3.heap.size, 0, none⟩ (.bool r0)).setCell ⟨w3.heap.size, 1, none⟩ (.bool r1)).setCell ⟨w3.heap.size, 2, none⟩ (.bool r2)).setCell ⟨w3.heap.size, 3, none⟩ (.bool r3)).alloc (.cells #[.int .i64 X, .int .i64 Y, .bool on] 33)).frozen? ⟨w3.heap.size, o, none⟩ = false) :=
        fun r0 r1 r2 r3 h0 h1 h2 h3 => by
          refine ⟨k + 1, r0, r1, r2, r3, by omega, by go_num, Lib.hid ⟨by rw [g0, h0], by rw [g1, h1], by rw [g2, h2], by rw [g3, h3]⟩, ((((hB.setCell (by simp; omega) _).setCell (by simp; omega) _).setCell (by simp; omega) _).setCell (by simp; omega) _).alloc (by simpa using hB.size) _, fun p hp => ?_, by simp [go_sem, t0, lt], by simp [go_sem, t1, lt], by simp [go_sem, t2, lt], by simp [go_sem, t3, lt], fun o => ?_⟩
          · have hn := (HLb.out p hp).symm
            rw [World.cell?_alloc_lt _ _ _ (by simpa using cell_lt (hC p hp)), World.cell?_setCell_far _ _ _ _ hn, World.cell?_setCell_far _ _ _ _ hn, World.cell?_setCell_far _ _ _ _ hn, World.cell?_setCell_far _ _ _ _ hn]
            exact hC p hp
          · rw [World.frozen?_alloc_past _ _ _ (by simpa using lt)]
            simpa using tf o
      have FIN := Lib.hid FIN
      clear g0 g1 g2 g3 b1 b2 b3 b4 hs hB hC tf
      cases s0 <;> cases s1 <;> cases s2 <;> cases s3 <;>
        (go_wp2_with fail
         go_roundw
         case rel => exact FIN.out _ _ _ _ rfl rfl rfl rfl
         case measure => (simp [intOf]; omega))
    · obtain rfl : k = ps.length := by omega
      have hMv := HM.out wr hB
      by_cases h0 : ps.length = 0
      · obtain rfl : ok = false := by rw [← HOK.out]; exact decide_eq_false (by omega)
        have z0 : ((ps.length : Int) == 0) = true := by rw [h0]; rfl
        have H0 := Lib.hid h0
        clear hs h0
        go_wp2_with fail
        refine hMv.mono ?_
        rintro e w5 ⟨m, rfl, hm, hb5⟩
        have hBm := hm.box
        rw [movedO_len, decide_eq_false (show ¬ 0 < ps.length by have := H0.out; omega)] at hBm
        generalize lowX (movedO x y ps) = ax at *
        generalize lowY (movedO x y ps) = ay at *
        generalize highX (movedO x y ps) = bx at *
        generalize highY (movedO x y ps) = by' at *
        go_wp2_with fail
        refine hBm.mono ?_
        rintro e w6 ⟨rfl, hb6⟩
        have B6 := sames hB (sames hb5 hb6)
        have C6 := ((hC.next hb5).next hb6).next (balloc2 w6 (.cells #[.int .i64 ax, .int .i64 ay, .bool false] 33) (.cells #[.int .i64 bx, .int .i64 by', .bool false] 33))
        have B6' := sames B6 (balloc2 w6 (.cells #[.int .i64 ax, .int .i64 ay, .bool false] 33) (.cells #[.int .i64 bx, .int .i64 by', .bool false] 33))
        go_wp2_with fail
        refine (drawn_any _).mono ?_
        rintro e w7 ⟨rfl, hb7⟩
        have C7 := C6.next hb7
        rw [HL.out] at C7
        have j1 := C7.get 6 rfl
        have Q := Lib.hid (sames B6' hb7)
        go_wp2_with fail
        go_ret
        exact ⟨rfl, Q.out⟩
      · obtain ⟨⟨v0, v1, v2, v3⟩, ⟨u0, u1, u2, u3⟩, ⟨i0, i0'⟩, ⟨i1, i1'⟩, ⟨i2, i2'⟩, i3, i3'⟩ := HAll.out (by omega)
        obtain ⟨rfl, rfl, rfl, rfl⟩ : s0 = true ∧ s1 = true ∧ s2 = true ∧ s3 = true := ⟨hs.out.1.trans v0, hs.out.2.1.trans v1, hs.out.2.2.1.trans v2, hs.out.2.2.2.trans v3⟩
        obtain rfl : ok = true := by rw [← HOK.out]; exact decide_eq_true (by omega)
        have hT : Cs [(⟨w3.heap.size, 0, none⟩, .bool true), (⟨w3.heap.size, 1, none⟩, .bool true), (⟨w3.heap.size, 2, none⟩, .bool true), (⟨w3.heap.size, 3, none⟩, .bool true)] wr := ((((Cs.nil wr).cons t3).cons t2).cons t1).cons t0
        have x0 : IntKind.i64.wrap (LX + x) = LX + x := IntWalk.i64_in _ (by omega)
        have x1 : IntKind.i64.wrap (LY + y) = LY + y := IntWalk.i64_in _ (by omega)
        have x2 : IntKind.i64.wrap (HX + x) = HX + x := IntWalk.i64_in _ (by omega)
        have x3 : IntKind.i64.wrap (HY + y) = HY + y := IntWalk.i64_in _ (by omega)
        clear hs v0 v1 v2 v3 i0 i0' i1 i1' i2 i2' i3 i3'
        go_wp2_with fail
        refine hMv.mono ?_
        rintro e w5 ⟨m, rfl, hm, hb5⟩
        have hBm := hm.box
        rw [u0, u1, u2, u3, movedO_len, decide_eq_true (show 0 < ps.length by omega)] at hBm
        go_wp2_with fail
        refine hBm.mono ?_
        rintro e w6 ⟨rfl, hb6⟩
        have B6 := sames hB (sames hb5 hb6)
        have bal := balloc2 w6 (.cells #[.int .i64 (LX + x), .int .i64 (LY + y), .bool false] 33) (.cells #[.int .i64 (HX + x), .int .i64 (HY + y), .bool false] 33)
        have C6 := ((hC.next hb5).next hb6).next bal
        have T6 := ((hT.next hb5).next hb6).next bal
        have N6 := ((Cs.nil w6).box3 (.int .i64 (LX + x)) (.int .i64 (LY + y)) (.bool false) 33).box3 (.int .i64 (HX + x)) (.int .i64 (HY + y)) (.bool false) 33
        have B6' := sames B6 bal
        go_wp2_with fail
        refine (drawn_any _).mono ?_
        rintro e w7 ⟨rfl, hb7⟩
        have C7 := C6.next hb7
        have T7 := T6.next hb7
        have N7 := N6.next hb7
        rw [HL.out] at C7
        have Q := Lib.hid (sames B6' hb7)
        clear m0 m1 m2 n0 n1 n2 o0 o1 lm ln lo lt f0 f1 f2 f3 t0 t1 t2 t3
        have m0 := C7.get 0 rfl
        have m1 := C7.get 1 rfl
        have m2 := C7.get 2 rfl
        have n0 := C7.get 3 rfl
        have n1 := C7.get 4 rfl
        have n2 := C7.get 5 rfl
        have t0 := T7.get 0 rfl
        have t1 := T7.get 1 rfl
        have t2 := T7.get 2 rfl
        have t3 := T7.get 3 rfl
        have r0 := N7.get 3 rfl
        have r1 := N7.get 4 rfl
        have r2 := N7.get 5 rfl
        have r3 := N7.get 0 rfl
        have r4 := N7.get 1 rfl
        have r5 := N7.get 2 rfl
        simp only [World.size_alloc] at r3 r4 r5
        clear C7 T7 N7 C6 T6 N6 hT hC hb7 hb6 hb5 bal B6 B6' hB tf
        have heq := eq_sides w7
        go_wp2_with fail
        go_ret
        exact ⟨rfl, Q.out⟩
theorem boxes_law (o : Value) (x y : Int) (ps : List Pn) (es : List Int) (w : World) (ho : OAt w o ps es) :
    Calls Try.prog 7 #[o, .int .i64 x, .int .i64 y] w fun e w' => e = .returned (.bool true) ∧ Below w.heap.size w w' := by
  by_cases h : Far (rightO ps es) x y
  · exact boxes_far o x y ps es w ho h
  · unfold Far at h
    refine boxes_near o x y ps es w ho ?_ (by omega) (by omega)
    cases hr : rightO ps es with
    | true => rfl
    | false => exact absurd (.inl hr) h
end Go.Proofs.Ytenmgbcbnofcmaa
