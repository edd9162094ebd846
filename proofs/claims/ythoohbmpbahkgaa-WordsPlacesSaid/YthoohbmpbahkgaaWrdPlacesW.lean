/- The law on places, walked. -/
import Derived.Test.YthoohbmpbahkgaaWrdPlaceP
import Derived.Test.YthoohbmpbahkgaaWrdAllW
import Derived.Deep.DeepCutAuto
namespace Go.Proofs.Ythoohbmpbahkgaa
open Go.RowKit

def enI (n : Nat) : List Value := [.int .i64 n]
theorem infoInt : (Try.prog.info? 3).map (fun i => (i.zero, i.size, i.bytes)) = some (some (.int .i64 0), 1, 8) := by kernel_rfl
theorem startsK_len (s : ByteArray) (k : Nat) : 1 ≤ (startsK s k).length ∧ (startsK s k).length ≤ k + 1 := by
  induction k with
  | zero => exact ⟨Nat.le_refl _, Nat.le_refl _⟩
  | succ k ih =>
    rw [startsK_succ]
    split
    · simp; omega
    · omega
set_option maxRecDepth 100000 in
set_option maxHeartbeats 8000000 in
theorem places_any (s : ByteArray) (w : World) (hs : s.size ≤ maxLen) : Calls Try.prog 7 #[.string s] w fun e w' => e = .returned (.bool true) ∧ Below w.heap.size w w' := by
  obtain ⟨i0, hi, hz0, hz1, hz2⟩ := info_parts infoInt
  have cs := shown_any w
  have hf := fewB_size s
  have cf := fun w => few_any s w hs
  obtain ⟨f, hfd⟩ : ∃ f, fewB s = f := ⟨_, rfl⟩
  simp only [hfd] at cf
  rw [hfd] at hf
  have c1 := fun w => lines_any f w (by omega)
  have h1 := linesP_len f
  have h2 := linesP_each f
  have h3 := linesP_rows f
  have hsl := startsK_len f f.size
  have hse := startsK_le f f.size
  obtain ⟨rs, hrs⟩ : ∃ rs, linesP f = rs := ⟨_, rfl⟩
  obtain ⟨st, hst⟩ : ∃ st, startsK f f.size = st := ⟨_, rfl⟩
  simp only [hrs] at c1
  rw [hrs] at h1 h2 h3
  rw [hst] at h3 hsl hse
  have H2 := Lib.hid h2
  have H3 := Lib.hid h3
  have HSE := Lib.hid hse
  replace hrs := Lib.hid hrs
  replace hst := Lib.hid hst
  replace hfd := Lib.hid hfd
  clear h2 h3 hse
  go_enter Try.func7, Try.ntmps7
  go_wp2_with fail
  refine cs.mono ?_
  rintro e w1 ⟨rfl, hB1⟩
  go_wp2_with fail
  refine (cf _).mono ?_
  rintro e w2 ⟨rfl, rfl⟩
  go_wp2_with fail
  refine (c1 _).mono ?_
  rintro e w2 ⟨va, rfl, hA, hB2⟩
  obtain ⟨pa, ca, rfl⟩ := hA.len
  have HA := Lib.hid (fun (W : World) (h : Below w2.heap.size w2 W) => hA.at.on h)
  have hBw2 : Below w.heap.size w w2 := sames hB1 hB2
  clear hA cs cf c1 hB1 hB2
  obtain ⟨B0, hB0⟩ : ∃ B0, w2.heap.size = B0 := ⟨_, rfl⟩
  have ho0 : OwnR enI 3 1 (w2.alloc (.cells #[.int .i64 0] 3)) B0 (.slice (some ⟨w2.heap.size, 0, none⟩) 1 1) [0] := World.ownsRow_lit (base := B0) (e := 3) (size := 1) w2 #[.int .i64 0] 1 (by omega) (by unfold maxLen; omega) rfl
  have hb0 : Below B0 w2 (w2.alloc (.cells #[.int .i64 0] 3)) := by rw [← hB0]; exact balloc1 _ _
  replace hB0 := Lib.hid hB0
  go_wp2_with fail
  go_loopw [6, 7] (fun v iv wr => ∃ (k : Nat) (p : Option Addr) (c : Nat), k ≤ f.size ∧ iv = .int .i64 k ∧ v = .slice p (startsK f k).length c ∧ OwnR enI 3 1 wr B0 (.slice p (startsK f k).length c) (startsK f k) ∧ Below B0 w2 wr) (fun _ iv _ => (f.size - intOf iv).toNat)
  case atStart => exact ⟨0, _, _, by omega, rfl, rfl, ho0, hb0⟩
  case round =>
    clear ho0 hb0
    obtain ⟨k, p, c, hk, rfl, rfl, hown, hBr⟩ := hrel
    have hln := startsK_len f k
    have hsu := startsK_succ f k
    by_cases hlt : k < f.size
    · have hg := bt_get f k hlt
      obtain ⟨L, hL⟩ : ∃ L, startsK f k = L := ⟨_, rfl⟩
      rw [hL] at hown hln hsu ⊢
      replace hL := Lib.hid hL
      by_cases h10 : bt f k = 10
      · rw [if_pos h10] at hsu
        rw [h10] at hg
        replace h10 := Lib.hid h10
        replace hsu := Lib.hid hsu
        have hz : B0 ≤ wr.heap.size := by have h := hBr.size; have h2 := hB0.out; omega
        have hpl := own_lt hown
        have hown' : wr.ownsRow B0 3 1 (.slice p L.length c) L.length (flat enI L) := hown
        have e1 : IntKind.i64.wrap ((k : Int) + 1) = (k : Int) + 1 := IntWalk.i64_in _ (by omega)
        clear hown
        go_wp2_with (at_builtin; refine wpList_append_lies _ (by rfl) _ _ 46 (by rfl) B0 3 i0 _ 1 8 Try.underlying46 hi hz0 hz1 hz2 rfl (by omega) (.slice p L.length c) L.length (flat enI L) (by rfl) (World.ownsRow.alloc hown' _) ⟨wr.heap.size, 0, none⟩ 1 1 [.int .i64 ((k : Int) + 1)] (by rfl) (by rfl) (World.news_of_block (cs := #[.int .i64 ((k : Int) + 1)]) (t := 3) (fr := (0, 0)) (heap_alloc_new wr _)) (by simp [Value.oneCell']) (by omega) (by unfold maxLen; omega) (by omega) (by simp; omega) (wr.heap.size + 1) (by simp) ?_)
        intro g cap w3 hown3 hgrow hat hlt3
        have hB3 : Below B0 w2 w3 := (hBr.alloc hz _).grown hgrow (by simp; omega) (fun x hx => (hpl x hx).1)
        have hrow : OwnR enI 3 1 w3 B0 (.slice (some ⟨g, 0, none⟩) (L.length + 1) cap) (L ++ [k + 1]) := by
          show w3.ownsRow _ _ _ _ _ _
          rw [List.length_append, List.length_singleton, flat_app, flat_one]
          exact hown3
        replace hrow := Lib.hid hrow
        clear hgrow hown3 hat hpl hown'
        go_wp2_with fail
        go_roundw
        case rel => exact ⟨k + 1, some ⟨g, 0, none⟩, cap, by omega, by go_num, by rw [hsu.out]; simp, by rw [hsu.out]; simpa using hrow.out, hB3⟩
        case measure => simp [intOf]; omega
      · have e10 : ((bt f k : Int) == 10) = false := by simp; omega
        rw [if_neg h10] at hsu
        replace hsu := Lib.hid hsu
        replace hown := Lib.hid hown
        go_wp2_with fail
        go_roundw
        case rel => exact ⟨k + 1, p, c, by omega, by go_num, by rw [hsu.out], by rw [hsu.out]; exact hown.out, hBr⟩
        case measure => simp [intOf]; omega
    · obtain rfl : k = f.size := by omega
      rw [hst.out] at hown hln ⊢
      clear hsu hln hlt hk
      rcases own_form hown with ⟨-, h0⟩ | ⟨gS, c', e1, e2, e3, -⟩
      · omega
      simp only [Value.slice.injEq] at e1
      obtain ⟨rfl, -, rfl⟩ := e1
      have hBw3 : Below w.heap.size w wr := hBw2.trans (hBr.mono (by have h := hBw2.size; have h2 := hB0.out; omega))
      have HST := Lib.hid (fun (W : World) (h : Below wr.heap.size wr W) (m : Nat) (hm : m < st.length) => show W.cell? ⟨gS, m, none⟩ = some (.int .i64 ((st[m]?.getD 0 : Nat) : Int)) from by
        have hc := World.ownsRow.cellAt hown m (by omega)
        have hg := flat_get enI 1 (fun _ => rfl) st m 0 hm (by omega)
        rw [Nat.mul_one, Nat.add_zero] at hg
        rw [h.cell (p := ⟨gS, m, none⟩) e3, hc, hg]
        rfl)
      have HA2 := Lib.hid (fun (W : World) (h : Below wr.heap.size wr W) => HA.out W ((by rw [hB0.out]; exact hBr : Below w2.heap.size w2 wr).trans (h.mono (by have h := hBr.size; omega))))
      clear hown
      obtain ⟨w3, hw3⟩ : ∃ x, x = wr := ⟨_, rfl⟩
      subst hw3
      go_wp2_with fail
      go_loopw [8, 9] (fun wv iv wr => ∃ (i was : Nat), i ≤ rs.length ∧ iv = .int .i64 i ∧ wv = .int .i64 was ∧ was ≤ 1000 ∧ Hid (∀ (r : List Wd) (num : Nat), rs[i]? = some r → RowOf f st num r → was < num) ∧ Below w3.heap.size w3 wr) (fun _ iv _ => (rs.length - intOf iv).toNat)
      case atStart => exact ⟨0, 0, by omega, rfl, rfl, by omega, Lib.hid (fun r num _ h => h.n1), Below.refl _ _⟩
      case round =>
        obtain ⟨i, was, hi', rfl, rfl, hwas, hord, hBi⟩ := hrel
        obtain ⟨wo, hwo⟩ : ∃ x, x = wr := ⟨_, rfl⟩
        subst hwo
        by_cases hlt : i < rs.length
        · obtain ⟨a, q, d, rfl, ha1, ha2⟩ := (HA2.out wo hBi).get i hlt
          have hri : rs[i]? = some (rs[i]?.getD []) := by rw [List.getElem?_eq_getElem hlt]; rfl
          obtain ⟨L, hL⟩ : ∃ L, rs[i]?.getD [] = L := ⟨_, rfl⟩
          rw [hL] at ha1 ha2 hri
          obtain ⟨num, hrow, -⟩ := H3.out.each i L hri
          have hwn := hord.out L num hri hrow
          have hLl := H2.out L (List.mem_of_getElem? hri)
          have hnx : Hid (∀ (r : List Wd) (n : Nat), rs[i + 1]? = some r → RowOf f st n r → num < n) := Lib.hid (fun r n hr ho => H3.out.mono i L r num n hri hr hrow ho)
          have hne := hrow.ne
          have hn1 := hrow.n1
          have hn2 := hrow.n2
          have HR := Lib.hid hrow
          clear hrow hord
          replace hL := Lib.hid hL
          replace hri := Lib.hid hri
          have la := World.block_lt_of_cell? wo _ ha1
          have HB2 := Lib.hid (fun (W : World) (h : Below wo.heap.size wo W) => ha2.on h)
          have HB1 := Lib.hid (fun (W : World) (h : Below wo.heap.size wo W) => (h.cell (p := a.add i) la).trans ha1)
          clear la
          obtain ⟨b, rfl, x0, -, -⟩ := ha2.word 0 (by omega)
          have hx0 := (HR.out.each (L[0]?.getD default) (by rw [List.getElem?_eq_getElem (by omega)]; exact List.getElem_mem _)).1
          rw [hx0] at x0
          have x0' : wo.cell? b = some (.int .i64 (num : Int)) := by rw [Nat.zero_mul] at x0; rwa [show b.add 0 = b by simp [Addr.add]] at x0
          clear ha2 hx0 x0
          have eL : ((L.length : Int) == 0) = false := by rw [beq_eq_false_iff_ne]; omega
          have zz1 : ¬ num ≤ was := by omega
          have zz2 : ¬ st.length < num := by omega
          have zi : (i : Int) < (rs.length : Int) := by omega
          have zL : (0 : Int) < (L.length : Int) := by omega
          have zL2 : 0 < L.length := by omega
          go_wp2_with fail
          clear x0'
          go_loopw [11, 12] (fun av kv wr => ∃ (k : Nat) (at' : Int), k ≤ L.length ∧ kv = .int .i64 k ∧ av = .int .i64 at' ∧ -1 ≤ at' ∧ at' ≤ 100000 ∧ Hid (∀ x, L[k]? = some x → at' < x.pos) ∧ Below wo.heap.size wo wr) (fun _ kv _ => (L.length - intOf kv).toNat)
          case atStart => exact ⟨0, -1, by omega, rfl, rfl, by omega, by omega, Lib.hid (fun x hx => by obtain ⟨-, p, hp, -⟩ := HR.out.each x (List.mem_of_getElem? hx); omega), Below.refl _ _⟩
          case round =>
            obtain ⟨k, at', hk, rfl, rfl, hat1, hat2, hlt', hBk⟩ := hrel
            have ha1 := HB1.out wr hBk
            by_cases hkk : k < L.length
            · obtain ⟨b', hbb, x0, x1, x2⟩ := (HB2.out wr hBk).word k hkk
              cases hbb
              have hkx : L[k]? = some (L[k]?.getD default) := by rw [List.getElem?_eq_getElem hkk]; rfl
              obtain ⟨x, hx⟩ : ∃ x, L[k]?.getD default = x := ⟨_, rfl⟩
              rw [hx] at x0 x1 x2 hkx
              obtain ⟨hl1, p, hp, ht1, ht2, ht3, ht4, ht5⟩ := HR.out.each x (List.mem_of_getElem? hkx)
              have hlat := hlt'.out x hkx
              have hnext : Hid (∀ y, L[k + 1]? = some y → endI x < y.pos) := Lib.hid (fun y hy => HR.out.mono k x y hkx hy)
              obtain ⟨m, hm⟩ : ∃ m, num = m + 1 := ⟨num - 1, by omega⟩
              have hmn : num - 1 = m := by omega
              rw [hmn] at ht2 ht3 ht4
              obtain ⟨bg, hbg⟩ : ∃ bg, st[m]?.getD 0 = bg := ⟨_, rfl⟩
              rw [hbg] at ht2 ht3 ht4
              obtain ⟨xl, xp, xt⟩ := x
              simp only at x0 x1 x2 hl1 hp ht1 ht2 ht3 ht4 ht5 hlat
              subst hl1 hp
              obtain ⟨F, hF⟩ : ∃ F, bg + p = F := ⟨_, rfl⟩
              rw [hF] at ht2 ht3 ht4
              obtain ⟨E, hE⟩ : ∃ E, F + xt.size = E := ⟨_, rfl⟩
              rw [hE] at ht2 ht3
              have hX : f.extract F E = xt := ht3.symm
              have hend : endI ⟨(num : Int), (p : Int), xt⟩ = (p : Int) + xt.size := rfl
              rw [hend] at hnext
              have HT5 := Lib.hid ht5
              have HT4 := Lib.hid ht4
              clear ht3 ht5 ht4 hend hkx
              replace hx := Lib.hid hx
              replace hlt' := Lib.hid hlt'
              have hzw : wo.heap.size ≤ wr.heap.size := hBk.size
              obtain ⟨W, hW⟩ : ∃ W, wr.alloc (.cells #[.int .i64 (num : Int), .int .i64 (p : Int), .string xt] 37) = W := ⟨_, rfl⟩
              have hBW : Below wo.heap.size wo W := by rw [← hW]; exact hBk.alloc hzw _
              have y0 : W.cell? ⟨wr.heap.size, 0, none⟩ = some (.int .i64 (num : Int)) := by rw [← hW]; simp [go_sem]
              have y1 : W.cell? ⟨wr.heap.size, 1, none⟩ = some (.int .i64 (p : Int)) := by rw [← hW]; simp [go_sem]
              have y2 : W.cell? ⟨wr.heap.size, 2, none⟩ = some (.string xt) := by rw [← hW]; simp [go_sem]
              have hW3 : Below w3.heap.size w3 W := hBi.trans (hBW.mono (by have := hBi.size; omega))
              have sC := HST.out W hW3 m (by omega)
              rw [hbg] at sC
              replace hbg := Lib.hid hbg
              have e1 : IntKind.i64.wrap ((num : Int) - 1) = (m : Int) := by rw [IntWalk.i64_in _ (by omega)]; omega
              have e2 : IntKind.i64.wrap ((bg : Int) + (p : Int)) = (F : Int) := by rw [IntWalk.i64_in _ (by omega)]; omega
              have zm0 : (0 : Int) ≤ (m : Int) := by omega
              have zm1 : (m : Int) < (st.length : Int) := by omega
              replace hm := Lib.hid hm
              replace hmn := Lib.hid hmn
              replace hF := Lib.hid hF
              replace hE := Lib.hid hE
              replace hX := Lib.hid hX
              go_wp2_with fail
              go_quiet (fail)
              go_wp2_with fail
              obtain ⟨W2, hW2⟩ : ∃ W2, W.drewN nq = W2 := ⟨_, rfl⟩
              have hBW2 : Below wo.heap.size wo W2 := by rw [← hW2]; exact below_drewN hBW nq
              replace y0 : W2.cell? ⟨wr.heap.size, 0, none⟩ = some (.int .i64 (num : Int)) := by rw [← hW2]; exact y0
              replace y1 : W2.cell? ⟨wr.heap.size, 1, none⟩ = some (.int .i64 (p : Int)) := by rw [← hW2]; exact y1
              replace y2 : W2.cell? ⟨wr.heap.size, 2, none⟩ = some (.string xt) := by rw [← hW2]; exact y2
              rw [hW2]
              replace hW2 := Lib.hid hW2
              replace hW := Lib.hid hW
              clear sC hBW hW3 e1 e2
              have hEb : E ≤ f.size := ht2
              have hFE := hE.out
              have k1 : (((num : Nat) : Int) != (num : Int)) = false := by simp
              have k2 : decide ((p : Int) ≤ at') = false := decide_eq_false (by omega)
              have k2' : ¬ (p : Int) ≤ at' := by omega
              have hne0 : xt.toList ≠ [] := fun h => by
                have : xt.data.toList = [] := by rw [← ByteArray.toList_eq] ; exact h
                have h2 : xt.size = xt.data.toList.length := by rw [Array.length_toList]; rfl
                rw [this, List.length_nil] at h2
                omega
              have k3 : (xt.toList == []) = false := by rw [beq_eq_false_iff_ne]; exact hne0
              have k3' : xt.toList.isEmpty = false := by rw [List.isEmpty_eq_false_iff]; exact hne0
              have k4 : ¬ (p : Int) < 0 := by omega
              have e3 : IntKind.i64.wrap ((F : Int) + (xt.size : Int)) = (E : Int) := by rw [IntWalk.i64_in _ (by omega)]; omega
              have k5 : ¬ (f.size : Int) < (E : Int) := by omega
              have k5' : ¬ f.size < E := by omega
              have k6 : (xt.toList != xt.toList) = false := by simp
              have z1 : (F : Int) ≤ (E : Int) := by omega
              have z2 : (E : Int) ≤ (f.size : Int) := by omega
              have z3 : F ≤ E := by omega
              have z4 : (0 : Int) ≤ (F : Int) := by omega
              have hX2 := hX.out
              clear hne0
              have hxs : xt.size ≤ 300 := by omega
              have hps : p ≤ 300 := by have := hF.out; omega
              replace hFE := Lib.hid hFE
              go_wp2_with fail
              go_quiet (fail)
              obtain ⟨W3, hW3⟩ : ∃ W3, W2.drewN nq = W3 := ⟨_, rfl⟩
              replace hBW2 : Below wo.heap.size wo W3 := by rw [← hW3]; exact below_drewN hBW2 nq
              replace y0 : W3.cell? ⟨wr.heap.size, 0, none⟩ = some (.int .i64 (num : Int)) := by rw [← hW3]; exact y0
              replace y1 : W3.cell? ⟨wr.heap.size, 1, none⟩ = some (.int .i64 (p : Int)) := by rw [← hW3]; exact y1
              replace y2 : W3.cell? ⟨wr.heap.size, 2, none⟩ = some (.string xt) := by rw [← hW3]; exact y2
              rw [hW3]
              replace hW3 := Lib.hid hW3
              clear k2 k2' k3 k3' e3 k5 k5' k6 z1 z2 z3 z4 hX2
              clear H2 H3 HSE HST HA HA2 HR HB1 HB2 hnx hL hri hlt' hx hbg hm hmn hW hW2 hrs hst hfd hi hz0 hz1 hz2
              go_upto_region 28 with fail
              go_cut [149] (fun tv wx => tv = .bool false ∧ wx = W3)
              case first =>
                by_cases hp0 : 0 < p
                · have hbl := HT4.out hp0
                  have hFp := hF.out
                  have e5 : IntKind.i64.wrap ((F : Int) - 1) = ((F - 1 : Nat) : Int) := by have := hFE.out; rw [IntWalk.i64_in _ (by omega)]; omega
                  have e5' : (F : Int) - 1 = ((F - 1 : Nat) : Int) := by omega
                  have hgF := bt_get f (F - 1) (by have := hFE.out; omega)
                  obtain ⟨G, hG⟩ : ∃ G, F - 1 = G := ⟨_, rfl⟩
                  rw [hG] at e5 e5' hbl
                  simp only [hG] at hgF
                  have hGf : G < f.size := by have := hFE.out; omega
                  have hbl2 : bt f G = 32 ∨ bt f G = 9 := by simpa [blB] using hbl
                  clear hbl
                  replace hG := Lib.hid hG
                  replace hFp := Lib.hid hFp
                  rcases hbl2 with h32 | h32
                  all_goals
                    rw [h32] at hgF
                    replace h32 := Lib.hid h32
                    go_wp2_with fail
                    go_meet
                    exact ⟨rfl, rfl⟩
                · have hp00 : ¬ (0 : Int) < (p : Int) := by omega
                  go_wp2_with fail
                  go_meet
                  exact ⟨rfl, rfl⟩
              case rest =>
                obtain ⟨rfl, rfl⟩ := hcut
                have hp28 : True := trivial
                go_wp2_with fail
                replace hp28 := Lib.hid hp28
                go_loop [15] (fun jv => ∃ j : Nat, j ≤ xt.size ∧ jv = .int .i64 j) (fun jv => (xt.size - intOf jv).toNat)
                case atStart => exact ⟨0, by omega, rfl⟩
                case round =>
                  obtain ⟨j, hj, rfl⟩ := hrel
                  by_cases hjj : j < xt.size
                  · obtain ⟨b1, b2, b3⟩ := HT5.out j hjj
                    have hg := bt_get xt j hjj
                    have hbb := bt_lt xt j
                    have n32 : ¬ bt xt j = 32 := fun h => by rw [h] at b1; cases b1
                    have n9 : ¬ bt xt j = 9 := fun h => by rw [h] at b1; cases b1
                    have f32 : ((bt xt j : Int) == 32) = false := by rw [beq_eq_false_iff_ne]; omega
                    have f9 : ((bt xt j : Int) == 9) = false := by rw [beq_eq_false_iff_ne]; omega
                    have f10 : ((bt xt j : Int) == 10) = false := by rw [beq_eq_false_iff_ne]; omega
                    have f35 : ((bt xt j : Int) == 35) = false := by rw [beq_eq_false_iff_ne]; omega
                    clear b1 b2 b3 n32 n9
                    go_wp2_with fail
                    go_round
                    case rel => exact ⟨j + 1, by omega, by go_num⟩
                    case measure => simp [intOf]; omega
                  · obtain rfl : j = xt.size := by omega
                    have e4 : IntKind.i64.wrap ((p : Int) + (xt.size : Int)) = (p : Int) + (xt.size : Int) := IntWalk.i64_in _ (by omega)
                    go_wp2_with fail
                    go_roundw
                    case rel => exact ⟨k + 1, (p : Int) + xt.size, by omega, by go_num, rfl, by omega, by omega, hnext, hBW2⟩
                    case measure => simp [intOf]; omega
            · obtain rfl : k = L.length := by omega
              have hBf : Below w3.heap.size w3 wr := hBi.trans (hBk.mono (by have := hBi.size; omega))
              go_wp2_with fail
              go_roundw
              case rel => exact ⟨i + 1, num, by omega, by go_num, rfl, by omega, hnx, hBf⟩
              case measure => simp [intOf]; omega
        · obtain rfl : i = rs.length := by omega
          have hBf : Below w.heap.size w wo := hBw3.trans (hBi.mono (by have := hBw3.size; omega))
          go_wp2_with fail
          go_ret
          exact ⟨rfl, hBf⟩
end Go.Proofs.Ythoohbmpbahkgaa
