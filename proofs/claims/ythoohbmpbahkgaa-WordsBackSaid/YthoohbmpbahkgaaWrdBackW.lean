/- The law on words with blanks between, walked. -/
import Derived.Test.YthoohbmpbahkgaaWrdBackP
import Derived.Test.YthoohbmpbahkgaaWrdAllW
import Derived.Test.YthoohbmpbahkgaaWrdShown
import Derived.BigQuiet
import Derived.Laws.BitsLemmas
import Derived.Deep.DeepCutAuto
namespace Go.Proofs.Ythoohbmpbahkgaa
open Go.RowKit

theorem and1b (x : Int) (h : 0 ≤ x ∧ x ≤ 255) : bits .and .u8 x 1 = x % 2 := bits_mask .u8 8 (by decide) wraps_u8 1 (by decide) x h.1 (by omega)
theorem many_blanks (z : Int) : ∃ m : Nat, (1 ≤ m ∧ m ≤ 8) ∧ 1 + z / 2 % 8 = (m : Int) := ⟨(1 + z / 2 % 8).toNat, by omega, by omega⟩

set_option maxRecDepth 100000 in
set_option maxHeartbeats 8000000 in
theorem back_any (va vb : Value) (ss : List ByteArray) (bs : List Int) (w : World) (ha : RowAt enS w va ss) (hb : RowAt enB w vb bs) (hss : ∀ s ∈ ss, s.size ≤ maxLen) (hbs : ∀ z ∈ bs, 0 ≤ z ∧ z ≤ 255) :
    Calls Try.prog 6 #[va, vb] w fun e w' => e = .returned (.bool true) ∧ Below w.heap.size w w' := by
  obtain ⟨i0, hi, hz0, hz1, hz2⟩ := info_parts infoWord
  obtain ⟨j0, hj, hj0, hj1, hj2⟩ := info_parts infoWords
  have cs := shown_any w
  obtain ⟨qa, da, rfl, hla, hma⟩ := ha.len
  obtain ⟨qb, db, rfl, hlb, hmb⟩ := hb.len
  unfold maxLen at hma hmb
  have HA := Lib.hid (fun (W : World) (h : Below w.heap.size w W) (k : Nat) (hk : k < ss.length) => show ∃ a : Addr, qa = some a ∧ W.cell? (a.add k) = some (.string (ss[k]?.getD default)) ∧ (ss[k]?.getD default).size ≤ maxLen from by
    rcases ha.on h with ⟨-, h0⟩ | ⟨a, c, e, -, -, -, hcell⟩
    · rw [h0] at hk; simp at hk
    · simp only [Value.slice.injEq] at e
      have hg := flat_get enS 1 (fun _ => rfl) ss k 0 hk (by omega)
      refine ⟨a, e.1, hcell k _ (by have h := hg; rw [Nat.mul_one, Nat.add_zero] at h; exact h), ?_⟩
      rw [List.getElem?_eq_getElem hk]
      exact hss _ (List.getElem_mem hk))
  have HBb := Lib.hid (fun (W : World) (h : Below w.heap.size w W) (k : Nat) (hk : k < bs.length) => show ∃ a : Addr, qb = some a ∧ W.cell? (a.add k) = some (.int .u8 (bs[k]?.getD default)) ∧ 0 ≤ (bs[k]?.getD default) ∧ (bs[k]?.getD default) ≤ 255 from by
    rcases hb.on h with ⟨-, h0⟩ | ⟨a, c, e, -, -, -, hcell⟩
    · rw [h0] at hk; simp at hk
    · simp only [Value.slice.injEq] at e
      have hg := flat_get enB 1 (fun _ => rfl) bs k 0 hk (by omega)
      refine ⟨a, e.1, hcell k _ (by have h := hg; rw [Nat.mul_one, Nat.add_zero] at h; exact h), ?_⟩
      rw [List.getElem?_eq_getElem hk]
      exact hbs _ (List.getElem_mem hk))
  clear ha hb hss hbs
  go_enter Try.func6, Try.ntmps6
  go_wp2_with fail
  refine cs.mono ?_
  rintro e w1 ⟨rfl, hB1⟩
  clear cs
  obtain ⟨B0, hB0⟩ : ∃ B0, w1.heap.size = B0 := ⟨_, rfl⟩
  have hw1 := hB1.size
  replace hB0 := Lib.hid hB0
  have HW0 : Hid (WantR ((w1.alloc (.cells #[] 34)).alloc (.cells #[] 37)) B0 (.slice (some ⟨w1.heap.size, 0, none⟩) 0 0) (.slice (some ⟨w1.heap.size + 1, 0, none⟩) 0 0) []) := Lib.hid ⟨[], World.ownsRow.alloc (World.ownsRow_made (base := B0) (e := 34) (size := 1) w1 #[] 0 (by have := hB0.out; omega) (by unfold maxLen; omega) rfl) _, rfl, fun i hi => by simp at hi⟩
  have HR0 : Hid (OwnR enW 37 3 ((w1.alloc (.cells #[] 34)).alloc (.cells #[] 37)) B0 (.slice (some ⟨w1.heap.size + 1, 0, none⟩) 0 0) []) := Lib.hid (by
    have h := World.ownsRow_made (base := B0) (e := 37) (size := 3) (w1.alloc (.cells #[] 34)) #[] 0 (by have := hB0.out; simp; omega) (by unfold maxLen; omega) rfl
    rw [show (w1.alloc (.cells #[] 34)).heap.size = w1.heap.size + 1 by simp] at h
    exact h)
  have hBb : Below B0 w1 ((w1.alloc (.cells #[] 34)).alloc (.cells #[] 37)) := by rw [← hB0.out]; exact (balloc1 _ _).trans ((balloc1 _ _).mono (by simp))
  go_wp2_with fail
  go_loopw [6, 7, 8, 9, 10, 11] (fun sv wv rv lv fv iv wr => ∃ (s : ByteArray) (k line fr : Nat) (pw : Option Addr) (cw : Nat) (pr : Option Addr) (cr : Nat) (want : List (List Wd)) (row : List Wd), k ≤ ss.length ∧ k ≤ 30 ∧ want.length ≤ k ∧ row.length ≤ k ∧ line ≤ k + 1 ∧ s.size ≤ 100 * k ∧ Hid (Bk s want row line fr) ∧ sv = .string s ∧ wv = .slice pw want.length cw ∧ rv = .slice pr row.length cr ∧ lv = .int .i64 line ∧ fv = .int .i64 fr ∧ iv = .int .i64 k ∧ Hid (WantR wr B0 (.slice pw want.length cw) (.slice pr row.length cr) want) ∧ Hid (∀ x, (Value.slice pw want.length cw).ownBlock = some x → (Value.slice pr row.length cr).ownBlock ≠ some x) ∧ Hid (OwnR enW 37 3 wr B0 (.slice pr row.length cr) row) ∧ Below B0 w1 wr) (fun _ _ _ _ _ iv _ => (ss.length - intOf iv).toNat)
  case atStart => exact ⟨⟨#[]⟩, 0, 1, 0, _, _, _, _, [], [], Nat.zero_le _, Nat.zero_le _, Nat.le_refl _, Nat.le_refl _, Nat.le_refl _, Nat.le_refl _, Lib.hid Bk.start, rfl, rfl, rfl, rfl, rfl, rfl, HW0, Lib.hid (fun x hx e => by simp [Value.ownBlock] at hx e; omega), HR0, hBb⟩
  case round =>
    clear HW0 HR0 hBb
    obtain ⟨s, k, line, fr, pw, cw, pr, cr, want, row, hk, hk30, hwl, hrl, hln, hsz, HK, rfl, rfl, rfl, rfl, rfl, rfl, HW, HN, HR, hBr⟩ := hrel
    have hBw : Below w.heap.size w wr := hB1.trans (hBr.mono (by have := hB0.out; omega))
    have zk0 : (0 : Int) ≤ (k : Int) := by omega
    by_cases hgo : k < ss.length ∧ k < 30
    · obtain ⟨hlt, h30⟩ := hgo
      obtain ⟨a, rfl, hc, hts⟩ := HA.out wr hBw k hlt
      obtain ⟨t, ht⟩ : ∃ t, ss[k]?.getD default = t := ⟨_, rfl⟩
      rw [ht] at hc hts
      replace ht := Lib.hid ht
      have zk1 : (k : Int) < (ss.length : Int) := by omega
      have zk2 : (k : Int) < 30 := by omega
      obtain ⟨z, hz, gz0, gz1⟩ : ∃ z : Int, (if k < bs.length then bs[k]?.getD default else 0) = z ∧ 0 ≤ z ∧ z ≤ 255 := by
        by_cases hkb : k < bs.length
        · obtain ⟨-, -, -, g1, g2⟩ := HBb.out wr hBw k hkb
          exact ⟨_, if_pos hkb, g1, g2⟩
        · exact ⟨0, if_neg hkb, by omega, by omega⟩
      go_upto_if 32 with fail
      go_cut [12] (fun v wx => v = .int .u8 z ∧ wr = wx)
      case first =>
        by_cases hkb : k < bs.length
        · obtain ⟨b, rfl, hcb, -, -⟩ := HBb.out wr hBw k hkb
          rw [if_pos hkb] at hz
          rw [hz] at hcb
          have zb1 : (k : Int) < (bs.length : Int) := by omega
          go_wp2_with fail
          go_meet
          exact ⟨rfl, rfl⟩
        · rw [if_neg hkb] at hz
          go_wp2_with fail
          go_meet
          exact ⟨congrArg (Value.int .u8) hz, rfl⟩
      case rest =>
      obtain ⟨rfl, rfl⟩ := hcut
      replace hz := Lib.hid hz
      obtain ⟨m, hm8, hm⟩ := many_blanks z
      have hK := HK.out
      have hfr := hK.le
      obtain ⟨hT1, hT12, hTc⟩ := tameP_ok t
      have cT := fun w => tame_any t w hts
      obtain ⟨T, hT⟩ : ∃ T, tameP t = T := ⟨_, rfl⟩
      rw [hT] at hT1 hT12 hTc
      simp only [hT] at cT
      replace hT := Lib.hid hT
      have hKw := hK.word hm8 hTc hT1
      obtain ⟨hB1', hB2'⟩ := bl_blanks8 m hm8.2
      obtain ⟨Bl, hBl⟩ : ∃ B, blanks8.extract 0 m = B := ⟨_, rfl⟩
      rw [hBl] at hKw hB2'
      have hBx : (⟨#[32, 32, 32, 32, 32, 32, 32, 32]⟩ : ByteArray).extract 0 m = Bl := hBl
      have y1 : (s ++ Bl).size = s.size + Bl.size := ByteArray.size_append
      have y2 : (s ++ Bl ++ T).size = s.size + Bl.size + T.size := by rw [ByteArray.size_append, y1]
      have y3 : (s ++ Bl ++ T ++ ⟨#[10]⟩).size = s.size + Bl.size + T.size + 1 := by rw [ByteArray.size_append, y2]; rfl
      obtain ⟨P, hP⟩ : ∃ P : Nat, ((s ++ Bl).size : Int) - fr = P := ⟨(s ++ Bl).size - fr, by omega⟩
      rw [hP] at hKw
      have hPw : (s.size : Int) + (Bl.size : Int) - (fr : Int) = (P : Int) := by omega
      have q1 : ¬ (9223372036854775807 : Int) < (s.size : Int) + (Bl.size : Int) := by omega
      have q2 : ¬ (9223372036854775807 : Int) < ((s ++ Bl).size : Int) + (T.size : Int) := by omega
      have q3 : ¬ (9223372036854775807 : Int) < ((s ++ Bl ++ T).size : Int) + ((⟨#[10]⟩ : ByteArray).size : Int) := by rw [show (⟨#[10]⟩ : ByteArray).size = 1 from rfl]; omega
      have em0 : (0 : Int) ≤ (m : Int) := by omega
      have em8 : (m : Int) ≤ 8 := by omega
      replace hKw := Lib.hid hKw
      replace hTc := Lib.hid hTc
      have hy2 : (s ++ Bl ++ T).size ≤ 100 * (k + 1) := by omega
      have hy3 : (s ++ Bl ++ T ++ ⟨#[10]⟩).size ≤ 100 * (k + 1) := by omega
      replace hy2 := Lib.hid hy2
      replace hy3 := Lib.hid hy3
      clear y1 y2 y3 hB1' hB2' hBl hK HK hfr
      go_wp2_with fail
      refine (cT _).mono ?_
      rintro e w2 ⟨rfl, rfl⟩
      have hRo : wr.ownsRow B0 37 3 (.slice pr row.length cr) row.length (flat enW row) := HR.out
      have hzq : B0 ≤ wr.heap.size := by have h := hBr.size; have h2 := hB0.out; omega
      have hplr := own_lt hRo
      go_wp2_with (at_builtin; refine wpList_append_lies _ (by rfl) _ _ 34 (by rfl) B0 37 i0 _ 3 32 Try.underlying34 hi hz0 hz1 hz2 rfl (by omega) (.slice pr row.length cr) row.length (flat enW row) (by rfl) (World.ownsRow.alloc hRo _) ⟨wr.heap.size, 0, none⟩ 1 1 [.int .i64 line, .int .i64 P, .string T] (by rfl) (by rfl) (World.news_of_block (cs := #[.int .i64 line, .int .i64 P, .string T]) (t := 37) (fr := (0, 0)) (heap_alloc_new wr _)) (by simp [Value.oneCell']) (by omega) (by unfold maxLen; omega) (by omega) (by simp; omega) (wr.heap.size + 1) (by simp) ?_)
      intro g cap w2 hown2 hgrow hat hlt2
      have hB2 : Below B0 w1 w2 := (hBr.alloc hzq _).grown hgrow (by simp; omega) (fun x hx => (hplr x hx).1)
      obtain ⟨HW2, HN2⟩ := (HW.out.on (balloc1 wr (.cells #[.int .i64 line, .int .i64 P, .string T] 37))).grown hgrow HN.out (r' := .slice (some ⟨g, 0, none⟩) (row.length + 1) cap) (g := g) rfl (hat.imp_right (fun e => by simp; omega))
      have HR2 : OwnR enW 37 3 w2 B0 (.slice (some ⟨g, 0, none⟩) (row.length + 1) cap) (row ++ [⟨line, P, T⟩]) := by
        show w2.ownsRow _ _ _ _ _ _
        rw [List.length_append, List.length_singleton, flat_app, flat_one]
        exact hown2
      have hzq2 : B0 ≤ w2.heap.size := by have h := hB2.size; have h2 := hB0.out; omega
      replace HW2 := Lib.hid HW2
      replace HN2 := Lib.hid HN2
      replace HR2 := Lib.hid HR2
      have hBw2 : Below w.heap.size w w2 := hB1.trans (hB2.mono (by have := hB0.out; omega))
      obtain ⟨a', ha', hc2, -⟩ := HA.out w2 hBw2 k hlt
      obtain rfl : a = a' := Option.some.inj ha'
      rw [ht.out] at hc2
      clear hown2 hgrow hat hRo hplr hc HW HN HR
      go_wp2_with fail
      refine (cT _).mono ?_
      rintro e w3 ⟨rfl, rfl⟩
      have hs' : s.size ≤ 3000 := by omega
      clear hm em0 em8 hP hPw hBx q1
      obtain ⟨m1, hm1, hmx⟩ : ∃ m1 : Nat, m1 ≤ 1 ∧ bits .and .u8 z 1 = (m1 : Int) := ⟨(z % 2).toNat, by omega, by rw [and1b z ⟨gz0, gz1⟩]; omega⟩
      clear gz0 gz1
      by_cases h1 : m1 = 1
      · subst h1
        obtain ⟨vs, hvo, hvl, hv3⟩ := HW2.out.rows.on (balloc1 w2 (.cells #[.slice (some ⟨g, 0, none⟩) (row.length + 1) cap] 34))
        rw [hvl] at hvo
        have hplv := own_lt hvo
        have hgl := own_lt HR2.out g (by simp [Value.ownBlock])
        have hKl := Lib.hid (hKw.out.line (by simp))
        have hHv := Lib.hid hv3
        clear hv3
        go_wp2_with (at_builtin; refine wpList_append_lies _ (by rfl) _ _ 24 (by rfl) B0 34 j0 _ 1 24 Try.underlying24 hj hj0 hj1 hj2 rfl (by omega) (.slice pw want.length cw) want.length vs (by rfl) hvo ⟨w2.heap.size, 0, none⟩ 1 1 [.slice (some ⟨g, 0, none⟩) (row.length + 1) cap] (by rfl) (by rfl) (World.news_of_block (cs := #[.slice (some ⟨g, 0, none⟩) (row.length + 1) cap]) (t := 34) (fr := (0, 0)) (heap_alloc_new w2 _)) (by simp [Value.oneCell']) (by omega) (by unfold maxLen; omega) (by omega) (by simp; omega) (w2.heap.size + 1) (by simp) ?_)
        intro g3 cap3 w3 hown3 hgrow3 hat3 hlt3
        have hB3 : Below B0 w1 w3 := (hB2.alloc hzq2 _).grown hgrow3 (by simp; omega) (fun x hx => (hplv x hx).1)
        have hRW : RowsR enW 34 w3 B0 (.slice (some ⟨g3, 0, none⟩) (want.length + 1) cap3) (want ++ [row ++ [⟨line, P, T⟩]]) :=
          RowsR.snoc hvl hHv.out (HR2.out.at.on (balloc1 w2 _)) (fun a l c e => by
            simp only [Value.slice.injEq, Option.some.injEq] at e
            rw [← e.1]
            exact ⟨hgl.1, fun e2 => HN2.out g e2 rfl⟩) (by rw [hvl]; exact hown3) hgrow3 (hat3.imp_right (fun e => by simp; omega))
        have hg3 := own_lt hown3 g3 rfl
        have hzq3 : B0 ≤ w3.heap.size := by have h := hB3.size; have h2 := hB0.out; omega
        have HW3 : Hid (WantR (w3.alloc (.cells #[] 37)) B0 (.slice (some ⟨g3, 0, none⟩) (want.length + 1) cap3) (.slice (some ⟨w3.heap.size, 0, none⟩) 0 0) (want ++ [row ++ [⟨line, P, T⟩]])) := Lib.hid (WantR.of hRW (balloc1 w3 _) (fun x hx => by simp [Value.ownBlock] at hx; omega))
        have HN3 : Hid (∀ x, (Value.slice (some ⟨g3, 0, none⟩) (want.length + 1) cap3).ownBlock = some x → (Value.slice (some ⟨w3.heap.size, 0, none⟩) 0 0).ownBlock ≠ some x) := Lib.hid (fun x hx e => by simp [Value.ownBlock] at hx e; omega)
        have HR3 : Hid (OwnR enW 37 3 (w3.alloc (.cells #[] 37)) B0 (.slice (some ⟨w3.heap.size, 0, none⟩) 0 0) []) := Lib.hid (World.ownsRow_made (base := B0) (e := 37) (size := 3) w3 #[] 0 hzq3 (by unfold maxLen; omega) rfl)
        have hB3' : Below B0 w1 (w3.alloc (.cells #[] 37)) := hB3.alloc hzq3 _
        clear hown3 hgrow3 hat3 hvo hplv hRW hHv HW2 HN2 HR2 hg3
        go_wp2_with fail
        go_roundw
        case rel => exact ⟨_, k + 1, line + 1, (s ++ Bl ++ T ++ ⟨#[10]⟩).size, some ⟨g3, 0, none⟩, cap3, some ⟨w3.heap.size, 0, none⟩, 0, want ++ [row ++ [(⟨line, P, T⟩ : Wd)]], [], by omega, by omega, by simp; omega, by simp, by omega, hy3.out, hKl, rfl, by simp, rfl, by go_num, (by simp [ByteArray.size_append]; rfl), by go_num, by simpa using HW3, by simpa using HN3, by simpa using HR3, hB3'⟩
        case measure => simp [intOf]; omega
      · obtain rfl : m1 = 0 := by omega
        go_wp2_with fail
        go_roundw
        case rel => exact ⟨_, k + 1, line, fr, pw, cw, some ⟨g, 0, none⟩, cap, want, row ++ [(⟨line, P, T⟩ : Wd)], by omega, by omega, by omega, by simp; omega, by omega, hy2.out, hKw, rfl, rfl, by simp, rfl, rfl, by go_num, by simpa using HW2, by simpa using HN2, by simpa using HR2, hB2⟩
        case measure => simp [intOf]; omega
    · have hfin : (¬ (k : Int) < (ss.length : Int)) ∨ ((k : Int) < (ss.length : Int) ∧ ¬ (k : Int) < 30) := by omega
      clear hgo
      have hzq : B0 ≤ wr.heap.size := by have h := hBr.size; have h2 := hB0.out; omega
      have hD := HK.out.done
      have hs' : s.size ≤ 3000 := by omega
      have hLl := linesP_len s
      have hLe := getD_each (P := fun x => x.length ≤ 10000000) (fun x hx => by have := linesP_each s x hx; omega) (by simp)
      have c1 := fun w => lines_any s w (by omega)
      obtain ⟨L, hL⟩ : ∃ L, linesP s = L := ⟨_, rfl⟩
      simp only [hL] at c1
      rw [hL] at hD hLl hLe
      replace hL := Lib.hid hL
      replace hLe := Lib.hid hLe
      rcases hfin with zk1 | ⟨zk1, zk2⟩
      all_goals
        go_upto_if 81 with fail
        go_cut [7] (fun v wx => ∃ p c, v = .slice p L.length c ∧ RowsR enW 34 wx B0 (.slice p L.length c) L ∧ Below B0 w1 wx)
        case first =>
          by_cases hr0 : row.length = 0
          · have hr : row = [] := List.length_eq_zero_iff.1 hr0
            subst hr
            have eL : L = want := by rw [hD]; simp [emit]
            clear hD
            subst eL
            go_wp2_with fail
            go_meet
            exact ⟨pw, cw, rfl, HW.out.rows, hBr⟩
          · have hrp : (0 : Int) < (row.length : Int) := by omega
            have eL : L = want ++ [row] := by rw [hD]; unfold emit; rw [if_neg hr0]
            clear hD
            subst eL
            obtain ⟨vs, hvo, hvl, hv3⟩ := HW.out.rows.on (balloc1 wr (.cells #[.slice pr row.length cr] 34))
            rw [hvl] at hvo
            have hplv := own_lt hvo
            have hplr := own_lt HR.out
            have hHv := Lib.hid hv3
            clear hv3
            go_wp2_with (at_builtin; refine wpList_append_lies _ (by rfl) _ _ 24 (by rfl) B0 34 j0 _ 1 24 Try.underlying24 hj hj0 hj1 hj2 rfl (by omega) (.slice pw want.length cw) want.length vs (by rfl) hvo ⟨wr.heap.size, 0, none⟩ 1 1 [.slice pr row.length cr] (by rfl) (by rfl) (World.news_of_block (cs := #[.slice pr row.length cr]) (t := 34) (fr := (0, 0)) (heap_alloc_new wr _)) (by simp [Value.oneCell']) (by omega) (by unfold maxLen; omega) (by omega) (by simp; omega) (wr.heap.size + 1) (by simp) ?_)
            intro g3 cap3 w3 hown3 hgrow3 hat3 hlt3
            have hB3 : Below B0 w1 w3 := (hBr.alloc hzq _).grown hgrow3 (by simp; omega) (fun x hx => (hplv x hx).1)
            have hRW : RowsR enW 34 w3 B0 (.slice (some ⟨g3, 0, none⟩) (want.length + 1) cap3) (want ++ [row]) :=
              RowsR.snoc hvl hHv.out (HR.out.at.on (balloc1 wr _)) (fun a l c e => by
                have e3 : (Value.slice pr row.length cr).ownBlock = some a.block := by
                  rcases own_form HR.out with ⟨e1, -⟩ | ⟨g, c', e1, -⟩
                  · rw [e1] at e; simp at e
                  · rw [e1] at e ⊢
                    simp only [Value.slice.injEq, Option.some.injEq] at e
                    rw [← e.1]
                    rfl
                exact ⟨(hplr _ e3).1, fun e2 => HN.out _ e2 e3⟩) (by rw [hvl]; exact hown3) hgrow3 (hat3.imp_right (fun e => by simp; omega))
            replace hRW := Lib.hid hRW
            clear hown3 hgrow3 hat3 hvo hplv hplr hHv
            go_wp2_with fail
            go_meet
            exact ⟨_, cap3, by simp; rfl, by simpa using hRW.out, hB3⟩
        case rest =>
        obtain ⟨pl, cl, rfl, hRW, hBx⟩ := hcut
        clear hD
        have hBx' : Below w.heap.size w wc := hB1.trans (hBx.mono (by have := hB0.out; omega))
        replace hRW := Lib.hid hRW.at
        clear HW HN HR HK hzq hBr hBw hwl hrl hln hsz hk hk30
        go_wp2_with fail
        refine (c1 _).mono ?_
        rintro e w2 ⟨va, rfl, hA, hB2⟩
        obtain ⟨pa, ca, rfl⟩ := hA.len
        have hAA := hA.at
        have hBB := hRW.out.on hB2
        have cT := texts_any _ _ L L w2 hAA hBB (by omega) hLe.out rfl (fun i => ⟨rfl, fun k => rfl⟩)
        have HA := Lib.hid (fun (W : World) (h : Below w2.heap.size w2 W) => hAA.on h)
        have HB := Lib.hid (fun (W : World) (h : Below w2.heap.size w2 W) => hBB.on h)
        have hB12 : Below w.heap.size w w2 := sames hBx' hB2
        clear hA hAA hBB hRW hB2 c1
        go_wp2_with fail
        refine cT.mono ?_
        rintro e w3 ⟨rfl, hB3⟩
        clear cT
        go_wp2_with fail
        go_loopw [14] (fun iv wr => ∃ i : Nat, i ≤ L.length ∧ iv = .int .i64 i ∧ Below w2.heap.size w2 wr) (fun iv _ => (L.length - intOf iv).toNat)
        case atStart => exact ⟨0, by omega, rfl, hB3⟩
        case round =>
          obtain ⟨i, hi, rfl, hBo⟩ := hrel
          obtain ⟨wo, hwo⟩ : ∃ x, x = wr := ⟨_, rfl⟩
          subst hwo
          by_cases hlt : i < L.length
          · obtain ⟨a, qa, da, rfl, ha1, ha2⟩ := (HA.out wo hBo).get i hlt
            obtain ⟨b, qb, db, rfl, hb1, hb2⟩ := (HB.out wo hBo).get i hlt
            have hLb := hLe.out i
            obtain ⟨M, hM⟩ : ∃ M, L[i]?.getD [] = M := ⟨_, rfl⟩
            rw [hM] at ha1 ha2 hb1 hb2 hLb
            replace hM := Lib.hid hM
            have zi0 : (0 : Int) ≤ (i : Int) := by omega
            have zi1 : (i : Int) < (L.length : Int) := by omega
            have HA2 := Lib.hid (fun (W : World) (h : Below wo.heap.size wo W) => ha2.on h)
            have HB2 := Lib.hid (fun (W : World) (h : Below wo.heap.size wo W) => hb2.on h)
            have la := World.block_lt_of_cell? wo _ ha1
            have lb := World.block_lt_of_cell? wo _ hb1
            have HA1 := Lib.hid (fun (W : World) (h : Below wo.heap.size wo W) => (h.cell (p := a.add i) la).trans ha1)
            have HB1 := Lib.hid (fun (W : World) (h : Below wo.heap.size wo W) => (h.cell (p := b.add i) lb).trans hb1)
            clear ha2 hb2 la lb ha1 hb1
            go_wp2_with fail
            go_loopw [15] (fun kv wr => ∃ k : Nat, k ≤ M.length ∧ kv = .int .i64 k ∧ Below wo.heap.size wo wr) (fun kv _ => (M.length - intOf kv).toNat)
            case atStart => exact ⟨0, by omega, rfl, Below.refl _ _⟩
            case round =>
              obtain ⟨k, hk, rfl, hBi⟩ := hrel
              have ha1 := HA1.out wr hBi
              have hb1 := HB1.out wr hBi
              by_cases hkk : k < M.length
              · obtain ⟨x, rfl, x0, x1, x2⟩ := (HA2.out wr hBi).word k hkk
                obtain ⟨y, rfl, y0, y1, y2⟩ := (HB2.out wr hBi).word k hkk
                obtain ⟨t, ht⟩ : ∃ t, M[k]?.getD default = t := ⟨_, rfl⟩
                rw [ht] at x0 x1 x2 y0 y1 y2
                replace ht := Lib.hid ht
                obtain ⟨tl, tp, tt⟩ := t
                simp only at x0 x1 x2 y0 y1 y2
                have zk0 : (0 : Int) ≤ (k : Int) := by omega
                have zk1 : (k : Int) < (M.length : Int) := by omega
                go_wp2_with fail
                go_quiet (fail)
                go_wp2_with fail
                go_roundw
                case rel => exact ⟨k + 1, by omega, by go_num, below_drewN hBi _⟩
                case measure => simp [intOf]; omega
              · obtain rfl : k = M.length := by omega
                have hBf := hBo.trans (hBi.mono hBo.size)
                go_wp2_with fail
                go_roundw
                case rel => exact ⟨i + 1, by omega, by go_num, hBf⟩
                case measure => simp [intOf]; omega
          · obtain rfl : i = L.length := by omega
            go_wp2_with fail
            go_ret
            exact ⟨rfl, hB12.trans (hBo.mono hB12.size)⟩
end Go.Proofs.Ythoohbmpbahkgaa
