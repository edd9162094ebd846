/- The reference's Lines. -/
import Derived.Test.YthoohbmpbahkgaaWrdRefOne
namespace Go.Proofs.Ythoohbmpbahkgaa
open Go.RowKit

/-- A call answers rows of the reference's words of its own. -/
def LinesR2 (rs : List (List Wd)) (w : World) (e : Ending) (w' : World) : Prop := ∃ v, e = .returned v ∧ RowsR enW 35 w' w.heap.size v rs ∧ Below w.heap.size w w'
def stK (s : ByteArray) (k : Nat) : Nat × Nat × List (List Wd) := if k ≤ s.size then lnK s k else endL s s.size (lnK s s.size)
theorem stK_bd (s : ByteArray) (k : Nat) (h : k ≤ s.size + 1) : (stK s k).1 ≤ k + 1 ∧ (stK s k).2.1 ≤ k ∧ (stK s k).2.2.length ≤ k := by
  unfold stK
  split
  · exact lnK_bd s k
  · obtain ⟨a, b, c⟩ := lnK_bd s s.size
    unfold endL addNE
    refine ⟨by simp only; omega, by simp only; omega, ?_⟩
    simp only
    split
    · omega
    · simp; omega

set_option maxHeartbeats 4000000 in
theorem reflines_any (s : ByteArray) (w : World) (hs : s.size ≤ 1000000) :
    Calls Try.prog 16 #[.string s] w (LinesR2 (linesP s) w) := by
  obtain ⟨j0, hj, hj0, hj1, hj2⟩ := info_parts infoWords2
  have hfin : linesP s = (stK s (s.size + 1)).2.2 := by unfold stK; rw [if_neg (by omega)]; rfl
  rw [hfin]
  clear hfin
  have hrow0 : RowsR enW 35 (w.alloc (.cells #[] 35)) w.heap.size (.slice (some ⟨w.heap.size, 0, none⟩) 0 0) [] := ⟨[], World.ownsRow_made (base := w.heap.size) (e := 35) (size := 1) w #[] 0 (Nat.le_refl _) (by unfold maxLen; omega) rfl, rfl, fun i hi => by simp at hi⟩
  have hB0 : Below w.heap.size w (w.alloc (.cells #[] 35)) := balloc1 _ _
  go_enter Try.func16, Try.ntmps16
  go_wp2_with fail
  go_loopw [3, 4, 5, 6] (fun v fr ln iv wr => ∃ (k num beg : Nat) (rs : List (List Wd)) (p : Option Addr) (c : Nat), k ≤ s.size + 1 ∧ iv = .int .i64 k ∧ fr = .int .i64 beg ∧ ln = .int .i64 num ∧ v = .slice p rs.length c ∧ Hid (stK s k = (num, beg, rs)) ∧ RowsR enW 35 wr w.heap.size (.slice p rs.length c) rs ∧ Below w.heap.size w wr) (fun _ _ _ iv _ => (s.size + 1 - intOf iv).toNat)
  case atStart => exact ⟨0, 1, 0, [], _, _, by omega, rfl, rfl, rfl, rfl, Lib.hid (by unfold stK; rw [if_pos (Nat.zero_le _)]; rfl), hrow0, hB0⟩
  case round =>
    clear hrow0 hB0
    obtain ⟨k, num, beg, rs, p, c, hk, rfl, rfl, rfl, rfl, hst, hrow, hB⟩ := hrel
    obtain ⟨b1, b2, b3⟩ := stK_bd s k hk
    rw [hst.out] at b1 b2 b3
    simp only at b1 b2 b3
    by_cases hkk : k ≤ s.size
    · by_cases hgo : k < s.size ∧ bt s k ≠ 10
      · obtain ⟨hlt, h10⟩ := hgo
        have hg := bt_get s k hlt
        have e10 : ((bt s k : Int) != 10) = true := by simp; omega
        have hst2 : Hid (stK s (k + 1) = (num, beg, rs)) := Lib.hid (by
          have h := hst.out
          unfold stK at h ⊢
          rw [if_pos hkk] at h
          rw [if_pos (by omega), lnK_succ, if_neg h10]
          exact h)
        replace hrow := Lib.hid hrow
        go_wp2_with fail
        go_roundw
        case rel => exact ⟨k + 1, num, beg, rs, p, c, by omega, by go_num, rfl, rfl, rfl, hst2, hrow.out, hB⟩
        case measure => simp [intOf] <;> omega
      · have hst2 : stK s (k + 1) = (num + 1, k + 1, addNE rs (wordsP num (s.extract beg k))) := by
          have h := hst.out
          unfold stK at h ⊢
          rw [if_pos hkk] at h
          by_cases hlt : k < s.size
          · rw [if_pos (by omega), lnK_succ, if_pos (by by_cases h2 : bt s k = 10; exact h2; exact absurd ⟨hlt, h2⟩ hgo), h]
            rfl
          · obtain rfl : k = s.size := by omega
            rw [if_neg (by omega), h]
            rfl
        have hwz : (s.extract beg k).size ≤ 10000000 := by rw [ByteArray.size_extract]; omega
        have cS := refone_any (s.extract beg k) (num : Int) wr hwz
        have hwl := wordsP_len num (s.extract beg k) (hashAt_le _)
        obtain ⟨ws, hws⟩ : ∃ ws, wordsP (num : Int) (s.extract beg k) = ws := ⟨_, rfl⟩
        rw [hws] at hwl hst2 cS
        replace hws := Lib.hid hws
        have z1 : (beg : Int) ≤ (k : Int) := by omega
        have z2 : (k : Int) ≤ (s.size : Int) := by omega
        have z3 : beg ≤ k := b2
        have hend : k < s.size ∧ bt s k = 10 ∨ k = s.size := by
          by_cases hlt : k < s.size
          · left
            refine ⟨hlt, ?_⟩
            by_cases h2 : bt s k = 10
            · exact h2
            · exact absurd ⟨hlt, h2⟩ hgo
          · right; omega
        clear hgo
        have hWr := hB.size
        have HROW := Lib.hid hrow
        clear hrow
        rcases hend with ⟨hlt, h10⟩ | rfl
        · have hg := bt_get s k hlt
          rw [h10] at hg
          replace h10 := Lib.hid h10
          go_wp2_with fail
          refine cS.mono ?_
          rintro e w1 ⟨u, rfl, hu, hb1⟩
          have hzz := hb1.size
          have hu : OwnR enW 38 3 w1 wr.heap.size u ws := hu
          obtain ⟨pu, cu, rfl, -, -⟩ := hu.at.len
          have hB1 : Below w.heap.size w w1 := sames hB hb1
          have hrow1 := HROW.out.on hb1
          have e1 : IntKind.i64.wrap ((num : Int) + 1) = (num : Int) + 1 := IntWalk.i64_in _ (by omega)
          have e2 : IntKind.i64.wrap ((k : Int) + 1) = (k : Int) + 1 := IntWalk.i64_in _ (by omega)
          clear hb1 cS
          by_cases h0 : ws.length = 0
          · have h00 : ¬ 0 < ws.length := by omega
            have hst3 : Hid (stK s (k + 1) = (num + 1, k + 1, rs)) := Lib.hid (by rw [hst2]; unfold addNE; rw [if_pos h0])
            replace h0 := Lib.hid h0
            replace hst2 := Lib.hid hst2
            replace hrow1 := Lib.hid hrow1
            replace hu := Lib.hid hu
            go_wp2_with fail
            go_roundw
            case rel => exact ⟨k + 1, num + 1, k + 1, rs, p, c, by omega, by go_num, by go_num, by go_num, rfl, hst3, hrow1.out, hB1⟩
            case measure => simp [intOf] <;> omega
          · have h00 : 0 < ws.length := by omega
            have hst3 : Hid (stK s (k + 1) = (num + 1, k + 1, rs ++ [ws])) := Lib.hid (by rw [hst2]; unfold addNE; rw [if_neg h0])
            replace hst2 := Lib.hid hst2
            obtain ⟨vs, hvo, hvl, hvs⟩ := hrow1
            have hne : ∀ g, (Value.slice p rs.length c).ownBlock = some g → w.heap.size ≤ g ∧ g < w1.heap.size := fun g hg => own_lt hvo g hg
            have hun : ∀ a l d, Value.slice pu ws.length cu = .slice (some a) l d → w.heap.size ≤ a.block ∧ (Value.slice p rs.length c).ownBlock ≠ some a.block := fun a l d e => by
              rcases own_form hu with ⟨e1, -⟩ | ⟨g, c', e1, e2, e3, -⟩
              · rw [e1] at e; simp at e
              · rw [e1] at e
                simp only [Value.slice.injEq, Option.some.injEq] at e
                rw [← e.1]
                simp only
                have hlt : wr.heap.size ≤ g := e2
                refine ⟨by omega, fun h => ?_⟩
                obtain ⟨vs0, hvo0, -⟩ := HROW.out
                have := own_lt hvo0 g h
                omega
            have hua := hu.at
            have hvo2 : w1.ownsRow w.heap.size 35 1 (.slice p rs.length c) rs.length vs := by rw [hvl] at hvo; exact hvo
            replace hvs := Lib.hid hvs
            replace hun := Lib.hid hun
            replace hvl := Lib.hid hvl
            replace hu := Lib.hid hu
            replace hua := Lib.hid hua
            have hz1 := hB1.size
            clear hvo
            go_wp2_with (at_builtin; refine wpList_append_lies _ (by rfl) _ _ 27 (by rfl) w.heap.size 35 j0 _ 1 24 Try.underlying27 hj hj0 hj1 hj2 rfl (by omega) (.slice p rs.length c) rs.length vs (by rfl) (World.ownsRow.alloc hvo2 _) ⟨w1.heap.size, 0, none⟩ 1 1 [.slice pu ws.length cu] (by rfl) (by rfl) (World.news_of_block (cs := #[.slice pu ws.length cu]) (t := 35) (fr := (0, 0)) (heap_alloc_new w1 _)) (by simp [Value.oneCell']) (by omega) (by unfold maxLen; omega) (by omega) (by simp; omega) (w1.heap.size + 1) (by simp) ?_)
            intro g cap w2 hown2 hgrow hat hlt2
            have hbw : Below w.heap.size w w2 := (hB1.alloc hz1 _).grown hgrow (by simp <;> omega) (fun x hx => (hne x hx).1)
            have hR : RowsR enW 35 w2 w.heap.size (.slice (some ⟨g, 0, none⟩) (rs.length + 1) cap) (rs ++ [ws]) := by
              have hb := balloc1 w1 (.cells #[.slice pu ws.length cu] 35)
              refine RowsR.snoc hvl.out (fun i hi => ?_) (hua.out.on hb) hun.out (by rw [hvl.out]; exact hown2) hgrow (by rcases hat with h | h; exact .inl h; right; simp; omega)
              obtain ⟨x, x1, x2, x3⟩ := hvs.out i hi
              exact ⟨x, x1, x2.on hb, x3⟩
            replace hR := Lib.hid hR
            clear hgrow hown2 hat hne hvo2
            go_wp2_with fail
            go_roundw
            case rel => exact ⟨k + 1, num + 1, k + 1, rs ++ [ws], some ⟨g, 0, none⟩, cap, by omega, by go_num, by go_num, by go_num, by simp, hst3, by simpa using hR.out, hbw⟩
            case measure => simp [intOf] <;> omega
        · have hlt : ¬ s.size < s.size := by omega
          go_wp2_with fail
          refine cS.mono ?_
          rintro e w1 ⟨u, rfl, hu, hb1⟩
          have hzz := hb1.size
          have hu : OwnR enW 38 3 w1 wr.heap.size u ws := hu
          obtain ⟨pu, cu, rfl, -, -⟩ := hu.at.len
          have hB1 : Below w.heap.size w w1 := sames hB hb1
          have hrow1 := HROW.out.on hb1
          have e1 : IntKind.i64.wrap ((num : Int) + 1) = (num : Int) + 1 := IntWalk.i64_in _ (by omega)
          have e2 : IntKind.i64.wrap ((s.size : Int) + 1) = (s.size : Int) + 1 := IntWalk.i64_in _ (by omega)
          clear hb1 cS
          by_cases h0 : ws.length = 0
          · have h00 : ¬ 0 < ws.length := by omega
            have hst3 : Hid (stK s (s.size + 1) = (num + 1, s.size + 1, rs)) := Lib.hid (by rw [hst2]; unfold addNE; rw [if_pos h0])
            replace h0 := Lib.hid h0
            replace hst2 := Lib.hid hst2
            replace hrow1 := Lib.hid hrow1
            replace hu := Lib.hid hu
            go_wp2_with fail
            go_roundw
            case rel => exact ⟨s.size + 1, num + 1, s.size + 1, rs, p, c, by omega, by go_num, by go_num, by go_num, rfl, hst3, hrow1.out, hB1⟩
            case measure => simp [intOf] <;> omega
          · have h00 : 0 < ws.length := by omega
            have hst3 : Hid (stK s (s.size + 1) = (num + 1, s.size + 1, rs ++ [ws])) := Lib.hid (by rw [hst2]; unfold addNE; rw [if_neg h0])
            replace hst2 := Lib.hid hst2
            obtain ⟨vs, hvo, hvl, hvs⟩ := hrow1
            have hne : ∀ g, (Value.slice p rs.length c).ownBlock = some g → w.heap.size ≤ g ∧ g < w1.heap.size := fun g hg => own_lt hvo g hg
            have hun : ∀ a l d, Value.slice pu ws.length cu = .slice (some a) l d → w.heap.size ≤ a.block ∧ (Value.slice p rs.length c).ownBlock ≠ some a.block := fun a l d e => by
              rcases own_form hu with ⟨e1, -⟩ | ⟨g, c', e1, e2, e3, -⟩
              · rw [e1] at e; simp at e
              · rw [e1] at e
                simp only [Value.slice.injEq, Option.some.injEq] at e
                rw [← e.1]
                simp only
                have hlt : wr.heap.size ≤ g := e2
                refine ⟨by omega, fun h => ?_⟩
                obtain ⟨vs0, hvo0, -⟩ := HROW.out
                have := own_lt hvo0 g h
                omega
            have hua := hu.at
            have hvo2 : w1.ownsRow w.heap.size 35 1 (.slice p rs.length c) rs.length vs := by rw [hvl] at hvo; exact hvo
            replace hvs := Lib.hid hvs
            replace hun := Lib.hid hun
            replace hvl := Lib.hid hvl
            replace hu := Lib.hid hu
            replace hua := Lib.hid hua
            have hz1 := hB1.size
            clear hvo
            go_wp2_with (at_builtin; refine wpList_append_lies _ (by rfl) _ _ 27 (by rfl) w.heap.size 35 j0 _ 1 24 Try.underlying27 hj hj0 hj1 hj2 rfl (by omega) (.slice p rs.length c) rs.length vs (by rfl) (World.ownsRow.alloc hvo2 _) ⟨w1.heap.size, 0, none⟩ 1 1 [.slice pu ws.length cu] (by rfl) (by rfl) (World.news_of_block (cs := #[.slice pu ws.length cu]) (t := 35) (fr := (0, 0)) (heap_alloc_new w1 _)) (by simp [Value.oneCell']) (by omega) (by unfold maxLen; omega) (by omega) (by simp; omega) (w1.heap.size + 1) (by simp) ?_)
            intro g cap w2 hown2 hgrow hat hlt2
            have hbw : Below w.heap.size w w2 := (hB1.alloc hz1 _).grown hgrow (by simp <;> omega) (fun x hx => (hne x hx).1)
            have hR : RowsR enW 35 w2 w.heap.size (.slice (some ⟨g, 0, none⟩) (rs.length + 1) cap) (rs ++ [ws]) := by
              have hb := balloc1 w1 (.cells #[.slice pu ws.length cu] 35)
              refine RowsR.snoc hvl.out (fun i hi => ?_) (hua.out.on hb) hun.out (by rw [hvl.out]; exact hown2) hgrow (by rcases hat with h | h; exact .inl h; right; simp; omega)
              obtain ⟨x, x1, x2, x3⟩ := hvs.out i hi
              exact ⟨x, x1, x2.on hb, x3⟩
            replace hR := Lib.hid hR
            clear hgrow hown2 hat hne hvo2
            go_wp2_with fail
            go_roundw
            case rel => exact ⟨s.size + 1, num + 1, s.size + 1, rs ++ [ws], some ⟨g, 0, none⟩, cap, by omega, by go_num, by go_num, by go_num, by simp, hst3, by simpa using hR.out, hbw⟩
            case measure => simp [intOf] <;> omega
    · obtain rfl : k = s.size + 1 := by omega
      have hrs : (stK s (s.size + 1)).2.2 = rs := by rw [hst.out]
      replace hrs := Lib.hid hrs
      have hgt : ¬ ((s.size : Int) + 1 ≤ (s.size : Int)) := by omega
      have hgt2 : ¬ s.size + 1 ≤ s.size := by omega
      replace hrow := Lib.hid hrow
      go_wp2_with fail
      go_ret
      exact ⟨_, rfl, by rw [hrs.out]; exact hrow.out, hB⟩
end Go.Proofs.Ythoohbmpbahkgaa
