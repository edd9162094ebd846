/- The reference's blank, one. -/
import Derived.Test.YthoohbmpbahkgaaWrdRefPlain
import Derived.Test.YthoohbmpbahkgaaWrdLine1
import Derived.Test.YthoohbmpbahkgaaWrdRefNum
namespace Go.Proofs.Ythoohbmpbahkgaa
open Go.RowKit

theorem infoWord2 : (Try.prog.info? 38).map (fun i => (i.zero, i.size, i.bytes)) = some (some (.agg #[.int .i64 0, .int .i64 0, .string ⟨#[]⟩]), 3, 32) := by kernel_rfl
theorem infoWords2 : (Try.prog.info? 35).map (fun i => (i.zero, i.size, i.bytes)) = some (some (.slice none 0 0), 1, 24) := by kernel_rfl
theorem refblank_any (s : ByteArray) (k : Nat) (w : World) : Calls Try.prog 36 #[.int .u8 (bt s k)] w fun e w' => e = .returned (.bool (blB (bt s k))) ∧ w = w' := by
  by_cases h1 : bt s k = 32
  · rw [h1]
    go_enter Try.func36, Try.ntmps36
    go_wp2_with fail
    go_ret
    exact ⟨rfl, rfl⟩
  · by_cases h2 : bt s k = 9
    · rw [h2]
      go_enter Try.func36, Try.ntmps36
      go_wp2_with fail
      go_ret
      exact ⟨rfl, rfl⟩
    · rw [show blB (bt s k) = false by simp [blB, h1, h2]]
      have e1 : ((bt s k : Int) == 32) = false := by simp; omega
      have e2 : ((bt s k : Int) == 9) = false := by simp; omega
      go_enter Try.func36, Try.ntmps36
      go_wp2_with fail
      go_ret
      exact ⟨rfl, rfl⟩
/-- A call answers a row of the reference's words of its own. -/
def WordsR2 (ws : List Wd) (w : World) (e : Ending) (w' : World) : Prop := ∃ v, e = .returned v ∧ OwnR enW 38 3 w' w.heap.size v ws ∧ Below w.heap.size w w'

set_option maxHeartbeats 4000000 in
theorem refone_any (s : ByteArray) (num : Int) (w : World) (hs : s.size ≤ 10000000) :
    Calls Try.prog 29 #[.string s, .int .i64 num] w (WordsR2 (wordsP num s) w) := by
  obtain ⟨i0, hi, hz0, hz1, hz2⟩ := info_parts infoWord2
  obtain ⟨N, hN⟩ : ∃ N, hashAt s = N := ⟨_, rfl⟩
  have hNle := hashAt_le s
  have hNd : hashF s s.size 0 = N := hN
  have hw := rfK_words num s
  rw [hN] at hw hNle
  rw [← hw]
  clear hw
  replace hN := Lib.hid hN
  replace hNd := Lib.hid hNd
  go_enter Try.func29, Try.ntmps29
  go_wp2_with fail
  go_loop [5] (fun i => ∃ k : Nat, k ≤ s.size ∧ i = .int .i64 k ∧ Hid (hashF s (s.size - k) k = N)) (fun i => (s.size - intOf i).toNat)
  case atStart => exact ⟨0, by omega, rfl, by simpa using hNd⟩
  case round =>
    obtain ⟨k, hk, rfl, hrel⟩ := hrel
    have hgo : k < s.size ∧ bt s k ≠ 35 ∨ k = N := by
      have h := hrel.out
      by_cases hlt : k < s.size
      · rw [show s.size - k = (s.size - (k + 1)) + 1 by omega, hashF_succ] at h
        by_cases h35 : bt s k = 35
        · rw [if_pos h35] at h; exact .inr h
        · exact .inl ⟨hlt, h35⟩
      · right
        obtain rfl : k = s.size := by omega
        rw [Nat.sub_self] at h
        exact h
    by_cases hlt : k < s.size
    · have hg := bt_get s k hlt
      by_cases h35 : bt s k = 35
      · rw [h35] at hg
        obtain rfl : k = N := by
          rcases hgo with h | h
          · exact absurd h35 h.2
          · exact h
        replace h35 := Lib.hid h35
        clear hgo
        go_wp2_with fail
        have hrow0 : (w.alloc (.cells #[] 38)).ownsRow w.heap.size 38 3 (.slice (some ⟨w.heap.size, 0, none⟩) 0 0) 0 [] := World.ownsRow_made (base := w.heap.size) (e := 38) (size := 3) w #[] 0 (Nat.le_refl _) (by unfold maxLen; omega) rfl
        have hB0 : Below w.heap.size w (w.alloc (.cells #[] 38)) := balloc1 _ _
        go_loopw [6, 7] (fun v i wr => ∃ (j : Nat) (p : Option Addr) (c : Nat), j ≤ k ∧ i = .int .i64 j ∧ v = .slice p (rfK num s k j).length c ∧ OwnR enW 38 3 wr w.heap.size (.slice p (rfK num s k j).length c) (rfK num s k j) ∧ Below w.heap.size w wr) (fun _ i _ => (k - intOf i).toNat)
        case atStart => exact ⟨0, _, _, by omega, rfl, rfl, hrow0, hB0⟩
        case round =>
          clear hrow0 hB0
          obtain ⟨j, p, c, hj, rfl, rfl, hown, hB⟩ := hrel
          have hln := rfK_len num s k j
          have hsu := rfK_succ num s k j
          obtain ⟨L, hL⟩ : ∃ L, rfK num s k j = L := ⟨_, rfl⟩
          rw [hL] at hown hln hsu ⊢
          by_cases hjk : j < k
          · have hgj := bt_get s j (by omega)
            have hjs : j < s.size := by omega
            have c1 := refblank_any s j
            have hzz := hB.size
            have body : ∀ b : Bool, stB s j = b → True := fun _ _ => trivial
            clear body
            cases hbl : blB (bt s j) with
            | true =>
              simp only [hbl] at c1
              have hst : stB s j = false := by cases j <;> simp [stB, hbl]
              rw [hst] at hsu
              simp only [Bool.false_eq_true, if_false] at hsu
              replace hsu := Lib.hid hsu
              replace hL := Lib.hid hL
              replace hst := Lib.hid hst
              replace hbl := Lib.hid hbl
              replace hown := Lib.hid hown
              go_wp2_with ((with_reducible refine (c1 _).mono ?_); rintro e w1 ⟨rfl, rfl⟩)
              go_roundw
              case rel => exact ⟨j + 1, p, c, by omega, by go_num, by rw [hsu.out], by rw [hsu.out]; exact hown.out, hB⟩
              case measure => simp [intOf]; omega
            | false =>
              simp only [hbl] at c1
              have hcase : (stB s j = false ∧ ∃ i, j = i + 1 ∧ blB (bt s i) = false) ∨ (stB s j = true ∧ (j = 0 ∨ ∃ i, j = i + 1 ∧ blB (bt s i) = true)) := by
                cases j with
                | zero => right; simp [stB, hbl]
                | succ i => cases hbi : blB (bt s i) <;> simp [stB, hbl, hbi]
              rcases hcase with ⟨hst, i, rfl, hbi⟩ | ⟨hst, hz⟩
              · have hgi := bt_get s i (by omega)
                have c2 := refblank_any s i
                simp only [hbi] at c2
                rw [hst] at hsu
                simp only [Bool.false_eq_true, if_false] at hsu
                replace hsu := Lib.hid hsu
                replace hL := Lib.hid hL
                replace hst := Lib.hid hst
                replace hbl := Lib.hid hbl
                replace hbi := Lib.hid hbi
                replace hown := Lib.hid hown
                have his : i < s.size := by omega
                go_wp2_with (first | ((with_reducible refine (c1 _).mono ?_); rintro e w1 ⟨rfl, rfl⟩) | ((with_reducible refine (c2 _).mono ?_); rintro e w1 ⟨rfl, rfl⟩))
                go_roundw
                case rel => exact ⟨i + 1 + 1, p, c, by omega, by go_num, by rw [hsu.out], by rw [hsu.out]; exact hown.out, hB⟩
                case measure => simp [intOf]; omega
              · rw [hst] at hsu
                simp only [if_true] at hsu
                have hwb := wEnd_bd s (k - j) j
                obtain ⟨E, hE⟩ : ∃ E, wEnd s (k - j) j = E := ⟨_, rfl⟩
                rw [hE] at hsu hwb
                replace hsu := Lib.hid hsu
                replace hL := Lib.hid hL
                replace hst := Lib.hid hst
                replace hE := Lib.hid hE
                have hbl0 := Lib.hid hbl
                clear hbl
                rcases hz with rfl | ⟨i, rfl, hbi⟩
                · go_wp2_with ((with_reducible refine (c1 _).mono ?_); rintro e w1 ⟨rfl, rfl⟩)
                  clear c1
                  go_loop [8] (fun iv => ∃ m : Nat, 0 ≤ m ∧ m ≤ k ∧ iv = .int .i64 m ∧ Hid (wEnd s (k - m) m = E)) (fun iv => (k - intOf iv).toNat)
                  case atStart => exact ⟨0, Nat.le_refl _, by omega, by first | rfl | go_num, hE⟩
                  case round =>
                    obtain ⟨m, hm1, hm2, rfl, hrm⟩ := hrel
                    have hgoE : m = E ∨ (m < k ∧ blB (bt s m) = false) := by
                      have h := hrm.out
                      by_cases hmk : m < k
                      · rw [show k - m = (k - (m + 1)) + 1 by omega, wEnd_succ] at h
                        cases hbm : blB (bt s m)
                        · exact .inr ⟨hmk, rfl⟩
                        · rw [hbm] at h; exact .inl h
                      · left
                        obtain rfl : m = k := by omega
                        rw [Nat.sub_self] at h
                        exact h
                    by_cases hmk : m < k
                    · have hgm := bt_get s m (by omega)
                      have hms : m < s.size := by omega
                      have c3 := refblank_any s m
                      cases hbm : blB (bt s m)
                      · simp only [hbm] at c3
                        have h := hrm.out
                        rw [show k - m = (k - (m + 1)) + 1 by omega, wEnd_succ, hbm] at h
                        simp only [Bool.false_eq_true, if_false] at h
                        replace h := Lib.hid h
                        replace hbm := Lib.hid hbm
                        clear hgoE
                        go_wp2_with ((with_reducible refine (c3 _).mono ?_); rintro e w1 ⟨rfl, rfl⟩)
                        go_round
                        case rel => exact ⟨m + 1, by omega, by omega, by go_num, h⟩
                        case measure => simp [intOf]; omega
                      · simp only [hbm] at c3
                        obtain rfl : m = E := by
                          rcases hgoE with h | h
                          · exact h
                          · rw [hbm] at h; exact absurd h.2 (by simp)
                        replace hbm := Lib.hid hbm
                        clear hgoE
                        have zz1 : (0 : Int) ≤ (m : Int) := by omega
                        have zz2 : (m : Int) ≤ (s.size : Int) := by omega
                        have zz3 : 0 ≤ m := by omega
                        go_wp2_with (first | ((with_reducible refine (c3 _).mono ?_); rintro e w1 ⟨rfl, rfl⟩) | (at_builtin; refine wpList_append_lies _ (by rfl) _ _ 35 (by rfl) w.heap.size 38 i0 _ 3 32 Try.underlying35 hi hz0 hz1 hz2 rfl (by omega) (.slice p L.length c) L.length (flat enW L) (by rfl) (World.ownsRow.alloc hown _) ⟨wr.heap.size, 0, none⟩ 1 1 [.int .i64 num, .int .i64 0, .string (s.extract 0 m)] (by rfl) (by rfl) (World.news_of_block (cs := #[.int .i64 num, .int .i64 0, .string (s.extract 0 m)]) (t := 38) (fr := (0, 0)) (heap_alloc_new wr _)) (by simp [Value.oneCell']) (by omega) (by unfold maxLen; omega) (by omega) (by simp; omega) (wr.heap.size + 1) (by simp) ?_))
                        intro g cap w2 hown2 hgrow hat hlt2
                        have hbw : Below w.heap.size w w2 := (hB.alloc hzz _).grown hgrow (by simp; omega) (fun x hx => (own_lt hown x hx).1)
                        have hrow2 : OwnR enW 38 3 w2 w.heap.size (.slice (some ⟨g, 0, none⟩) (L.length + 1) cap) (L ++ [⟨num, 0, s.extract 0 m⟩]) := by
                          show w2.ownsRow _ _ _ _ _ _
                          rw [List.length_append, List.length_singleton, flat_app, flat_one]
                          exact hown2
                        replace hrow2 := Lib.hid hrow2
                        clear hgrow hown2 hat
                        go_wp2_with fail
                        go_roundw
                        case rel => exact ⟨0 + 1, some ⟨g, 0, none⟩, cap, by omega, by first | rfl | go_num, by rw [hsu.out]; simp, by rw [hsu.out]; simpa using hrow2.out, hbw⟩
                        case measure => simp [intOf]; omega
                    · obtain rfl : m = E := by
                        rcases hgoE with h | h
                        · exact h
                        · omega
                      clear hgoE
                      have zz1 : (0 : Int) ≤ (m : Int) := by omega
                      have zz2 : (m : Int) ≤ (s.size : Int) := by omega
                      have zz3 : 0 ≤ m := by omega
                      go_wp2_with ((at_builtin; refine wpList_append_lies _ (by rfl) _ _ 35 (by rfl) w.heap.size 38 i0 _ 3 32 Try.underlying35 hi hz0 hz1 hz2 rfl (by omega) (.slice p L.length c) L.length (flat enW L) (by rfl) (World.ownsRow.alloc hown _) ⟨wr.heap.size, 0, none⟩ 1 1 [.int .i64 num, .int .i64 0, .string (s.extract 0 m)] (by rfl) (by rfl) (World.news_of_block (cs := #[.int .i64 num, .int .i64 0, .string (s.extract 0 m)]) (t := 38) (fr := (0, 0)) (heap_alloc_new wr _)) (by simp [Value.oneCell']) (by omega) (by unfold maxLen; omega) (by omega) (by simp; omega) (wr.heap.size + 1) (by simp) ?_))
                      intro g cap w2 hown2 hgrow hat hlt2
                      have hbw : Below w.heap.size w w2 := (hB.alloc hzz _).grown hgrow (by simp; omega) (fun x hx => (own_lt hown x hx).1)
                      have hrow2 : OwnR enW 38 3 w2 w.heap.size (.slice (some ⟨g, 0, none⟩) (L.length + 1) cap) (L ++ [⟨num, 0, s.extract 0 m⟩]) := by
                        show w2.ownsRow _ _ _ _ _ _
                        rw [List.length_append, List.length_singleton, flat_app, flat_one]
                        exact hown2
                      replace hrow2 := Lib.hid hrow2
                      clear hgrow hown2 hat
                      go_wp2_with fail
                      go_roundw
                      case rel => exact ⟨0 + 1, some ⟨g, 0, none⟩, cap, by omega, by first | rfl | go_num, by rw [hsu.out]; simp, by rw [hsu.out]; simpa using hrow2.out, hbw⟩
                      case measure => simp [intOf]; omega
                · have hgi := bt_get s i (by omega)
                  have c2 := refblank_any s i
                  simp only [hbi] at c2
                  replace hbi := Lib.hid hbi
                  have his : i < s.size := by omega
                  go_wp2_with (first | ((with_reducible refine (c1 _).mono ?_); rintro e w1 ⟨rfl, rfl⟩) | ((with_reducible refine (c2 _).mono ?_); rintro e w1 ⟨rfl, rfl⟩))
                  clear c1
                  go_loop [8] (fun iv => ∃ m : Nat, (i + 1) ≤ m ∧ m ≤ k ∧ iv = .int .i64 m ∧ Hid (wEnd s (k - m) m = E)) (fun iv => (k - intOf iv).toNat)
                  case atStart => exact ⟨(i + 1), Nat.le_refl _, by omega, by first | rfl | go_num, hE⟩
                  case round =>
                    obtain ⟨m, hm1, hm2, rfl, hrm⟩ := hrel
                    have hgoE : m = E ∨ (m < k ∧ blB (bt s m) = false) := by
                      have h := hrm.out
                      by_cases hmk : m < k
                      · rw [show k - m = (k - (m + 1)) + 1 by omega, wEnd_succ] at h
                        cases hbm : blB (bt s m)
                        · exact .inr ⟨hmk, rfl⟩
                        · rw [hbm] at h; exact .inl h
                      · left
                        obtain rfl : m = k := by omega
                        rw [Nat.sub_self] at h
                        exact h
                    by_cases hmk : m < k
                    · have hgm := bt_get s m (by omega)
                      have hms : m < s.size := by omega
                      have c3 := refblank_any s m
                      cases hbm : blB (bt s m)
                      · simp only [hbm] at c3
                        have h := hrm.out
                        rw [show k - m = (k - (m + 1)) + 1 by omega, wEnd_succ, hbm] at h
                        simp only [Bool.false_eq_true, if_false] at h
                        replace h := Lib.hid h
                        replace hbm := Lib.hid hbm
                        clear hgoE
                        go_wp2_with ((with_reducible refine (c3 _).mono ?_); rintro e w1 ⟨rfl, rfl⟩)
                        go_round
                        case rel => exact ⟨m + 1, by omega, by omega, by go_num, h⟩
                        case measure => simp [intOf]; omega
                      · simp only [hbm] at c3
                        obtain rfl : m = E := by
                          rcases hgoE with h | h
                          · exact h
                          · rw [hbm] at h; exact absurd h.2 (by simp)
                        replace hbm := Lib.hid hbm
                        clear hgoE
                        have zz1 : ((i + 1) : Int) ≤ (m : Int) := by omega
                        have zz2 : (m : Int) ≤ (s.size : Int) := by omega
                        have zz3 : (i + 1) ≤ m := by omega
                        go_wp2_with (first | ((with_reducible refine (c3 _).mono ?_); rintro e w1 ⟨rfl, rfl⟩) | (at_builtin; refine wpList_append_lies _ (by rfl) _ _ 35 (by rfl) w.heap.size 38 i0 _ 3 32 Try.underlying35 hi hz0 hz1 hz2 rfl (by omega) (.slice p L.length c) L.length (flat enW L) (by rfl) (World.ownsRow.alloc hown _) ⟨wr.heap.size, 0, none⟩ 1 1 [.int .i64 num, .int .i64 ((i : Int) + 1), .string (s.extract (i + 1) m)] (by rfl) (by rfl) (World.news_of_block (cs := #[.int .i64 num, .int .i64 ((i : Int) + 1), .string (s.extract (i + 1) m)]) (t := 38) (fr := (0, 0)) (heap_alloc_new wr _)) (by simp [Value.oneCell']) (by omega) (by unfold maxLen; omega) (by omega) (by simp; omega) (wr.heap.size + 1) (by simp) ?_))
                        intro g cap w2 hown2 hgrow hat hlt2
                        have hbw : Below w.heap.size w w2 := (hB.alloc hzz _).grown hgrow (by simp; omega) (fun x hx => (own_lt hown x hx).1)
                        have hrow2 : OwnR enW 38 3 w2 w.heap.size (.slice (some ⟨g, 0, none⟩) (L.length + 1) cap) (L ++ [⟨num, ((i : Int) + 1), s.extract (i + 1) m⟩]) := by
                          show w2.ownsRow _ _ _ _ _ _
                          rw [List.length_append, List.length_singleton, flat_app, flat_one]
                          exact hown2
                        replace hrow2 := Lib.hid hrow2
                        clear hgrow hown2 hat
                        go_wp2_with fail
                        go_roundw
                        case rel => exact ⟨(i + 1) + 1, some ⟨g, 0, none⟩, cap, by omega, by first | rfl | go_num, by rw [hsu.out]; simp, by rw [hsu.out]; simpa using hrow2.out, hbw⟩
                        case measure => simp [intOf]; omega
                    · obtain rfl : m = E := by
                        rcases hgoE with h | h
                        · exact h
                        · omega
                      clear hgoE
                      have zz1 : ((i + 1) : Int) ≤ (m : Int) := by omega
                      have zz2 : (m : Int) ≤ (s.size : Int) := by omega
                      have zz3 : (i + 1) ≤ m := by omega
                      go_wp2_with ((at_builtin; refine wpList_append_lies _ (by rfl) _ _ 35 (by rfl) w.heap.size 38 i0 _ 3 32 Try.underlying35 hi hz0 hz1 hz2 rfl (by omega) (.slice p L.length c) L.length (flat enW L) (by rfl) (World.ownsRow.alloc hown _) ⟨wr.heap.size, 0, none⟩ 1 1 [.int .i64 num, .int .i64 ((i : Int) + 1), .string (s.extract (i + 1) m)] (by rfl) (by rfl) (World.news_of_block (cs := #[.int .i64 num, .int .i64 ((i : Int) + 1), .string (s.extract (i + 1) m)]) (t := 38) (fr := (0, 0)) (heap_alloc_new wr _)) (by simp [Value.oneCell']) (by omega) (by unfold maxLen; omega) (by omega) (by simp; omega) (wr.heap.size + 1) (by simp) ?_))
                      intro g cap w2 hown2 hgrow hat hlt2
                      have hbw : Below w.heap.size w w2 := (hB.alloc hzz _).grown hgrow (by simp; omega) (fun x hx => (own_lt hown x hx).1)
                      have hrow2 : OwnR enW 38 3 w2 w.heap.size (.slice (some ⟨g, 0, none⟩) (L.length + 1) cap) (L ++ [⟨num, ((i : Int) + 1), s.extract (i + 1) m⟩]) := by
                        show w2.ownsRow _ _ _ _ _ _
                        rw [List.length_append, List.length_singleton, flat_app, flat_one]
                        exact hown2
                      replace hrow2 := Lib.hid hrow2
                      clear hgrow hown2 hat
                      go_wp2_with fail
                      go_roundw
                      case rel => exact ⟨(i + 1) + 1, some ⟨g, 0, none⟩, cap, by omega, by first | rfl | go_num, by rw [hsu.out]; simp, by rw [hsu.out]; simpa using hrow2.out, hbw⟩
                      case measure => simp [intOf]; omega
          · obtain rfl : j = k := by omega
            replace hL := Lib.hid hL
            replace hsu := Lib.hid hsu
            go_wp2_with fail
            go_ret
            exact ⟨_, rfl, by rw [hL.out]; exact hown, hB⟩
      · have e35 : ((bt s k : Int) != 35) = true := by simp; omega
        have h := hrel.out
        rw [show s.size - k = (s.size - (k + 1)) + 1 by omega, hashF_succ, if_neg h35] at h
        replace h := Lib.hid h
        clear hgo
        go_wp2_with fail
        go_round
        case rel => exact ⟨k + 1, by omega, by go_num, h⟩
        case measure => simp [intOf]; omega
    · obtain rfl : k = N := by
        rcases hgo with h | h
        · exact absurd h.1 hlt
        · exact h
      clear hgo
      go_wp2_with fail
      have hrow0 : (w.alloc (.cells #[] 38)).ownsRow w.heap.size 38 3 (.slice (some ⟨w.heap.size, 0, none⟩) 0 0) 0 [] := World.ownsRow_made (base := w.heap.size) (e := 38) (size := 3) w #[] 0 (Nat.le_refl _) (by unfold maxLen; omega) rfl
      have hB0 : Below w.heap.size w (w.alloc (.cells #[] 38)) := balloc1 _ _
      go_loopw [6, 7] (fun v i wr => ∃ (j : Nat) (p : Option Addr) (c : Nat), j ≤ k ∧ i = .int .i64 j ∧ v = .slice p (rfK num s k j).length c ∧ OwnR enW 38 3 wr w.heap.size (.slice p (rfK num s k j).length c) (rfK num s k j) ∧ Below w.heap.size w wr) (fun _ i _ => (k - intOf i).toNat)
      case atStart => exact ⟨0, _, _, by omega, rfl, rfl, hrow0, hB0⟩
      case round =>
        clear hrow0 hB0
        obtain ⟨j, p, c, hj, rfl, rfl, hown, hB⟩ := hrel
        have hln := rfK_len num s k j
        have hsu := rfK_succ num s k j
        obtain ⟨L, hL⟩ : ∃ L, rfK num s k j = L := ⟨_, rfl⟩
        rw [hL] at hown hln hsu ⊢
        by_cases hjk : j < k
        · have hgj := bt_get s j (by omega)
          have hjs : j < s.size := by omega
          have c1 := refblank_any s j
          have hzz := hB.size
          have body : ∀ b : Bool, stB s j = b → True := fun _ _ => trivial
          clear body
          cases hbl : blB (bt s j) with
          | true =>
            simp only [hbl] at c1
            have hst : stB s j = false := by cases j <;> simp [stB, hbl]
            rw [hst] at hsu
            simp only [Bool.false_eq_true, if_false] at hsu
            replace hsu := Lib.hid hsu
            replace hL := Lib.hid hL
            replace hst := Lib.hid hst
            replace hbl := Lib.hid hbl
            replace hown := Lib.hid hown
            go_wp2_with ((with_reducible refine (c1 _).mono ?_); rintro e w1 ⟨rfl, rfl⟩)
            go_roundw
            case rel => exact ⟨j + 1, p, c, by omega, by go_num, by rw [hsu.out], by rw [hsu.out]; exact hown.out, hB⟩
            case measure => simp [intOf]; omega
          | false =>
            simp only [hbl] at c1
            have hcase : (stB s j = false ∧ ∃ i, j = i + 1 ∧ blB (bt s i) = false) ∨ (stB s j = true ∧ (j = 0 ∨ ∃ i, j = i + 1 ∧ blB (bt s i) = true)) := by
              cases j with
              | zero => right; simp [stB, hbl]
              | succ i => cases hbi : blB (bt s i) <;> simp [stB, hbl, hbi]
            rcases hcase with ⟨hst, i, rfl, hbi⟩ | ⟨hst, hz⟩
            · have hgi := bt_get s i (by omega)
              have c2 := refblank_any s i
              simp only [hbi] at c2
              rw [hst] at hsu
              simp only [Bool.false_eq_true, if_false] at hsu
              replace hsu := Lib.hid hsu
              replace hL := Lib.hid hL
              replace hst := Lib.hid hst
              replace hbl := Lib.hid hbl
              replace hbi := Lib.hid hbi
              replace hown := Lib.hid hown
              have his : i < s.size := by omega
              go_wp2_with (first | ((with_reducible refine (c1 _).mono ?_); rintro e w1 ⟨rfl, rfl⟩) | ((with_reducible refine (c2 _).mono ?_); rintro e w1 ⟨rfl, rfl⟩))
              go_roundw
              case rel => exact ⟨i + 1 + 1, p, c, by omega, by go_num, by rw [hsu.out], by rw [hsu.out]; exact hown.out, hB⟩
              case measure => simp [intOf]; omega
            · rw [hst] at hsu
              simp only [if_true] at hsu
              have hwb := wEnd_bd s (k - j) j
              obtain ⟨E, hE⟩ : ∃ E, wEnd s (k - j) j = E := ⟨_, rfl⟩
              rw [hE] at hsu hwb
              replace hsu := Lib.hid hsu
              replace hL := Lib.hid hL
              replace hst := Lib.hid hst
              replace hE := Lib.hid hE
              have hbl0 := Lib.hid hbl
              clear hbl
              rcases hz with rfl | ⟨i, rfl, hbi⟩
              · go_wp2_with ((with_reducible refine (c1 _).mono ?_); rintro e w1 ⟨rfl, rfl⟩)
                clear c1
                go_loop [8] (fun iv => ∃ m : Nat, 0 ≤ m ∧ m ≤ k ∧ iv = .int .i64 m ∧ Hid (wEnd s (k - m) m = E)) (fun iv => (k - intOf iv).toNat)
                case atStart => exact ⟨0, Nat.le_refl _, by omega, by first | rfl | go_num, hE⟩
                case round =>
                  obtain ⟨m, hm1, hm2, rfl, hrm⟩ := hrel
                  have hgoE : m = E ∨ (m < k ∧ blB (bt s m) = false) := by
                    have h := hrm.out
                    by_cases hmk : m < k
                    · rw [show k - m = (k - (m + 1)) + 1 by omega, wEnd_succ] at h
                      cases hbm : blB (bt s m)
                      · exact .inr ⟨hmk, rfl⟩
                      · rw [hbm] at h; exact .inl h
                    · left
                      obtain rfl : m = k := by omega
                      rw [Nat.sub_self] at h
                      exact h
                  by_cases hmk : m < k
                  · have hgm := bt_get s m (by omega)
                    have hms : m < s.size := by omega
                    have c3 := refblank_any s m
                    cases hbm : blB (bt s m)
                    · simp only [hbm] at c3
                      have h := hrm.out
                      rw [show k - m = (k - (m + 1)) + 1 by omega, wEnd_succ, hbm] at h
                      simp only [Bool.false_eq_true, if_false] at h
                      replace h := Lib.hid h
                      replace hbm := Lib.hid hbm
                      clear hgoE
                      go_wp2_with ((with_reducible refine (c3 _).mono ?_); rintro e w1 ⟨rfl, rfl⟩)
                      go_round
                      case rel => exact ⟨m + 1, by omega, by omega, by go_num, h⟩
                      case measure => simp [intOf]; omega
                    · simp only [hbm] at c3
                      obtain rfl : m = E := by
                        rcases hgoE with h | h
                        · exact h
                        · rw [hbm] at h; exact absurd h.2 (by simp)
                      replace hbm := Lib.hid hbm
                      clear hgoE
                      have zz1 : (0 : Int) ≤ (m : Int) := by omega
                      have zz2 : (m : Int) ≤ (s.size : Int) := by omega
                      have zz3 : 0 ≤ m := by omega
                      go_wp2_with (first | ((with_reducible refine (c3 _).mono ?_); rintro e w1 ⟨rfl, rfl⟩) | (at_builtin; refine wpList_append_lies _ (by rfl) _ _ 35 (by rfl) w.heap.size 38 i0 _ 3 32 Try.underlying35 hi hz0 hz1 hz2 rfl (by omega) (.slice p L.length c) L.length (flat enW L) (by rfl) (World.ownsRow.alloc hown _) ⟨wr.heap.size, 0, none⟩ 1 1 [.int .i64 num, .int .i64 0, .string (s.extract 0 m)] (by rfl) (by rfl) (World.news_of_block (cs := #[.int .i64 num, .int .i64 0, .string (s.extract 0 m)]) (t := 38) (fr := (0, 0)) (heap_alloc_new wr _)) (by simp [Value.oneCell']) (by omega) (by unfold maxLen; omega) (by omega) (by simp; omega) (wr.heap.size + 1) (by simp) ?_))
                      intro g cap w2 hown2 hgrow hat hlt2
                      have hbw : Below w.heap.size w w2 := (hB.alloc hzz _).grown hgrow (by simp; omega) (fun x hx => (own_lt hown x hx).1)
                      have hrow2 : OwnR enW 38 3 w2 w.heap.size (.slice (some ⟨g, 0, none⟩) (L.length + 1) cap) (L ++ [⟨num, 0, s.extract 0 m⟩]) := by
                        show w2.ownsRow _ _ _ _ _ _
                        rw [List.length_append, List.length_singleton, flat_app, flat_one]
                        exact hown2
                      replace hrow2 := Lib.hid hrow2
                      clear hgrow hown2 hat
                      go_wp2_with fail
                      go_roundw
                      case rel => exact ⟨0 + 1, some ⟨g, 0, none⟩, cap, by omega, by first | rfl | go_num, by rw [hsu.out]; simp, by rw [hsu.out]; simpa using hrow2.out, hbw⟩
                      case measure => simp [intOf]; omega
                  · obtain rfl : m = E := by
                      rcases hgoE with h | h
                      · exact h
                      · omega
                    clear hgoE
                    have zz1 : (0 : Int) ≤ (m : Int) := by omega
                    have zz2 : (m : Int) ≤ (s.size : Int) := by omega
                    have zz3 : 0 ≤ m := by omega
                    go_wp2_with ((at_builtin; refine wpList_append_lies _ (by rfl) _ _ 35 (by rfl) w.heap.size 38 i0 _ 3 32 Try.underlying35 hi hz0 hz1 hz2 rfl (by omega) (.slice p L.length c) L.length (flat enW L) (by rfl) (World.ownsRow.alloc hown _) ⟨wr.heap.size, 0, none⟩ 1 1 [.int .i64 num, .int .i64 0, .string (s.extract 0 m)] (by rfl) (by rfl) (World.news_of_block (cs := #[.int .i64 num, .int .i64 0, .string (s.extract 0 m)]) (t := 38) (fr := (0, 0)) (heap_alloc_new wr _)) (by simp [Value.oneCell']) (by omega) (by unfold maxLen; omega) (by omega) (by simp; omega) (wr.heap.size + 1) (by simp) ?_))
                    intro g cap w2 hown2 hgrow hat hlt2
                    have hbw : Below w.heap.size w w2 := (hB.alloc hzz _).grown hgrow (by simp; omega) (fun x hx => (own_lt hown x hx).1)
                    have hrow2 : OwnR enW 38 3 w2 w.heap.size (.slice (some ⟨g, 0, none⟩) (L.length + 1) cap) (L ++ [⟨num, 0, s.extract 0 m⟩]) := by
                      show w2.ownsRow _ _ _ _ _ _
                      rw [List.length_append, List.length_singleton, flat_app, flat_one]
                      exact hown2
                    replace hrow2 := Lib.hid hrow2
                    clear hgrow hown2 hat
                    go_wp2_with fail
                    go_roundw
                    case rel => exact ⟨0 + 1, some ⟨g, 0, none⟩, cap, by omega, by first | rfl | go_num, by rw [hsu.out]; simp, by rw [hsu.out]; simpa using hrow2.out, hbw⟩
                    case measure => simp [intOf]; omega
              · have hgi := bt_get s i (by omega)
                have c2 := refblank_any s i
                simp only [hbi] at c2
                replace hbi := Lib.hid hbi
                have his : i < s.size := by omega
                go_wp2_with (first | ((with_reducible refine (c1 _).mono ?_); rintro e w1 ⟨rfl, rfl⟩) | ((with_reducible refine (c2 _).mono ?_); rintro e w1 ⟨rfl, rfl⟩))
                clear c1
                go_loop [8] (fun iv => ∃ m : Nat, (i + 1) ≤ m ∧ m ≤ k ∧ iv = .int .i64 m ∧ Hid (wEnd s (k - m) m = E)) (fun iv => (k - intOf iv).toNat)
                case atStart => exact ⟨(i + 1), Nat.le_refl _, by omega, by first | rfl | go_num, hE⟩
                case round =>
                  obtain ⟨m, hm1, hm2, rfl, hrm⟩ := hrel
                  have hgoE : m = E ∨ (m < k ∧ blB (bt s m) = false) := by
                    have h := hrm.out
                    by_cases hmk : m < k
                    · rw [show k - m = (k - (m + 1)) + 1 by omega, wEnd_succ] at h
                      cases hbm : blB (bt s m)
                      · exact .inr ⟨hmk, rfl⟩
                      · rw [hbm] at h; exact .inl h
                    · left
                      obtain rfl : m = k := by omega
                      rw [Nat.sub_self] at h
                      exact h
                  by_cases hmk : m < k
                  · have hgm := bt_get s m (by omega)
                    have hms : m < s.size := by omega
                    have c3 := refblank_any s m
                    cases hbm : blB (bt s m)
                    · simp only [hbm] at c3
                      have h := hrm.out
                      rw [show k - m = (k - (m + 1)) + 1 by omega, wEnd_succ, hbm] at h
                      simp only [Bool.false_eq_true, if_false] at h
                      replace h := Lib.hid h
                      replace hbm := Lib.hid hbm
                      clear hgoE
                      go_wp2_with ((with_reducible refine (c3 _).mono ?_); rintro e w1 ⟨rfl, rfl⟩)
                      go_round
                      case rel => exact ⟨m + 1, by omega, by omega, by go_num, h⟩
                      case measure => simp [intOf]; omega
                    · simp only [hbm] at c3
                      obtain rfl : m = E := by
                        rcases hgoE with h | h
                        · exact h
                        · rw [hbm] at h; exact absurd h.2 (by simp)
                      replace hbm := Lib.hid hbm
                      clear hgoE
                      have zz1 : ((i + 1) : Int) ≤ (m : Int) := by omega
                      have zz2 : (m : Int) ≤ (s.size : Int) := by omega
                      have zz3 : (i + 1) ≤ m := by omega
                      go_wp2_with (first | ((with_reducible refine (c3 _).mono ?_); rintro e w1 ⟨rfl, rfl⟩) | (at_builtin; refine wpList_append_lies _ (by rfl) _ _ 35 (by rfl) w.heap.size 38 i0 _ 3 32 Try.underlying35 hi hz0 hz1 hz2 rfl (by omega) (.slice p L.length c) L.length (flat enW L) (by rfl) (World.ownsRow.alloc hown _) ⟨wr.heap.size, 0, none⟩ 1 1 [.int .i64 num, .int .i64 ((i : Int) + 1), .string (s.extract (i + 1) m)] (by rfl) (by rfl) (World.news_of_block (cs := #[.int .i64 num, .int .i64 ((i : Int) + 1), .string (s.extract (i + 1) m)]) (t := 38) (fr := (0, 0)) (heap_alloc_new wr _)) (by simp [Value.oneCell']) (by omega) (by unfold maxLen; omega) (by omega) (by simp; omega) (wr.heap.size + 1) (by simp) ?_))
                      intro g cap w2 hown2 hgrow hat hlt2
                      have hbw : Below w.heap.size w w2 := (hB.alloc hzz _).grown hgrow (by simp; omega) (fun x hx => (own_lt hown x hx).1)
                      have hrow2 : OwnR enW 38 3 w2 w.heap.size (.slice (some ⟨g, 0, none⟩) (L.length + 1) cap) (L ++ [⟨num, ((i : Int) + 1), s.extract (i + 1) m⟩]) := by
                        show w2.ownsRow _ _ _ _ _ _
                        rw [List.length_append, List.length_singleton, flat_app, flat_one]
                        exact hown2
                      replace hrow2 := Lib.hid hrow2
                      clear hgrow hown2 hat
                      go_wp2_with fail
                      go_roundw
                      case rel => exact ⟨(i + 1) + 1, some ⟨g, 0, none⟩, cap, by omega, by first | rfl | go_num, by rw [hsu.out]; simp, by rw [hsu.out]; simpa using hrow2.out, hbw⟩
                      case measure => simp [intOf]; omega
                  · obtain rfl : m = E := by
                      rcases hgoE with h | h
                      · exact h
                      · omega
                    clear hgoE
                    have zz1 : ((i + 1) : Int) ≤ (m : Int) := by omega
                    have zz2 : (m : Int) ≤ (s.size : Int) := by omega
                    have zz3 : (i + 1) ≤ m := by omega
                    go_wp2_with ((at_builtin; refine wpList_append_lies _ (by rfl) _ _ 35 (by rfl) w.heap.size 38 i0 _ 3 32 Try.underlying35 hi hz0 hz1 hz2 rfl (by omega) (.slice p L.length c) L.length (flat enW L) (by rfl) (World.ownsRow.alloc hown _) ⟨wr.heap.size, 0, none⟩ 1 1 [.int .i64 num, .int .i64 ((i : Int) + 1), .string (s.extract (i + 1) m)] (by rfl) (by rfl) (World.news_of_block (cs := #[.int .i64 num, .int .i64 ((i : Int) + 1), .string (s.extract (i + 1) m)]) (t := 38) (fr := (0, 0)) (heap_alloc_new wr _)) (by simp [Value.oneCell']) (by omega) (by unfold maxLen; omega) (by omega) (by simp; omega) (wr.heap.size + 1) (by simp) ?_))
                    intro g cap w2 hown2 hgrow hat hlt2
                    have hbw : Below w.heap.size w w2 := (hB.alloc hzz _).grown hgrow (by simp; omega) (fun x hx => (own_lt hown x hx).1)
                    have hrow2 : OwnR enW 38 3 w2 w.heap.size (.slice (some ⟨g, 0, none⟩) (L.length + 1) cap) (L ++ [⟨num, ((i : Int) + 1), s.extract (i + 1) m⟩]) := by
                      show w2.ownsRow _ _ _ _ _ _
                      rw [List.length_append, List.length_singleton, flat_app, flat_one]
                      exact hown2
                    replace hrow2 := Lib.hid hrow2
                    clear hgrow hown2 hat
                    go_wp2_with fail
                    go_roundw
                    case rel => exact ⟨(i + 1) + 1, some ⟨g, 0, none⟩, cap, by omega, by first | rfl | go_num, by rw [hsu.out]; simp, by rw [hsu.out]; simpa using hrow2.out, hbw⟩
                    case measure => simp [intOf]; omega
        · obtain rfl : j = k := by omega
          replace hL := Lib.hid hL
          replace hsu := Lib.hid hsu
          go_wp2_with fail
          go_ret
          exact ⟨_, rfl, by rw [hL.out]; exact hown, hB⟩
end Go.Proofs.Ythoohbmpbahkgaa
