/- The law on bracketed rows, walked. -/
import Derived.Test.YthoohbmpbahkgaaWrdRowsQ
import Derived.Test.YthoohbmpbahkgaaWrdPart
import Derived.Test.YthoohbmpbahkgaaWrdAllW
import Derived.Test.YthoohbmpbahkgaaWrdShown
import Derived.Test.YthoohbmpbahkgaaWrdNotesW
import Derived.BigQuiet
import Derived.Laws.BitsLemmas
import Derived.Deep.DeepCutAuto
namespace Go.Proofs.Ythoohbmpbahkgaa
open Go.RowKit

theorem and1o (x : Int) (h : 0 ≤ x ∧ x ≤ 255) : bits .and .u8 x 1 = x % 2 := bits_mask .u8 8 (by decide) wraps_u8 1 (by decide) x h.1 (by omega)
set_option maxRecDepth 100000 in
set_option maxHeartbeats 8000000 in
theorem rows_any (va : Value) (rss : List (List ByteArray)) (x o : Int) (w : World) (ha : RowsS w va rss) (hx : 0 ≤ x ∧ x ≤ 65535) (ho : 0 ≤ o ∧ o ≤ 255) :
    Calls Try.prog 11 #[va, .int .u16 x, .int .u8 o] w fun e w' => e = .returned (.bool true) ∧ Below w.heap.size w w' := by
  obtain ⟨i0, hi, hz0, hz1, hz2⟩ := info_parts infoWord
  have cs := shown_any w
  have HA := Lib.hid (fun (W : World) (h : Below w.heap.size w W) => ha.on h)
  obtain ⟨qa, da, rfl, hla, -⟩ := ha
  have hla' : rss.length ≤ 9223372036854775807 := by unfold maxLen at hla; omega
  obtain ⟨N, hN, hN1, hN2⟩ : ∃ N : Nat, (if (12 : Int) < (rss.length : Int) then (12 : Int) else (rss.length : Int)) = (N : Int) ∧ N ≤ rss.length ∧ N ≤ 12 := by
    by_cases h : 12 < rss.length
    · exact ⟨12, by rw [if_pos (by omega)]; rfl, by omega, by omega⟩
    · exact ⟨rss.length, by rw [if_neg (by omega)], Nat.le_refl _, by omega⟩
  clear hla
  go_enter Try.func11, Try.ntmps11
  go_wp2_with fail
  refine cs.mono ?_
  rintro e w1 ⟨rfl, hB1⟩
  clear cs
  obtain ⟨B0, hB0⟩ : ∃ B0, w1.heap.size = B0 := ⟨_, rfl⟩
  have hw1 := hB1.size
  replace hB0 := Lib.hid hB0
  have HR0 : Hid (OwnR enW 37 3 (w1.alloc (.cells #[] 37)) B0 (.slice (some ⟨w1.heap.size, 0, none⟩) 0 0) []) := Lib.hid (World.ownsRow_made (base := B0) (e := 37) (size := 3) w1 #[] 0 (by have := hB0.out; omega) (by unfold maxLen; omega) rfl)
  have hBb : Below B0 w1 (w1.alloc (.cells #[] 37)) := by rw [← hB0.out]; exact balloc1 _ _
  go_wp2_with fail
  go_loopw [8, 10] (fun wv iv wr => ∃ (k : Nat) (pr : Option Addr) (cr : Nat), k ≤ N ∧ iv = .int .i64 k ∧ wv = .slice pr (AW rss x k).length cr ∧ Hid (OwnR enW 37 3 wr B0 (.slice pr (AW rss x k).length cr) (AW rss x k)) ∧ Below B0 w1 wr ∧ ∃ gp, pr = some ⟨gp, 0, none⟩) (fun _ iv _ => (N - intOf iv).toNat)
  case atStart => exact ⟨0, _, _, Nat.zero_le _, rfl, rfl, HR0, hBb, _, rfl⟩
  case round =>
    clear HR0 hBb
    obtain ⟨k, pr, cr, hk, rfl, rfl, HR, hBr, hpr⟩ := hrel
    have hBw : Below w.heap.size w wr := hB1.trans (hBr.mono (by have := hB0.out; omega))
    have hAl := AW_len rss x k
    have hAs := AW_succ rss x k
    have hzq : B0 ≤ wr.heap.size := by have h := hBr.size; have h2 := hB0.out; omega
    have zk0 : (0 : Int) ≤ (k : Int) := by omega
    by_cases hlt : k < N
    · obtain ⟨qa', da', e1, -, hget⟩ := HA.out wr hBw
      simp only [Value.slice.injEq] at e1
      obtain ⟨rfl, -, rfl⟩ := e1
      obtain ⟨a, q, d, rfl, hc, hS⟩ := hget k (by omega)
      clear hget
      obtain ⟨S, hSd⟩ : ∃ S, rss[k]?.getD [] = S := ⟨_, rfl⟩
      rw [hSd] at hc hS hAs
      replace hSd := Lib.hid hSd
      have hTl := rowT_len S
      have hTm := rowT_more S
      obtain ⟨b, hb⟩ : ∃ b, brF S x k = b := ⟨_, rfl⟩
      rw [hb] at hAs
      unfold brF at hb
      obtain ⟨R, hR⟩ : ∃ R, rowT S = R := ⟨_, rfl⟩
      rw [hR] at hAs hTl hb
      simp only [hR] at hTm
      replace hR := Lib.hid hR
      obtain ⟨X, hX⟩ : ∃ X, AW rss x k = X := ⟨_, rfl⟩
      rw [hX] at HR hAl hAs ⊢
      replace hX := Lib.hid hX
      obtain ⟨n, hn⟩ : ∃ n, R.length = n := ⟨_, rfl⟩
      rw [hn] at hTl hTm hb
      have hn6 : (if (6 : Int) < (S.length : Int) then (6 : Int) else (S.length : Int)) = (n : Int) := by
        by_cases h : 6 < S.length
        · rw [if_pos (by omega)]; omega
        · rw [if_neg (by omega)]; omega
      have hnS : n ≤ S.length := by omega
      have hn6' : n ≤ 6 := by omega
      obtain ⟨m1, hm1, hmx⟩ := bits1 x k hx
      rw [hmx] at hb
      have zk1 : (k : Int) < (rss.length : Int) := by omega
      have zkN : (k : Int) < (N : Int) := by omega
      have zk16 : (k : Int) ≤ 16 := by omega
      replace hTm := Lib.hid hTm
      replace hAs := Lib.hid hAs
      replace hn := Lib.hid hn
      replace hTl := Lib.hid hTl
      go_upto_region 8 with fail
      go_cut [12] (fun v wx => v = .bool b ∧ wr = wx)
      case first =>
        by_cases hn1 : n = 1
        · subst hn1
          have e1 : (((1 : Nat) : Int) != 1) = false := rfl
          rw [decide_eq_true rfl] at hb
          simp only [Bool.not_true, Bool.false_or] at hb
          by_cases h1 : m1 = 1
          · subst h1
            go_wp2_with fail
            go_meet
            exact ⟨congrArg Value.bool (by rw [← hb]; rfl), rfl⟩
          · obtain rfl : m1 = 0 := by omega
            go_wp2_with fail
            go_meet
            exact ⟨congrArg Value.bool (by rw [← hb]; rfl), rfl⟩
        · have e1 : ((n : Int) != 1) = true := by simp; omega
          rw [decide_eq_false hn1] at hb
          simp only [Bool.not_false, Bool.true_or] at hb
          replace hb := Lib.hid hb
          go_wp2_with fail
          go_meet
          exact ⟨congrArg Value.bool hb.out, rfl⟩
      case rest =>
      obtain ⟨rfl, rfl⟩ := hcut
      clear hmx hb hn6
      cases b with
      | true =>
        have hR0 : wr.ownsRow B0 37 3 (.slice pr X.length cr) X.length (flat enW X) := HR.out
        go_wp2_with (at_builtin; refine wpList_append_lies _ (by rfl) _ _ 34 (by rfl) B0 37 i0 _ 3 32 Try.underlying34 hi hz0 hz1 hz2 rfl (by omega) (.slice pr X.length cr) X.length (flat enW X) (by rfl) (World.ownsRow.alloc hR0 _) ⟨wr.heap.size, 0, none⟩ 1 1 [.int .i64 0, .int .i64 0, .string ⟨#[91]⟩] (by rfl) (by rfl) (World.news_of_block (cs := #[.int .i64 0, .int .i64 0, .string ⟨#[91]⟩]) (t := 37) (fr := (0, 0)) (heap_alloc_new wr _)) (by simp [Value.oneCell']) (by omega) (by unfold maxLen; omega) (by omega) (by simp; omega) (wr.heap.size + 1) (by simp) ?_)
        intro g4 cap4 w4 hown4 hgrow4 hat4 hlt4
        have hB4 : Below B0 w1 w4 := (hBr.alloc hzq _).grown hgrow4 (by simp; omega) (fun x hx => (own_lt hR0 x hx).1)
        have hz4 : B0 ≤ w4.heap.size := by have h := hB4.size; have h2 := hB0.out; omega
        have hR4 : OwnR enW 37 3 w4 B0 (.slice (some ⟨g4, 0, none⟩) (X.length + 1) cap4) (X ++ [⟨0, 0, ⟨#[91]⟩⟩]) := by
          show w4.ownsRow _ _ _ _ _ _
          rw [List.length_append, List.length_singleton, flat_app, flat_one]
          exact hown4
        replace hR4 := Lib.hid hR4
        clear hown4 hgrow4 hat4
        clear hR0
        have hPre : (X ++ [wO]).length = X.length + 1 := by simp
        obtain ⟨Pr, hPr⟩ : ∃ Pr, (X ++ [wO]) = Pr := ⟨_, rfl⟩
        have HRp : Hid (OwnR enW 37 3 w4 B0 (.slice (some ⟨g4, 0, none⟩) Pr.length cap4) Pr) := Lib.hid (by rw [← hPr]; simpa [wO, wdT] using hR4.out)
        have hPl : Pr.length ≤ 8 * k + 1 := by rw [← hPr]; omega
        have hPl2 : Hid ((Pr ++ R.take 0).length = X.length + 1) := Lib.hid (by rw [← hPr]; simp)
        clear hPre
        replace hPr := Lib.hid hPr
        go_wp2_with fail
        go_loopw [8, 13] (fun wv jv wx => ∃ (j : Nat) (p2 : Option Addr) (c2 : Nat), j ≤ n ∧ jv = .int .i64 j ∧ wv = .slice p2 (Pr ++ R.take j).length c2 ∧ Hid (OwnR enW 37 3 wx B0 (.slice p2 (Pr ++ R.take j).length c2) (Pr ++ R.take j)) ∧ Below B0 w1 wx ∧ ∃ gp, p2 = some ⟨gp, 0, none⟩) (fun _ jv _ => (n - intOf jv).toNat)
        case atStart => exact ⟨0, (some ⟨g4, 0, none⟩), cap4, Nat.zero_le _, rfl, by rw [hPl2.out], by simpa using HRp, hB4, _, rfl⟩
        case round =>
          obtain ⟨j, p2, c2, hj, rfl, rfl, HRj, hBj, hp2⟩ := hrel
          have hzj : B0 ≤ wr.heap.size := by have h := hBj.size; have h2 := hB0.out; omega
          have hYl : (Pr ++ R.take j).length ≤ 110 := by rw [List.length_append, List.length_take]; have := hn.out; omega
          by_cases hjn : j < n
          · have hBw2 : Below w.heap.size w wr := hB1.trans (hBj.mono (by have := hB0.out; omega))
            obtain ⟨qx, dx, e1, -, hget⟩ := HA.out wr hBw2
            simp only [Value.slice.injEq] at e1
            obtain ⟨rfl, -, rfl⟩ := e1
            obtain ⟨a2, q2, d2, e2, hc2, q3, d3, e3, -, hS3⟩ := hget k (by omega)
            clear hget
            obtain rfl : a = a2 := Option.some.inj e2
            rw [hSd.out] at hc2 e3 hS3
            simp only [Value.slice.injEq] at e3
            obtain ⟨rfl, -, rfl⟩ := e3
            obtain ⟨b2, rfl, hc3, hsz⟩ := hS3 j (by omega)
            clear hS3
            have hmore := hTm.out j hjn
            obtain ⟨T, hT⟩ : ∃ T, S[j]?.getD default = T := ⟨_, rfl⟩
            rw [hT] at hc3 hsz hmore
            replace hT := Lib.hid hT
            have cN := fun w => name2_any T w hsz
            obtain ⟨M, hM⟩ : ∃ M, nmP T = M := ⟨_, rfl⟩
            simp only [hM] at cN
            rw [hM] at hmore
            replace hM := Lib.hid hM
            obtain ⟨Y, hY⟩ : ∃ Y, Pr ++ R.take j = Y := ⟨_, rfl⟩
            have hYm : Hid (Pr ++ R.take (j + 1) = Y ++ [⟨0, 0, M⟩]) := Lib.hid (by rw [hmore, ← List.append_assoc, hY]; rfl)
            rw [hY] at HRj hYl ⊢
            replace hY := Lib.hid hY
            have zj0 : (0 : Int) ≤ (j : Int) := by omega
            have zj1 : (j : Int) < (n : Int) := by omega
            have zj2 : (j : Int) < (S.length : Int) := by omega
            have hR0 : wr.ownsRow B0 37 3 (.slice p2 Y.length c2) Y.length (flat enW Y) := HRj.out
            clear hmore hsz HRj
            go_wp2_with fail
            refine (cN _).mono ?_
            rintro e w5 ⟨rfl, rfl⟩
            clear cN
            go_wp2_with (at_builtin; refine wpList_append_lies _ (by rfl) _ _ 34 (by rfl) B0 37 i0 _ 3 32 Try.underlying34 hi hz0 hz1 hz2 rfl (by omega) (.slice p2 Y.length c2) Y.length (flat enW Y) (by rfl) (World.ownsRow.alloc hR0 _) ⟨wr.heap.size, 0, none⟩ 1 1 [.int .i64 0, .int .i64 0, .string M] (by rfl) (by rfl) (World.news_of_block (cs := #[.int .i64 0, .int .i64 0, .string M]) (t := 37) (fr := (0, 0)) (heap_alloc_new wr _)) (by simp [Value.oneCell']) (by omega) (by unfold maxLen; omega) (by omega) (by simp; omega) (wr.heap.size + 1) (by simp) ?_)
            intro g5 cap5 w5 hown5 hgrow5 hat5 hlt5
            have hB5 : Below B0 w1 w5 := (hBj.alloc hzj _).grown hgrow5 (by simp; omega) (fun x hx => (own_lt hR0 x hx).1)
            have hz5 : B0 ≤ w5.heap.size := by have h := hB5.size; have h2 := hB0.out; omega
            have hR5 : OwnR enW 37 3 w5 B0 (.slice (some ⟨g5, 0, none⟩) (Y.length + 1) cap5) (Y ++ [⟨0, 0, M⟩]) := by
              show w5.ownsRow _ _ _ _ _ _
              rw [List.length_append, List.length_singleton, flat_app, flat_one]
              exact hown5
            replace hR5 := Lib.hid hR5
            clear hown5 hgrow5 hat5
            clear hR0
            go_wp2_with fail
            go_roundw
            case rel => exact ⟨j + 1, some ⟨g5, 0, none⟩, cap5, by omega, by go_num, by rw [hYm.out]; simp, by rw [hYm.out]; simpa using hR5, hB5, _, rfl⟩
            case measure => simp [intOf]; omega
          · obtain rfl : j = n := by omega
            rw [show R.take j = R by rw [← hn.out, List.take_length]] at HRj hYl ⊢
            obtain ⟨Y, hY⟩ : ∃ Y, Pr ++ R = Y := ⟨_, rfl⟩
            have hAk : Hid (AW rss x (k + 1) = Y ++ [⟨0, 0, ⟨#[93]⟩⟩]) := Lib.hid (by rw [hAs.out, ← hY, ← hPr.out]; simp [rowW, wC, wdT])
            rw [hY] at HRj hYl ⊢
            replace hY := Lib.hid hY
            have hR0 : wr.ownsRow B0 37 3 (.slice p2 Y.length c2) Y.length (flat enW Y) := HRj.out
            clear HRj
            go_wp2_with (at_builtin; refine wpList_append_lies _ (by rfl) _ _ 34 (by rfl) B0 37 i0 _ 3 32 Try.underlying34 hi hz0 hz1 hz2 rfl (by omega) (.slice p2 Y.length c2) Y.length (flat enW Y) (by rfl) (World.ownsRow.alloc hR0 _) ⟨wr.heap.size, 0, none⟩ 1 1 [.int .i64 0, .int .i64 0, .string ⟨#[93]⟩] (by rfl) (by rfl) (World.news_of_block (cs := #[.int .i64 0, .int .i64 0, .string ⟨#[93]⟩]) (t := 37) (fr := (0, 0)) (heap_alloc_new wr _)) (by simp [Value.oneCell']) (by omega) (by unfold maxLen; omega) (by omega) (by simp; omega) (wr.heap.size + 1) (by simp) ?_)
            intro g6 cap6 w6 hown6 hgrow6 hat6 hlt6
            have hB6 : Below B0 w1 w6 := (hBj.alloc hzj _).grown hgrow6 (by simp; omega) (fun x hx => (own_lt hR0 x hx).1)
            have hz6 : B0 ≤ w6.heap.size := by have h := hB6.size; have h2 := hB0.out; omega
            have hR6 : OwnR enW 37 3 w6 B0 (.slice (some ⟨g6, 0, none⟩) (Y.length + 1) cap6) (Y ++ [⟨0, 0, ⟨#[93]⟩⟩]) := by
              show w6.ownsRow _ _ _ _ _ _
              rw [List.length_append, List.length_singleton, flat_app, flat_one]
              exact hown6
            replace hR6 := Lib.hid hR6
            clear hown6 hgrow6 hat6
            clear hR0
            go_wp2_with fail
            go_roundw
            case rel => exact ⟨k + 1, some ⟨g6, 0, none⟩, cap6, by omega, by go_num, by rw [hAk.out]; simp, by rw [hAk.out]; simpa using hR6, hB6, _, rfl⟩
            case measure => simp [intOf]; omega
      | false =>
        have hPre : X.length = X.length := rfl
        obtain ⟨Pr, hPr⟩ : ∃ Pr, X = Pr := ⟨_, rfl⟩
        have HRp : Hid (OwnR enW 37 3 wr B0 (.slice pr Pr.length cr) Pr) := Lib.hid (by rw [← hPr]; simpa [wO, wdT] using HR.out)
        have hPl : Pr.length ≤ 8 * k + 1 := by rw [← hPr]; omega
        have hPl2 : Hid ((Pr ++ R.take 0).length = X.length) := Lib.hid (by rw [← hPr]; simp)
        clear hPre
        replace hPr := Lib.hid hPr
        go_wp2_with fail
        go_loopw [8, 13] (fun wv jv wx => ∃ (j : Nat) (p2 : Option Addr) (c2 : Nat), j ≤ n ∧ jv = .int .i64 j ∧ wv = .slice p2 (Pr ++ R.take j).length c2 ∧ Hid (OwnR enW 37 3 wx B0 (.slice p2 (Pr ++ R.take j).length c2) (Pr ++ R.take j)) ∧ Below B0 w1 wx ∧ ∃ gp, p2 = some ⟨gp, 0, none⟩) (fun _ jv _ => (n - intOf jv).toNat)
        case atStart => exact ⟨0, pr, cr, Nat.zero_le _, rfl, by rw [hPl2.out], by simpa using HRp, hBr, hpr⟩
        case round =>
          obtain ⟨j, p2, c2, hj, rfl, rfl, HRj, hBj, hp2⟩ := hrel
          have hzj : B0 ≤ wr.heap.size := by have h := hBj.size; have h2 := hB0.out; omega
          have hYl : (Pr ++ R.take j).length ≤ 110 := by rw [List.length_append, List.length_take]; have := hn.out; omega
          by_cases hjn : j < n
          · have hBw2 : Below w.heap.size w wr := hB1.trans (hBj.mono (by have := hB0.out; omega))
            obtain ⟨qx, dx, e1, -, hget⟩ := HA.out wr hBw2
            simp only [Value.slice.injEq] at e1
            obtain ⟨rfl, -, rfl⟩ := e1
            obtain ⟨a2, q2, d2, e2, hc2, q3, d3, e3, -, hS3⟩ := hget k (by omega)
            clear hget
            obtain rfl : a = a2 := Option.some.inj e2
            rw [hSd.out] at hc2 e3 hS3
            simp only [Value.slice.injEq] at e3
            obtain ⟨rfl, -, rfl⟩ := e3
            obtain ⟨b2, rfl, hc3, hsz⟩ := hS3 j (by omega)
            clear hS3
            have hmore := hTm.out j hjn
            obtain ⟨T, hT⟩ : ∃ T, S[j]?.getD default = T := ⟨_, rfl⟩
            rw [hT] at hc3 hsz hmore
            replace hT := Lib.hid hT
            have cN := fun w => name2_any T w hsz
            obtain ⟨M, hM⟩ : ∃ M, nmP T = M := ⟨_, rfl⟩
            simp only [hM] at cN
            rw [hM] at hmore
            replace hM := Lib.hid hM
            obtain ⟨Y, hY⟩ : ∃ Y, Pr ++ R.take j = Y := ⟨_, rfl⟩
            have hYm : Hid (Pr ++ R.take (j + 1) = Y ++ [⟨0, 0, M⟩]) := Lib.hid (by rw [hmore, ← List.append_assoc, hY]; rfl)
            rw [hY] at HRj hYl ⊢
            replace hY := Lib.hid hY
            have zj0 : (0 : Int) ≤ (j : Int) := by omega
            have zj1 : (j : Int) < (n : Int) := by omega
            have zj2 : (j : Int) < (S.length : Int) := by omega
            have hR0 : wr.ownsRow B0 37 3 (.slice p2 Y.length c2) Y.length (flat enW Y) := HRj.out
            clear hmore hsz HRj
            go_wp2_with fail
            refine (cN _).mono ?_
            rintro e w5 ⟨rfl, rfl⟩
            clear cN
            go_wp2_with (at_builtin; refine wpList_append_lies _ (by rfl) _ _ 34 (by rfl) B0 37 i0 _ 3 32 Try.underlying34 hi hz0 hz1 hz2 rfl (by omega) (.slice p2 Y.length c2) Y.length (flat enW Y) (by rfl) (World.ownsRow.alloc hR0 _) ⟨wr.heap.size, 0, none⟩ 1 1 [.int .i64 0, .int .i64 0, .string M] (by rfl) (by rfl) (World.news_of_block (cs := #[.int .i64 0, .int .i64 0, .string M]) (t := 37) (fr := (0, 0)) (heap_alloc_new wr _)) (by simp [Value.oneCell']) (by omega) (by unfold maxLen; omega) (by omega) (by simp; omega) (wr.heap.size + 1) (by simp) ?_)
            intro g5 cap5 w5 hown5 hgrow5 hat5 hlt5
            have hB5 : Below B0 w1 w5 := (hBj.alloc hzj _).grown hgrow5 (by simp; omega) (fun x hx => (own_lt hR0 x hx).1)
            have hz5 : B0 ≤ w5.heap.size := by have h := hB5.size; have h2 := hB0.out; omega
            have hR5 : OwnR enW 37 3 w5 B0 (.slice (some ⟨g5, 0, none⟩) (Y.length + 1) cap5) (Y ++ [⟨0, 0, M⟩]) := by
              show w5.ownsRow _ _ _ _ _ _
              rw [List.length_append, List.length_singleton, flat_app, flat_one]
              exact hown5
            replace hR5 := Lib.hid hR5
            clear hown5 hgrow5 hat5
            clear hR0
            go_wp2_with fail
            go_roundw
            case rel => exact ⟨j + 1, some ⟨g5, 0, none⟩, cap5, by omega, by go_num, by rw [hYm.out]; simp, by rw [hYm.out]; simpa using hR5, hB5, _, rfl⟩
            case measure => simp [intOf]; omega
          · obtain rfl : j = n := by omega
            rw [show R.take j = R by rw [← hn.out, List.take_length]] at HRj hYl ⊢
            obtain ⟨Y, hY⟩ : ∃ Y, Pr ++ R = Y := ⟨_, rfl⟩
            have hAk : Hid (AW rss x (k + 1) = Y) := Lib.hid (by rw [hAs.out, ← hY, ← hPr.out]; simp [rowW])
            rw [hY] at HRj hYl ⊢
            replace hY := Lib.hid hY
            go_wp2_with fail
            go_roundw
            case rel => exact ⟨k + 1, p2, c2, by omega, by go_num, by rw [hAk.out], by rw [hAk.out]; exact HRj, hBj, hp2⟩
            case measure => simp [intOf]; omega
    · obtain rfl : k = N := by omega
      have cS := sets_any _ (AW rss x k) wr HR.out.at (by omega)
      rw [AW_sets] at cS
      have hLg : ∀ i, i < k → ((List.range k).map fun i => rowT (rss[i]?.getD []))[i]?.getD [] = rowT (rss[i]?.getD []) := fun i hi => by simp [hi]
      have hLl : ((List.range k).map fun i => rowT (rss[i]?.getD [])).length = k := by simp
      obtain ⟨L, hL⟩ : ∃ L, ((List.range k).map fun i => rowT (rss[i]?.getD [])) = L := ⟨_, rfl⟩
      rw [hL] at cS hLg hLl
      replace hL := Lib.hid hL
      replace hLg := Lib.hid hLg
      have hOdd := Lib.hid (AW_odd rss x k)
      obtain ⟨X, hX⟩ : ∃ X, AW rss x k = X := ⟨_, rfl⟩
      rw [hX] at HR hAl cS hOdd ⊢
      replace hX := Lib.hid hX
      clear hAs
      have zkN : ¬ (k : Int) < (k : Int) := by omega
      have HRx := Lib.hid (fun (W : World) (h : Below wr.heap.size wr W) => own_on HR.out h (Nat.le_refl _))
      clear HR
      go_wp2_with fail
      refine cS.mono ?_
      rintro e w2 ⟨v, rfl, hRW, hB2⟩
      clear cS
      obtain ⟨pl, cl, ev⟩ := hRW.len
      rw [hLl] at ev
      subst ev
      have hBB := hRW.at
      have HB := Lib.hid (fun (W : World) (h : Below w2.heap.size w2 W) => hBB.on h)
      clear hRW hBB
      have hw2 := hB2.size
      have hB12 : Below w.heap.size w w2 := sames hBw hB2
      have hX2 := Lib.hid (fun (W : World) (h : Below w2.heap.size w2 W) => HRx.out W (sames hB2 h))
      clear HRx
      go_wp2_with fail
      go_loopw [16] (fun iv wx => ∃ i : Nat, i ≤ k ∧ iv = .int .i64 i ∧ Below w2.heap.size w2 wx) (fun iv _ => (k - intOf iv).toNat)
      case atStart => exact ⟨0, by omega, rfl, Below.refl _ _⟩
      case round =>
        obtain ⟨i, hi', rfl, hBo⟩ := hrel
        obtain ⟨wo, hwo⟩ : ∃ x, x = wr := ⟨_, rfl⟩
        subst hwo
        by_cases hlt2 : i < k
        · have hBwo : Below w.heap.size w wo := sames hB12 hBo
          obtain ⟨b, qb, db, rfl, hb1, hb2⟩ := (HB.out wo hBo).get i (by omega)
          rw [hLg.out i hlt2] at hb1 hb2
          obtain ⟨qx, dx, e1, -, hget⟩ := HA.out wo hBwo
          simp only [Value.slice.injEq] at e1
          obtain ⟨rfl, -, rfl⟩ := e1
          obtain ⟨a, q2, d2, rfl, hc2, q3, d3, e3, -, hS3⟩ := hget i (by omega)
          clear hget
          simp only [Value.slice.injEq] at e3
          obtain ⟨rfl, -, rfl⟩ := e3
          obtain ⟨S, hSd⟩ : ∃ S, rss[i]?.getD [] = S := ⟨_, rfl⟩
          rw [hSd] at hb1 hb2 hc2 hS3
          replace hSd := Lib.hid hSd
          have hTl := rowT_len S
          have hTg := rowT_get S
          obtain ⟨R, hR⟩ : ∃ R, rowT S = R := ⟨_, rfl⟩
          rw [hR] at hb1 hb2 hTl
          simp only [hR] at hTg
          replace hR := Lib.hid hR
          obtain ⟨n, hn⟩ : ∃ n, R.length = n := ⟨_, rfl⟩
          rw [hn] at hTl hTg hb1 hb2
          have hn6 : (if (6 : Int) < (S.length : Int) then (6 : Int) else (S.length : Int)) = (n : Int) := by
            by_cases h : 6 < S.length
            · rw [if_pos (by omega)]; omega
            · rw [if_neg (by omega)]; omega
          have hnS : n ≤ S.length := by omega
          have zi0 : (0 : Int) ≤ (i : Int) := by omega
          have zi1 : (i : Int) < (k : Int) := by omega
          have zi2 : (i : Int) < (rss.length : Int) := by omega
          have la := World.block_lt_of_cell? wo _ hc2
          have lb := World.block_lt_of_cell? wo _ hb1
          have HC2 := Lib.hid (fun (W : World) (h : Below wo.heap.size wo W) => (h.cell (p := a.add i) la).trans hc2)
          have HB1 := Lib.hid (fun (W : World) (h : Below wo.heap.size wo W) => (h.cell (p := b.add i) lb).trans hb1)
          have HB2 := Lib.hid (fun (W : World) (h : Below wo.heap.size wo W) => hb2.on h)
          have HS3 := Lib.hid (fun (W : World) (h : Below wo.heap.size wo W) (j : Nat) (hj : j < S.length) => show ∃ c : Addr, q2 = some c ∧ W.cell? (c.add j) = some (.string (S[j]?.getD default)) ∧ (S[j]?.getD default).size ≤ maxLen from by
            obtain ⟨c, c1, c2, c3⟩ := hS3 j hj
            exact ⟨c, c1, (h.cell (p := c.add j) (World.block_lt_of_cell? wo _ c2)).trans c2, c3⟩)
          replace hTg := Lib.hid hTg
          replace hn := Lib.hid hn
          replace hTl := Lib.hid hTl
          clear hb2 hS3 la lb
          go_wp2_with fail
          go_quiet (fail)
          go_wp2_with fail
          clear hb1 hc2
          go_loopw [17] (fun jv wx => ∃ j : Nat, j ≤ n ∧ jv = .int .i64 j ∧ Below wo.heap.size wo wx) (fun jv _ => (n - intOf jv).toNat)
          case atStart => exact ⟨0, by omega, rfl, below_drewN (Below.refl _ _) _⟩
          case round =>
            obtain ⟨j, hj, rfl, hBi⟩ := hrel
            have hb1 := HB1.out wr hBi
            have hc2 := HC2.out wr hBi
            by_cases hjn : j < n
            · obtain ⟨y, rfl, y0, y1, y2⟩ := (HB2.out wr hBi).word j (by have := hn.out; omega)
              rw [hTg.out j hjn] at y2
              obtain ⟨c, rfl, hc3, hsz⟩ := HS3.out wr hBi j (by omega)
              obtain ⟨T, hT⟩ : ∃ T, S[j]?.getD default = T := ⟨_, rfl⟩
              rw [hT] at hc3 hsz y2
              replace hT := Lib.hid hT
              have cN := fun w => name2_any T w hsz
              obtain ⟨M, hM⟩ : ∃ M, nmP T = M := ⟨_, rfl⟩
              simp only [hM] at cN
              rw [hM] at y2
              replace hM := Lib.hid hM
              have HN := Lib.hid cN
              have zj0 : (0 : Int) ≤ (j : Int) := by omega
              have zj1 : (j : Int) < (n : Int) := by omega
              have zj2 : (j : Int) < (S.length : Int) := by omega
              clear cN hsz y0 y1
              go_wp2_with fail
              go_quiet ((go_at_call 26; exact Calls.quiet_of_same ((HN.out _).mono fun e w' h => ⟨h.1, h.2.symm⟩)))
              go_wp2_with fail
              go_roundw
              case rel => exact ⟨j + 1, by omega, by go_num, below_drewN hBi _⟩
              case measure => simp [intOf]; omega
            · obtain rfl : j = n := by omega
              have hBf := hBo.trans (hBi.mono hBo.size)
              go_wp2_with fail
              go_roundw
              case rel => exact ⟨i + 1, by omega, by go_num, hBf⟩
              case measure => simp [intOf]; omega
        · obtain rfl : i = k := by omega
          have hBwo : Below w.heap.size w wo := sames hB12 hBo
          have hXo := hX2.out wo hBo
          obtain ⟨m2, hm2, hmo⟩ : ∃ m2 : Nat, m2 ≤ 1 ∧ bits .and .u8 o 1 = (m2 : Int) := ⟨(o % 2).toNat, by omega, by rw [and1o o ho]; omega⟩
          obtain ⟨at', hat, hat2⟩ : ∃ at' : Nat, (o / 2).tmod ((X.length : Int) + 1) = (at' : Int) ∧ at' ≤ X.length := by
            have h0 : 0 ≤ o / 2 := by omega
            have h1 : (0 : Int) < (X.length : Int) + 1 := by omega
            have h2 := Int.emod_nonneg (o / 2) (show (X.length : Int) + 1 ≠ 0 by omega)
            have h3 := Int.emod_lt_of_pos (o / 2) h1
            exact ⟨((o / 2) % ((X.length : Int) + 1)).toNat, by rw [Int.tmod_eq_emod_of_nonneg h0]; omega, by omega⟩
          obtain ⟨z, hz⟩ : ∃ z : ByteArray, (if m2 = 1 then (⟨#[93]⟩ : ByteArray) else ⟨#[91]⟩) = z := ⟨_, rfl⟩
          have hzz : Hid ((⟨0, 0, z⟩ : Wd) = wO ∨ (⟨0, 0, z⟩ : Wd) = wC) := Lib.hid (by rw [← hz]; split; exact .inr rfl; exact .inl rfl)
          replace hz := Lib.hid hz
          have zX : ((X.length : Int) + 1 == 0) = false := by simp; omega
          clear HA HB hB12
          replace hXo := Lib.hid hXo
          go_upto_if 144 with fail
          go_cut [19] (fun v wx => v = .string z ∧ wo = wx)
          case first =>
            by_cases h1 : m2 = 1
            · subst h1
              obtain rfl : (⟨#[93]⟩ : ByteArray) = z := hz.out
              go_wp2_with fail
              go_meet
              exact ⟨rfl, rfl⟩
            · obtain rfl : m2 = 0 := by omega
              obtain rfl : (⟨#[91]⟩ : ByteArray) = z := hz.out
              go_wp2_with fail
              go_meet
              exact ⟨rfl, rfl⟩
          case rest =>
          obtain ⟨rfl, rfl⟩ := hcut
          have hXr := hXo.out
          obtain ⟨G, rfl⟩ := hpr
          have hGb := own_lt hXr G rfl
          have hXc : X.length ≤ cr := by
            rcases own_form hXr with ⟨e1, -⟩ | ⟨g, c', e1, -, -, e2, -⟩
            · simp at e1
            · simp only [Value.slice.injEq] at e1
              omega
          have za0 : (0 : Int) ≤ (at' : Int) := by omega
          have za1 : (at' : Int) ≤ (X.length : Int) := by omega
          have za2 : (at' : Int) ≤ (cr : Int) := by omega
          have za3 : at' ≤ cr := by omega
          clear hmo hat zX hm2 hz
          go_wp2_with fail
          refine wp_region_D (S := fun _ => True) (L := [1, 2, 3, 5, 6, 9, 10, 11]) (by kernel_rfl) trivial (fun hD => ?_)
          refine wpAnyD_take (i := 1) (oi := _) (v := .slice (some ⟨G, 0, none⟩) X.length cr) rfl (by kernel_rfl) (by kernel_rfl) (by kernel_rfl) (by kernel_rfl) (fun _ _ _ h => h) (Or.inl ⟨by rfl, fun w' hS => by go_simp⟩) trivial ?_
          try simp only [Act.put, List.getElem_toArray, List.getElem_cons_succ, List.getElem_cons_zero, List.setIfInBounds_toArray, List.set_cons_zero, List.set_cons_succ]
          refine wpAnyD_take (i := 2) (oi := _) (v := .int .i64 (at' : Int)) rfl (by kernel_rfl) (by kernel_rfl) (by kernel_rfl) (by kernel_rfl) (fun _ _ _ h => h) (Or.inl ⟨by rfl, fun w' hS => by go_simp⟩) trivial ?_
          try simp only [Act.put, List.getElem_toArray, List.getElem_cons_succ, List.getElem_cons_zero, List.setIfInBounds_toArray, List.set_cons_zero, List.set_cons_succ]
          refine wpAnyD_take (i := 3) (oi := _) (v := .slice (some ⟨G, 0, none⟩) at' cr) rfl (by kernel_rfl) (by kernel_rfl) (by kernel_rfl) (by kernel_rfl) (fun _ _ _ h => h) (Or.inl ⟨by rfl, fun w' hS => by go_simp⟩) trivial ?_
          try simp only [Act.put, List.getElem_toArray, List.getElem_cons_succ, List.getElem_cons_zero, List.setIfInBounds_toArray, List.set_cons_zero, List.set_cons_succ]
          refine wpAnyD_take (i := 5) (oi := _) (v := .string z) rfl (by kernel_rfl) (by kernel_rfl) (by kernel_rfl) (by kernel_rfl) (fun _ _ _ h => h) (Or.inl ⟨by rfl, fun w' hS => by go_simp⟩) trivial ?_
          try simp only [Act.put, List.getElem_toArray, List.getElem_cons_succ, List.getElem_cons_zero, List.setIfInBounds_toArray, List.set_cons_zero, List.set_cons_succ]
          refine wpAnyD_take (i := 6) (oi := _) (v := .agg #[.int .i64 0, .int .i64 0, .string z]) rfl (by kernel_rfl) (by kernel_rfl) (by kernel_rfl) (by kernel_rfl) (fun _ _ _ h => h) (Or.inl ⟨by rfl, fun w' hS => by go_simp⟩) trivial ?_
          try simp only [Act.put, List.getElem_toArray, List.getElem_cons_succ, List.getElem_cons_zero, List.setIfInBounds_toArray, List.set_cons_zero, List.set_cons_succ]
          refine wpAnyD_take (i := 9) (oi := _) (v := .slice (some ⟨G, 0, none⟩) X.length cr) rfl (by kernel_rfl) (by kernel_rfl) (by kernel_rfl) (by kernel_rfl) (fun _ _ _ h => h) (Or.inl ⟨by rfl, fun w' hS => by go_simp⟩) trivial ?_
          try simp only [Act.put, List.getElem_toArray, List.getElem_cons_succ, List.getElem_cons_zero, List.setIfInBounds_toArray, List.set_cons_zero, List.set_cons_succ]
          refine wpAnyD_take (i := 10) (oi := _) (v := .int .i64 (at' : Int)) rfl (by kernel_rfl) (by kernel_rfl) (by kernel_rfl) (by kernel_rfl) (fun _ _ _ h => h) (Or.inl ⟨by rfl, fun w' hS => by go_simp⟩) trivial ?_
          try simp only [Act.put, List.getElem_toArray, List.getElem_cons_succ, List.getElem_cons_zero, List.setIfInBounds_toArray, List.set_cons_zero, List.set_cons_succ]
          obtain ⟨f, hf⟩ : ∃ f : Nat, (if cr = at' then 0 else at' * 3) = f := ⟨_, rfl⟩
          refine wpAnyD_take (i := 11) (oi := _) (v := .slice (some ⟨G, f, none⟩) (X.length - at') (cr - at')) rfl (by kernel_rfl) (by kernel_rfl) (by kernel_rfl) (by kernel_rfl) (fun _ _ _ h => h) (Or.inl ⟨by rfl, fun w' hS => by go_simp; rw [← hf]; split <;> rfl⟩) trivial ?_
          try simp only [Act.put, List.getElem_toArray, List.getElem_cons_succ, List.getElem_cons_zero, List.setIfInBounds_toArray, List.set_cons_zero, List.set_cons_succ]
          have hBd : Below wo.heap.size wo wo.drew := below_drewN (Below.refl _ _) 1
          have hodd := hOdd.out at' ⟨0, 0, z⟩ hzz.out
          clear hD
          have hBwd : Below w.heap.size w wo.drew := below_drewN hBwo 1
          have hXd : OwnR enW 37 3 wo.drew B0 (.slice (some ⟨G, 0, none⟩) X.length cr) X := own_on hXr (below_drewN (Below.refl _ _) 1) (Nat.le_refl _)
          obtain ⟨wd, hwd⟩ : ∃ W, wo.drew = W := ⟨_, rfl⟩
          rw [hwd] at hBwd hXd ⊢
          clear hwd hXr hBd hGb
          have hBd : Below wd.heap.size wd wd := Below.refl _ _
          have zl : X.length ≤ 96 := by omega
          refine wpAnyD_two (i := 0) (j := 7) (oi := _) (oj := _) (by kernel_rfl) rfl rfl (fun K hK => ?_) (fun K hK => ?_)
          · go_simp
            refine hK.out _ _ (fun _ => trivial) ?_
            clear hK K
            try simp only [Act.put, List.getElem_toArray, List.getElem_cons_succ, List.getElem_cons_zero, List.setIfInBounds_toArray, List.set_cons_zero, List.set_cons_succ]
            have hBE : Below wd.heap.size wd (wd.alloc (.cells #[] 37)) := hBd.alloc hBd.size _
            have hE : (wd.alloc (.cells #[] 37)).ownsRow wd.heap.size 37 3 (.slice (some ⟨wd.heap.size, 0, none⟩) 0 0) 0 [] := World.ownsRow_made (base := wd.heap.size) (e := 37) (size := 3) wd #[] 0 (by simp) (by unfold maxLen; omega) rfl
            obtain ⟨V1, hV1⟩ : ∃ V, wd.alloc (.cells #[] 37) = V := ⟨_, rfl⟩
            rw [hV1] at hE hBE ⊢
            have sV1 : V1.heap.size = wd.heap.size + 1 := by rw [← hV1]; simp
            clear hV1
            refine wpAnyD_two (i := 4) (j := 7) (oi := _) (oj := _) (by kernel_rfl) rfl rfl (fun K hK => ?_) (fun K hK => ?_)
            · refine step_append_part _ (by rfl) _ _ 34 (by rfl) wd.heap.size 37 i0 _ 3 32 Try.underlying34 hi hz0 hz1 hz2 rfl (by omega) wd.heap.size 0 (0) ([]) (by rfl) hE ⟨G, 0, none⟩ (at') (cr) (flat enW (X.take at')) (by rfl) (by rw [flat_len enW 3 enW_len, List.length_take, Nat.min_eq_left hat2]) (part_take (own_on hXd hBE (Nat.le_refl _)) at') (enW_cells _) (by unfold maxLen; omega) (by omega) hBE.size _ rfl ?_
              intro g4 cap4 W4 hown4 hgrow4 hat4 hlt4
              have hB4 : Below wd.heap.size wd W4 := hBE.grown hgrow4 hBE.size (fun x hx => by simp only [Option.some.injEq] at hx; subst hx; exact (own_lt hE _ rfl).1)
              refine hK.out _ _ (fun _ => trivial) ?_
              clear hK K
              try simp only [Act.put, List.getElem_toArray, List.getElem_cons_succ, List.getElem_cons_zero, List.setIfInBounds_toArray, List.set_cons_zero, List.set_cons_succ]
              refine wpAnyD_one (i := 7) (o := _) (by kernel_rfl) rfl (fun K hK => ?_)
              go_simp
              refine hK.out _ _ (fun _ => trivial) ?_
              clear hK K
              try simp only [Act.put, List.getElem_toArray, List.getElem_cons_succ, List.getElem_cons_zero, List.setIfInBounds_toArray, List.set_cons_zero, List.set_cons_succ]
              have hBS : Below wd.heap.size wd (W4.alloc (.cells #[.int .i64 0, .int .i64 0, .string z] 37)) := hB4.alloc hB4.size _
              have hSg : (W4.alloc (.cells #[.int .i64 0, .int .i64 0, .string z] 37)).heap[W4.heap.size]? = some (.cells #[.int .i64 0, .int .i64 0, .string z] 37 (0, 0)) := heap_alloc_new W4 _
              have hO4 := World.ownsRow.alloc hown4 (.cells #[.int .i64 0, .int .i64 0, .string z] 37)
              obtain ⟨V2, hV2⟩ : ∃ V, W4.alloc (.cells #[.int .i64 0, .int .i64 0, .string z] 37) = V := ⟨_, rfl⟩
              rw [hV2] at hSg hO4 hBS ⊢
              clear hV2
              rw [Nat.zero_add] at hO4
              refine wpAnyD_one (i := 8) (o := _) (by kernel_rfl) rfl (fun K hK => ?_)
              refine step_append_part _ (by rfl) _ _ 34 (by rfl) wd.heap.size 37 i0 _ 3 32 Try.underlying34 hi hz0 hz1 hz2 rfl (by omega) g4 cap4 (at') ([] ++ flat enW (X.take at')) (by rfl) hO4 ⟨W4.heap.size, 0, none⟩ (1) (1) ([.int .i64 0, .int .i64 0, .string z]) (by rfl) (by rfl) (World.news_of_block (cs := #[.int .i64 0, .int .i64 0, .string z]) (t := 37) (fr := (0, 0)) hSg) (by simp [Value.oneCell']) (by unfold maxLen; omega) (by omega) hBS.size _ rfl ?_
              intro g8 cap8 W8 hown8 hgrow8 hat8 hlt8
              have hB8 : Below wd.heap.size wd W8 := hBS.grown hgrow8 hBS.size (fun x hx => by simp only [Option.some.injEq] at hx; subst hx; exact (own_lt hO4 _ rfl).1)
              refine hK.out _ _ (fun _ => trivial) ?_
              clear hK K
              try simp only [Act.put, List.getElem_toArray, List.getElem_cons_succ, List.getElem_cons_zero, List.setIfInBounds_toArray, List.set_cons_zero, List.set_cons_succ]
              refine wpAnyD_one (i := 12) (o := _) (by kernel_rfl) rfl (fun K hK => ?_)
              refine step_append_part _ (by rfl) _ _ 34 (by rfl) wd.heap.size 37 i0 _ 3 32 Try.underlying34 hi hz0 hz1 hz2 rfl (by omega) g8 cap8 (at' + 1) (([] ++ flat enW (X.take at')) ++ [.int .i64 0, .int .i64 0, .string z]) (by rfl) hown8 ⟨G, f, none⟩ (X.length - at') (cr - at') (flat enW (X.drop at')) (by rfl) (by rw [flat_len enW 3 enW_len, List.length_drop]) (part_drop2 (own_on hXd hB8 (Nat.le_refl _)) hat2 hXc hf) (enW_cells _) (by unfold maxLen; omega) (by omega) hB8.size _ rfl ?_
              intro g12 cap12 W12 hown12 hgrow12 hat12 hlt12
              have hB12 : Below wd.heap.size wd W12 := hB8.grown hgrow12 hB8.size (fun x hx => by simp only [Option.some.injEq] at hx; subst hx; exact (own_lt hown8 _ rfl).1)
              refine hK.out _ _ (fun _ => trivial) ?_
              clear hK K
              try simp only [Act.put, List.getElem_toArray, List.getElem_cons_succ, List.getElem_cons_zero, List.setIfInBounds_toArray, List.set_cons_zero, List.set_cons_succ]
              refine wpAnyD_one (i := 13) (o := _) (by kernel_rfl) rfl (fun K hK => ?_)
              go_simp
              refine hK.out _ _ (fun _ => trivial) ?_
              clear hK K
              try simp only [Act.put, List.getElem_toArray, List.getElem_cons_succ, List.getElem_cons_zero, List.setIfInBounds_toArray, List.set_cons_zero, List.set_cons_succ]
              refine wpAnyD_done (by kernel_rfl) ?_ _
              have hRf : OwnR enW 37 3 W12 wd.heap.size (.slice (some ⟨g12, 0, none⟩) (at' + 1 + (X.length - at')) cap12) (X.take at' ++ [⟨0, 0, z⟩] ++ X.drop at') := by
                show W12.ownsRow _ _ _ _ _ _
                rw [show (X.take at' ++ [(⟨0, 0, z⟩ : Wd)] ++ X.drop at').length = at' + 1 + (X.length - at') by simp; omega, flat_app, flat_app, flat_one]
                rw [List.nil_append] at hown12
                exact hown12
              have hll : (X.take at' ++ [(⟨0, 0, z⟩ : Wd)] ++ X.drop at').length ≤ 100000 := by simp; omega
              have cS := sets_any _ _ W12 hRf.at hll
              rw [hodd] at cS
              obtain ⟨NN, hNN⟩ : ∃ NN, at' + 1 + (X.length - at') = NN := ⟨_, rfl⟩
              rw [hNN] at cS ⊢
              have hBf := sames hBwd hB12
              clear hRf hll hNN hown12 hgrow12 hat12 hlt12 hown8 hgrow8 hat8 hlt8 hB8 hB12 hodd hf hXd hXc hat2 za0 za1 za2 za3 zl hBE hBS
              go_wp2_with fail
              refine cS.mono ?_
              rintro e w6 ⟨rfl, hB6⟩
              go_wp2_with fail
              go_ret
              exact ⟨rfl, sames hBf hB6⟩
            · go_simp
              refine hK.out _ _ (fun _ => trivial) ?_
              clear hK K
              try simp only [Act.put, List.getElem_toArray, List.getElem_cons_succ, List.getElem_cons_zero, List.setIfInBounds_toArray, List.set_cons_zero, List.set_cons_succ]
              have hBS : Below wd.heap.size wd (V1.alloc (.cells #[.int .i64 0, .int .i64 0, .string z] 37)) := hBE.alloc hBE.size _
              have hSg : (V1.alloc (.cells #[.int .i64 0, .int .i64 0, .string z] 37)).heap[wd.heap.size + 1]? = some (.cells #[.int .i64 0, .int .i64 0, .string z] 37 (0, 0)) := by rw [← sV1]; exact heap_alloc_new V1 _
              have hE2 := World.ownsRow.alloc hE (.cells #[.int .i64 0, .int .i64 0, .string z] 37)
              obtain ⟨V2, hV2⟩ : ∃ V, V1.alloc (.cells #[.int .i64 0, .int .i64 0, .string z] 37) = V := ⟨_, rfl⟩
              rw [hV2] at hSg hE2 hBS ⊢
              have sV2 : V2.heap.size = wd.heap.size + 2 := by rw [← hV2]; simp; omega
              clear hV2
              refine wpAnyD_one (i := 4) (o := _) (by kernel_rfl) rfl (fun K hK => ?_)
              refine step_append_part _ (by rfl) _ _ 34 (by rfl) wd.heap.size 37 i0 _ 3 32 Try.underlying34 hi hz0 hz1 hz2 rfl (by omega) wd.heap.size 0 (0) ([]) (by rfl) hE2 ⟨G, 0, none⟩ (at') (cr) (flat enW (X.take at')) (by rfl) (by rw [flat_len enW 3 enW_len, List.length_take, Nat.min_eq_left hat2]) (part_take (own_on hXd hBS (Nat.le_refl _)) at') (enW_cells _) (by unfold maxLen; omega) (by omega) hBS.size _ rfl ?_
              intro g4 cap4 W4 hown4 hgrow4 hat4 hlt4
              have hB4 : Below wd.heap.size wd W4 := hBS.grown hgrow4 hBS.size (fun x hx => by simp only [Option.some.injEq] at hx; subst hx; exact (own_lt hE2 _ rfl).1)
              refine hK.out _ _ (fun _ => trivial) ?_
              clear hK K
              try simp only [Act.put, List.getElem_toArray, List.getElem_cons_succ, List.getElem_cons_zero, List.setIfInBounds_toArray, List.set_cons_zero, List.set_cons_succ]
              have hSg4 : W4.heap[(wd.heap.size + 1)]? = some (.cells #[.int .i64 0, .int .i64 0, .string z] 37 (0, 0)) := (hgrow4.block _ (by omega) (by simp)).trans hSg
              refine wpAnyD_one (i := 8) (o := _) (by kernel_rfl) rfl (fun K hK => ?_)
              refine step_append_part _ (by rfl) _ _ 34 (by rfl) wd.heap.size 37 i0 _ 3 32 Try.underlying34 hi hz0 hz1 hz2 rfl (by omega) g4 cap4 (0 + at') ([] ++ flat enW (X.take at')) (by rfl) hown4 ⟨(wd.heap.size + 1), 0, none⟩ (1) (1) ([.int .i64 0, .int .i64 0, .string z]) (by rfl) (by rfl) (World.news_of_block (cs := #[.int .i64 0, .int .i64 0, .string z]) (t := 37) (fr := (0, 0)) hSg4) (by simp [Value.oneCell']) (by unfold maxLen; omega) (by omega) hB4.size _ rfl ?_
              intro g8 cap8 W8 hown8 hgrow8 hat8 hlt8
              have hB8 : Below wd.heap.size wd W8 := hB4.grown hgrow8 hB4.size (fun x hx => by simp only [Option.some.injEq] at hx; subst hx; exact (own_lt hown4 _ rfl).1)
              refine hK.out _ _ (fun _ => trivial) ?_
              clear hK K
              try simp only [Act.put, List.getElem_toArray, List.getElem_cons_succ, List.getElem_cons_zero, List.setIfInBounds_toArray, List.set_cons_zero, List.set_cons_succ]
              refine wpAnyD_one (i := 12) (o := _) (by kernel_rfl) rfl (fun K hK => ?_)
              refine step_append_part _ (by rfl) _ _ 34 (by rfl) wd.heap.size 37 i0 _ 3 32 Try.underlying34 hi hz0 hz1 hz2 rfl (by omega) g8 cap8 (0 + at' + 1) (([] ++ flat enW (X.take at')) ++ [.int .i64 0, .int .i64 0, .string z]) (by rfl) hown8 ⟨G, f, none⟩ (X.length - at') (cr - at') (flat enW (X.drop at')) (by rfl) (by rw [flat_len enW 3 enW_len, List.length_drop]) (part_drop2 (own_on hXd hB8 (Nat.le_refl _)) hat2 hXc hf) (enW_cells _) (by unfold maxLen; omega) (by omega) hB8.size _ rfl ?_
              intro g12 cap12 W12 hown12 hgrow12 hat12 hlt12
              have hB12 : Below wd.heap.size wd W12 := hB8.grown hgrow12 hB8.size (fun x hx => by simp only [Option.some.injEq] at hx; subst hx; exact (own_lt hown8 _ rfl).1)
              refine hK.out _ _ (fun _ => trivial) ?_
              clear hK K
              try simp only [Act.put, List.getElem_toArray, List.getElem_cons_succ, List.getElem_cons_zero, List.setIfInBounds_toArray, List.set_cons_zero, List.set_cons_succ]
              refine wpAnyD_one (i := 13) (o := _) (by kernel_rfl) rfl (fun K hK => ?_)
              go_simp
              refine hK.out _ _ (fun _ => trivial) ?_
              clear hK K
              try simp only [Act.put, List.getElem_toArray, List.getElem_cons_succ, List.getElem_cons_zero, List.setIfInBounds_toArray, List.set_cons_zero, List.set_cons_succ]
              refine wpAnyD_done (by kernel_rfl) ?_ _
              have hRf : OwnR enW 37 3 W12 wd.heap.size (.slice (some ⟨g12, 0, none⟩) (0 + at' + 1 + (X.length - at')) cap12) (X.take at' ++ [⟨0, 0, z⟩] ++ X.drop at') := by
                show W12.ownsRow _ _ _ _ _ _
                rw [show (X.take at' ++ [(⟨0, 0, z⟩ : Wd)] ++ X.drop at').length = 0 + at' + 1 + (X.length - at') by simp; omega, flat_app, flat_app, flat_one]
                rw [List.nil_append] at hown12
                exact hown12
              have hll : (X.take at' ++ [(⟨0, 0, z⟩ : Wd)] ++ X.drop at').length ≤ 100000 := by simp; omega
              have cS := sets_any _ _ W12 hRf.at hll
              rw [hodd] at cS
              rw [show 0 + at' + 1 + (X.length - at') = at' + 1 + (X.length - at') by omega] at cS
              obtain ⟨NN, hNN⟩ : ∃ NN, at' + 1 + (X.length - at') = NN := ⟨_, rfl⟩
              rw [hNN] at cS ⊢
              have hBf := sames hBwd hB12
              clear hRf hll hNN hown12 hgrow12 hat12 hlt12 hown8 hgrow8 hat8 hlt8 hB8 hB12 hodd hf hXd hXc hat2 za0 za1 za2 za3 zl hBE hBS
              go_wp2_with fail
              refine cS.mono ?_
              rintro e w6 ⟨rfl, hB6⟩
              go_wp2_with fail
              go_ret
              exact ⟨rfl, sames hBf hB6⟩
          · go_simp
            refine hK.out _ _ (fun _ => trivial) ?_
            clear hK K
            try simp only [Act.put, List.getElem_toArray, List.getElem_cons_succ, List.getElem_cons_zero, List.setIfInBounds_toArray, List.set_cons_zero, List.set_cons_succ]
            have hBE : Below wd.heap.size wd (wd.alloc (.cells #[.int .i64 0, .int .i64 0, .string z] 37)) := hBd.alloc hBd.size _
            have hSg0 : (wd.alloc (.cells #[.int .i64 0, .int .i64 0, .string z] 37)).heap[wd.heap.size]? = some (.cells #[.int .i64 0, .int .i64 0, .string z] 37 (0, 0)) := heap_alloc_new wd _
            obtain ⟨V1, hV1⟩ : ∃ V, wd.alloc (.cells #[.int .i64 0, .int .i64 0, .string z] 37) = V := ⟨_, rfl⟩
            rw [hV1] at hSg0 hBE ⊢
            have sV1 : V1.heap.size = wd.heap.size + 1 := by rw [← hV1]; simp
            clear hV1
            refine wpAnyD_one (i := 0) (o := _) (by kernel_rfl) rfl (fun K hK => ?_)
            go_simp
            refine hK.out _ _ (fun _ => trivial) ?_
            clear hK K
            try simp only [Act.put, List.getElem_toArray, List.getElem_cons_succ, List.getElem_cons_zero, List.setIfInBounds_toArray, List.set_cons_zero, List.set_cons_succ]
            have hBS : Below wd.heap.size wd (V1.alloc (.cells #[] 37)) := hBE.alloc hBE.size _
            have hSg : (V1.alloc (.cells #[] 37)).heap[wd.heap.size]? = some (.cells #[.int .i64 0, .int .i64 0, .string z] 37 (0, 0)) := (Below.heap_alloc _ _ _ (by omega)).trans hSg0
            have hE2 : (V1.alloc (.cells #[] 37)).ownsRow wd.heap.size 37 3 (.slice (some ⟨wd.heap.size + 1, 0, none⟩) 0 0) 0 [] := by rw [← sV1]; exact World.ownsRow_made (base := wd.heap.size) (e := 37) (size := 3) V1 #[] 0 (by omega) (by unfold maxLen; omega) rfl
            obtain ⟨V2, hV2⟩ : ∃ V, V1.alloc (.cells #[] 37) = V := ⟨_, rfl⟩
            rw [hV2] at hSg hE2 hBS ⊢
            have sV2 : V2.heap.size = wd.heap.size + 2 := by rw [← hV2]; simp; omega
            clear hV2
            refine wpAnyD_one (i := 4) (o := _) (by kernel_rfl) rfl (fun K hK => ?_)
            refine step_append_part _ (by rfl) _ _ 34 (by rfl) wd.heap.size 37 i0 _ 3 32 Try.underlying34 hi hz0 hz1 hz2 rfl (by omega) (wd.heap.size + 1) 0 (0) ([]) (by rfl) hE2 ⟨G, 0, none⟩ (at') (cr) (flat enW (X.take at')) (by rfl) (by rw [flat_len enW 3 enW_len, List.length_take, Nat.min_eq_left hat2]) (part_take (own_on hXd hBS (Nat.le_refl _)) at') (enW_cells _) (by unfold maxLen; omega) (by omega) hBS.size _ rfl ?_
            intro g4 cap4 W4 hown4 hgrow4 hat4 hlt4
            have hB4 : Below wd.heap.size wd W4 := hBS.grown hgrow4 hBS.size (fun x hx => by simp only [Option.some.injEq] at hx; subst hx; exact (own_lt hE2 _ rfl).1)
            refine hK.out _ _ (fun _ => trivial) ?_
            clear hK K
            try simp only [Act.put, List.getElem_toArray, List.getElem_cons_succ, List.getElem_cons_zero, List.setIfInBounds_toArray, List.set_cons_zero, List.set_cons_succ]
            have hSg4 : W4.heap[wd.heap.size]? = some (.cells #[.int .i64 0, .int .i64 0, .string z] 37 (0, 0)) := (hgrow4.block _ (by omega) (by simp)).trans hSg
            refine wpAnyD_one (i := 8) (o := _) (by kernel_rfl) rfl (fun K hK => ?_)
            refine step_append_part _ (by rfl) _ _ 34 (by rfl) wd.heap.size 37 i0 _ 3 32 Try.underlying34 hi hz0 hz1 hz2 rfl (by omega) g4 cap4 (0 + at') ([] ++ flat enW (X.take at')) (by rfl) hown4 ⟨wd.heap.size, 0, none⟩ (1) (1) ([.int .i64 0, .int .i64 0, .string z]) (by rfl) (by rfl) (World.news_of_block (cs := #[.int .i64 0, .int .i64 0, .string z]) (t := 37) (fr := (0, 0)) hSg4) (by simp [Value.oneCell']) (by unfold maxLen; omega) (by omega) hB4.size _ rfl ?_
            intro g8 cap8 W8 hown8 hgrow8 hat8 hlt8
            have hB8 : Below wd.heap.size wd W8 := hB4.grown hgrow8 hB4.size (fun x hx => by simp only [Option.some.injEq] at hx; subst hx; exact (own_lt hown4 _ rfl).1)
            refine hK.out _ _ (fun _ => trivial) ?_
            clear hK K
            try simp only [Act.put, List.getElem_toArray, List.getElem_cons_succ, List.getElem_cons_zero, List.setIfInBounds_toArray, List.set_cons_zero, List.set_cons_succ]
            refine wpAnyD_one (i := 12) (o := _) (by kernel_rfl) rfl (fun K hK => ?_)
            refine step_append_part _ (by rfl) _ _ 34 (by rfl) wd.heap.size 37 i0 _ 3 32 Try.underlying34 hi hz0 hz1 hz2 rfl (by omega) g8 cap8 (0 + at' + 1) (([] ++ flat enW (X.take at')) ++ [.int .i64 0, .int .i64 0, .string z]) (by rfl) hown8 ⟨G, f, none⟩ (X.length - at') (cr - at') (flat enW (X.drop at')) (by rfl) (by rw [flat_len enW 3 enW_len, List.length_drop]) (part_drop2 (own_on hXd hB8 (Nat.le_refl _)) hat2 hXc hf) (enW_cells _) (by unfold maxLen; omega) (by omega) hB8.size _ rfl ?_
            intro g12 cap12 W12 hown12 hgrow12 hat12 hlt12
            have hB12 : Below wd.heap.size wd W12 := hB8.grown hgrow12 hB8.size (fun x hx => by simp only [Option.some.injEq] at hx; subst hx; exact (own_lt hown8 _ rfl).1)
            refine hK.out _ _ (fun _ => trivial) ?_
            clear hK K
            try simp only [Act.put, List.getElem_toArray, List.getElem_cons_succ, List.getElem_cons_zero, List.setIfInBounds_toArray, List.set_cons_zero, List.set_cons_succ]
            refine wpAnyD_one (i := 13) (o := _) (by kernel_rfl) rfl (fun K hK => ?_)
            go_simp
            refine hK.out _ _ (fun _ => trivial) ?_
            clear hK K
            try simp only [Act.put, List.getElem_toArray, List.getElem_cons_succ, List.getElem_cons_zero, List.setIfInBounds_toArray, List.set_cons_zero, List.set_cons_succ]
            refine wpAnyD_done (by kernel_rfl) ?_ _
            have hRf : OwnR enW 37 3 W12 wd.heap.size (.slice (some ⟨g12, 0, none⟩) (0 + at' + 1 + (X.length - at')) cap12) (X.take at' ++ [⟨0, 0, z⟩] ++ X.drop at') := by
              show W12.ownsRow _ _ _ _ _ _
              rw [show (X.take at' ++ [(⟨0, 0, z⟩ : Wd)] ++ X.drop at').length = 0 + at' + 1 + (X.length - at') by simp; omega, flat_app, flat_app, flat_one]
              rw [List.nil_append] at hown12
              exact hown12
            have hll : (X.take at' ++ [(⟨0, 0, z⟩ : Wd)] ++ X.drop at').length ≤ 100000 := by simp; omega
            have cS := sets_any _ _ W12 hRf.at hll
            rw [hodd] at cS
            rw [show 0 + at' + 1 + (X.length - at') = at' + 1 + (X.length - at') by omega] at cS
            obtain ⟨NN, hNN⟩ : ∃ NN, at' + 1 + (X.length - at') = NN := ⟨_, rfl⟩
            rw [hNN] at cS ⊢
            have hBf := sames hBwd hB12
            clear hRf hll hNN hown12 hgrow12 hat12 hlt12 hown8 hgrow8 hat8 hlt8 hB8 hB12 hodd hf hXd hXc hat2 za0 za1 za2 za3 zl hBE hBS
            go_wp2_with fail
            refine cS.mono ?_
            rintro e w6 ⟨rfl, hB6⟩
            go_wp2_with fail
            go_ret
            exact ⟨rfl, sames hBf hB6⟩
end Go.Proofs.Ythoohbmpbahkgaa
