/- The reference's Number. -/
import Derived.Test.YthoohbmpbahkgaaWrdRefNum
namespace Go.Proofs.Ythoohbmpbahkgaa
open Go.RowKit

set_option maxHeartbeats 4000000 in
theorem refnumber_any (s : ByteArray) (w : World) (hs : s.size ≤ 100000) : Calls Try.prog 18 #[.string s] w fun e w' => e = .returned (.tuple #[.int .i64 (numberP s).1, .bool (numberP s).2]) ∧ w = w' := by
  by_cases h0 : 0 < s.size
  · have hg0 := bt_get s 0 h0
    by_cases h1 : bt s 0 = 45
    · have hN : numberP s = (-(digitsP (s.extract 1 s.size)).1, (digitsP (s.extract 1 s.size)).2) := by unfold numberP; rw [if_pos ⟨h0, h1⟩]
      have hDs : (s.extract 1 s.size).size + 1 = s.size := by rw [ByteArray.size_extract]; omega
      obtain ⟨D, hD⟩ : ∃ D, s.extract 1 s.size = D := ⟨_, rfl⟩
      rw [hD] at hN hDs
      rw [h1] at hg0
      have hlt0 : D.size < s.size := by omega
      have hDb : D.size ≤ 100000 := by omega
      replace h1 := Lib.hid h1
      replace hDs := Lib.hid hDs
      obtain ⟨R, hR⟩ : ∃ R, numF D D.size 0 0 = R := ⟨_, rfl⟩
      obtain ⟨V, hV⟩ : ∃ V, digitsP D = V := ⟨_, rfl⟩
      have hVd : V = if D.size = 0 ∨ 9 < D.size then (0, false) else numX R := by rw [← hV, ← hR]; rfl
      rw [hV] at hN
      rw [hN]
      replace hV := Lib.hid hV
      replace hN := Lib.hid hN
      replace hVd := Lib.hid hVd
      replace hR := Lib.hid hR
      go_enter Try.func18, Try.ntmps18
      go_wp2_with fail
      go_loop [5, 6] (fun nv i => ∃ k n : Nat, k ≤ D.size ∧ k ≤ 10 ∧ i = .int .i64 k ∧ nv = .int .i64 n ∧ Hid (n + 1 ≤ 10 ^ k) ∧ Hid (numF D (D.size - k) k n = R)) (fun _ i => (D.size - intOf i).toNat)
      case atStart => exact ⟨0, 0, by omega, by omega, rfl, rfl, Lib.hid (by decide), Lib.hid (by have := hR.out; simpa using this)⟩
      case round =>
        obtain ⟨k, n, hk, hk10, rfl, rfl, hpow, hrel⟩ := hrel
        by_cases hlt : k < D.size
        · by_cases h10 : k < 10
          · have hg := bt_get D k hlt
            have hb := bt_lt D k
            replace hrel := hrel.out
            rw [show D.size - k = (D.size - (k + 1)) + 1 by omega] at hrel
            unfold numF at hrel
            have c1 := refdigit_any (bt D k)
            cases hdr : digR (bt D k)
            · rw [hdr] at hrel
              simp only [hdr] at c1
              simp only [Bool.false_eq_true, if_false] at hrel
              have hV0 : V = (0, false) := by rw [hVd.out]; rw [← hrel]; split <;> rfl
              replace hV0 := Lib.hid hV0
              replace hrel := Lib.hid hrel
              clear hdr
              go_wp2_with ((with_reducible refine (c1 _).mono ?_); rintro e w1 ⟨rfl, rfl⟩)
              all_goals go_ret2
              all_goals exact ⟨by first | (rw [hV0.out]; done) | (rw [hV0.out]; rfl), rfl⟩
            · have hd := (digR_iff _).1 hdr
              rw [hdr] at hrel
              simp only [hdr] at c1
              simp only [if_true] at hrel
              replace hrel := Lib.hid hrel
              have hp9 : 10 ^ k ≤ 1000000000 := Nat.le_trans (Nat.pow_le_pow_right (by decide) (show k ≤ 9 by omega)) (by decide)
              have hn : n ≤ 999999999 := by have := hpow.out; omega
              have hpow2 : Hid (n * 10 + (bt D k - 48) + 1 ≤ 10 ^ (k + 1)) := Lib.hid (by have := hpow.out; rw [Nat.pow_succ]; omega)
              clear hdr hp9
              have q1 : IntKind.u8.wrap ((bt D k : Int) - 48) = (bt D k : Int) - 48 := by rw [IntKind.wrap_u8]; omega
              go_wp2_with ((with_reducible refine (c1 _).mono ?_); rintro e w1 ⟨rfl, rfl⟩)
              go_round
              case rel => exact ⟨k + 1, n * 10 + (bt D k - 48), by omega, by omega, by go_num, by first | go_num | (congr 1; omega), hpow2, hrel⟩
              case measure => simp [intOf]; omega
          · obtain rfl : k = 10 := by omega
            have h1 : 0 < D.size := by omega
            have h9 : 9 < D.size := by omega
            have h1' : ¬ D.size < 1 := by omega
            have hV0 : V = (0, false) := by rw [hVd.out]; rw [if_pos (.inr h9)]
            replace hV0 := Lib.hid hV0
            go_wp2_with fail
            all_goals go_ret2
            all_goals exact ⟨by first | (rw [hV0.out]; done) | (rw [hV0.out]; rfl), rfl⟩
        · obtain rfl : k = D.size := by omega
          by_cases h0 : D.size = 0
          · have h1' : D.size < 1 := by omega
            have hV0 : V = (0, false) := by rw [hVd.out]; rw [if_pos (.inl h0)]
            replace hV0 := Lib.hid hV0
            replace h0 := Lib.hid h0
            go_wp2_with fail
            all_goals go_ret2
            all_goals exact ⟨by first | (rw [hV0.out]; done) | (rw [hV0.out]; rfl), rfl⟩
          · have h1' : ¬ D.size < 1 := by omega
            by_cases h9 : 9 < D.size
            · have h10 : ¬ D.size < 10 := by omega
              have hV0 : V = (0, false) := by rw [hVd.out]; rw [if_pos (.inr h9)]
              replace hV0 := Lib.hid hV0
              go_wp2_with fail
              all_goals go_ret2
              all_goals exact ⟨by first | (rw [hV0.out]; done) | (rw [hV0.out]; rfl), rfl⟩
            · have hp9 : 10 ^ D.size ≤ 1000000000 := Nat.le_trans (Nat.pow_le_pow_right (by decide) (show D.size ≤ 9 by omega)) (by decide)
              have hn : n ≤ 999999999 := by have := hpow.out; omega
              have hV0 : V = ((n : Int), true) := by rw [hVd.out, if_neg (by omega), ← hrel.out, Nat.sub_self]; rfl
              replace hV0 := Lib.hid hV0
              clear hp9
              have q2 : IntKind.i64.wrap (-(n : Int)) = -(n : Int) := IntWalk.i64_in _ (by omega)
              go_wp2_with fail
              all_goals go_ret2
              all_goals exact ⟨by first | (rw [hV0.out]; done) | (rw [hV0.out]; rfl), rfl⟩
    · have hN : numberP s = digitsP s := by unfold numberP; rw [if_neg (fun h => h1 h.2)]
      have hb0 := bt_lt s 0
      have h2 : ((bt s 0 : Int) == 45) = false := by simp; omega
      obtain ⟨D, hD⟩ : ∃ D, s = D := ⟨_, rfl⟩
      have hlt0 : ¬ D.size < D.size := by omega
      subst hD
      have hDb := hs
      obtain ⟨R, hR⟩ : ∃ R, numF s s.size 0 0 = R := ⟨_, rfl⟩
      obtain ⟨V, hV⟩ : ∃ V, digitsP s = V := ⟨_, rfl⟩
      have hVd : V = if s.size = 0 ∨ 9 < s.size then (0, false) else numX R := by rw [← hV, ← hR]; rfl
      rw [hV] at hN
      rw [hN]
      replace hV := Lib.hid hV
      replace hN := Lib.hid hN
      replace hVd := Lib.hid hVd
      replace hR := Lib.hid hR
      go_enter Try.func18, Try.ntmps18
      go_wp2_with fail
      go_loop [5, 6] (fun nv i => ∃ k n : Nat, k ≤ s.size ∧ k ≤ 10 ∧ i = .int .i64 k ∧ nv = .int .i64 n ∧ Hid (n + 1 ≤ 10 ^ k) ∧ Hid (numF s (s.size - k) k n = R)) (fun _ i => (s.size - intOf i).toNat)
      case atStart => exact ⟨0, 0, by omega, by omega, rfl, rfl, Lib.hid (by decide), Lib.hid (by have := hR.out; simpa using this)⟩
      case round =>
        obtain ⟨k, n, hk, hk10, rfl, rfl, hpow, hrel⟩ := hrel
        by_cases hlt : k < s.size
        · by_cases h10 : k < 10
          · have hg := bt_get s k hlt
            have hb := bt_lt s k
            replace hrel := hrel.out
            rw [show s.size - k = (s.size - (k + 1)) + 1 by omega] at hrel
            unfold numF at hrel
            have c1 := refdigit_any (bt s k)
            cases hdr : digR (bt s k)
            · rw [hdr] at hrel
              simp only [hdr] at c1
              simp only [Bool.false_eq_true, if_false] at hrel
              have hV0 : V = (0, false) := by rw [hVd.out]; rw [← hrel]; split <;> rfl
              replace hV0 := Lib.hid hV0
              replace hrel := Lib.hid hrel
              clear hdr
              go_wp2_with ((with_reducible refine (c1 _).mono ?_); rintro e w1 ⟨rfl, rfl⟩)
              all_goals go_ret2
              all_goals exact ⟨by first | (rw [hV0.out]; done) | (rw [hV0.out]; rfl), rfl⟩
            · have hd := (digR_iff _).1 hdr
              rw [hdr] at hrel
              simp only [hdr] at c1
              simp only [if_true] at hrel
              replace hrel := Lib.hid hrel
              have hp9 : 10 ^ k ≤ 1000000000 := Nat.le_trans (Nat.pow_le_pow_right (by decide) (show k ≤ 9 by omega)) (by decide)
              have hn : n ≤ 999999999 := by have := hpow.out; omega
              have hpow2 : Hid (n * 10 + (bt s k - 48) + 1 ≤ 10 ^ (k + 1)) := Lib.hid (by have := hpow.out; rw [Nat.pow_succ]; omega)
              clear hdr hp9
              have q1 : IntKind.u8.wrap ((bt s k : Int) - 48) = (bt s k : Int) - 48 := by rw [IntKind.wrap_u8]; omega
              go_wp2_with ((with_reducible refine (c1 _).mono ?_); rintro e w1 ⟨rfl, rfl⟩)
              go_round
              case rel => exact ⟨k + 1, n * 10 + (bt s k - 48), by omega, by omega, by go_num, by first | go_num | (congr 1; omega), hpow2, hrel⟩
              case measure => simp [intOf]; omega
          · obtain rfl : k = 10 := by omega
            have h1 : 0 < s.size := by omega
            have h9 : 9 < s.size := by omega
            have h1' : ¬ s.size < 1 := by omega
            have hV0 : V = (0, false) := by rw [hVd.out]; rw [if_pos (.inr h9)]
            replace hV0 := Lib.hid hV0
            go_wp2_with fail
            all_goals go_ret2
            all_goals exact ⟨by first | (rw [hV0.out]; done) | (rw [hV0.out]; rfl), rfl⟩
        · obtain rfl : k = s.size := by omega
          by_cases h0 : s.size = 0
          · have h1' : s.size < 1 := by omega
            have hV0 : V = (0, false) := by rw [hVd.out]; rw [if_pos (.inl h0)]
            replace hV0 := Lib.hid hV0
            replace h0 := Lib.hid h0
            go_wp2_with fail
            all_goals go_ret2
            all_goals exact ⟨by first | (rw [hV0.out]; done) | (rw [hV0.out]; rfl), rfl⟩
          · have h1' : ¬ s.size < 1 := by omega
            by_cases h9 : 9 < s.size
            · have h10 : ¬ s.size < 10 := by omega
              have hV0 : V = (0, false) := by rw [hVd.out]; rw [if_pos (.inr h9)]
              replace hV0 := Lib.hid hV0
              go_wp2_with fail
              all_goals go_ret2
              all_goals exact ⟨by first | (rw [hV0.out]; done) | (rw [hV0.out]; rfl), rfl⟩
            · have hp9 : 10 ^ s.size ≤ 1000000000 := Nat.le_trans (Nat.pow_le_pow_right (by decide) (show s.size ≤ 9 by omega)) (by decide)
              have hn : n ≤ 999999999 := by have := hpow.out; omega
              have hV0 : V = ((n : Int), true) := by rw [hVd.out, if_neg (by omega), ← hrel.out, Nat.sub_self]; rfl
              replace hV0 := Lib.hid hV0
              clear hp9
              go_wp2_with fail
              all_goals go_ret2
              all_goals exact ⟨by first | (rw [hV0.out]; done) | (rw [hV0.out]; rfl), rfl⟩
  · have hN : numberP s = digitsP s := by unfold numberP; rw [if_neg (fun h => h0 h.1)]
    have hlt0 : ¬ s.size < s.size := by omega
    have hDb := hs
    obtain ⟨R, hR⟩ : ∃ R, numF s s.size 0 0 = R := ⟨_, rfl⟩
    obtain ⟨V, hV⟩ : ∃ V, digitsP s = V := ⟨_, rfl⟩
    have hVd : V = if s.size = 0 ∨ 9 < s.size then (0, false) else numX R := by rw [← hV, ← hR]; rfl
    rw [hV] at hN
    rw [hN]
    replace hV := Lib.hid hV
    replace hN := Lib.hid hN
    replace hVd := Lib.hid hVd
    replace hR := Lib.hid hR
    go_enter Try.func18, Try.ntmps18
    go_wp2_with fail
    go_loop [5, 6] (fun nv i => ∃ k n : Nat, k ≤ s.size ∧ k ≤ 10 ∧ i = .int .i64 k ∧ nv = .int .i64 n ∧ Hid (n + 1 ≤ 10 ^ k) ∧ Hid (numF s (s.size - k) k n = R)) (fun _ i => (s.size - intOf i).toNat)
    case atStart => exact ⟨0, 0, by omega, by omega, rfl, rfl, Lib.hid (by decide), Lib.hid (by have := hR.out; simpa using this)⟩
    case round =>
      obtain ⟨k, n, hk, hk10, rfl, rfl, hpow, hrel⟩ := hrel
      by_cases hlt : k < s.size
      · exact absurd hlt (by omega)
      · obtain rfl : k = s.size := by omega
        by_cases h0 : s.size = 0
        · have h1' : s.size < 1 := by omega
          have hV0 : V = (0, false) := by rw [hVd.out]; rw [if_pos (.inl h0)]
          replace hV0 := Lib.hid hV0
          replace h0 := Lib.hid h0
          go_wp2_with fail
          all_goals go_ret2
          all_goals exact ⟨by first | (rw [hV0.out]; done) | (rw [hV0.out]; rfl), rfl⟩
        · have h1' : ¬ s.size < 1 := by omega
          by_cases h9 : 9 < s.size
          · have h10 : ¬ s.size < 10 := by omega
            have hV0 : V = (0, false) := by rw [hVd.out]; rw [if_pos (.inr h9)]
            replace hV0 := Lib.hid hV0
            go_wp2_with fail
            all_goals go_ret2
            all_goals exact ⟨by first | (rw [hV0.out]; done) | (rw [hV0.out]; rfl), rfl⟩
          · have hp9 : 10 ^ s.size ≤ 1000000000 := Nat.le_trans (Nat.pow_le_pow_right (by decide) (show s.size ≤ 9 by omega)) (by decide)
            have hn : n ≤ 999999999 := by have := hpow.out; omega
            have hV0 : V = ((n : Int), true) := by rw [hVd.out, if_neg (by omega), ← hrel.out, Nat.sub_self]; rfl
            replace hV0 := Lib.hid hV0
            clear hp9
            go_wp2_with fail
            all_goals go_ret2
            all_goals exact ⟨by first | (rw [hV0.out]; done) | (rw [hV0.out]; rfl), rfl⟩
end Go.Proofs.Ythoohbmpbahkgaa
