/- The law on numbers, walked. -/
import Derived.Test.YthoohbmpbahkgaaWrdNumP
import Derived.Test.YthoohbmpbahkgaaWrdShown
import Derived.Deep.DeepCutAuto
namespace Go.Proofs.Ythoohbmpbahkgaa
open Go.RowKit

set_option maxRecDepth 100000 in
set_option maxHeartbeats 8000000 in
theorem numbers_any (n z c : Int) (w : World) (hz : 0 ≤ z ∧ z ≤ 255) (hc : 0 ≤ c ∧ c ≤ 255) : Calls Try.prog 10 #[.int .i64 n, .int .u8 z, .int .u8 c] w fun e w' => e = .returned (.bool true) ∧ Below w.heap.size w w' := by
  have cs := shown_any w
  have hkb := tmod_bd n
  obtain ⟨k, hk⟩ : ∃ k, n.tmod 1000000000 = k := ⟨_, rfl⟩
  rw [hk] at hkb
  obtain ⟨hk1, hk2⟩ := hkb
  have cD := fun w => dec_any k w hk1 hk2
  have hcv := conv_one c
  obtain ⟨dd, hdd⟩ : ∃ dd, decP k = dd := ⟨_, rfl⟩
  obtain ⟨cb, hcb⟩ : ∃ cb, oneB c = cb := ⟨_, rfl⟩
  simp only [hcb] at hcv
  simp only [hdd] at cD
  obtain ⟨u, hu⟩ : ∃ u, k.natAbs = u := ⟨_, rfl⟩
  obtain ⟨D, hD⟩ : ∃ D, decD u = D := ⟨_, rfl⟩
  have hDs := size_pos_dec u (by omega)
  have p1 := numberP_dec k hk1 hk2
  have p3 := numberP_odd k c hk1 hk2 hc
  rw [hdd] at p1 p3
  rw [hcb, hu, hD] at p3
  rw [hD] at hDs
  have hds : dd.size ≤ 10 := by
    rw [← hdd]; unfold decP
    rw [hu, hD]
    split
    · rw [ByteArray.size_append, oneB_size]; omega
    · omega
  have hcs : cb.size = 1 := by rw [← hcb, oneB_size]
  have c1 := fun w => number_any dd w (by unfold maxLen; omega)
  simp only [p1] at c1
  have c3 := fun w => number_any (dd ++ cb) w (by rw [ByteArray.size_append]; unfold maxLen; omega)
  obtain ⟨x3, hx3⟩ : ∃ x, numberP (dd ++ cb) = x := ⟨_, rfl⟩
  rw [hx3] at p3
  simp only [hx3] at c3
  have c5 := fun w => number_any ⟨#[]⟩ w (by unfold maxLen; decide)
  simp only [numberP_empty] at c5
  have c6 := fun w => number_any ⟨#[45]⟩ w (by unfold maxLen; decide)
  have p6 := numberP_alone
  obtain ⟨x6, hx6⟩ : ∃ x, numberP ⟨#[45]⟩ = x := ⟨_, rfl⟩
  rw [hx6] at p6
  simp only [hx6] at c6
  obtain ⟨m, hm⟩ : ∃ m : Nat, z % 8 + 1 = m := ⟨(z % 8 + 1).toNat, by omega⟩
  have hm8 : 1 ≤ m ∧ m ≤ 8 := by omega
  have m1 : IntKind.u8.wrap (1 + z % 8) = (m : Int) := by rw [IntKind.wrap_u8]; omega
  obtain ⟨Z, hZ⟩ : ∃ Z, zeros.extract 0 m = Z := ⟨_, rfl⟩
  have hZs : Z.size = m := by rw [← hZ]; exact zeros_size m hm8.2
  obtain ⟨Lg, hLg⟩ : ∃ Lg, Z ++ D = Lg := ⟨_, rfl⟩
  have hLs : Lg.size = m + D.size := by rw [← hLg, ByteArray.size_append, hZs]
  have zm0 : (0 : Int) ≤ (m : Int) := by omega
  have zm8 : (m : Int) ≤ 8 := by omega
  have hZx : (⟨#[48, 48, 48, 48, 48, 48, 48, 48]⟩ : ByteArray).extract 0 m = Z := hZ
  have q1 : ¬ (9223372036854775807 : Int) < (Z.size : Int) + (D.size : Int) := by omega
  have q2 : ¬ (9223372036854775807 : Int) < (dd.size : Int) + (cb.size : Int) := by omega
  replace hm := Lib.hid hm
  replace hdd := Lib.hid hdd
  replace hcb := Lib.hid hcb
  replace hx3 := Lib.hid hx3
  replace hx6 := Lib.hid hx6
  replace hZs := Lib.hid hZs
  replace hcs := Lib.hid hcs
  replace p3 := Lib.hid p3
  replace p6 := Lib.hid p6
  have hLs' := hLs
  replace hLs := Lib.hid hLs'
  clear hLs'
  by_cases hn : k < 0
  · have hX : dd.extract 1 dd.size = D := by rw [← hdd.out, ← hD, ← hu]; unfold decP; rw [if_pos hn]; exact extract_behind (oneB 45) _
    have hd1 : 1 ≤ dd.size := by rw [← hdd.out]; unfold decP; rw [if_pos hn, ByteArray.size_append, oneB_size]; omega
    have hd1' : (1 : Int) ≤ (dd.size : Int) := by omega
    have p2 : numberP (⟨#[45]⟩ ++ Lg) = if m + D.size ≤ 9 then (k, true) else (0, false) := by
      rw [← hLg, ← hZ, ← hD]
      show numberP (oneB 45 ++ (zeros.extract 0 m ++ decD u)) = _
      rw [numberP_minus, digitsP_long m u hm8.2 (by omega)]
      split
      · simp only; congr 1; omega
      · rfl
    have p4 : (numberP ((⟨#[45]⟩ ++ ⟨#[45]⟩) ++ ⟨#[45]⟩ ++ D)).2 = false := by
      rw [ByteArray.append_assoc, ByteArray.append_assoc]
      exact numberP_twice _
    obtain ⟨⟨b2, is2⟩, hx2⟩ : ∃ x : Int × Bool, (if m + D.size ≤ 9 then (k, true) else (0, false)) = x := ⟨_, rfl⟩
    rw [hx2] at p2
    have c2 := fun w => number_any (⟨#[45]⟩ ++ Lg) w (by rw [ByteArray.size_append, show (⟨#[45]⟩ : ByteArray).size = 1 from rfl]; have := hLs.out; unfold maxLen; omega)
    simp only [p2] at c2
    have c4 := fun w => number_any ((⟨#[45]⟩ ++ ⟨#[45]⟩) ++ ⟨#[45]⟩ ++ D) w (by rw [ByteArray.size_append, ByteArray.size_append, ByteArray.size_append, show (⟨#[45]⟩ : ByteArray).size = 1 from rfl]; unfold maxLen; omega)
    obtain ⟨x4, hx4⟩ : ∃ x, numberP ((⟨#[45]⟩ ++ ⟨#[45]⟩) ++ ⟨#[45]⟩ ++ D) = x := ⟨_, rfl⟩
    rw [hx4] at p4
    simp only [hx4] at c4
    have q3 : ¬ (9223372036854775807 : Int) < ((⟨#[45]⟩ : ByteArray).size : Int) + (Lg.size : Int) := by rw [show (⟨#[45]⟩ : ByteArray).size = 1 from rfl]; have := hLs.out; omega
    have q4 : ¬ (9223372036854775807 : Int) < ((⟨#[45]⟩ : ByteArray).size : Int) + ((⟨#[45]⟩ : ByteArray).size : Int) := by rw [show (⟨#[45]⟩ : ByteArray).size = 1 from rfl]; omega
    have q5 : ¬ (9223372036854775807 : Int) < (((⟨#[45]⟩ : ByteArray) ++ ⟨#[45]⟩).size : Int) + ((⟨#[45]⟩ : ByteArray).size : Int) := by rw [ByteArray.size_append, show (⟨#[45]⟩ : ByteArray).size = 1 from rfl]; omega
    have q6 : ¬ (9223372036854775807 : Int) < ((((⟨#[45]⟩ : ByteArray) ++ ⟨#[45]⟩) ++ ⟨#[45]⟩).size : Int) + (D.size : Int) := by rw [ByteArray.size_append, ByteArray.size_append, show (⟨#[45]⟩ : ByteArray).size = 1 from rfl]; omega
    have p4' := Lib.hid p4
    replace hx4 := Lib.hid hx4
    replace hu := Lib.hid hu
    replace hD := Lib.hid hD
    replace hZ := Lib.hid hZ
    replace p2 := Lib.hid p2
    replace hx2 := Lib.hid hx2
    clear p4
    go_enter Try.func10, Try.ntmps10
    go_wp2_with fail
    refine cs.mono ?_
    rintro e w1 ⟨rfl, hB1⟩
    go_wp2_with fail
    refine (cD _).mono ?_
    rintro e w2 ⟨rfl, hB2⟩
    go_wp2_with fail
    refine (c1 _).mono ?_
    rintro e w3 ⟨rfl, hB3⟩
    go_wp2_with fail
    refine (c2 _).mono ?_
    rintro e w4 ⟨rfl, hB4⟩
    go_wp2_with fail
    refine (c3 _).mono ?_
    rintro e w5 ⟨rfl, hB5⟩
    go_wp2_with fail
    refine (c4 _).mono ?_
    rintro e w6 ⟨rfl, hB6⟩
    go_wp2_with fail
    refine (c5 _).mono ?_
    rintro e w7 ⟨rfl, hB7⟩
    go_wp2_with fail
    refine (c6 _).mono ?_
    rintro e w8 ⟨rfl, hB8⟩
    have hB5' : Below w4.heap.size w4 w5 := (balloc1 w4 (.cells #[.int .u8 c] 5)).trans (hB5.mono (by simp))
    have hBf : Below w.heap.size w w8 := sames (sames (sames (sames (sames (sames (sames hB1 hB2) hB3) hB4) hB5') hB6) hB7) hB8
    clear cs cD c1 c2 c3 c4 c5 c6 hcv hB1 hB2 hB3 hB4 hB5 hB5' hB6 hB7 hB8 q1 q2 q3 q4 q5 q6 hZx hLg
    obtain ⟨B, hBd⟩ : ∃ B, digR c = B := ⟨_, rfl⟩
    go_upto_region 16 with fail
    go_cut [25] (fun v wx => v = .bool B ∧ w8 = wx)
    case first =>
      replace hBd := Lib.hid hBd
      by_cases h1 : 48 ≤ c <;> by_cases h2 : c ≤ 57
      all_goals
        go_wp2_with fail
        go_meet
        first
          | exact ⟨congrArg Value.bool (by rw [← hBd.out]; exact (show true = digR c from (decide_eq_true (by omega)).symm)), rfl⟩
          | exact ⟨congrArg Value.bool (by rw [← hBd.out]; exact (show false = digR c from (decide_eq_false (by omega)).symm)), rfl⟩
    case rest =>
    obtain ⟨rfl, rfl⟩ := hcut
    have p3' := p3.out
    rw [hBd] at p3'
    replace hBd := Lib.hid hBd
    have p4'' := p4'.out
    have p6'' := p6.out
    obtain ⟨x31, x32⟩ := x3
    obtain ⟨x41, x42⟩ := x4
    obtain ⟨x61, x62⟩ := x6
    simp only at p3' p4'' p6''
    subst p4'' p6''
    have hLs' := hLs.out
    have kk : ((k : Int) == k) = true := by simp
    by_cases h9 : m + D.size ≤ 9
    · have d1 : decide ((Lg.size : Int) ≤ 9) = true := decide_eq_true (by omega)
      have d1' : Lg.size ≤ 9 := by omega
      have hxx := hx2.out
      rw [if_pos h9] at hxx
      cases hxx
      by_cases hD9 : D.size < 9
      · have d2 : decide ((D.size : Int) < 9) = true := decide_eq_true (by omega)
        rw [decide_eq_true hD9, Bool.and_true] at p3'
        subst p3'
        replace hLs' := Lib.hid hLs'
        cases x32
        all_goals
          go_wp2_with fail
          go_ret
          exact ⟨rfl, hBf⟩
      · exfalso; omega
    · have d1 : decide ((Lg.size : Int) ≤ 9) = false := decide_eq_false (by omega)
      have d1' : ¬ Lg.size ≤ 9 := by omega
      have hxx := hx2.out
      rw [if_neg h9] at hxx
      cases hxx
      by_cases hD9 : D.size < 9
      · have d2 : decide ((D.size : Int) < 9) = true := decide_eq_true (by omega)
        rw [decide_eq_true hD9, Bool.and_true] at p3'
        subst p3'
        replace hLs' := Lib.hid hLs'
        cases x32
        all_goals
          go_wp2_with fail
          go_ret
          exact ⟨rfl, hBf⟩
      · have d2 : decide ((D.size : Int) < 9) = false := decide_eq_false (by omega)
        rw [decide_eq_false hD9, Bool.and_false] at p3'
        subst p3'
        replace hLs' := Lib.hid hLs'
        cases B
        all_goals
          go_wp2_with fail
          go_ret
          exact ⟨rfl, hBf⟩
  · have p2 : numberP (⟨#[]⟩ ++ Lg) = if m + D.size ≤ 9 then (k, true) else (0, false) := by
      rw [← hLg, ← hZ, ← hD, show (⟨#[]⟩ : ByteArray) = ByteArray.empty from rfl, ByteArray.empty_append, numberP_long m u hm8.2 (by omega)]
      split
      · congr 1; omega
      · rfl
    have hDd : D = dd := by rw [← hdd.out, ← hD, ← hu]; unfold decP; rw [if_neg hn]
    subst hDd
    have p4 : (numberP ((⟨#[45]⟩ ++ ⟨#[]⟩) ++ ⟨#[45]⟩ ++ D)).2 = false := by
      rw [show (⟨#[]⟩ : ByteArray) = ByteArray.empty from rfl, ByteArray.append_empty, ByteArray.append_assoc]
      exact numberP_twice _
    obtain ⟨⟨b2, is2⟩, hx2⟩ : ∃ x : Int × Bool, (if m + D.size ≤ 9 then (k, true) else (0, false)) = x := ⟨_, rfl⟩
    rw [hx2] at p2
    have c2 := fun w => number_any (⟨#[]⟩ ++ Lg) w (by rw [ByteArray.size_append, show (⟨#[]⟩ : ByteArray).size = 0 from rfl]; have := hLs.out; unfold maxLen; omega)
    simp only [p2] at c2
    have c4 := fun w => number_any ((⟨#[45]⟩ ++ ⟨#[]⟩) ++ ⟨#[45]⟩ ++ D) w (by rw [ByteArray.size_append, ByteArray.size_append, ByteArray.size_append, show (⟨#[]⟩ : ByteArray).size = 0 from rfl]; (try rw [show (⟨#[45]⟩ : ByteArray).size = 1 from rfl]); unfold maxLen; omega)
    obtain ⟨x4, hx4⟩ : ∃ x, numberP ((⟨#[45]⟩ ++ ⟨#[]⟩) ++ ⟨#[45]⟩ ++ D) = x := ⟨_, rfl⟩
    rw [hx4] at p4
    simp only [hx4] at c4
    have q3 : ¬ (9223372036854775807 : Int) < ((⟨#[]⟩ : ByteArray).size : Int) + (Lg.size : Int) := by rw [show (⟨#[]⟩ : ByteArray).size = 0 from rfl]; have := hLs.out; omega
    have q4 : ¬ (9223372036854775807 : Int) < ((⟨#[45]⟩ : ByteArray).size : Int) + ((⟨#[]⟩ : ByteArray).size : Int) := by rw [show (⟨#[]⟩ : ByteArray).size = 0 from rfl]; (try rw [show (⟨#[45]⟩ : ByteArray).size = 1 from rfl]); omega
    have q5 : ¬ (9223372036854775807 : Int) < (((⟨#[45]⟩ : ByteArray) ++ ⟨#[]⟩).size : Int) + ((⟨#[45]⟩ : ByteArray).size : Int) := by rw [ByteArray.size_append, show (⟨#[]⟩ : ByteArray).size = 0 from rfl]; (try rw [show (⟨#[45]⟩ : ByteArray).size = 1 from rfl]); omega
    have q6 : ¬ (9223372036854775807 : Int) < ((((⟨#[45]⟩ : ByteArray) ++ ⟨#[]⟩) ++ ⟨#[45]⟩).size : Int) + (D.size : Int) := by rw [ByteArray.size_append, ByteArray.size_append, show (⟨#[]⟩ : ByteArray).size = 0 from rfl]; (try rw [show (⟨#[45]⟩ : ByteArray).size = 1 from rfl]); omega
    have p4' := Lib.hid p4
    replace hx4 := Lib.hid hx4
    replace hu := Lib.hid hu
    replace hD := Lib.hid hD
    replace hZ := Lib.hid hZ
    replace p2 := Lib.hid p2
    replace hx2 := Lib.hid hx2
    clear p4
    go_enter Try.func10, Try.ntmps10
    go_wp2_with fail
    refine cs.mono ?_
    rintro e w1 ⟨rfl, hB1⟩
    go_wp2_with fail
    refine (cD _).mono ?_
    rintro e w2 ⟨rfl, hB2⟩
    go_wp2_with fail
    refine (c1 _).mono ?_
    rintro e w3 ⟨rfl, hB3⟩
    go_wp2_with fail
    refine (c2 _).mono ?_
    rintro e w4 ⟨rfl, hB4⟩
    go_wp2_with fail
    refine (c3 _).mono ?_
    rintro e w5 ⟨rfl, hB5⟩
    go_wp2_with fail
    refine (c4 _).mono ?_
    rintro e w6 ⟨rfl, hB6⟩
    go_wp2_with fail
    refine (c5 _).mono ?_
    rintro e w7 ⟨rfl, hB7⟩
    go_wp2_with fail
    refine (c6 _).mono ?_
    rintro e w8 ⟨rfl, hB8⟩
    have hB5' : Below w4.heap.size w4 w5 := (balloc1 w4 (.cells #[.int .u8 c] 5)).trans (hB5.mono (by simp))
    have hBf : Below w.heap.size w w8 := sames (sames (sames (sames (sames (sames (sames hB1 hB2) hB3) hB4) hB5') hB6) hB7) hB8
    clear cs cD c1 c2 c3 c4 c5 c6 hcv hB1 hB2 hB3 hB4 hB5 hB5' hB6 hB7 hB8 q1 q2 q3 q4 q5 q6 hZx hLg
    obtain ⟨B, hBd⟩ : ∃ B, digR c = B := ⟨_, rfl⟩
    go_upto_region 16 with fail
    go_cut [25] (fun v wx => v = .bool B ∧ w8 = wx)
    case first =>
      replace hBd := Lib.hid hBd
      by_cases h1 : 48 ≤ c <;> by_cases h2 : c ≤ 57
      all_goals
        go_wp2_with fail
        go_meet
        first
          | exact ⟨congrArg Value.bool (by rw [← hBd.out]; exact (show true = digR c from (decide_eq_true (by omega)).symm)), rfl⟩
          | exact ⟨congrArg Value.bool (by rw [← hBd.out]; exact (show false = digR c from (decide_eq_false (by omega)).symm)), rfl⟩
    case rest =>
    obtain ⟨rfl, rfl⟩ := hcut
    have p3' := p3.out
    rw [hBd] at p3'
    replace hBd := Lib.hid hBd
    have p4'' := p4'.out
    have p6'' := p6.out
    obtain ⟨x31, x32⟩ := x3
    obtain ⟨x41, x42⟩ := x4
    obtain ⟨x61, x62⟩ := x6
    simp only at p3' p4'' p6''
    subst p4'' p6''
    have hLs' := hLs.out
    have kk : ((k : Int) == k) = true := by simp
    by_cases h9 : m + D.size ≤ 9
    · have d1 : decide ((Lg.size : Int) ≤ 9) = true := decide_eq_true (by omega)
      have d1' : Lg.size ≤ 9 := by omega
      have hxx := hx2.out
      rw [if_pos h9] at hxx
      cases hxx
      by_cases hD9 : D.size < 9
      · have d2 : decide ((D.size : Int) < 9) = true := decide_eq_true (by omega)
        rw [decide_eq_true hD9, Bool.and_true] at p3'
        subst p3'
        replace hLs' := Lib.hid hLs'
        cases x32
        all_goals
          go_wp2_with fail
          go_ret
          exact ⟨rfl, hBf⟩
      · exfalso; omega
    · have d1 : decide ((Lg.size : Int) ≤ 9) = false := decide_eq_false (by omega)
      have d1' : ¬ Lg.size ≤ 9 := by omega
      have hxx := hx2.out
      rw [if_neg h9] at hxx
      cases hxx
      by_cases hD9 : D.size < 9
      · have d2 : decide ((D.size : Int) < 9) = true := decide_eq_true (by omega)
        rw [decide_eq_true hD9, Bool.and_true] at p3'
        subst p3'
        replace hLs' := Lib.hid hLs'
        cases x32
        all_goals
          go_wp2_with fail
          go_ret
          exact ⟨rfl, hBf⟩
      · have d2 : decide ((D.size : Int) < 9) = false := decide_eq_false (by omega)
        rw [decide_eq_false hD9, Bool.and_false] at p3'
        subst p3'
        replace hLs' := Lib.hid hLs'
        cases B
        all_goals
          go_wp2_with fail
          go_ret
          exact ⟨rfl, hBf⟩
end Go.Proofs.Ythoohbmpbahkgaa
