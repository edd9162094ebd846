/- RatioReckons' walk. -/
import Derived.Test.YtnbloflgggndiaaRefDo
namespace Go.Proofs.Ytnbloflgggndiaa
open Go.RowKit Rf Rt

theorem raw_is {N D : Int} (h : mayB N D = true) : rawO N D = some (Rat.divInt N D) := by
  unfold rawO
  rw [if_pos h]
theorem may_pos {N D : Int} (h : mayB N D = true) : D ≠ 0 := by have := ((mayB_iff _ _).1 h).1; omega
theorem told_of (n d : Int) (hn : n.natAbs ≤ 170141183460469231731687303715884105728) (hd : d.natAbs ≤ 170141183460469231731687303715884105728) {o : Option Rat} (h : makeO n d = o) :
    Hid (∀ W x y, NumE n W x → NumE d W y → Calls Try.prog 26 #[x, y] W (RatIs (numO (cutQ o)) (denO (cutQ o)) (okO (cutQ o)) W)) := Lib.hid fun W x y hx hy => by
  subst h
  exact rtoldE hx hy (lt99 hn) (lt99 hd)
theorem makeO_yes {n d : Int} (h : d ≠ 0) : makeO n d = some (Rat.divInt n d) := by
  unfold makeO
  rw [if_neg h]
theorem up2 {n : Nat} (h : n ≤ 85070591730234615865843651857942052864) : n ≤ 170141183460469231731687303715884105728 := Nat.le_trans h (by decide)
theorem prod2 {n m : Int} (a : -9223372036854775808 ≤ n ∧ n ≤ 9223372036854775807) (b : -9223372036854775808 ≤ m ∧ m ≤ 9223372036854775807) : (n * m).natAbs ≤ 85070591730234615865843651857942052864 := mul_small2 (small99b a.1 a.2) (small99b b.1 b.2)

theorem rdo_add_any (N1 D1 N2 D2 : Int) (w : World) (h1 : Is64 N1 D1) (h2 : Is64 N2 D2) : Calls Try.prog 14 #[.int .i64 0, .agg #[.int .i64 N1, .int .i64 D1], .agg #[.int .i64 N2, .int .i64 D2]] w (RatO (cutQ (addO (rawO N1 D1) (rawO N2 D2))) w) := by
  cases hm : mayB N1 D1
  · rw [rawO_none hm]
    exact rdo_no1 0 N1 D1 N2 D2 w h1 hm
  · cases hm2 : mayB N2 D2
    · rw [rawO_none hm2, raw_is hm]
      exact rdo_no2 0 N1 D1 N2 D2 w h1 hm h2 hm2
    · rw [raw_is hm, raw_is hm2]
      have p1 := may_pos hm
      have p2 := may_pos hm2
      refine rdo_0 N1 D1 N2 D2 _ _ _ w h1 hm h2 hm2 (told_of _ _ (two100 (prod2 ⟨h1.n1, h1.n2⟩ ⟨h2.d1, h2.d2⟩) (prod2 ⟨h2.n1, h2.n2⟩ ⟨h1.d1, h1.d2⟩)) (up2 (prod2 ⟨h1.d1, h1.d2⟩ ⟨h2.d1, h2.d2⟩)) ?_)
      rw [makeO_yes (Int.mul_ne_zero p1 p2)]
      show _ = some (Rat.divInt N1 D1 + Rat.divInt N2 D2)
      rw [Rat.divInt_add_divInt _ _ p1 p2]

theorem rdo_sub_any (N1 D1 N2 D2 : Int) (w : World) (h1 : Is64 N1 D1) (h2 : Is64 N2 D2) : Calls Try.prog 14 #[.int .i64 1, .agg #[.int .i64 N1, .int .i64 D1], .agg #[.int .i64 N2, .int .i64 D2]] w (RatO (cutQ (subO (rawO N1 D1) (rawO N2 D2))) w) := by
  cases hm : mayB N1 D1
  · rw [rawO_none hm]
    exact rdo_no1 1 N1 D1 N2 D2 w h1 hm
  · cases hm2 : mayB N2 D2
    · rw [rawO_none hm2, raw_is hm]
      exact rdo_no2 1 N1 D1 N2 D2 w h1 hm h2 hm2
    · rw [raw_is hm, raw_is hm2]
      have p1 := may_pos hm
      have p2 := may_pos hm2
      refine rdo_1 N1 D1 N2 D2 _ _ _ w h1 hm h2 hm2 (told_of _ _ (two100 (prod2 ⟨h1.n1, h1.n2⟩ ⟨h2.d1, h2.d2⟩) (by rw [Int.natAbs_neg]; exact prod2 ⟨h2.n1, h2.n2⟩ ⟨h1.d1, h1.d2⟩)) (up2 (prod2 ⟨h1.d1, h1.d2⟩ ⟨h2.d1, h2.d2⟩)) ?_)
      rw [makeO_yes (Int.mul_ne_zero p1 p2)]
      show _ = some (Rat.divInt N1 D1 - Rat.divInt N2 D2)
      rw [Rat.divInt_sub_divInt _ _ p1 p2, Int.sub_eq_add_neg]

theorem rdo_mul_any (N1 D1 N2 D2 : Int) (w : World) (h1 : Is64 N1 D1) (h2 : Is64 N2 D2) : Calls Try.prog 14 #[.int .i64 2, .agg #[.int .i64 N1, .int .i64 D1], .agg #[.int .i64 N2, .int .i64 D2]] w (RatO (cutQ (mulO (rawO N1 D1) (rawO N2 D2))) w) := by
  cases hm : mayB N1 D1
  · rw [rawO_none hm]
    exact rdo_no1 2 N1 D1 N2 D2 w h1 hm
  · cases hm2 : mayB N2 D2
    · rw [rawO_none hm2, raw_is hm]
      exact rdo_no2 2 N1 D1 N2 D2 w h1 hm h2 hm2
    · rw [raw_is hm, raw_is hm2]
      have p1 := may_pos hm
      have p2 := may_pos hm2
      refine rdo_2 N1 D1 N2 D2 _ _ _ w h1 hm h2 hm2 (told_of _ _ (up2 (prod2 ⟨h1.n1, h1.n2⟩ ⟨h2.n1, h2.n2⟩)) (up2 (prod2 ⟨h1.d1, h1.d2⟩ ⟨h2.d1, h2.d2⟩)) ?_)
      rw [makeO_yes (Int.mul_ne_zero p1 p2)]
      show _ = some (Rat.divInt N1 D1 * Rat.divInt N2 D2)
      rw [Rat.divInt_mul_divInt]

theorem rdo_div_any (N1 D1 N2 D2 : Int) (w : World) (h1 : Is64 N1 D1) (h2 : Is64 N2 D2) : Calls Try.prog 14 #[.int .i64 3, .agg #[.int .i64 N1, .int .i64 D1], .agg #[.int .i64 N2, .int .i64 D2]] w (RatO (cutQ (divO (rawO N1 D1) (rawO N2 D2))) w) := by
  cases hm : mayB N1 D1
  · rw [rawO_none hm]
    exact rdo_no1 3 N1 D1 N2 D2 w h1 hm
  · cases hm2 : mayB N2 D2
    · rw [rawO_none hm2, raw_is hm]
      exact rdo_no2 3 N1 D1 N2 D2 w h1 hm h2 hm2
    · rw [raw_is hm, raw_is hm2]
      have p1 := may_pos hm
      have p2 := may_pos hm2
      refine rdo_3 N1 D1 N2 D2 _ _ _ w h1 hm h2 hm2 (told_of _ _ (up2 (prod2 ⟨h1.n1, h1.n2⟩ ⟨h2.d1, h2.d2⟩)) (up2 (prod2 ⟨h1.d1, h1.d2⟩ ⟨h2.n1, h2.n2⟩)) ?_)
      obtain ⟨q, hq⟩ := rawO_is hm2
      obtain ⟨a, b, _⟩ := rawO_some hq
      rw [raw_is hm2] at hq
      obtain rfl : Rat.divInt N2 D2 = q := by simpa using hq
      show _ = if Rat.divInt N2 D2 = 0 then none else some (Rat.divInt N1 D1 / Rat.divInt N2 D2)
      by_cases hz : N2 = 0
      · subst hz
        rw [if_pos (Rat.zero_divInt _), Int.mul_zero]
        rfl
      · rw [if_neg (fun e => hz (by rw [← a, e]; rfl)), makeO_yes (Int.mul_ne_zero p1 hz), Rat.div_def, Rat.inv_divInt, Rat.divInt_mul_divInt]

set_option maxHeartbeats 8000000 in
theorem reckons_walk (N1 D1 N2 D2 : Int) (w : World) (h1 : Is64 N1 D1) (h2 : Is64 N2 D2) :
    Calls Try.prog 4 #[.agg #[.int .i64 N1, .int .i64 D1], .agg #[.int .i64 N2, .int .i64 D2]] w (BoolIs true w) := by
  have HS := Lib.hid shown_any
  have HP0 := Lib.hid (fun w => add_any N1 D1 N2 D2 w h1 h2)
  have HQ0 := Lib.hid (fun w => rdo_add_any N1 D1 N2 D2 w h1 h2)
  unfold RatO at HP0 HQ0
  generalize numO (cutQ (addO (rawO N1 D1) (rawO N2 D2))) = A0 at *
  generalize denO (cutQ (addO (rawO N1 D1) (rawO N2 D2))) = B0 at *
  generalize okO (cutQ (addO (rawO N1 D1) (rawO N2 D2))) = C0 at *
  have HP1 := Lib.hid (fun w => sub_any N1 D1 N2 D2 w h1 h2)
  have HQ1 := Lib.hid (fun w => rdo_sub_any N1 D1 N2 D2 w h1 h2)
  unfold RatO at HP1 HQ1
  generalize numO (cutQ (subO (rawO N1 D1) (rawO N2 D2))) = A1 at *
  generalize denO (cutQ (subO (rawO N1 D1) (rawO N2 D2))) = B1 at *
  generalize okO (cutQ (subO (rawO N1 D1) (rawO N2 D2))) = C1 at *
  have HP2 := Lib.hid (fun w => mul_any N1 D1 N2 D2 w h1 h2)
  have HQ2 := Lib.hid (fun w => rdo_mul_any N1 D1 N2 D2 w h1 h2)
  unfold RatO at HP2 HQ2
  generalize numO (cutQ (mulO (rawO N1 D1) (rawO N2 D2))) = A2 at *
  generalize denO (cutQ (mulO (rawO N1 D1) (rawO N2 D2))) = B2 at *
  generalize okO (cutQ (mulO (rawO N1 D1) (rawO N2 D2))) = C2 at *
  have HP3 := Lib.hid (fun w => div_any N1 D1 N2 D2 w h1 h2)
  have HQ3 := Lib.hid (fun w => rdo_div_any N1 D1 N2 D2 w h1 h2)
  unfold RatO at HP3 HQ3
  generalize numO (cutQ (divO (rawO N1 D1) (rawO N2 D2))) = A3 at *
  generalize denO (cutQ (divO (rawO N1 D1) (rawO N2 D2))) = B3 at *
  generalize okO (cutQ (divO (rawO N1 D1) (rawO N2 D2))) = C3 at *
  have V := ((NV.first w).alloc (.int .i64 N1) (.int .i64 D1) 24).alloc (.int .i64 N2) (.int .i64 D2) 24
  clear h1 h2
  go_enter Try.func4, Try.ntmps4
  go_wp2_with fail
  refine (HS.out _).mono ?_
  rintro e w1 ⟨rfl, hb1⟩
  have V1 : NV w ((w.heap.size + 1, .int .i64 N2, .int .i64 D2) :: (w.heap.size, .int .i64 N1, .int .i64 D1) :: []) w1 := by
    have := V.next hb1
    simpa using this
  clear V hb1 HS
  go_wp2_with fail
  go_loopw [6] (fun i wr => ∃ k : Nat, k ≤ 4 ∧ i = .int .i64 k ∧ NV w ((w.heap.size + 1, .int .i64 N2, .int .i64 D2) :: (w.heap.size, .int .i64 N1, .int .i64 D1) :: []) wr) (fun i _ => (4 - intOf i).toNat)
  case atStart => exact ⟨0, by omega, rfl, V1⟩
  case round =>
    clear V1
    obtain ⟨k, hk, rfl, V⟩ := hrel
    obtain ⟨z2, k3, k4, -⟩ := V.h1
    obtain ⟨z1, k1, k2, -⟩ := V.tl.h1
    simp only at z1 z2 k1 k2 k3 k4
    have n1 : ¬ wr.heap.size = w.heap.size := by omega
    have n2 : ¬ wr.heap.size = w.heap.size + 1 := by omega
    by_cases h4 : k = 4
    · subst h4
      have hB := V.bel
      go_wp2_with fail
      go_ret
      exact ⟨rfl, hB⟩
    · have hk4 : k = 0 ∨ k = 1 ∨ k = 2 ∨ k = 3 := by omega
      rcases hk4 with rfl | rfl | rfl | rfl
      · have hq := eq_rat A0 B0 A0 B0
        simp only [beq_self_eq_true, Bool.and_self] at hq
        go_wp2_with fail
        refine (HP0.out _).mono ?_
        rintro e x1 ⟨rfl, hb1⟩
        have G := (V.alloc (.int .i64 0) (.int .i64 0) 24).next hb1
        obtain ⟨y0, c0, c1, cf⟩ := G.h1
        simp only at y0 c0 c1 cf
        clear k1 k2 k3 k4
        obtain ⟨zz2, k3, k4, -⟩ := G.tl.h1
        obtain ⟨zz1, k1, k2, -⟩ := G.tl.tl.h1
        simp only at zz1 zz2 k1 k2 k3 k4
        have P := (G.tl.far ⟨wr.heap.size, 0, none⟩ (by simp; omega) (by intro t ht; simp at ht; rcases ht with rfl | rfl <;> simp <;> omega) (.int .i64 A0)).far ⟨wr.heap.size, 1, none⟩ (by simp; omega) (by intro t ht; simp at ht; rcases ht with rfl | rfl <;> simp <;> omega) (.int .i64 B0)
        go_wp2_with fail
        refine (HQ0.out _).mono ?_
        rintro e x2 ⟨rfl, hb2⟩
        have P2 := P.next hb2
        have d0 : x2.cell? ⟨wr.heap.size, 0, none⟩ = some (.int .i64 A0) := (hb2.cell (p := ⟨wr.heap.size, 0, none⟩) (by simp; omega)).trans (by simp [go_sem, c0])
        have d1 : x2.cell? ⟨wr.heap.size, 1, none⟩ = some (.int .i64 B0) := (hb2.cell (p := ⟨wr.heap.size, 1, none⟩) (by simp; omega)).trans (by simp [go_sem, c1])
        have y2 : wr.heap.size < x2.heap.size := by have := hb2.size; simp at this; omega
        have P3 := (P2.alloc (.int .i64 A0) (.int .i64 B0) 24).tl
        clear G P P2 hb1 hb2 c0 c1 cf k1 k2 k3 k4 V zz1 zz2 y0
        go_wp2_with fail
        go_roundw
        case rel => exact ⟨1, by omega, rfl, P3⟩
        case measure => simp [intOf]
      · have hq := eq_rat A1 B1 A1 B1
        simp only [beq_self_eq_true, Bool.and_self] at hq
        go_wp2_with fail
        refine (HP1.out _).mono ?_
        rintro e x1 ⟨rfl, hb1⟩
        have G := (V.alloc (.int .i64 0) (.int .i64 0) 24).next hb1
        obtain ⟨y0, c0, c1, cf⟩ := G.h1
        simp only at y0 c0 c1 cf
        clear k1 k2 k3 k4
        obtain ⟨zz2, k3, k4, -⟩ := G.tl.h1
        obtain ⟨zz1, k1, k2, -⟩ := G.tl.tl.h1
        simp only at zz1 zz2 k1 k2 k3 k4
        have P := (G.tl.far ⟨wr.heap.size, 0, none⟩ (by simp; omega) (by intro t ht; simp at ht; rcases ht with rfl | rfl <;> simp <;> omega) (.int .i64 A1)).far ⟨wr.heap.size, 1, none⟩ (by simp; omega) (by intro t ht; simp at ht; rcases ht with rfl | rfl <;> simp <;> omega) (.int .i64 B1)
        go_wp2_with fail
        refine (HQ1.out _).mono ?_
        rintro e x2 ⟨rfl, hb2⟩
        have P2 := P.next hb2
        have d0 : x2.cell? ⟨wr.heap.size, 0, none⟩ = some (.int .i64 A1) := (hb2.cell (p := ⟨wr.heap.size, 0, none⟩) (by simp; omega)).trans (by simp [go_sem, c0])
        have d1 : x2.cell? ⟨wr.heap.size, 1, none⟩ = some (.int .i64 B1) := (hb2.cell (p := ⟨wr.heap.size, 1, none⟩) (by simp; omega)).trans (by simp [go_sem, c1])
        have y2 : wr.heap.size < x2.heap.size := by have := hb2.size; simp at this; omega
        have P3 := (P2.alloc (.int .i64 A1) (.int .i64 B1) 24).tl
        clear G P P2 hb1 hb2 c0 c1 cf k1 k2 k3 k4 V zz1 zz2 y0
        go_wp2_with fail
        go_roundw
        case rel => exact ⟨2, by omega, rfl, P3⟩
        case measure => simp [intOf]
      · have hq := eq_rat A2 B2 A2 B2
        simp only [beq_self_eq_true, Bool.and_self] at hq
        go_wp2_with fail
        refine (HP2.out _).mono ?_
        rintro e x1 ⟨rfl, hb1⟩
        have G := (V.alloc (.int .i64 0) (.int .i64 0) 24).next hb1
        obtain ⟨y0, c0, c1, cf⟩ := G.h1
        simp only at y0 c0 c1 cf
        clear k1 k2 k3 k4
        obtain ⟨zz2, k3, k4, -⟩ := G.tl.h1
        obtain ⟨zz1, k1, k2, -⟩ := G.tl.tl.h1
        simp only at zz1 zz2 k1 k2 k3 k4
        have P := (G.tl.far ⟨wr.heap.size, 0, none⟩ (by simp; omega) (by intro t ht; simp at ht; rcases ht with rfl | rfl <;> simp <;> omega) (.int .i64 A2)).far ⟨wr.heap.size, 1, none⟩ (by simp; omega) (by intro t ht; simp at ht; rcases ht with rfl | rfl <;> simp <;> omega) (.int .i64 B2)
        go_wp2_with fail
        refine (HQ2.out _).mono ?_
        rintro e x2 ⟨rfl, hb2⟩
        have P2 := P.next hb2
        have d0 : x2.cell? ⟨wr.heap.size, 0, none⟩ = some (.int .i64 A2) := (hb2.cell (p := ⟨wr.heap.size, 0, none⟩) (by simp; omega)).trans (by simp [go_sem, c0])
        have d1 : x2.cell? ⟨wr.heap.size, 1, none⟩ = some (.int .i64 B2) := (hb2.cell (p := ⟨wr.heap.size, 1, none⟩) (by simp; omega)).trans (by simp [go_sem, c1])
        have y2 : wr.heap.size < x2.heap.size := by have := hb2.size; simp at this; omega
        have P3 := (P2.alloc (.int .i64 A2) (.int .i64 B2) 24).tl
        clear G P P2 hb1 hb2 c0 c1 cf k1 k2 k3 k4 V zz1 zz2 y0
        go_wp2_with fail
        go_roundw
        case rel => exact ⟨3, by omega, rfl, P3⟩
        case measure => simp [intOf]
      · have hq := eq_rat A3 B3 A3 B3
        simp only [beq_self_eq_true, Bool.and_self] at hq
        go_wp2_with fail
        refine (HP3.out _).mono ?_
        rintro e x1 ⟨rfl, hb1⟩
        have G := (V.alloc (.int .i64 0) (.int .i64 0) 24).next hb1
        obtain ⟨y0, c0, c1, cf⟩ := G.h1
        simp only at y0 c0 c1 cf
        clear k1 k2 k3 k4
        obtain ⟨zz2, k3, k4, -⟩ := G.tl.h1
        obtain ⟨zz1, k1, k2, -⟩ := G.tl.tl.h1
        simp only at zz1 zz2 k1 k2 k3 k4
        have P := (G.tl.far ⟨wr.heap.size, 0, none⟩ (by simp; omega) (by intro t ht; simp at ht; rcases ht with rfl | rfl <;> simp <;> omega) (.int .i64 A3)).far ⟨wr.heap.size, 1, none⟩ (by simp; omega) (by intro t ht; simp at ht; rcases ht with rfl | rfl <;> simp <;> omega) (.int .i64 B3)
        go_wp2_with fail
        refine (HQ3.out _).mono ?_
        rintro e x2 ⟨rfl, hb2⟩
        have P2 := P.next hb2
        have d0 : x2.cell? ⟨wr.heap.size, 0, none⟩ = some (.int .i64 A3) := (hb2.cell (p := ⟨wr.heap.size, 0, none⟩) (by simp; omega)).trans (by simp [go_sem, c0])
        have d1 : x2.cell? ⟨wr.heap.size, 1, none⟩ = some (.int .i64 B3) := (hb2.cell (p := ⟨wr.heap.size, 1, none⟩) (by simp; omega)).trans (by simp [go_sem, c1])
        have y2 : wr.heap.size < x2.heap.size := by have := hb2.size; simp at this; omega
        have P3 := (P2.alloc (.int .i64 A3) (.int .i64 B3) 24).tl
        clear G P P2 hb1 hb2 c0 c1 cf k1 k2 k3 k4 V zz1 zz2 y0
        go_wp2_with fail
        go_roundw
        case rel => exact ⟨4, by omega, rfl, P3⟩
        case measure => simp [intOf]
end Go.Proofs.Ytnbloflgggndiaa
