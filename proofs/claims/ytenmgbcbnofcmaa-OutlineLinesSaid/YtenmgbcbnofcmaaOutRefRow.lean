/- The reference's row of a contour. -/
import Derived.Test.YtenmgbcbnofcmaaOutRefRing
import Derived.Test.YtenmgbcbnofcmaaOutOnce
namespace Go.Proofs.Ytenmgbcbnofcmaa
open Go.RowKit

theorem SRow.look {W : World} {B : Nat} {v : Value} {R : List Pn} (h : SRow W B v R) (h0 : 0 < R.length) : ∃ A c, v = .slice (some A) R.length c ∧ A.block < W.heap.size ∧ A.spot = none ∧ ∀ i, i < R.length → W.cell? (A.add (i * 3)) = some (.int .i64 (R[i]?.getD default).x) ∧ W.cell? ⟨(A.add (i * 3)).block, (A.add (i * 3)).off + 1, none⟩ = some (.int .i64 (R[i]?.getD default).y) ∧ W.cell? ⟨(A.add (i * 3)).block, (A.add (i * 3)).off + 2, none⟩ = some (.bool (R[i]?.getD default).on) := by
  rcases own_form h with ⟨h1, h2⟩ | ⟨g, c, rfl, -, hg, hn, hc⟩
  · omega
  · refine ⟨_, c, rfl, hg, rfl, fun i hi => ?_⟩
    obtain ⟨e1, e2, e3⟩ := encs_get R i hi
    have hc := World.ownsRow.cells h (g := g) rfl
    exact ⟨hc _ _ e1, (by rw [add_more _ _ 0]; exact hc _ _ e2), (by rw [add_more _ _ 1]; exact hc _ _ e3)⟩
theorem rotO_len (qs : List Pn) : (rotO qs).length = (ringL qs qs.length).length := by simp [rotO]
set_option maxHeartbeats 4000000 in
theorem refrow_any (v1 v2 : Value) (ts : List (Int × Int)) (bs : List Bool) (w : World) (h1 : TsAt w v1 ts) (h2 : BsAt w v2 bs) (hlen : bs.length = ts.length) (h0 : 0 < ts.length) (hl : ts.length ≤ 100000) :
    Calls Try.prog 45 #[v1, v2] w fun e w' => ∃ v', e = .returned v' ∧ TsAt w' v' (onceO (rotO (zipO ts bs)) 0) ∧ Below w.heap.size w w' ∧ ∀ a l c, v' = .slice (some a) l c → w.heap.size ≤ a.block := by
  obtain ⟨i0, hi, hz0, hz1, hz2⟩ := info_parts infoPt
  have hring := refring_any v1 v2 ts bs w h1 h2 hlen h0 hl
  obtain ⟨R, hR⟩ : ∃ R, rotO (zipO ts bs) = R := ⟨_, rfl⟩
  have hRl : 0 < R.length ∧ R.length ≤ 200000 := by
    have e1 := ringL_ge (zipO ts bs) (zipO ts bs).length
    have e2 := ringL_len (zipO ts bs) (zipO ts bs).length
    rw [← hR, rotO_len]
    rw [zipO_len] at e1 e2 ⊢
    omega
  rw [hR] at hring
  rw [hR]
  obtain ⟨hR0, hR1⟩ := hRl
  clear h1 h2 hlen h0 hl hR
  go_enter Try.func45, Try.ntmps45
  go_wp2_with fail
  refine hring.mono ?_
  rintro e w1 ⟨v, rfl, hS, hb1⟩
  obtain ⟨A, cA, rfl, hA, hAs, hcs⟩ := hS.look hR0
  have HC := Lib.hid (fun (W : World) (hb : Below w1.heap.size w1 W) (j J : Nat) (hJ : j % R.length = J) => show (W.cell? (A.add (J * 3)) = some (.int .i64 (atO R 0 j).x) ∧ W.cell? ⟨(A.add (J * 3)).block, (A.add (J * 3)).off + 1, none⟩ = some (.int .i64 (atO R 0 j).y) ∧ W.cell? ⟨(A.add (J * 3)).block, (A.add (J * 3)).off + 2, none⟩ = some (.bool (atO R 0 j).on)) ∧ J < R.length from by
    have hj : J < R.length := by rw [← hJ]; exact Nat.mod_lt _ (by omega)
    have h := PtsAt.cells_on hcs hA hb J hj
    unfold atO
    rw [Nat.zero_add, hJ]
    exact ⟨h, hj⟩)
  obtain ⟨⟨k1, k2, -⟩, -⟩ := HC.out w1 (Below.refl _ _) 0 0 (Nat.zero_mod _)
  clear hS hring hcs
  obtain ⟨a0, ha0⟩ : ∃ a0, atO R 0 0 = a0 := ⟨_, rfl⟩
  rw [ha0] at k1 k2
  have HR := Lib.hid (show [(a0.x, a0.y)] ++ goO R 0 R.length (0 + 1) (atO R 0 0) = roundO R 0 by rw [← ha0]; rfl)
  clear ha0
  obtain ⟨ax, ay, ao⟩ := a0
  simp only at k1 k2 HR
  have k1' : w1.cell? A = some (.int .i64 ax) := by
    have e : A.add (0 * 3) = A := by simp [Addr.add]
    rw [← e]; exact k1
  have k2' : w1.cell? ⟨A.block, A.off + 1, none⟩ = some (.int .i64 ay) := by
    have e : A.add (0 * 3) = A := by simp [Addr.add]
    rw [e] at k2; exact k2
  go_wp2_with fail
  have F0 : TRow (w1.alloc (.cells #[.int .i64 ax, .int .i64 ay] 52)) w1.heap.size (.slice (some ⟨w1.heap.size, 0, none⟩) 1 1) [(ax, ay)] := (by simpa [TRow, encT] using World.ownsRow_lit (base := w1.heap.size) (e := 52) (size := 2) w1 #[.int .i64 ax, .int .i64 ay] 1 (by omega) (by unfold maxLen; omega) rfl)
  clear k1 k2 k1' k2'
  go_loopw [6, 7] (fun r i wr => ∃ (k f g cap : Nat) (T : List (Int × Int)), k ≤ R.length + 1 ∧ R.length ≤ f + k ∧ T.length ≤ 8 * k + 1 ∧ 1 ≤ T.length ∧ i = .int .i64 (k : Int) ∧ r = .slice (some ⟨g, 0, none⟩) T.length cap ∧ Hid (T ++ goO R 0 f (k + 1) (atO R 0 k) = roundO R 0) ∧ TRow wr w1.heap.size r T ∧ Below w1.heap.size w1 wr) (fun _ i _ => (R.length + 2 - intOf i).toNat)
  case atStart => exact ⟨0, R.length, _, _, [(ax, ay)], by omega, by omega, by simp, by simp, rfl, rfl, HR, F0, balloc _ _⟩
  case round =>
    clear F0 HR
    obtain ⟨k, f, g, cap, T, hk1, hf, hT, hT1, rfl, rfl, hrel, hrow, hB⟩ := hrel
    obtain ⟨wo, hwo⟩ : ∃ x, x = wr := ⟨_, rfl⟩
    subst hwo
    have hgl := World.ownsRow.lt hrow g rfl
    by_cases hlt : k < R.length
    · obtain ⟨f, rfl⟩ : ∃ f', f = f' + 1 := ⟨f - 1, by omega⟩
      obtain ⟨J1, hJ1⟩ : ∃ J, (k + 1) % R.length = J := ⟨_, rfl⟩
      obtain ⟨⟨a1, a2, -⟩, -⟩ := HC.out wo hB k k (Nat.mod_eq_of_lt hlt)
      have hj1 := (HC.out wo hB (k + 1) J1 hJ1).2
      have hrel := hrel.out
      have e1 : IntKind.i64.wrap ((k : Int) + 1) = ((k + 1 : Nat) : Int) := by rw [IntWalk.i64_in _ (by omega)]; rfl
      have e2 : ((k : Int) + 1) % (R.length : Int) = (J1 : Int) := by rw [← hJ1]; rfl
      have z0 : (0 : Int) ≤ (J1 : Int) := by omega
      have z1 : (J1 : Int) < (R.length : Int) := by omega
      have z4 : ¬ R.length = 0 := by omega
      have hmt : maxLen = 9223372036854775807 ∨ True := .inr trivial
      by_cases hon : (atO R 0 (k + 1)).on = true
      · rw [goO_on (by omega) hon] at hrel
        have hrelS := Lib.hid hrel
        clear hrel
        obtain ⟨a, ha⟩ : ∃ a, atO R 0 k = a := ⟨_, rfl⟩
        rw [ha] at a1 a2
        clear ha
        obtain ⟨b, hb⟩ : ∃ b, atO R 0 (k + 1) = b := ⟨_, rfl⟩
        have HB := Lib.hid hb
        rw [hb] at hon
        clear hb
        obtain ⟨bx, yb, bo⟩ := b
        obtain ⟨ax', ay', ao'⟩ := a
        obtain ⟨⟨b1, b2, b3⟩, -⟩ := HC.out (wo.alloc (.cells #[.int .i64 ax', .int .i64 ay'] 52)) (hB.alloc hB.size _) (k + 1) J1 hJ1
        rw [HB.out] at b1 b2 b3
        simp only at a1 a2 b1 b2 b3 hon
        subst hon
        go_wp2_with (at_builtin; refine wpList_append_lies _ (by rfl) _ _ _ (by rfl) w1.heap.size 52 i0 _ 2 16 Try.underlying42 hi hz0 hz1 hz2 rfl (by omega) (.slice (some ⟨g, 0, none⟩) T.length cap) T.length (encT T) (by rfl) (World.ownsRow.alloc (World.ownsRow.alloc (World.ownsRow.alloc hrow _) _) _) ⟨wo.heap.size + 1 + 1, 0, none⟩ 1 1 [.int .i64 bx, .int .i64 yb] (by rfl) (by rfl) (World.news_of_block (cs := #[.int .i64 bx, .int .i64 yb]) (t := 52) (fr := (0, 0)) (by have h := heap_alloc_new ((wo.alloc (.cells #[.int .i64 ax', .int .i64 ay'] 52)).alloc (.cells #[.int .i64 bx, .int .i64 yb, .bool true] 79)) (.cells #[.int .i64 bx, .int .i64 yb] 52); rwa [show ((wo.alloc (.cells #[.int .i64 ax', .int .i64 ay'] 52)).alloc (.cells #[.int .i64 bx, .int .i64 yb, .bool true] 79)).heap.size = wo.heap.size + 1 + 1 by simp] at h)) (by simp [Value.oneCell']) (by omega) (by unfold maxLen; omega) (by omega) (by have := hB.size; simp; omega) (wo.heap.size + 1 + 1 + 1) (by simp) ?_)
        intro g2 cap2 w4 hown4 hgrow hat hlt2
        have hB4 : Below w1.heap.size w1 w4 := (((hB.alloc hB.size _).alloc (by have := hB.size; simp; omega) _).alloc (by have := hB.size; simp; omega) _).grown hgrow (by have := hB.size; simp; omega) (fun x hx => (World.ownsRow.lt hrow x hx).1)
        have hrow4 : TRow w4 w1.heap.size (.slice (some ⟨g2, 0, none⟩) (T.length + 1) cap2) (T ++ [(bx, yb)]) := TRow.snoc rfl hown4
        clear hgrow hown4 hat hrow a1 a2 b1 b2 b3
        go_wp2_with fail
        go_roundw
        case rel => exact ⟨k + 1, f, g2, cap2, T ++ [(bx, yb)], by omega, by omega, by simp; omega, by simp, by go_num, by simp, Lib.hid (by have h := hrelS.out; rw [HB.out] at h ⊢; rw [List.append_assoc]; exact h), hrow4, hB4⟩
        case measure => simp [intOf]; omega
      · have hoff : (atO R 0 (k + 1)).on = false := by simpa using hon
        rw [goO_off (by omega) hoff] at hrel
        clear hon
        have hrelS := Lib.hid hrel
        clear hrel
        obtain ⟨J2, hJ2⟩ : ∃ J, (k + 2) % R.length = J := ⟨_, rfl⟩
        have HCk := Lib.hid (fun W hb => HC.out W hb (k + 2) J2 hJ2)
        have hj2 : J2 < R.length := by rw [← hJ2]; exact Nat.mod_lt _ (by omega)
        have e3 : IntKind.i64.wrap ((k : Int) + 2) = ((k + 2 : Nat) : Int) := by rw [IntWalk.i64_in _ (by omega)]; rfl
        have e4 : ((k : Int) + 2) % (R.length : Int) = (J2 : Int) := by rw [← hJ2]; rfl
        have z2 : (0 : Int) ≤ (J2 : Int) := by omega
        have z3 : (J2 : Int) < (R.length : Int) := by omega
        obtain ⟨c, hc⟩ : ∃ c, atO R 0 (k + 2) = c := ⟨_, rfl⟩
        have HC2 := Lib.hid hc
        obtain ⟨b, hb⟩ : ∃ b, atO R 0 (k + 1) = b := ⟨_, rfl⟩
        have HB := Lib.hid hb
        rw [hb] at hoff
        obtain ⟨a, ha⟩ : ∃ a, atO R 0 k = a := ⟨_, rfl⟩
        have HA := Lib.hid ha
        rw [ha] at a1 a2
        clear hb hc ha
        obtain ⟨ax', ay', ao'⟩ := a
        obtain ⟨bx, yb, bo⟩ := b
        obtain ⟨cx, cy, co⟩ := c
        obtain ⟨⟨b1, b2, b3⟩, -⟩ := HC.out (wo.alloc (.cells #[.int .i64 ax', .int .i64 ay'] 52)) (hB.alloc hB.size _) (k + 1) J1 hJ1
        rw [HB.out] at b1 b2 b3
        simp only at a1 a2 b1 b2 b3 hoff
        subst hoff
        obtain ⟨⟨d1, d2, -⟩, -⟩ := HCk.out ((wo.alloc (.cells #[.int .i64 ax', .int .i64 ay'] 52)).alloc (.cells #[.int .i64 bx, .int .i64 yb, .bool false] 79)) ((hB.alloc hB.size _).alloc (by have := hB.size; simp; omega) _)
        rw [HC2.out] at d1 d2
        simp only at d1 d2
        have HL := Lib.hid (linesO_succ ⟨ax', ay', ao'⟩ ⟨bx, yb, false⟩ ⟨cx, cy, co⟩)
        have HN := Lib.hid (linesO_len ⟨ax', ay', ao'⟩ ⟨bx, yb, false⟩ ⟨cx, cy, co⟩)
        generalize hLO : linesO ⟨ax', ay', ao'⟩ ⟨bx, yb, false⟩ ⟨cx, cy, co⟩ = LO at *
        have HLO := Lib.hid hLO
        clear hLO
        go_wp2_with fail
        go_loopw [6, 11] (fun r i wr => ∃ (n g' cap' : Nat), n ≤ 8 ∧ i = .int .i64 ((n : Int) + 1) ∧ r = .slice (some ⟨g', 0, none⟩) (T.length + n) cap' ∧ TRow wr w1.heap.size r (T ++ LO n) ∧ Below w1.heap.size w1 wr ∧ (g' = g ∨ wo.heap.size + 3 ≤ g') ∧ wo.heap.size + 3 ≤ wr.heap.size ∧ wr.cell? ⟨wo.heap.size, 0, none⟩ = some (.int .i64 ax') ∧ wr.cell? ⟨wo.heap.size, 1, none⟩ = some (.int .i64 ay') ∧ wr.cell? ⟨wo.heap.size + 1, 0, none⟩ = some (.int .i64 bx) ∧ wr.cell? ⟨wo.heap.size + 1, 1, none⟩ = some (.int .i64 yb) ∧ wr.cell? ⟨wo.heap.size + 1 + 1, 0, none⟩ = some (.int .i64 cx) ∧ wr.cell? ⟨wo.heap.size + 1 + 1, 1, none⟩ = some (.int .i64 cy)) (fun _ i _ => (9 - intOf i).toNat)
        case atStart =>
          refine ⟨0, g, cap, by omega, by go_num, rfl, ?_, ((hB.alloc hB.size _).alloc (by have := hB.size; simp; omega) _).alloc (by have := hB.size; simp; omega) _, .inl rfl, by simp, by simp [go_sem], by simp [go_sem], by simp [go_sem], by simp [go_sem], by simp [go_sem], by simp [go_sem]⟩
          rw [List.eq_nil_of_length_eq_zero (HN.out 0), List.append_nil]
          exact World.ownsRow.alloc (World.ownsRow.alloc (World.ownsRow.alloc hrow _) _) _
        case round =>
          clear a1 a2 b1 b2 b3 d1 d2 hrow hB
          obtain ⟨n, g', cap', hn, rfl, rfl, hown, hB, hgg, hz, c1, c2, c3, c4, c5, c6⟩ := hrel
          have hsz1 := hB.size
          by_cases hlt8 : n < 8
          · have HX := Lib.hid (fun W => mix_any ((n : Int) + 1) ax' bx cx W (by omega) (by omega))
            have HY := Lib.hid (fun W => mix_any ((n : Int) + 1) ay' yb cy W (by omega) (by omega))
            generalize hX : weighO ((n : Int) + 1) ax' bx cx = X at *
            generalize hY : weighO ((n : Int) + 1) ay' yb cy = Y at *
            have hs : LO (n + 1) = LO n ++ [(X, Y)] := by rw [HL.out n]; simp only [hX, hY]
            have hs := Lib.hid hs
            have hlen : (T ++ LO n).length = T.length + n := by rw [List.length_append, HN.out n]
            have hown : wr.ownsRow w1.heap.size 52 2 (.slice (some ⟨g', 0, none⟩) (T.length + n) cap') (T.length + n) (encT (T ++ LO n)) := by rw [← hlen]; rw [← hlen] at hown; exact hown
            have hgl' := World.ownsRow.lt hown g' rfl
            have hne0 : g' ≠ wo.heap.size := by rcases hgg with h | h <;> omega
            have hne1 : g' ≠ wo.heap.size + 1 := by rcases hgg with h | h <;> omega
            have hne2 : g' ≠ wo.heap.size + 1 + 1 := by rcases hgg with h | h <;> omega
            have HL2 := Lib.hid hlen
            clear hX hY HL hlen HN HLO
            generalize hEN : encT (T ++ LO n) = EN at *
            have hEN := Lib.hid hEN
            go_wp2_with fail
            go_region_held3 (fun w' => w'.cell? ⟨wo.heap.size, 0, none⟩ = some (.int .i64 ax') ∧ w'.cell? ⟨wo.heap.size, 1, none⟩ = some (.int .i64 ay') ∧ w'.cell? ⟨wo.heap.size + 1, 0, none⟩ = some (.int .i64 bx) ∧ w'.cell? ⟨wo.heap.size + 1, 1, none⟩ = some (.int .i64 yb) ∧ w'.cell? ⟨wo.heap.size + 1 + 1, 0, none⟩ = some (.int .i64 cx) ∧ w'.cell? ⟨wo.heap.size + 1 + 1, 1, none⟩ = some (.int .i64 cy)) (first | go_keep | (go_split_ands; refine ⟨?_, ?_, ?_, ?_, ?_, ?_⟩ <;> (rw [hgrow.cell_far _ (by simp; omega) (by simp [Value.ownBlock]; omega)]; assumption)))
              (first | (go_at_call 54; (first | with_reducible refine (HX.out _).mono ?_ | with_reducible refine (HY.out _).mono ?_); rintro e w' ⟨rfl, rfl⟩) | (refine step_append_lies _ (by rfl) _ _ _ (by rfl) w1.heap.size 52 i0 _ 2 16 Try.underlying42 hi hz0 hz1 hz2 rfl (by omega) (.slice (some ⟨g', 0, none⟩) (T.length + n) cap') (T.length + n) EN (by rfl) ((hown.alloc _).drew) ⟨wr.heap.size, 0, none⟩ 1 1 [.int .i64 X, .int .i64 Y] (by rfl) (by rfl) (World.news_of_block (cs := #[.int .i64 X, .int .i64 Y]) (t := 52) (fr := (0, 0)) (heap_alloc_new wr _)) (by simp [Value.oneCell']) (by omega) (by unfold maxLen; omega) (by omega) (by simp; omega) (wr.heap.size + 1) (by simp) ?_; intro gg cap2 w4 hown4 hgrow hat hlt2))
            have hB2 : Below w1.heap.size w1 w4 := ((hB.alloc hB.size _).drew).grown hgrow (by simp; omega) (by intro z hz; simp [Value.ownBlock] at hz; omega)
            have hrow : TRow w4 w1.heap.size (.slice (some ⟨gg, 0, none⟩) (T.length + n + 1) cap2) (T ++ LO (n + 1)) := by
              rw [hs.out, ← List.append_assoc]
              exact TRow.snoc HL2.out (by rw [hEN.out]; exact hown4)
            have hz2' : wo.heap.size + 3 ≤ w4.heap.size := by have := hgrow.size; simp at this; omega
            have hgg2 : gg = g ∨ wo.heap.size + 3 ≤ gg := by
              rcases hat with h | h
              · have : g' = gg := by simpa [Value.ownBlock] using h
                omega
              · (first | omega | (simp at h; omega))
            have hcc : ∀ (b o : Nat) (v : Value), b < wr.heap.size → g' ≠ b → wr.cell? ⟨b, o, none⟩ = some v → w4.cell? ⟨b, o, none⟩ = some v := fun b o v hb hn h => (hgrow.cell_far _ (by simp; omega) (by simp [Value.ownBlock]; omega)).trans (by simp [go_sem, h, hb])
            have m1 := hcc _ _ _ (by omega) hne0 c1
            have m2 := hcc _ _ _ (by omega) hne0 c2
            have m3 := hcc _ _ _ (by omega) hne1 c3
            have m4 := hcc _ _ _ (by omega) hne1 c4
            have m5 := hcc _ _ _ (by omega) hne2 c5
            have m6 := hcc _ _ _ (by omega) hne2 c6
            clear hgrow hown4 hown hat hcc c1 c2 c3 c4 c5 c6
            go_wp2_with fail
            go_roundw
            case rel => exact ⟨n + 1, gg, cap2, by omega, by go_num, rfl, hrow, hB2, hgg2, hz2', m1, m2, m3, m4, m5, m6⟩
            case measure => simp [intOf]; omega
          · obtain rfl : n = 8 := by omega
            have h8 := HN.out 8
            clear c1 c2 c3 c4 c5 c6
            go_wp2_with fail
            go_roundw
            case rel => exact ⟨k + 2, f, g', cap', T ++ LO 8, by omega, by omega, by simp; omega, by simp; omega, by go_num, by simp; omega, Lib.hid (by have h := hrelS.out; rw [HA.out, HB.out, HC2.out, HLO.out] at h; rw [HC2.out, List.append_assoc]; exact h), hown, hB⟩
            case measure => simp [intOf]; omega
    · have hrel := hrel.out
      rw [goO_end (by omega), List.append_nil] at hrel
      have hcap : T.length ≤ cap := by
        rcases own_form hrow with ⟨h, -⟩ | ⟨g', c', hv, -, -, hn, -⟩
        · simp at h
        · simp only [Value.slice.injEq] at hv
          rw [hv.2.2]
          exact hn
      have hQ : TsAt wo (.slice (some ⟨g, 0, none⟩) T.dropLast.length cap) T.dropLast := hrow.cut _ (List.dropLast_prefix T)
      rw [List.length_dropLast] at hQ
      have hO : onceO R 0 = T.dropLast := by unfold onceO; rw [← hrel]
      have hBw : Below w.heap.size w wo := hb1.trans (hB.mono hb1.size)
      have hsz := hb1.size
      obtain ⟨m, hm⟩ : ∃ m : Nat, T.length - 1 = m := ⟨_, rfl⟩
      have e3 : IntKind.i64.wrap ((T.length : Int) - 1) = (m : Int) := by rw [IntWalk.i64_in _ (by omega)]; omega
      have z1 : (0 : Int) ≤ (m : Int) := by omega
      have z2 : (m : Int) ≤ (cap : Int) := by omega
      rw [hm] at hQ
      have Q := Lib.hid (And.intro hQ (And.intro hO hBw))
      generalize hTL : T.length = TL at *
      clear hQ hO hBw hrel hrow hm hcap hT hT1
      go_wp2_with fail
      refine bodyPost_ret (v := .slice (some ⟨g, 0, none⟩) m cap) (by simp [results, Try.results45, go_sem]) rfl ⟨_, rfl, ?_, Q.out.2.2, fun a l c h => ?_⟩
      · rw [Q.out.2.1]
        exact Q.out.1
      · simp only [Value.slice.injEq, Option.some.injEq] at h
        rw [← h.1]
        simp only
        omega
end Go.Proofs.Ytenmgbcbnofcmaa
