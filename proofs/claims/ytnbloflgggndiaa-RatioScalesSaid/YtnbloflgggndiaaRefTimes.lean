/- The contract of the reference's Times. -/
import Derived.Test.YtnbloflgggndiaaRefInt
import Derived.Test.YtnbloflgggndiaaRefMul
import Derived.OwnWalk
namespace Go.Proofs.Ytnbloflgggndiaa
open Go.RowKit Rf Rt

theorem made_row {w : World} {B : Nat} {v : Value} {n : Nat} (h : w.ownsRow B 3 1 v n (madeCells #[Value.int .i64 0] n).toList) : Row w B v (List.replicate n 0) := by
  unfold Row
  rw [List.length_replicate, List.map_replicate]
  rw [toList_madeCells_one] at h
  exact h

theorem Row.set {w : World} {B g n c : Nat} {os : List Nat} (h : Row w B (.slice (some ⟨g, 0, none⟩) n c) os) (hl : os.length = n) (j y : Nat) : Row (w.setCell ⟨g, j, none⟩ (.int .i64 y)) B (.slice (some ⟨g, 0, none⟩) n c) (os.set j y) := by
  subst hl
  have := (World.ownsRow.stored h j (.int .i64 y)).1
  unfold Row
  rw [List.length_set, List.map_set]
  exact this
theorem F2.set3 {w W : World} {u1 v1 u2 v2 : Value} (h : F2 w u1 v1 u2 v2 W) (o : Nat) (u : Value) : F2 w u1 v1 u2 v2 (W.setCell ⟨w.heap.size + 1 + 1 + 1, o, none⟩ u) := by
  obtain ⟨h0, h1, h2, h3, h4, h5, ⟨x, h6⟩, ⟨y, h7⟩, h8⟩ := h
  exact ⟨h0.setCell (by simp; omega) _, by simpa using h1, by simp [go_sem, h2], by simp [go_sem, h3], by simp [go_sem, h4], by simp [go_sem, h5], ⟨x, by simp [go_sem, h6]⟩, ⟨y, by simp [go_sem, h7]⟩, fun o => by simp [go_sem, h8]⟩

set_option maxHeartbeats 2000000 in
theorem rtimes_walk (w : World) (b1 b2 : Bool) (r : Int) (c1 c2 B1 B2 : Nat) (p1 p2 : Option Addr) (xs ys : List Nat) (h1 : Row w B1 (.slice p1 xs.length c1) xs) (h2 : Row w B2 (.slice p2 ys.length c2) ys) (d1 : Dig xs) (d2 : Dig ys) (hl1 : xs.length ≤ 400) (hl2 : ys.length ≤ 400)
    (HW : Hid (∀ w1 v B os, Row w1 B v os → Dig os → os.length = xs.length + ys.length + 1 → dv os = dv xs * dv ys → Calls Try.prog 44 #[.bool (b1 != b2), v] w1 (NumR r w1))) :
    Calls Try.prog 34 #[.agg #[.bool b1, .slice p1 xs.length c1], .agg #[.bool b2, .slice p2 ys.length c2]] w (NumR r w) := by
  have Fa := F2.first w (.bool b1) (.slice p1 xs.length c1) (.bool b2) (.slice p2 ys.length c2) 47
  obtain ⟨i0, hi, hz0, hz1, hz2⟩ := info_parts infoInt
  have HB := Lib.hid (fun (wr : World) (hb : Below w.heap.size w wr) i => digit_at wr B2 _ ys (h2.on hb (Nat.le_refl _)) i)
  have HC : Hid (∀ i, i < xs.length → ∃ g, p1 = some ⟨g, 0, none⟩ ∧ g < w.heap.size ∧ xs.length ≤ c1 ∧ w.cell? ⟨g, i, none⟩ = some (.int .i64 (dd xs i : Nat))) := Lib.hid fun i hi => by
    rcases h1.form with ⟨h1, rfl⟩ | ⟨g, c', h1, h2, h3, h4, h5, h6⟩
    · simp at hi
    · simp only [Value.slice.injEq, true_and] at h1
      obtain ⟨rfl, rfl⟩ := h1
      exact ⟨g, rfl, h3, h4, h6 i hi⟩
  have HD1 := Lib.hid d1
  have HD2 := Lib.hid d2
  clear h1 h2 d1 d2
  go_enter Try.func34, Try.ntmps34
  go_wp2_with (at_make; refine wpList_make_full _ rfl _ _ 45 rfl (w.heap.size + 1 + 1 + 1) 3 i0 (.int .i64 0) 1 Try.underlying45 hi hz0 hz1 .i64 .i64 _ _ (xs.length + ys.length + 1) rfl rfl (by omega) (by omega) (by rw [hz2]; omega) (by unfold maxLen; omega) (by simp) ?_)
  intro w1 hown hgrow
  have Fb := Fa.next ((Below.refl _ _).grown hgrow (Nat.le_refl _) (by simp))

  have hrow := made_row hown

  clear hown hgrow Fa
  obtain ⟨-, hz, k1, k2, k3, k4, -, -, -⟩ := id Fb
  go_wp2_with fail
  go_loopw [6] (fun i wr => ∃ (k : Nat) (os : List Nat), k ≤ xs.length ∧ i = .int .i64 k ∧ Row wr (w.heap.size + 1 + 1 + 1) (.slice (some ⟨w.heap.size + 1 + 1 + 1, 0, none⟩) (xs.length + ys.length + 1) (xs.length + ys.length + 1)) os ∧ Hid (Mul xs ys k 0 os 0) ∧ F2 w (.bool b1) (.slice p1 xs.length c1) (.bool b2) (.slice p2 ys.length c2) wr) (fun i _ => (xs.length - intOf i).toNat)
  case atStart => exact ⟨0, _, by omega, rfl, hrow, Lib.hid (Mul.first xs ys), Fb⟩
  case round =>
    clear hz k1 k2 k3 k4 Fb hrow
    obtain ⟨i, os, hk, rfl, hown, hm, F⟩ := hrel
    obtain ⟨-, hz, k1, k2, k3, k4, -, -, -⟩ := id F
    by_cases hlt : i < xs.length
    · go_wp2_with fail
      go_loopw [7, 8] (fun c j wr => ∃ (k C : Nat) (os : List Nat), k ≤ ys.length + 1 ∧ j = .int .i64 k ∧ c = .int .i64 C ∧ Row wr (w.heap.size + 1 + 1 + 1) (.slice (some ⟨w.heap.size + 1 + 1 + 1, 0, none⟩) (xs.length + ys.length + 1) (xs.length + ys.length + 1)) os ∧ Hid (Mul xs ys i k os C) ∧ F2 w (.bool b1) (.slice p1 xs.length c1) (.bool b2) (.slice p2 ys.length c2) wr) (fun _ j _ => (ys.length + 1 - intOf j).toNat)
      case atStart => exact ⟨0, 0, os, by omega, rfl, rfl, hown, hm, F⟩
      case round =>
        clear hz k1 k2 k3 k4 F hown hm
        obtain ⟨k, C, os2, hk2, rfl, rfl, hown, hm, F⟩ := hrel
        obtain ⟨-, hz, k1, k2, k3, k4, -, -, -⟩ := id F
        have hC := hm.out.low
        by_cases hin : k < ys.length ∨ 0 < C
        · have hkk : k ≤ ys.length := by
            by_cases h : k = ys.length + 1
            · subst h
              have := hm.out.none HD1.out HD2.out
              omega
            · omega
          have hj : i + k < xs.length + ys.length + 1 := by omega
          have HN := Lib.hid (hm.out.next HD1.out HD2.out hj rfl)
          have hla := HD1.out i
          have hlb := HD2.out k
          have hlo := hm.out.dig (i + k)
          have hlen := hm.out.len
          obtain ⟨g, rfl, hg, hlc, hcell⟩ := HC.out i hlt
          have hcx : wr.cell? ⟨g, i, none⟩ = some (.int .i64 (dd xs i : Nat)) := by rw [F.bel.cell (by simpa using hg)]; exact hcell
          have hco : wr.cell? ⟨w.heap.size + 1 + 1 + 1, i + k, none⟩ = some (.int .i64 (dd os2 (i + k) : Nat)) := by
            rcases hown.form with ⟨h, _⟩ | ⟨g', c', h, _, _, _, _, h6⟩
            · simp at h
            · simp only [Value.slice.injEq, Option.some.injEq, Addr.mk.injEq, and_true] at h
              obtain ⟨rfl, _⟩ := h
              exact h6 (i + k) (by omega)
          have hfz : wr.frozen? ⟨w.heap.size + 1 + 1 + 1, i + k, none⟩ = false := by
            have h := hown
            unfold Row at h
            rw [hlen] at h
            exact World.ownsRow.frozenAt h (i + k)
          have HB1 := Lib.hid (fun nn => HB.out (wr.drewN nn) (below_drewN F.bel nn) k)
          clear hcell
          generalize dd xs i = a at *
          generalize dd ys k = b at *
          generalize dd os2 (i + k) = o at *
          have hab : (a : Int) * b ≤ 4294836225 := by
            have : a * b ≤ 65535 * 65535 := Nat.mul_le_mul (by omega) (by omega)
            rw [← Int.natCast_mul]
            omega
          have hab0 : 0 ≤ (a : Int) * b := Int.mul_nonneg (by omega) (by omega)
          have ex1 : Hid ((((o + a * b + C) % 65536 : Nat) : Int) = ((o : Int) + a * b + C) % 65536) := Lib.hid <| by rw [Int.natCast_emod, Int.natCast_add, Int.natCast_add, Int.natCast_mul]; rfl
          have ex2 : Hid ((((o + a * b + C) / 65536 : Nat) : Int) = ((o : Int) + a * b + C) / 65536) := Lib.hid <| by rw [Int.natCast_ediv, Int.natCast_add, Int.natCast_add, Int.natCast_mul]; rfl
          by_cases hkl : k < ys.length
          · go_wp2_with fail
            go_quiet ((go_at_call 48; exact Calls.quiet_of_same ((HB1.out _).mono fun e w' h => ⟨h.1, h.2.symm⟩)))
            go_wp2_with fail
            refine ⟨⟨k + 1, (o + a * b + C) / 65536, _, by omega, by go_num, by rw [ex2.out], (ex1.out ▸ Row.set (hown.on (below_drewN (Below.refl _ _) nq) (Nat.le_refl _)) hlen (i + k) ((o + a * b + C) % 65536)), HN, (F.next (below_drewN (Below.refl _ _) nq)).set3 _ _⟩, ?_⟩
            simp [intOf]
            omega
          · have hc0 : 0 < C := by omega
            go_wp2_with fail
            go_quiet ((go_at_call 48; exact Calls.quiet_of_same ((HB1.out _).mono fun e w' h => ⟨h.1, h.2.symm⟩)))
            go_wp2_with fail
            refine ⟨⟨k + 1, (o + a * b + C) / 65536, _, by omega, by go_num, by rw [ex2.out], (ex1.out ▸ Row.set (hown.on (below_drewN (Below.refl _ _) nq) (Nat.le_refl _)) hlen (i + k) ((o + a * b + C) % 65536)), HN, (F.next (below_drewN (Below.refl _ _) nq)).set3 _ _⟩, ?_⟩
            simp [intOf]
            omega
        · have hc0 : C = 0 := by omega
          subst hc0
          have HR := Lib.hid (hm.out.row (by omega))
          go_wp2_with fail
          go_roundw
          case rel => exact ⟨i + 1, os2, by omega, by go_num, hown, HR, F⟩
          case measure => simp [intOf]; omega
    · obtain rfl : i = xs.length := by omega
      have HL := hm.out.last
      have HD := hm.out.dig
      have HN := hm.out.len
      have HW2 := Lib.hid (HW.out wr _ _ os hown HD HN HL)
      clear hm hown HL HD HN
      go_wp2_with fail
      refine (HW2.out).mono ?_
      rintro e w2 ⟨y, rfl, hy, hb⟩
      have F3 := F.next hb
      obtain ⟨p', c', ds', rfl, -⟩ := id hy.form
      have Q := num_done (a := w.heap.size + 1 + 1) F3.bel hy (by omega) (by have := F.size; omega) (.bool (decide (r < 0))) (.slice p' ds'.length c')
      generalize decide (r < 0) = b' at *
      generalize ds'.length = l' at *
      have Q := Lib.hid Q
      clear hy hb F
      obtain ⟨-, hz', k1', k2', k3', k4', ⟨u5, k5⟩, ⟨u6, k6⟩, kf⟩ := id F3
      clear F3
      go_wp2_with fail
      refine bodyPost_ret (v := .agg #[.bool b', .slice p' l' c']) (by simp [results, Try.results34, go_sem, k5, k6]) rfl Q.out

end Go.Proofs.Ytnbloflgggndiaa
