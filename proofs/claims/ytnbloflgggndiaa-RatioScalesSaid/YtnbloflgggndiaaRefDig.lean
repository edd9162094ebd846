/- The contracts of the reference's digit and compare. -/
import Derived.Test.YtnbloflgggndiaaRefNum
import Derived.Laws.BitsAllLaws
namespace Go.Proofs.Ytnbloflgggndiaa
open Go.RowKit Rf

/-- A slice's digits. -/
def Row (w : World) (B : Nat) (v : Value) (ds : List Nat) : Prop := w.ownsRow B 3 1 v ds.length (ds.map fun d : Nat => Value.int .i64 d)

theorem Row.form {w : World} {B : Nat} {v : Value} {ds : List Nat} (h : Row w B v ds) :
    (v = .slice none 0 0 ∧ ds = []) ∨ ∃ g c, v = .slice (some ⟨g, 0, none⟩) ds.length c ∧ B ≤ g ∧ g < w.heap.size ∧ ds.length ≤ c ∧ c ≤ maxLen ∧ ∀ i, i < ds.length → w.cell? ⟨g, i, none⟩ = some (.int .i64 (dd ds i : Nat)) := by
  rcases h.2 with ⟨h1, h2⟩ | ⟨g, c, cur, rfl, hb, hg, h3, h4, h5, h6⟩
  · exact .inl ⟨h1, List.length_eq_zero_iff.1 h2⟩
  · refine .inr ⟨g, c, rfl, hb, (Array.getElem?_eq_some_iff.1 hg).1, h3, h4, fun i hi => ?_⟩
    have := h.cells (g := g) rfl i (.int .i64 (dd ds i : Nat)) (by rw [List.getElem?_map, List.getElem?_eq_getElem hi, dd_lt ds i hi]; rfl)
    have hadd : (⟨g, 0, none⟩ : Addr).add i = ⟨g, i, none⟩ := by unfold Addr.add; split <;> simp_all
    rwa [hadd] at this
theorem Row.len {w : World} {B : Nat} {v : Value} {ds : List Nat} (h : Row w B v ds) : ds.length ≤ maxLen := by
  rcases h.form with ⟨_, rfl⟩ | ⟨g, c, _, _, _, h1, h2, _⟩
  · exact Nat.zero_le _
  · omega
theorem Row.on {w w' : World} {B C : Nat} {v : Value} {ds : List Nat} (h : Row w B v ds) (hb : Below C w w') (hC : w.heap.size ≤ C) : Row w' B v ds := by
  refine ⟨h.1, ?_⟩
  rcases h.2 with h1 | ⟨g, c, cur, rfl, hb1, hg, rest⟩
  · exact .inl h1
  · refine .inr ⟨g, c, cur, rfl, hb1, ?_, rest⟩
    rw [hb.block g (by have := (Array.getElem?_eq_some_iff.1 hg).1; omega)]
    exact hg
theorem Row.mono {w : World} {B B' : Nat} {v : Value} {ds : List Nat} (h : Row w B v ds) (hB : B' ≤ B) : Row w B' v ds := by
  refine ⟨h.1, ?_⟩
  rcases h.2 with h1 | ⟨g, c, cur, rfl, hb1, rest⟩
  · exact .inl h1
  · exact .inr ⟨g, c, cur, rfl, by omega, rest⟩
theorem Row.nil (w : World) (B : Nat) : Row w B (.slice none 0 0) [] := World.ownsRow_nil _ _ _ _

set_option maxHeartbeats 400000 in
theorem digit_at (w : World) (B : Nat) (v : Value) (ds : List Nat) (h : Row w B v ds) (i : Nat) :
    Calls Try.prog 48 #[v, .int .i64 i] w fun e w' => e = .returned (.int .i64 (dd ds i : Nat)) ∧ w = w' := by
  rcases h.form with ⟨rfl, rfl⟩ | ⟨g, c, rfl, -, -, hc1, hc2, hc⟩
  · rw [dd_nil]
    go_enter Try.func48, Try.ntmps48
    go_wp2_with fail
    go_ret
    exact ⟨rfl, rfl⟩
  · unfold maxLen at hc2
    by_cases hl : i < ds.length
    · have hcell := hc i hl
      clear hc h
      generalize dd ds i = x at *
      generalize ds.length = n at *
      go_enter Try.func48, Try.ntmps48
      go_wp2_with fail
      go_ret
      exact ⟨rfl, rfl⟩
    · rw [dd_ge ds i (by omega)]
      clear hc h
      generalize ds.length = n at *
      go_enter Try.func48, Try.ntmps48
      go_wp2_with fail
      go_ret
      exact ⟨rfl, rfl⟩

theorem Row.slice {w : World} {B : Nat} {v : Value} {ds : List Nat} (h : Row w B v ds) : ∃ p c, v = .slice p ds.length c := by
  rcases h.form with ⟨rfl, rfl⟩ | ⟨g, c, rfl, _⟩
  · exact ⟨_, _, rfl⟩
  · exact ⟨_, _, rfl⟩

theorem compare_end (xs ys : List Nat) (h : ∀ j, dd xs j = dd ys j) : dv xs = dv ys := by
  rw [← ev_far xs (max xs.length ys.length) (by omega), ← ev_far ys (max xs.length ys.length) (by omega)]
  exact ev_congr fun i _ => h i
theorem compare_way (xs ys : List Nat) (d1 : Dig xs) (d2 : Dig ys) (m : Nat) (h : ∀ j, m + 1 ≤ j → dd xs j = dd ys j) (hm : m < max xs.length ys.length) (hn : dd xs m ≠ dd ys m) : 0 ≤ (dd xs m : Int) - (dd ys m : Int) ↔ dv ys ≤ dv xs := by
  rw [← ev_far xs (max xs.length ys.length) (by omega), ← ev_far ys (max xs.length ys.length) (by omega)]
  by_cases c : dd xs m < dd ys m
  · have := ev_le_of d1 m (max xs.length ys.length) hm (fun i hi => h i hi) c
    omega
  · have := ev_le_of d2 m (max xs.length ys.length) hm (fun i hi => (h i hi).symm) (show dd ys m < dd xs m by omega)
    omega

set_option maxHeartbeats 1000000 in
theorem compare_le (w : World) (B1 B2 : Nat) (v1 v2 : Value) (xs ys : List Nat) (h1 : Row w B1 v1 xs) (h2 : Row w B2 v2 ys) (hle : xs.length < ys.length) (d1 : Dig xs) (d2 : Dig ys) :
    Calls Try.prog 50 #[v1, v2] w fun e w' => (∃ c : Int, e = .returned (.int .i64 c) ∧ (0 ≤ c ↔ dv ys ≤ dv xs)) ∧ w = w' := by
  have HA := Lib.hid (fun i => digit_at w B1 v1 xs h1 i)
  have HB := Lib.hid (fun i => digit_at w B2 v2 ys h2 i)
  have l1 := h1.len
  have l2 := h2.len
  unfold maxLen at l1 l2
  obtain ⟨p1, c1, rfl⟩ := h1.slice
  obtain ⟨p2, c2, rfl⟩ := h2.slice
  have HM := Lib.hid (show max xs.length ys.length = ys.length by omega)
  have HE := Lib.hid (compare_end xs ys)
  have HW := Lib.hid (compare_way xs ys d1 d2)
  have HD1 := Lib.hid d1
  have HD2 := Lib.hid d2
  clear h1 h2 d1 d2
  go_enter Try.func50, Try.ntmps50
  go_wp2_with fail
  go_loop [5] (fun i => ∃ k : Nat, k ≤ ys.length ∧ i = .int .i64 ((k : Int) - 1) ∧ Hid (∀ j, k ≤ j → dd xs j = dd ys j)) (fun i => (intOf i + 1).toNat)
  case atStart =>
    refine ⟨ys.length, Nat.le_refl _, by go_num, Lib.hid fun j hj => by rw [dd_ge xs j (by omega), dd_ge ys j (by omega)]⟩
  case round =>
    obtain ⟨k, hk, rfl, hj⟩ := hrel
    cases k with
    | zero =>
      go_wp2_with fail
      go_ret
      exact ⟨⟨0, rfl, by have := HE.out (fun j => hj.out j (by omega)); omega⟩, rfl⟩
    | succ m =>
      have e1 : ((m + 1 : Nat) : Int) - 1 = m := by omega
      rw [e1]
      clear e1
      by_cases heq : dd xs m = dd ys m
      · go_wp2_with fail
        refine (HA.out m).mono ?_
        rintro e w1 ⟨rfl, rfl⟩
        rw [heq]
        go_wp2_with fail
        refine (HB.out m).mono ?_
        rintro e w1 ⟨rfl, rfl⟩
        have n0 : ((dd ys m : Int) != (dd ys m : Int)) = false := by simp
        go_wp2_with fail
        go_round
        case rel => exact ⟨m, by omega, rfl, Lib.hid fun j h => by
          by_cases c : j = m
          · rw [c, heq]
          · exact hj.out j (by omega)⟩
        case measure => simp [intOf]
      · have n0 : ((dd xs m : Int) != (dd ys m : Int)) = true := by simp; omega
        have l3 := HD1.out m
        have l4 := HD2.out m
        go_wp2_with fail
        refine (HA.out m).mono ?_
        rintro e w1 ⟨rfl, rfl⟩
        go_wp2_with fail
        refine (HB.out m).mono ?_
        rintro e w1 ⟨rfl, rfl⟩
        go_wp2_with fail
        refine (HA.out m).mono ?_
        rintro e w1 ⟨rfl, rfl⟩
        go_wp2_with fail
        refine (HB.out m).mono ?_
        rintro e w1 ⟨rfl, rfl⟩
        go_wp2_with fail
        go_ret
        exact ⟨⟨_, rfl, HW.out m (fun j h => hj.out j h) (by omega) heq⟩, rfl⟩

set_option maxHeartbeats 1000000 in
theorem compare_gt (w : World) (B1 B2 : Nat) (v1 v2 : Value) (xs ys : List Nat) (h1 : Row w B1 v1 xs) (h2 : Row w B2 v2 ys) (hle : ys.length ≤ xs.length) (d1 : Dig xs) (d2 : Dig ys) :
    Calls Try.prog 50 #[v1, v2] w fun e w' => (∃ c : Int, e = .returned (.int .i64 c) ∧ (0 ≤ c ↔ dv ys ≤ dv xs)) ∧ w = w' := by
  have HA := Lib.hid (fun i => digit_at w B1 v1 xs h1 i)
  have HB := Lib.hid (fun i => digit_at w B2 v2 ys h2 i)
  have l1 := h1.len
  have l2 := h2.len
  unfold maxLen at l1 l2
  obtain ⟨p1, c1, rfl⟩ := h1.slice
  obtain ⟨p2, c2, rfl⟩ := h2.slice
  have HM := Lib.hid (show max xs.length ys.length = xs.length by omega)
  have HE := Lib.hid (compare_end xs ys)
  have HW := Lib.hid (compare_way xs ys d1 d2)
  have HD1 := Lib.hid d1
  have HD2 := Lib.hid d2
  clear h1 h2 d1 d2
  go_enter Try.func50, Try.ntmps50
  go_wp2_with fail
  go_loop [5] (fun i => ∃ k : Nat, k ≤ xs.length ∧ i = .int .i64 ((k : Int) - 1) ∧ Hid (∀ j, k ≤ j → dd xs j = dd ys j)) (fun i => (intOf i + 1).toNat)
  case atStart =>
    refine ⟨xs.length, Nat.le_refl _, by go_num, Lib.hid fun j hj => by rw [dd_ge xs j (by omega), dd_ge ys j (by omega)]⟩
  case round =>
    obtain ⟨k, hk, rfl, hj⟩ := hrel
    cases k with
    | zero =>
      go_wp2_with fail
      go_ret
      exact ⟨⟨0, rfl, by have := HE.out (fun j => hj.out j (by omega)); omega⟩, rfl⟩
    | succ m =>
      have e1 : ((m + 1 : Nat) : Int) - 1 = m := by omega
      rw [e1]
      clear e1
      by_cases heq : dd xs m = dd ys m
      · go_wp2_with fail
        refine (HA.out m).mono ?_
        rintro e w1 ⟨rfl, rfl⟩
        rw [heq]
        go_wp2_with fail
        refine (HB.out m).mono ?_
        rintro e w1 ⟨rfl, rfl⟩
        have n0 : ((dd ys m : Int) != (dd ys m : Int)) = false := by simp
        go_wp2_with fail
        go_round
        case rel => exact ⟨m, by omega, rfl, Lib.hid fun j h => by
          by_cases c : j = m
          · rw [c, heq]
          · exact hj.out j (by omega)⟩
        case measure => simp [intOf]
      · have n0 : ((dd xs m : Int) != (dd ys m : Int)) = true := by simp; omega
        have l3 := HD1.out m
        have l4 := HD2.out m
        go_wp2_with fail
        refine (HA.out m).mono ?_
        rintro e w1 ⟨rfl, rfl⟩
        go_wp2_with fail
        refine (HB.out m).mono ?_
        rintro e w1 ⟨rfl, rfl⟩
        go_wp2_with fail
        refine (HA.out m).mono ?_
        rintro e w1 ⟨rfl, rfl⟩
        go_wp2_with fail
        refine (HB.out m).mono ?_
        rintro e w1 ⟨rfl, rfl⟩
        go_wp2_with fail
        go_ret
        exact ⟨⟨_, rfl, HW.out m (fun j h => hj.out j h) (by omega) heq⟩, rfl⟩


theorem compare_any (w : World) (B1 B2 : Nat) (v1 v2 : Value) (xs ys : List Nat) (h1 : Row w B1 v1 xs) (h2 : Row w B2 v2 ys) (d1 : Dig xs) (d2 : Dig ys) :
    Calls Try.prog 50 #[v1, v2] w fun e w' => (∃ c : Int, e = .returned (.int .i64 c) ∧ (0 ≤ c ↔ dv ys ≤ dv xs)) ∧ w = w' := by
  by_cases h : xs.length < ys.length
  · exact compare_le w B1 B2 v1 v2 xs ys h1 h2 h d1 d2
  · exact compare_gt w B1 B2 v1 v2 xs ys h1 h2 (by omega) d1 d2

end Go.Proofs.Ytnbloflgggndiaa
