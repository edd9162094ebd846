/- Points and rows in memory, for the outline laws. -/
import Derived.Test.YtenmgbcbnofcmaaRows
import Derived.WalkSpells
import Derived.WalkLawsBesides
import Derived.Outline
import Derived.Laws.AppendOwn
import Derived.Laws.OwnMore
import Derived.Below
import Derived.Lib.Hide
import Derived.WalkKit
import Derived.OwnWalk
namespace Go.Proofs.Ytenmgbcbnofcmaa
open Go.RowKit

/-- A point. -/
structure Pn where
  x : Int
  y : Int
  on : Bool
  deriving DecidableEq, Inhabited

/-- A row of numbers, wherever it lies. -/
def EndsAt (W : World) (v : Value) (es : List Int) : Prop :=
  (v = .slice none 0 0 ∧ es = []) ∨ ∃ a c, v = .slice (some a) es.length c ∧ a.block < W.heap.size ∧ es.length ≤ c ∧ c ≤ maxLen ∧ ∀ i, i < es.length → W.cell? (a.add i) = some (.int .i64 (es[i]?.getD 0))
/-- A row of points, wherever it lies. -/
def PtsAt (W : World) (v : Value) (ps : List Pn) : Prop :=
  (v = .slice none 0 0 ∧ ps = []) ∨ ∃ a c, v = .slice (some a) ps.length c ∧ a.block < W.heap.size ∧ ps.length ≤ c ∧ c ≤ maxLen ∧ ∀ i, i < ps.length → W.cell? (a.add (i * 3)) = some (.int .i64 (ps[i]?.getD default).x) ∧ W.cell? ⟨(a.add (i * 3)).block, (a.add (i * 3)).off + 1, none⟩ = some (.int .i64 (ps[i]?.getD default).y) ∧ W.cell? ⟨(a.add (i * 3)).block, (a.add (i * 3)).off + 2, none⟩ = some (.bool (ps[i]?.getD default).on)

theorem add_block (a : Addr) (n : Nat) : (a.add n).block = a.block := by unfold Addr.add; split <;> rfl
theorem EndsAt.on {W W' : World} {v : Value} {es : List Int} (h : EndsAt W v es) (hb : Below W.heap.size W W') : EndsAt W' v es := by
  rcases h with h | ⟨a, c, h1, h2, h3, h4, h5⟩
  · exact .inl h
  · exact .inr ⟨a, c, h1, Nat.lt_of_lt_of_le h2 hb.size, h3, h4, fun i hi => (hb.cell (p := a.add i) (by rw [add_block]; exact h2)).trans (h5 i hi)⟩
theorem PtsAt.on {W W' : World} {v : Value} {ps : List Pn} (h : PtsAt W v ps) (hb : Below W.heap.size W W') : PtsAt W' v ps := by
  rcases h with h | ⟨a, c, h1, h2, h3, h4, h5⟩
  · exact .inl h
  · exact .inr ⟨a, c, h1, Nat.lt_of_lt_of_le h2 hb.size, h3, h4, fun i hi => ⟨(hb.cell (p := a.add (i * 3)) (by rw [add_block]; exact h2)).trans (h5 i hi).1, (hb.cell (p := ⟨(a.add (i * 3)).block, (a.add (i * 3)).off + 1, none⟩) (by rw [add_block]; exact h2)).trans (h5 i hi).2.1, (hb.cell (p := ⟨(a.add (i * 3)).block, (a.add (i * 3)).off + 2, none⟩) (by rw [add_block]; exact h2)).trans (h5 i hi).2.2⟩⟩

/-! What the program says, plainly. -/
def nearB (n : Int) : Bool := decide (-16384 ≤ n ∧ n ≤ 16384)
/-- From so many ends on, the last one being before. -/
def rightE (last : Int) : Int → List Int → Bool
  | before, [] => before == last
  | before, e :: es => !(decide (last < e) || decide (e ≤ before + 1)) && rightE last e es
def rightO (ps : List Pn) (es : List Int) : Bool := decide (ps.length ≤ 200) && decide (es.length ≤ 40) && ps.all (fun p => nearB p.x && nearB p.y) && rightE (ps.length - 1 : Int) (-1) es

theorem near_any (n : Int) (w : World) : Calls Try.prog 36 #[.int .i64 n] w fun e w' => e = .returned (.bool (nearB n)) ∧ w = w' := by
  by_cases h1 : -16384 ≤ n
  · by_cases h2 : n ≤ 16384
    · rw [show nearB n = true by simp [nearB, h1, h2]]
      go_enter Try.func36, Try.ntmps36
      go_wp2_with fail
      go_ret
      exact ⟨rfl, rfl⟩
    · rw [show nearB n = false by unfold nearB; exact decide_eq_false (by omega)]
      go_enter Try.func36, Try.ntmps36
      go_wp2_with fail
      go_ret
      exact ⟨rfl, rfl⟩
  · rw [show nearB n = false by unfold nearB; exact decide_eq_false (by omega)]
    go_enter Try.func36, Try.ntmps36
    go_wp2_with fail
    go_ret
    exact ⟨rfl, rfl⟩

theorem drop_cons {α : Type} {l : List α} {k : Nat} (d : α) (h : k < l.length) : l.drop k = (l[k]?.getD d) :: l.drop (k + 1) := by
  rw [List.drop_eq_getElem_cons h, List.getElem?_eq_getElem h]
  rfl

set_option maxHeartbeats 2000000 in
theorem rightEnds_any (v : Value) (es : List Int) (last : Int) (w : World) (h : EndsAt w v es) (h1 : -1 ≤ last) (h2 : last ≤ 1000) (hl : es.length ≤ 1000) :
    Calls Try.prog 37 #[v, .int .i64 last] w fun e w' => e = .returned (.bool (rightE last (-1) es)) ∧ w = w' := by
  rcases h with ⟨rfl, rfl⟩ | ⟨a, c, rfl, hg, hlc, hc, hcell⟩
  · go_enter Try.func37, Try.ntmps37
    go_wp2_with fail
    go_loop [5, 10] (fun b i => b = .int .i64 (-1) ∧ i = .int .i64 0) (fun _ i => (intOf i).toNat)
    case atStart => exact ⟨rfl, rfl⟩
    case round =>
      obtain ⟨rfl, rfl⟩ := hrel
      go_wp2_with fail
      go_ret
      exact ⟨rfl, rfl⟩
  · have HC := Lib.hid hcell
    clear hcell
    generalize hR : rightE last (-1) es = R at *
    go_enter Try.func37, Try.ntmps37
    go_wp2_with fail
    go_loop [5, 10] (fun b i => ∃ (k : Nat) (z : Int), k ≤ es.length ∧ i = .int .i64 k ∧ b = .int .i64 z ∧ -1 ≤ z ∧ z ≤ last ∧ Hid (R = rightE last z (es.drop k))) (fun _ i => (es.length - intOf i).toNat)
    case atStart => exact ⟨0, -1, by omega, rfl, rfl, by omega, by omega, Lib.hid hR.symm⟩
    case round =>
      obtain ⟨k, z, hk, rfl, rfl, hz1, hz2, hrel⟩ := hrel
      by_cases hlt : k < es.length
      · have hkc := HC.out k hlt
        have hrel := hrel.out
        rw [drop_cons 0 hlt] at hrel
        generalize es[k]?.getD 0 = e at *
        unfold rightE at hrel
        by_cases h3 : last < e
        · simp only [decide_eq_true h3, Bool.true_or, Bool.not_true, Bool.false_and] at hrel
          subst hrel
          clear hR
          go_wp2_with fail
          go_ret
          exact ⟨rfl, rfl⟩
        · by_cases h4 : e ≤ z + 1
          · simp only [decide_eq_true h4, Bool.or_true, Bool.not_true, Bool.false_and] at hrel
            subst hrel
            clear hR
            go_wp2_with fail
            go_ret
            exact ⟨rfl, rfl⟩
          · simp only [decide_eq_false h3, decide_eq_false h4, Bool.or_false, Bool.not_false, Bool.true_and] at hrel
            have hrel := Lib.hid hrel
            go_wp2_with fail
            go_round
            case rel => exact ⟨k + 1, e, by omega, by go_num, rfl, by omega, by omega, hrel⟩
            case measure => simp [intOf]; omega
      · obtain rfl : k = es.length := by omega
        have hrel := hrel.out
        rw [List.drop_length] at hrel
        unfold rightE at hrel
        subst hrel
        clear hR
        go_wp2_with fail
        go_ret
        exact ⟨rfl, rfl⟩

/-- What is known of a world within a call of one outline: where it lies. -/
structure O1 (w : World) (v1 v2 : Value) (W : World) : Prop where
  bel : Below w.heap.size w W
  size : w.heap.size + 1 ≤ W.heap.size
  c1 : W.cell? ⟨w.heap.size, 0, none⟩ = some v1
  c2 : W.cell? ⟨w.heap.size, 1, none⟩ = some v2
theorem O1.first (w : World) (v1 v2 : Value) (T : TypeId) : O1 w v1 v2 (w.alloc (.cells #[v1, v2] T)) := ⟨(Below.refl _ _).alloc (Nat.le_refl _) _, by simp, by simp [go_sem], by simp [go_sem]⟩
theorem O1.next {w W W' : World} {v1 v2 : Value} (h : O1 w v1 v2 W) (hb : Below W.heap.size W W') : O1 w v1 v2 W' where
  bel := h.bel.trans (hb.mono h.bel.size)
  size := Nat.le_trans h.size hb.size
  c1 := by rw [hb.cell (by have := h.size; simp; omega)]; exact h.c1
  c2 := by rw [hb.cell (by have := h.size; simp; omega)]; exact h.c2
theorem O1.drew {w W : World} {v1 v2 : Value} (h : O1 w v1 v2 W) : O1 w v1 v2 W.drew := h.next (below_drewN (Below.refl _ _) 1)
theorem O1.alloc {w W : World} {v1 v2 : Value} (h : O1 w v1 v2 W) (o : Obj) : O1 w v1 v2 (W.alloc o) := h.next ((Below.refl _ _).alloc (Nat.le_refl _) o)
theorem O1.set {w W : World} {v1 v2 : Value} (h : O1 w v1 v2 W) (p : Addr) (hp : w.heap.size + 1 ≤ p.block) (u : Value) : O1 w v1 v2 (W.setCell p u) := by
  have hb : Below (w.heap.size + 1) W (W.setCell p u) := (Below.refl _ _).setCell hp u
  refine ⟨h.bel.setCell (by omega) u, by simpa using h.size, ?_, ?_⟩
  · rw [hb.cell (by simp)]; exact h.c1
  · rw [hb.cell (by simp)]; exact h.c2
theorem EndsAt.len {W : World} {v : Value} {es : List Int} (h : EndsAt W v es) : ∃ p c, v = .slice p es.length c := by
  rcases h with ⟨rfl, rfl⟩ | ⟨a, c, rfl, _⟩
  · exact ⟨_, _, rfl⟩
  · exact ⟨_, _, rfl⟩
theorem PtsAt.len {W : World} {v : Value} {ps : List Pn} (h : PtsAt W v ps) : ∃ p c, v = .slice p ps.length c := by
  rcases h with ⟨rfl, rfl⟩ | ⟨a, c, rfl, _⟩
  · exact ⟨_, _, rfl⟩
  · exact ⟨_, _, rfl⟩
/-- A call answers a bool, and makes memory at most. -/
def BoolIs (b : Bool) (w : World) (e : Ending) (w' : World) : Prop := e = .returned (.bool b) ∧ Below w.heap.size w w'

set_option maxHeartbeats 4000000 in
theorem right_any (v1 v2 : Value) (ps : List Pn) (es : List Int) (w : World) (h1 : PtsAt w v1 ps) (h2 : EndsAt w v2 es) :
    Calls Try.prog 19 #[.agg #[v1, v2]] w (BoolIs (rightO ps es) w) := by
  obtain ⟨p2, c2, rfl⟩ := h2.len
  have F := O1.first w v1 (.slice p2 es.length c2) 25
  obtain ⟨p1, c1, rfl⟩ := h1.len
  by_cases hp : ps.length ≤ 200
  · by_cases he : es.length ≤ 40
    · have HE := Lib.hid (fun (W : World) (hb : Below w.heap.size w W) => rightEnds_any _ es (ps.length - 1 : Int) W (h2.on hb) (by omega) (by omega) (by omega))
      have HN := Lib.hid near_any
      have HC := Lib.hid (fun (W : World) (hb : Below w.heap.size w W) i (hi : i < ps.length) => show ∃ a, p1 = some a ∧ W.cell? (a.add (i * 3)) = some (.int .i64 (ps[i]?.getD default).x) ∧ W.cell? ⟨(a.add (i * 3)).block, (a.add (i * 3)).off + 1, none⟩ = some (.int .i64 (ps[i]?.getD default).y) ∧ W.cell? ⟨(a.add (i * 3)).block, (a.add (i * 3)).off + 2, none⟩ = some (.bool (ps[i]?.getD default).on) from by
        rcases h1.on hb with ⟨h, hh⟩ | ⟨a, c, h, hg, hlc, hc, hcell⟩
        · rw [hh] at hi; simp at hi
        · simp only [Value.slice.injEq, true_and] at h
          obtain ⟨rfl, rfl⟩ := h
          exact ⟨a, rfl, hcell i hi⟩)
      have hr : rightO ps es = (ps.all (fun p => nearB p.x && nearB p.y) && rightE (ps.length - 1 : Int) (-1) es) := by simp [rightO, hp, he]
      rw [hr]
      clear hr h1 h2
      go_enter Try.func19, Try.ntmps19
      go_wp2_with fail
      go_loopw [18] (fun i wr => ∃ k : Nat, k ≤ ps.length ∧ i = .int .i64 k ∧ O1 w (.slice p1 ps.length c1) (.slice p2 es.length c2) wr ∧ Hid (ps.all (fun p => nearB p.x && nearB p.y) = (ps.drop k).all (fun p => nearB p.x && nearB p.y))) (fun i _ => (ps.length - intOf i).toNat)
      case atStart => exact ⟨0, by omega, rfl, F, Lib.hid rfl⟩
      case round =>
        clear F
        obtain ⟨k, hk, rfl, F, hall⟩ := hrel
        obtain ⟨hB, hz, k1, k2⟩ := id F
        by_cases hlt : k < ps.length
        · obtain ⟨a, rfl, q1, q2, q3⟩ := HC.out wr hB k hlt
          have hall := hall.out
          rw [drop_cons default hlt] at hall
          generalize ps[k]?.getD default = p at *
          obtain ⟨x, y, on⟩ := p
          simp only [List.all_cons] at hall
          have F2 := F.alloc (.cells #[.int .i64 x, .int .i64 y, .bool on] 33)
          by_cases nx : nearB x = true
          · by_cases ny : nearB y = true
            · rw [nx, ny] at hall
              simp only [Bool.true_and] at hall
              have hall := Lib.hid hall
              have HX := HN.out x
              have HY := HN.out y
              rw [nx] at HX
              rw [ny] at HY
              have HX := Lib.hid HX
              have HY := Lib.hid HY
              clear nx ny
              go_wp2_with fail
              refine (HX.out _).mono ?_
              rintro e w1 ⟨rfl, rfl⟩
              go_wp2_with fail
              refine (HY.out _).mono ?_
              rintro e w1 ⟨rfl, rfl⟩
              go_wp2_with fail
              go_roundw
              case rel => exact ⟨k + 1, by omega, by go_num, F2, hall⟩
              case measure => simp [intOf]; omega
            · rw [nx, show nearB y = false by simpa using ny] at hall
              simp only [Bool.and_false, Bool.false_and] at hall
              have HX := HN.out x
              have HY := HN.out y
              rw [nx] at HX
              rw [show nearB y = false by simpa using ny] at HY
              have HX := Lib.hid HX
              have HY := Lib.hid HY
              have Q : BoolIs (ps.all (fun p => nearB p.x && nearB p.y) && rightE (ps.length - 1 : Int) (-1) es) w (.returned (.bool false)) _ := ⟨by rw [hall]; rfl, F2.bel⟩
              have Q := Lib.hid Q
              clear nx ny hall
              go_wp2_with fail
              refine (HX.out _).mono ?_
              rintro e w1 ⟨rfl, rfl⟩
              go_wp2_with fail
              refine (HY.out _).mono ?_
              rintro e w1 ⟨rfl, rfl⟩
              go_wp2_with fail
              go_ret
              exact Q.out
          · rw [show nearB x = false by simpa using nx] at hall
            simp only [Bool.false_and] at hall
            have HX := HN.out x
            rw [show nearB x = false by simpa using nx] at HX
            have HX := Lib.hid HX
            have Q : BoolIs (ps.all (fun p => nearB p.x && nearB p.y) && rightE (ps.length - 1 : Int) (-1) es) w (.returned (.bool false)) _ := ⟨by rw [hall]; rfl, F2.bel⟩
            have Q := Lib.hid Q
            clear nx hall
            go_wp2_with fail
            refine (HX.out _).mono ?_
            rintro e w1 ⟨rfl, rfl⟩
            go_wp2_with fail
            go_ret
            exact Q.out
        · obtain rfl : k = ps.length := by omega
          have hall := hall.out
          rw [List.drop_length] at hall
          have HE2 := HE.out wr hB
          have e1 : IntKind.i64.wrap ((ps.length : Int) - 1) = (ps.length : Int) - 1 := by rw [IntKind.wrap_i64]; omega
          have hall : ps.all (fun p => nearB p.x && nearB p.y) = true := hall
          have Q : BoolIs (ps.all (fun p => nearB p.x && nearB p.y) && rightE (ps.length - 1 : Int) (-1) es) w (.returned (.bool (rightE (ps.length - 1 : Int) (-1) es))) wr := ⟨by rw [hall, Bool.true_and], hB⟩
          have Q := Lib.hid Q
          have HE2 := Lib.hid HE2
          clear hall HC HN HE
          go_wp2_with fail
          refine (HE2.out).mono ?_
          rintro e w1 ⟨rfl, rfl⟩
          go_wp2_with fail
          go_ret
          exact Q.out
    · have hr : rightO ps es = false := by simp [rightO, he]
      rw [hr]
      clear hr h1 h2
      go_enter Try.func19, Try.ntmps19
      go_wp2_with fail
      go_ret
      exact ⟨rfl, F.bel⟩
  · have hr : rightO ps es = false := by simp [rightO, hp]
    rw [hr]
    clear hr h1 h2
    go_enter Try.func19, Try.ntmps19
    go_wp2_with fail
    go_ret
    exact ⟨rfl, F.bel⟩
end Go.Proofs.Ytenmgbcbnofcmaa
