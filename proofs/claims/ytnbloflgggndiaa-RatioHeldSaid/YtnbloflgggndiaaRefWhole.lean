/- The contract of the reference's whole: a number out of digits. -/
import Derived.Test.YtnbloflgggndiaaRefLess
namespace Go.Proofs.Ytnbloflgggndiaa
open Go.RowKit Rf Rt

/-- A value is this number, in this world; its digits lie from block B on. -/
def NumIs (n : Int) (B : Nat) (W : World) (x : Value) : Prop := ∃ v ds, x = .agg #[.bool (decide (n < 0)), v] ∧ Row W B v ds ∧ Norm ds ∧ dv ds = n.natAbs
/-- A call answers a number. -/
def NumR (n : Int) (w : World) (e : Ending) (w' : World) : Prop := ∃ x, e = .returned x ∧ NumIs n w.heap.size w' x ∧ Below w.heap.size w w'

theorem NumIs.on {n : Int} {B C : Nat} {w w' : World} {x : Value} (h : NumIs n B w x) (hb : Below C w w') (hC : w.heap.size ≤ C) : NumIs n B w' x := by
  obtain ⟨v, ds, h1, h2, h3⟩ := h
  exact ⟨v, ds, h1, h2.on hb hC, h3⟩
theorem NumIs.mono {n : Int} {B C : Nat} {w : World} {x : Value} (h : NumIs n B w x) (hB : C ≤ B) : NumIs n C w x := by
  obtain ⟨v, ds, h1, h2, h3⟩ := h
  exact ⟨v, ds, h1, h2.mono hB, h3⟩
theorem NumIs.put {n : Int} {B : Nat} {w : World} {x : Value} (h : NumIs n B w x) {a : Addr} (ha : a.block < B) (u : Value) : NumIs n B (w.setCell a u) x := by
  obtain ⟨v, ds, h1, h2, h3⟩ := h
  exact ⟨v, ds, h1, ownsRow_setCell_below h2 ha u, h3⟩
theorem NumR.of {n : Int} {w w' : World} {b : Bool} {v : Value} {ds : List Nat} {B : Nat} (hb : decide (n < 0) = b) (hr : Row w' B v ds) (hB : w.heap.size ≤ B) (hn : Norm ds) (hd : dv ds = n.natAbs) (hbel : Below w.heap.size w w') : NumR n w (.returned (.agg #[.bool b, v])) w' :=
  ⟨_, rfl, ⟨v, ds, by rw [hb], hr.mono hB, hn, hd⟩, hbel⟩
theorem Row.news {w : World} {B g n c : Nat} {ds : List Nat} (h : Row w B (.slice (some ⟨g, 0, none⟩) n c) ds) (k : Nat) : ∀ j u, ((ds.take k).map fun d : Nat => Value.int .i64 d)[j]? = some u → w.cell? ((⟨g, 0, none⟩ : Addr).add j) = some u := by
  intro j u hu
  refine World.ownsRow.cells h rfl j u ?_
  rw [List.getElem?_map, List.getElem?_take] at hu
  rw [List.getElem?_map]
  split at hu
  · exact hu
  · simp at hu
theorem Row.one (ds : List Nat) (k : Nat) : ∀ u ∈ (ds.take k).map (fun d : Nat => Value.int .i64 d), u.oneCell' = true := by
  intro u hu
  obtain ⟨d, _, rfl⟩ := List.mem_map.1 hu
  rfl
theorem Row.whole {w1 : World} {B : Nat} {v : Value} {ds : List Nat} {k : Nat} (hk : k ≤ ds.length) (h : w1.ownsRow B 3 1 v (0 + k) ([] ++ (ds.take k).map fun d : Nat => Value.int .i64 d)) : Row w1 B v (ds.take k) := by
  unfold Row
  rw [List.length_take, Nat.min_eq_left hk]
  rwa [Nat.zero_add, List.nil_append] at h

/-- What whole is told of. -/
theorem Rf.whole_num (b : Bool) (ds : List Nat) (k : Nat) (hd : Dig ds) (hk : k ≤ ds.length) (hz : ∀ j, k ≤ j → dd ds j = 0) (ht : k = 0 ∨ dd ds (k - 1) ≠ 0) :
    Norm (ds.take k) ∧ dv (ds.take k) = (sg b (dv ds : Nat)).natAbs ∧ (decide (sg b (dv ds : Nat) < 0) = (b && decide (0 < k))) := by
  have hn := Norm.take hd hk ht
  have hu := ev_up ds k hk hz
  refine ⟨hn, ?_, ?_⟩
  · rw [hu]
    cases b <;> simp [sg]
  · have h0 := hn.zero
    rw [hu] at h0
    have h1 : ds.take k = [] ↔ k = 0 := by
      rw [← List.length_eq_zero_iff, List.length_take, Nat.min_eq_left hk]
    rw [h1] at h0
    generalize dv ds = x at *
    cases b
    · simp [sg]
    · by_cases c : k = 0
      · subst c
        have := h0.2 rfl
        subst this
        simp [sg]
      · have : x ≠ 0 := fun h => c (h0.1 h)
        simp [sg]
        omega

set_option maxHeartbeats 1000000 in
theorem whole_some_true (w : World) (g c B : Nat) (ds : List Nat) (hrow : Row w B (.slice (some ⟨g, 0, none⟩) ds.length c) ds) (hl : ds.length ≤ 1000) (hd : Dig ds)
    (hg : g < w.heap.size) (hc1 : ds.length ≤ c) (hcell : ∀ i, i < ds.length → w.cell? ⟨g, i, none⟩ = some (.int .i64 (dd ds i : Nat))) :
    Calls Try.prog 44 #[.bool true, .slice (some ⟨g, 0, none⟩) ds.length c] w (NumR (sg true (dv ds : Nat)) w) := by
  obtain ⟨i0, hi, hz0, hz1, hz2⟩ := info_parts infoInt
  have HW := Lib.hid (fun k => whole_num true ds k hd)
  have HC := Lib.hid hcell
  have HR := Lib.hid hrow
  clear hcell hrow hd
  have hlit : ((w.alloc (.cells #[.bool false, .slice none 0 0] 47)).alloc (.cells #[] 3)).ownsRow (w.heap.size + 1) 3 1 (.slice (some ⟨w.heap.size + 1, 0, none⟩) 0 0) 0 [] := by
    have := World.ownsRow_lit (base := w.heap.size + 1) (e := 3) (size := 1) (w.alloc (.cells #[.bool false, .slice none 0 0] 47)) #[] 0 (by simp) (by unfold maxLen; omega) rfl
    rwa [World.size_alloc] at this
  go_enter Try.func44, Try.ntmps44
  go_wp2_with fail
  go_loop [5] (fun i => ∃ k : Nat, k ≤ ds.length ∧ i = .int .i64 k ∧ Hid (∀ j, k ≤ j → dd ds j = 0)) (fun i => (intOf i).toNat)
  case atStart => exact ⟨ds.length, Nat.le_refl _, rfl, Lib.hid fun j hj => dd_ge ds j hj⟩
  case round =>
    obtain ⟨k, hk, rfl, hj⟩ := hrel
    cases k with
    | zero =>
      go_wp2_with (at_builtin; go_loud (refine wpList_append_own _ rfl _ _ 45 rfl (w.heap.size + 1) 3 i0 (.int .i64 0) 1 8 Try.underlying45 hi hz0 hz1 hz2 rfl (by decide) _ 0 [] rfl hlit ⟨g, 0, none⟩ (0) c ((ds.take (0)).map fun d : Nat => Value.int .i64 d) rfl (by rw [List.length_map, List.length_take]; omega) (Row.news (HR.out.on (((Below.refl _ _).alloc (Nat.le_refl _) _).alloc (by simp) _) (Nat.le_refl _)) (0)) (Row.one ds (0)) (by unfold maxLen; omega) (by omega) (by simp) ?_))
      · intro v' w1 hown' hgrow hnil
        have hb1 : Below w.heap.size w w1 := (((Below.refl _ _).alloc (Nat.le_refl _) _).alloc (by simp) _).grown hgrow (by simp; omega) (by intro x hx; simp [Value.ownBlock] at hx; omega)
        have hb2 : Below (w.heap.size + 1) (w.alloc (.cells #[.bool false, .slice none 0 0] 47)) w1 := ((Below.refl _ _).alloc (by simp) _).grown hgrow (by simp) (by intro x hx; simp [Value.ownBlock] at hx; omega)
        have hr1 := Row.whole (k := (0)) (by omega) (by first | exact hown' | simpa using hown')
        obtain ⟨e1, e2, e3⟩ := HW.out (0) (by omega) (fun j h => hj.out j h) (by first | exact .inl rfl | exact .inr hz)
        obtain ⟨p', c', hv⟩ := hr1.slice
        rw [show (ds.take (0)).length = 0 by rw [List.length_take]; omega] at hv
        subst hv
        have k0 : w1.cell? ⟨w.heap.size, 0, none⟩ = some (.bool false) := by rw [hb2.cell (by simp)]; simp [go_sem]
        have k1 : w1.cell? ⟨w.heap.size, 1, none⟩ = some (.slice none 0 0) := by rw [hb2.cell (by simp)]; simp [go_sem]
        have kf : ∀ o, w1.frozen? ⟨w.heap.size, o, none⟩ = false := fun o => by rw [hb2.frozen (by simp)]; simp [go_sem]
        have R := Lib.hid ((ownsRow_setCell_below (ownsRow_setCell_below hr1 (a := ⟨w.heap.size, 0, none⟩) (by simp) (.bool false)) (a := ⟨w.heap.size, 1, none⟩) (by simp) (.slice p' (0) c')))
        have Q := Lib.hid (NumR.of (b := false) (by rw [e3]; simp) (R.out) (Nat.le_succ _) e1 e2 ((hb1.setCell (p := ⟨w.heap.size, 0, none⟩) (by simp) (.bool false)).setCell (p := ⟨w.heap.size, 1, none⟩) (by simp) (.slice p' (0) c')))
        clear e1 e2 e3 hr1 hown' hgrow hnil R hb1 hb2
        go_wp2_with fail
        refine bodyPost_ret (v := .agg #[.bool false, .slice p' (0) c']) (by simp [results, Try.results44, go_sem, k0, k1]) rfl Q.out

    | succ m =>
      have hcm := HC.out m (by omega)
      by_cases hz : dd ds m = 0
      · rw [hz] at hcm
        go_wp2_with fail
        go_round
        case rel => exact ⟨m, by omega, by go_num, Lib.hid fun j h => by
          by_cases c : j = m
          · rw [c, hz]
          · exact hj.out j (by omega)⟩
        case measure => simp [intOf]
      · have hx : ((dd ds m : Int) == 0) = false := by simp; omega
        go_wp2_with (at_builtin; go_loud (refine wpList_append_own _ rfl _ _ 45 rfl (w.heap.size + 1) 3 i0 (.int .i64 0) 1 8 Try.underlying45 hi hz0 hz1 hz2 rfl (by decide) _ 0 [] rfl hlit ⟨g, 0, none⟩ (m + 1) c ((ds.take (m + 1)).map fun d : Nat => Value.int .i64 d) rfl (by rw [List.length_map, List.length_take]; omega) (Row.news (HR.out.on (((Below.refl _ _).alloc (Nat.le_refl _) _).alloc (by simp) _) (Nat.le_refl _)) (m + 1)) (Row.one ds (m + 1)) (by unfold maxLen; omega) (by omega) (by simp) ?_))
        · intro v' w1 hown' hgrow hnil
          have hb1 : Below w.heap.size w w1 := (((Below.refl _ _).alloc (Nat.le_refl _) _).alloc (by simp) _).grown hgrow (by simp; omega) (by intro x hx; simp [Value.ownBlock] at hx; omega)
          have hb2 : Below (w.heap.size + 1) (w.alloc (.cells #[.bool false, .slice none 0 0] 47)) w1 := ((Below.refl _ _).alloc (by simp) _).grown hgrow (by simp) (by intro x hx; simp [Value.ownBlock] at hx; omega)
          have hr1 := Row.whole (k := (m + 1)) (by omega) (by first | exact hown' | simpa using hown')
          obtain ⟨e1, e2, e3⟩ := HW.out (m + 1) (by omega) (fun j h => hj.out j h) (by first | exact .inl rfl | exact .inr hz)
          obtain ⟨p', c', hv⟩ := hr1.slice
          rw [show (ds.take (m + 1)).length = m + 1 by rw [List.length_take]; omega] at hv
          subst hv
          have k0 : w1.cell? ⟨w.heap.size, 0, none⟩ = some (.bool false) := by rw [hb2.cell (by simp)]; simp [go_sem]
          have k1 : w1.cell? ⟨w.heap.size, 1, none⟩ = some (.slice none 0 0) := by rw [hb2.cell (by simp)]; simp [go_sem]
          have kf : ∀ o, w1.frozen? ⟨w.heap.size, o, none⟩ = false := fun o => by rw [hb2.frozen (by simp)]; simp [go_sem]
          have R := Lib.hid ((ownsRow_setCell_below (ownsRow_setCell_below hr1 (a := ⟨w.heap.size, 0, none⟩) (by simp) (.bool true)) (a := ⟨w.heap.size, 1, none⟩) (by simp) (.slice p' (m + 1) c')))
          have Q := Lib.hid (NumR.of (b := true) (by rw [e3]; simp) (R.out) (Nat.le_succ _) e1 e2 ((hb1.setCell (p := ⟨w.heap.size, 0, none⟩) (by simp) (.bool true)).setCell (p := ⟨w.heap.size, 1, none⟩) (by simp) (.slice p' (m + 1) c')))
          clear e1 e2 e3 hr1 hown' hgrow hnil R hb1 hb2
          go_wp2_with fail
          refine bodyPost_ret (v := .agg #[.bool true, .slice p' (m + 1) c']) (by simp [results, Try.results44, go_sem, k0, k1]) rfl Q.out


set_option maxHeartbeats 1000000 in
theorem whole_some_false (w : World) (g c B : Nat) (ds : List Nat) (hrow : Row w B (.slice (some ⟨g, 0, none⟩) ds.length c) ds) (hl : ds.length ≤ 1000) (hd : Dig ds)
    (hg : g < w.heap.size) (hc1 : ds.length ≤ c) (hcell : ∀ i, i < ds.length → w.cell? ⟨g, i, none⟩ = some (.int .i64 (dd ds i : Nat))) :
    Calls Try.prog 44 #[.bool false, .slice (some ⟨g, 0, none⟩) ds.length c] w (NumR (sg false (dv ds : Nat)) w) := by
  obtain ⟨i0, hi, hz0, hz1, hz2⟩ := info_parts infoInt
  have HW := Lib.hid (fun k => whole_num false ds k hd)
  have HC := Lib.hid hcell
  have HR := Lib.hid hrow
  clear hcell hrow hd
  have hlit : ((w.alloc (.cells #[.bool false, .slice none 0 0] 47)).alloc (.cells #[] 3)).ownsRow (w.heap.size + 1) 3 1 (.slice (some ⟨w.heap.size + 1, 0, none⟩) 0 0) 0 [] := by
    have := World.ownsRow_lit (base := w.heap.size + 1) (e := 3) (size := 1) (w.alloc (.cells #[.bool false, .slice none 0 0] 47)) #[] 0 (by simp) (by unfold maxLen; omega) rfl
    rwa [World.size_alloc] at this
  go_enter Try.func44, Try.ntmps44
  go_wp2_with fail
  go_loop [5] (fun i => ∃ k : Nat, k ≤ ds.length ∧ i = .int .i64 k ∧ Hid (∀ j, k ≤ j → dd ds j = 0)) (fun i => (intOf i).toNat)
  case atStart => exact ⟨ds.length, Nat.le_refl _, rfl, Lib.hid fun j hj => dd_ge ds j hj⟩
  case round =>
    obtain ⟨k, hk, rfl, hj⟩ := hrel
    cases k with
    | zero =>
      go_wp2_with (at_builtin; go_loud (refine wpList_append_own _ rfl _ _ 45 rfl (w.heap.size + 1) 3 i0 (.int .i64 0) 1 8 Try.underlying45 hi hz0 hz1 hz2 rfl (by decide) _ 0 [] rfl hlit ⟨g, 0, none⟩ (0) c ((ds.take (0)).map fun d : Nat => Value.int .i64 d) rfl (by rw [List.length_map, List.length_take]; omega) (Row.news (HR.out.on (((Below.refl _ _).alloc (Nat.le_refl _) _).alloc (by simp) _) (Nat.le_refl _)) (0)) (Row.one ds (0)) (by unfold maxLen; omega) (by omega) (by simp) ?_))
      · intro v' w1 hown' hgrow hnil
        have hb1 : Below w.heap.size w w1 := (((Below.refl _ _).alloc (Nat.le_refl _) _).alloc (by simp) _).grown hgrow (by simp; omega) (by intro x hx; simp [Value.ownBlock] at hx; omega)
        have hb2 : Below (w.heap.size + 1) (w.alloc (.cells #[.bool false, .slice none 0 0] 47)) w1 := ((Below.refl _ _).alloc (by simp) _).grown hgrow (by simp) (by intro x hx; simp [Value.ownBlock] at hx; omega)
        have hr1 := Row.whole (k := (0)) (by omega) (by first | exact hown' | simpa using hown')
        obtain ⟨e1, e2, e3⟩ := HW.out (0) (by omega) (fun j h => hj.out j h) (by first | exact .inl rfl | exact .inr hz)
        obtain ⟨p', c', hv⟩ := hr1.slice
        rw [show (ds.take (0)).length = 0 by rw [List.length_take]; omega] at hv
        subst hv
        have k0 : w1.cell? ⟨w.heap.size, 0, none⟩ = some (.bool false) := by rw [hb2.cell (by simp)]; simp [go_sem]
        have k1 : w1.cell? ⟨w.heap.size, 1, none⟩ = some (.slice none 0 0) := by rw [hb2.cell (by simp)]; simp [go_sem]
        have kf : ∀ o, w1.frozen? ⟨w.heap.size, o, none⟩ = false := fun o => by rw [hb2.frozen (by simp)]; simp [go_sem]
        have R := Lib.hid ((ownsRow_setCell_below (ownsRow_setCell_below hr1 (a := ⟨w.heap.size, 0, none⟩) (by simp) (.bool false)) (a := ⟨w.heap.size, 1, none⟩) (by simp) (.slice p' (0) c')))
        have Q := Lib.hid (NumR.of (b := false) (by rw [e3]; simp) (R.out) (Nat.le_succ _) e1 e2 ((hb1.setCell (p := ⟨w.heap.size, 0, none⟩) (by simp) (.bool false)).setCell (p := ⟨w.heap.size, 1, none⟩) (by simp) (.slice p' (0) c')))
        clear e1 e2 e3 hr1 hown' hgrow hnil R hb1 hb2
        go_wp2_with fail
        refine bodyPost_ret (v := .agg #[.bool false, .slice p' (0) c']) (by simp [results, Try.results44, go_sem, k0, k1]) rfl Q.out

    | succ m =>
      have hcm := HC.out m (by omega)
      by_cases hz : dd ds m = 0
      · rw [hz] at hcm
        go_wp2_with fail
        go_round
        case rel => exact ⟨m, by omega, by go_num, Lib.hid fun j h => by
          by_cases c : j = m
          · rw [c, hz]
          · exact hj.out j (by omega)⟩
        case measure => simp [intOf]
      · have hx : ((dd ds m : Int) == 0) = false := by simp; omega
        go_wp2_with (at_builtin; go_loud (refine wpList_append_own _ rfl _ _ 45 rfl (w.heap.size + 1) 3 i0 (.int .i64 0) 1 8 Try.underlying45 hi hz0 hz1 hz2 rfl (by decide) _ 0 [] rfl hlit ⟨g, 0, none⟩ (m + 1) c ((ds.take (m + 1)).map fun d : Nat => Value.int .i64 d) rfl (by rw [List.length_map, List.length_take]; omega) (Row.news (HR.out.on (((Below.refl _ _).alloc (Nat.le_refl _) _).alloc (by simp) _) (Nat.le_refl _)) (m + 1)) (Row.one ds (m + 1)) (by unfold maxLen; omega) (by omega) (by simp) ?_))
        · intro v' w1 hown' hgrow hnil
          have hb1 : Below w.heap.size w w1 := (((Below.refl _ _).alloc (Nat.le_refl _) _).alloc (by simp) _).grown hgrow (by simp; omega) (by intro x hx; simp [Value.ownBlock] at hx; omega)
          have hb2 : Below (w.heap.size + 1) (w.alloc (.cells #[.bool false, .slice none 0 0] 47)) w1 := ((Below.refl _ _).alloc (by simp) _).grown hgrow (by simp) (by intro x hx; simp [Value.ownBlock] at hx; omega)
          have hr1 := Row.whole (k := (m + 1)) (by omega) (by first | exact hown' | simpa using hown')
          obtain ⟨e1, e2, e3⟩ := HW.out (m + 1) (by omega) (fun j h => hj.out j h) (by first | exact .inl rfl | exact .inr hz)
          obtain ⟨p', c', hv⟩ := hr1.slice
          rw [show (ds.take (m + 1)).length = m + 1 by rw [List.length_take]; omega] at hv
          subst hv
          have k0 : w1.cell? ⟨w.heap.size, 0, none⟩ = some (.bool false) := by rw [hb2.cell (by simp)]; simp [go_sem]
          have k1 : w1.cell? ⟨w.heap.size, 1, none⟩ = some (.slice none 0 0) := by rw [hb2.cell (by simp)]; simp [go_sem]
          have kf : ∀ o, w1.frozen? ⟨w.heap.size, o, none⟩ = false := fun o => by rw [hb2.frozen (by simp)]; simp [go_sem]
          have R := Lib.hid ((ownsRow_setCell_below (ownsRow_setCell_below hr1 (a := ⟨w.heap.size, 0, none⟩) (by simp) (.bool false)) (a := ⟨w.heap.size, 1, none⟩) (by simp) (.slice p' (m + 1) c')))
          have Q := Lib.hid (NumR.of (b := false) (by rw [e3]; simp) (R.out) (Nat.le_succ _) e1 e2 ((hb1.setCell (p := ⟨w.heap.size, 0, none⟩) (by simp) (.bool false)).setCell (p := ⟨w.heap.size, 1, none⟩) (by simp) (.slice p' (m + 1) c')))
          clear e1 e2 e3 hr1 hown' hgrow hnil R hb1 hb2
          go_wp2_with fail
          refine bodyPost_ret (v := .agg #[.bool false, .slice p' (m + 1) c']) (by simp [results, Try.results44, go_sem, k0, k1]) rfl Q.out


set_option maxHeartbeats 1000000 in
theorem whole_nil_true (w : World) :
    Calls Try.prog 44 #[.bool true, .slice none 0 0] w (NumR 0 w) := by
  obtain ⟨i0, hi, hz0, hz1, hz2⟩ := info_parts infoInt
  have hlit : ((w.alloc (.cells #[.bool false, .slice none 0 0] 47)).alloc (.cells #[] 3)).ownsRow (w.heap.size + 1) 3 1 (.slice (some ⟨w.heap.size + 1, 0, none⟩) 0 0) 0 [] := by
    have := World.ownsRow_lit (base := w.heap.size + 1) (e := 3) (size := 1) (w.alloc (.cells #[.bool false, .slice none 0 0] 47)) #[] 0 (by simp) (by unfold maxLen; omega) rfl
    rwa [World.size_alloc] at this
  have hlit2 : ((w.alloc (.cells #[.bool false, .slice (some ⟨w.heap.size + 1, 0, none⟩) 0 0] 47)).alloc (.cells #[] 3)).ownsRow (w.heap.size + 1) 3 1 (.slice (some ⟨w.heap.size + 1, 0, none⟩) 0 0) 0 [] := by
    have := World.ownsRow_lit (base := w.heap.size + 1) (e := 3) (size := 1) (w.alloc (.cells #[.bool false, .slice (some ⟨w.heap.size + 1, 0, none⟩) 0 0] 47)) #[] 0 (by simp) (by unfold maxLen; omega) rfl
    rwa [World.size_alloc] at this
  have Q := Lib.hid (NumR.of (n := 0) (w := w) (ds := []) (b := false) rfl hlit2 (Nat.le_succ _) ⟨dig_nil, fun h => absurd rfl h⟩ rfl (((Below.refl _ _).alloc (Nat.le_refl _) _).alloc (by simp) _))
  clear hlit2
  go_enter Try.func44, Try.ntmps44
  go_wp2_with fail
  go_loop [5] (fun i => i = .int .i64 0) (fun i => (intOf i).toNat)
  case atStart => rfl
  case round =>
    subst hrel
    go_wp2_with (at_builtin; refine wpList_append_own_none _ rfl _ _ 45 rfl (w.heap.size + 1) 3 i0 1 Try.underlying45 hi _ 0 [] rfl hlit rfl ?_)
    refine bodyPost_ret (v := .agg #[.bool false, .slice (some ⟨w.heap.size + 1, 0, none⟩) 0 0]) (by simp [results, Try.results44, go_sem]) rfl Q.out

set_option maxHeartbeats 1000000 in
theorem whole_nil_false (w : World) :
    Calls Try.prog 44 #[.bool false, .slice none 0 0] w (NumR 0 w) := by
  obtain ⟨i0, hi, hz0, hz1, hz2⟩ := info_parts infoInt
  have hlit : ((w.alloc (.cells #[.bool false, .slice none 0 0] 47)).alloc (.cells #[] 3)).ownsRow (w.heap.size + 1) 3 1 (.slice (some ⟨w.heap.size + 1, 0, none⟩) 0 0) 0 [] := by
    have := World.ownsRow_lit (base := w.heap.size + 1) (e := 3) (size := 1) (w.alloc (.cells #[.bool false, .slice none 0 0] 47)) #[] 0 (by simp) (by unfold maxLen; omega) rfl
    rwa [World.size_alloc] at this
  have hlit2 : ((w.alloc (.cells #[.bool false, .slice (some ⟨w.heap.size + 1, 0, none⟩) 0 0] 47)).alloc (.cells #[] 3)).ownsRow (w.heap.size + 1) 3 1 (.slice (some ⟨w.heap.size + 1, 0, none⟩) 0 0) 0 [] := by
    have := World.ownsRow_lit (base := w.heap.size + 1) (e := 3) (size := 1) (w.alloc (.cells #[.bool false, .slice (some ⟨w.heap.size + 1, 0, none⟩) 0 0] 47)) #[] 0 (by simp) (by unfold maxLen; omega) rfl
    rwa [World.size_alloc] at this
  have Q := Lib.hid (NumR.of (n := 0) (w := w) (ds := []) (b := false) rfl hlit2 (Nat.le_succ _) ⟨dig_nil, fun h => absurd rfl h⟩ rfl (((Below.refl _ _).alloc (Nat.le_refl _) _).alloc (by simp) _))
  clear hlit2
  go_enter Try.func44, Try.ntmps44
  go_wp2_with fail
  go_loop [5] (fun i => i = .int .i64 0) (fun i => (intOf i).toNat)
  case atStart => rfl
  case round =>
    subst hrel
    go_wp2_with (at_builtin; refine wpList_append_own_none _ rfl _ _ 45 rfl (w.heap.size + 1) 3 i0 1 Try.underlying45 hi _ 0 [] rfl hlit rfl ?_)
    refine bodyPost_ret (v := .agg #[.bool false, .slice (some ⟨w.heap.size + 1, 0, none⟩) 0 0]) (by simp [results, Try.results44, go_sem]) rfl Q.out

theorem whole_any (w : World) (b : Bool) (v : Value) (B : Nat) (ds : List Nat) (hrow : Row w B v ds) (hl : ds.length ≤ 1000) (hd : Dig ds) :
    Calls Try.prog 44 #[.bool b, v] w (NumR (sg b (dv ds : Nat)) w) := by
  rcases hrow.form with ⟨rfl, rfl⟩ | ⟨g, c, rfl, -, h1, h2, -, h3⟩
  · cases b
    · exact whole_nil_false w
    · exact whole_nil_true w
  · cases b
    · exact whole_some_false w g c B ds hrow hl hd h1 h2 h3
    · exact whole_some_true w g c B ds hrow hl hd h1 h2 h3

end Go.Proofs.Ytnbloflgggndiaa
