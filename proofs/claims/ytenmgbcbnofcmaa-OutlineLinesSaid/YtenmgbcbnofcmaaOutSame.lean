/- The contracts of SamePts, SamePoints, SameInts, Same, SameRows, Big. -/
import Derived.Test.YtenmgbcbnofcmaaOutLines
import Derived.BigQuiet
namespace Go.Proofs.Ytenmgbcbnofcmaa
open Go.RowKit

set_option maxHeartbeats 1000000 in
theorem samePts_any (v1 v2 : Value) (ts us : List (Int × Int)) (w : World) (h1 : TsAt w v1 ts) (h2 : TsAt w v2 us) (hl : ts.length ≤ 100000000) :
    Calls Try.prog 32 #[v1, v2] w (BoolIs (decide (ts = us)) w) := by
  obtain ⟨p1, c1, rfl⟩ := h1.len
  obtain ⟨p2, c2, rfl⟩ := h2.len
  obtain ⟨d, hd⟩ : ∃ d, decide (ts = us) = d := ⟨_, rfl⟩
  rw [hd]
  have HD := Lib.hid hd
  clear hd
  by_cases hlen : ts.length = us.length
  · have H1 := Lib.hid (fun (W : World) (hb : Below w.heap.size w W) i (hi : i < ts.length) => show ∃ a, p1 = some a ∧ W.cell? (a.add (i * 2)) = some (.int .i64 (ts[i]?.getD default).1) ∧ W.cell? ⟨(a.add (i * 2)).block, (a.add (i * 2)).off + 1, none⟩ = some (.int .i64 (ts[i]?.getD default).2) from by
      rcases h1.on hb with ⟨h, hh⟩ | ⟨a, c, h, hg, hlc, hc, hcell⟩
      · rw [hh] at hi; simp at hi
      · simp only [Value.slice.injEq, true_and] at h
        obtain ⟨rfl, rfl⟩ := h
        exact ⟨a, rfl, hcell i hi⟩)
    have H2 := Lib.hid (fun (W : World) (hb : Below w.heap.size w W) i (hi : i < us.length) => show ∃ a, p2 = some a ∧ W.cell? (a.add (i * 2)) = some (.int .i64 (us[i]?.getD default).1) ∧ W.cell? ⟨(a.add (i * 2)).block, (a.add (i * 2)).off + 1, none⟩ = some (.int .i64 (us[i]?.getD default).2) from by
      rcases h2.on hb with ⟨h, hh⟩ | ⟨a, c, h, hg, hlc, hc, hcell⟩
      · rw [hh] at hi; simp at hi
      · simp only [Value.slice.injEq, true_and] at h
        obtain ⟨rfl, rfl⟩ := h
        exact ⟨a, rfl, hcell i hi⟩)
    rw [← hlen]
    rw [← hlen] at H2
    have HL := Lib.hid hlen
    clear h1 h2 hlen
    go_enter Try.func32, Try.ntmps32
    go_wp2_with fail
    go_loopw [5] (fun i wr => ∃ k : Nat, k ≤ ts.length ∧ i = .int .i64 k ∧ Below w.heap.size w wr ∧ Hid (∀ j, j < k → ts[j]?.getD default = us[j]?.getD default)) (fun i _ => (ts.length - intOf i).toNat)
    case atStart => exact ⟨0, by omega, rfl, Below.refl _ _, Lib.hid (fun j hj => by omega)⟩
    case round =>
      obtain ⟨k, hk, rfl, hB, hs⟩ := hrel
      by_cases hlt : k < ts.length
      · obtain ⟨a, rfl, a1, a2⟩ := H1.out wr hB k hlt
        obtain ⟨b, rfl, b1, b2⟩ := H2.out wr hB k hlt
        obtain ⟨p, hp⟩ : ∃ p, ts[k]?.getD default = p := ⟨_, rfl⟩
        obtain ⟨q, hq⟩ : ∃ q, us[k]?.getD default = q := ⟨_, rfl⟩
        rw [hp] at a1 a2
        rw [hq] at b1 b2
        have HPQ := Lib.hid (And.intro hp hq)
        obtain ⟨x, y⟩ := p
        obtain ⟨x', y'⟩ := q
        simp only at a1 a2 b1 b2
        clear hp hq
        by_cases ex : x = x'
        · by_cases ey : y = y'
          · subst ex
            subst ey
            go_wp2_with fail
            go_quiet (fail)
            go_wp2_with fail
            go_roundw
            case rel => exact ⟨k + 1, by omega, by go_num, below_drewN hB nq, Lib.hid (fun j hj => by
              by_cases e : j = k
              · subst e; rw [HPQ.out.1, HPQ.out.2]
              · exact hs.out j (by omega))⟩
            case measure => simp [intOf]; omega
          · go_wp2_with fail
            go_quiet (fail)
            go_wp2_with fail
            have hQ : d = false := by rw [← HD.out]; exact decide_eq_false (fun e => by have h1 := HPQ.out.1; have h2 := HPQ.out.2; rw [e, h2] at h1; simp only [Prod.mk.injEq] at h1; exact ey h1.2.symm)
            rw [hQ]
            go_ret
            exact ⟨rfl, below_drewN hB nq⟩
        · go_wp2_with fail
          go_quiet (fail)
          go_wp2_with fail
          have hQ : d = false := by rw [← HD.out]; exact decide_eq_false (fun e => by have h1 := HPQ.out.1; have h2 := HPQ.out.2; rw [e, h2] at h1; simp only [Prod.mk.injEq] at h1; exact ex h1.1.symm)
          rw [hQ]
          go_ret
          exact ⟨rfl, below_drewN hB nq⟩
      · obtain rfl : k = ts.length := by omega
        have hQ : d = true := by
          rw [← HD.out, decide_eq_true_eq]
          refine List.ext_getElem HL.out (fun i h1 h2 => ?_)
          have := hs.out i h1
          rwa [List.getElem?_eq_getElem h1, List.getElem?_eq_getElem h2] at this
        go_wp2_with fail
        rw [hQ]
        go_ret
        exact ⟨rfl, hB⟩
  · have hQ : d = false := by rw [← HD.out]; exact decide_eq_false (fun e => hlen (by rw [e]))
    rw [hQ]
    go_enter Try.func32, Try.ntmps32
    go_wp2_with fail
    go_ret
    exact ⟨rfl, Below.refl _ _⟩

set_option maxHeartbeats 1000000 in
theorem samePoints_any (v1 v2 : Value) (ts us : List Pn) (w : World) (h1 : PtsAt w v1 ts) (h2 : PtsAt w v2 us) (hl : ts.length ≤ 100000000) :
    Calls Try.prog 15 #[v1, v2] w (BoolIs (decide (ts = us)) w) := by
  obtain ⟨p1, c1, rfl⟩ := h1.len
  obtain ⟨p2, c2, rfl⟩ := h2.len
  obtain ⟨d, hd⟩ : ∃ d, decide (ts = us) = d := ⟨_, rfl⟩
  rw [hd]
  have HD := Lib.hid hd
  clear hd
  by_cases hlen : ts.length = us.length
  · have H1 := Lib.hid (fun (W : World) (hb : Below w.heap.size w W) i (hi : i < ts.length) => show ∃ a, p1 = some a ∧ W.cell? (a.add (i * 3)) = some (.int .i64 (ts[i]?.getD default).x) ∧ W.cell? ⟨(a.add (i * 3)).block, (a.add (i * 3)).off + 1, none⟩ = some (.int .i64 (ts[i]?.getD default).y) ∧ W.cell? ⟨(a.add (i * 3)).block, (a.add (i * 3)).off + 2, none⟩ = some (.bool (ts[i]?.getD default).on) from by
      rcases h1.on hb with ⟨h, hh⟩ | ⟨a, c, h, hg, hlc, hc, hcell⟩
      · rw [hh] at hi; simp at hi
      · simp only [Value.slice.injEq, true_and] at h
        obtain ⟨rfl, rfl⟩ := h
        exact ⟨a, rfl, hcell i hi⟩)
    have H2 := Lib.hid (fun (W : World) (hb : Below w.heap.size w W) i (hi : i < us.length) => show ∃ a, p2 = some a ∧ W.cell? (a.add (i * 3)) = some (.int .i64 (us[i]?.getD default).x) ∧ W.cell? ⟨(a.add (i * 3)).block, (a.add (i * 3)).off + 1, none⟩ = some (.int .i64 (us[i]?.getD default).y) ∧ W.cell? ⟨(a.add (i * 3)).block, (a.add (i * 3)).off + 2, none⟩ = some (.bool (us[i]?.getD default).on) from by
      rcases h2.on hb with ⟨h, hh⟩ | ⟨a, c, h, hg, hlc, hc, hcell⟩
      · rw [hh] at hi; simp at hi
      · simp only [Value.slice.injEq, true_and] at h
        obtain ⟨rfl, rfl⟩ := h
        exact ⟨a, rfl, hcell i hi⟩)
    rw [← hlen]
    rw [← hlen] at H2
    have HL := Lib.hid hlen
    clear h1 h2 hlen
    go_enter Try.func15, Try.ntmps15
    go_wp2_with fail
    go_loopw [5] (fun i wr => ∃ k : Nat, k ≤ ts.length ∧ i = .int .i64 k ∧ Below w.heap.size w wr ∧ Hid (∀ j, j < k → ts[j]?.getD default = us[j]?.getD default)) (fun i _ => (ts.length - intOf i).toNat)
    case atStart => exact ⟨0, by omega, rfl, Below.refl _ _, Lib.hid (fun j hj => by omega)⟩
    case round =>
      obtain ⟨k, hk, rfl, hB, hs⟩ := hrel
      by_cases hlt : k < ts.length
      · obtain ⟨a, rfl, a1, a2, a3⟩ := H1.out wr hB k hlt
        obtain ⟨b, rfl, b1, b2, b3⟩ := H2.out wr hB k hlt
        obtain ⟨p, hp⟩ : ∃ p, ts[k]?.getD default = p := ⟨_, rfl⟩
        obtain ⟨q, hq⟩ : ∃ q, us[k]?.getD default = q := ⟨_, rfl⟩
        rw [hp] at a1 a2 a3
        rw [hq] at b1 b2 b3
        have HPQ := Lib.hid (And.intro hp hq)
        obtain ⟨x, y, o⟩ := p
        obtain ⟨x', y', o'⟩ := q
        simp only at a1 a2 a3 b1 b2 b3
        clear hp hq
        by_cases ex : x = x'
        · by_cases ey : y = y'
          · by_cases eo : o = o'
            · subst ex
              subst ey
              subst eo
              go_wp2_with fail
              go_quiet (fail)
              go_wp2_with fail
              go_roundw
              case rel => exact ⟨k + 1, by omega, by go_num, below_drewN hB nq, Lib.hid (fun j hj => by
                by_cases e : j = k
                · subst e; rw [HPQ.out.1, HPQ.out.2]
                · exact hs.out j (by omega))⟩
              case measure => simp [intOf]; omega
            · go_wp2_with fail
              go_quiet (fail)
              go_wp2_with fail
              have hQ : d = false := by rw [← HD.out]; exact decide_eq_false (fun e => by have h1 := HPQ.out.1; have h2 := HPQ.out.2; rw [e, h2] at h1; simp only [Pn.mk.injEq] at h1; exact eo h1.2.2.symm)
              rw [hQ]
              go_ret
              exact ⟨rfl, below_drewN hB nq⟩
          · go_wp2_with fail
            go_quiet (fail)
            go_wp2_with fail
            have hQ : d = false := by rw [← HD.out]; exact decide_eq_false (fun e => by have h1 := HPQ.out.1; have h2 := HPQ.out.2; rw [e, h2] at h1; simp only [Pn.mk.injEq] at h1; exact ey h1.2.1.symm)
            rw [hQ]
            go_ret
            exact ⟨rfl, below_drewN hB nq⟩
        · go_wp2_with fail
          go_quiet (fail)
          go_wp2_with fail
          have hQ : d = false := by rw [← HD.out]; exact decide_eq_false (fun e => by have h1 := HPQ.out.1; have h2 := HPQ.out.2; rw [e, h2] at h1; simp only [Pn.mk.injEq] at h1; exact ex h1.1.symm)
          rw [hQ]
          go_ret
          exact ⟨rfl, below_drewN hB nq⟩
      · obtain rfl : k = ts.length := by omega
        have hQ : d = true := by
          rw [← HD.out, decide_eq_true_eq]
          refine List.ext_getElem HL.out (fun i h1 h2 => ?_)
          have := hs.out i h1
          rwa [List.getElem?_eq_getElem h1, List.getElem?_eq_getElem h2] at this
        go_wp2_with fail
        rw [hQ]
        go_ret
        exact ⟨rfl, hB⟩
  · have hQ : d = false := by rw [← HD.out]; exact decide_eq_false (fun e => hlen (by rw [e]))
    rw [hQ]
    go_enter Try.func15, Try.ntmps15
    go_wp2_with fail
    go_ret
    exact ⟨rfl, Below.refl _ _⟩

set_option maxHeartbeats 1000000 in
theorem sameInts_any (v1 v2 : Value) (ts us : List Int) (w : World) (h1 : EndsAt w v1 ts) (h2 : EndsAt w v2 us) (hl : ts.length ≤ 100000000) :
    Calls Try.prog 39 #[v1, v2] w (BoolIs (decide (ts = us)) w) := by
  obtain ⟨p1, c1, rfl⟩ := h1.len
  obtain ⟨p2, c2, rfl⟩ := h2.len
  obtain ⟨d, hd⟩ : ∃ d, decide (ts = us) = d := ⟨_, rfl⟩
  rw [hd]
  have HD := Lib.hid hd
  clear hd
  by_cases hlen : ts.length = us.length
  · have H1 := Lib.hid (fun (W : World) (hb : Below w.heap.size w W) i (hi : i < ts.length) => show ∃ a, p1 = some a ∧ W.cell? (a.add i) = some (.int .i64 (ts[i]?.getD 0)) from by
      rcases h1.on hb with ⟨h, hh⟩ | ⟨a, c, h, hg, hlc, hc, hcell⟩
      · rw [hh] at hi; simp at hi
      · simp only [Value.slice.injEq, true_and] at h
        obtain ⟨rfl, rfl⟩ := h
        exact ⟨a, rfl, hcell i hi⟩)
    have H2 := Lib.hid (fun (W : World) (hb : Below w.heap.size w W) i (hi : i < us.length) => show ∃ a, p2 = some a ∧ W.cell? (a.add i) = some (.int .i64 (us[i]?.getD 0)) from by
      rcases h2.on hb with ⟨h, hh⟩ | ⟨a, c, h, hg, hlc, hc, hcell⟩
      · rw [hh] at hi; simp at hi
      · simp only [Value.slice.injEq, true_and] at h
        obtain ⟨rfl, rfl⟩ := h
        exact ⟨a, rfl, hcell i hi⟩)
    rw [← hlen]
    rw [← hlen] at H2
    have HL := Lib.hid hlen
    clear h1 h2 hlen
    go_enter Try.func39, Try.ntmps39
    go_wp2_with fail
    go_loopw [5] (fun i wr => ∃ k : Nat, k ≤ ts.length ∧ i = .int .i64 k ∧ Below w.heap.size w wr ∧ Hid (∀ j, j < k → ts[j]?.getD 0 = us[j]?.getD 0)) (fun i _ => (ts.length - intOf i).toNat)
    case atStart => exact ⟨0, by omega, rfl, Below.refl _ _, Lib.hid (fun j hj => by omega)⟩
    case round =>
      obtain ⟨k, hk, rfl, hB, hs⟩ := hrel
      by_cases hlt : k < ts.length
      · obtain ⟨a, rfl, a1⟩ := H1.out wr hB k hlt
        obtain ⟨b, rfl, b1⟩ := H2.out wr hB k hlt
        obtain ⟨p, hp⟩ : ∃ p, ts[k]?.getD 0 = p := ⟨_, rfl⟩
        obtain ⟨q, hq⟩ : ∃ q, us[k]?.getD 0 = q := ⟨_, rfl⟩
        rw [hp] at a1
        rw [hq] at b1
        have HPQ := Lib.hid (And.intro hp hq)
        clear hp hq
        by_cases ex : p = q
        · subst ex
          go_wp2_with fail
          go_quiet (fail)
          go_wp2_with fail
          go_roundw
          case rel => exact ⟨k + 1, by omega, by go_num, below_drewN hB nq, Lib.hid (fun j hj => by
            by_cases e : j = k
            · subst e; rw [HPQ.out.1, HPQ.out.2]
            · exact hs.out j (by omega))⟩
          case measure => simp [intOf]; omega
        · go_wp2_with fail
          go_quiet (fail)
          go_wp2_with fail
          have hQ : d = false := by rw [← HD.out]; exact decide_eq_false (fun e => by have h1 := HPQ.out.1; have h2 := HPQ.out.2; rw [e, h2] at h1; exact ex h1.symm)
          rw [hQ]
          go_ret
          exact ⟨rfl, below_drewN hB nq⟩
      · obtain rfl : k = ts.length := by omega
        have hQ : d = true := by
          rw [← HD.out, decide_eq_true_eq]
          refine List.ext_getElem HL.out (fun i h1 h2 => ?_)
          have := hs.out i h1
          rwa [List.getElem?_eq_getElem h1, List.getElem?_eq_getElem h2] at this
        go_wp2_with fail
        rw [hQ]
        go_ret
        exact ⟨rfl, hB⟩
  · have hQ : d = false := by rw [← HD.out]; exact decide_eq_false (fun e => hlen (by rw [e]))
    rw [hQ]
    go_enter Try.func39, Try.ntmps39
    go_wp2_with fail
    go_ret
    exact ⟨rfl, Below.refl _ _⟩

theorem sames {w w1 w2 : World} (h1 : Below w.heap.size w w1) (h2 : Below w1.heap.size w1 w2) : Below w.heap.size w w2 := h1.trans (h2.mono h1.size)
set_option maxHeartbeats 1000000 in
theorem same_any (v1 v2 u1 u2 : Value) (ps qs : List Pn) (es fs : List Int) (w : World) (h1 : PtsAt w v1 ps) (h2 : EndsAt w v2 es) (h3 : PtsAt w u1 qs) (h4 : EndsAt w u2 fs) (hl1 : ps.length ≤ 100000000) (hl2 : es.length ≤ 100000000) :
    Calls Try.prog 23 #[.agg #[v1, v2], .agg #[u1, u2]] w (BoolIs (decide (ps = qs ∧ es = fs)) w) := by
  obtain ⟨w1, hw1⟩ : ∃ w1, (w.alloc (.cells #[v1, v2] 25)).alloc (.cells #[u1, u2] 25) = w1 := ⟨_, rfl⟩
  have hb1 : Below w.heap.size w w1 := by rw [← hw1]; exact ((Below.refl _ _).alloc (Nat.le_refl _) _).alloc (by simp) _
  have hz : w1.heap.size = w.heap.size + 1 + 1 := by rw [← hw1]; simp
  have k1 : w1.cell? ⟨w.heap.size, 0, none⟩ = some v1 := by rw [← hw1]; simp [go_sem]
  have k2 : w1.cell? ⟨w.heap.size, 1, none⟩ = some v2 := by rw [← hw1]; simp [go_sem]
  have k3 : w1.cell? ⟨w.heap.size + 1, 0, none⟩ = some u1 := by rw [← hw1]; simp [go_sem]
  have k4 : w1.cell? ⟨w.heap.size + 1, 1, none⟩ = some u2 := by rw [← hw1]; simp [go_sem]
  have HP := Lib.hid (samePoints_any v1 u1 ps qs w1 (h1.on hb1) (h3.on hb1) hl1)
  have HE := Lib.hid (fun (W : World) (hb : Below w1.heap.size w1 W) => sameInts_any v2 u2 es fs W (h2.on (sames hb1 hb)) (h4.on (sames hb1 hb)) hl2)
  obtain ⟨pv1, cv1, rfl⟩ := h1.len
  obtain ⟨pv2, cv2, rfl⟩ := h2.len
  obtain ⟨pv3, cv3, rfl⟩ := h3.len
  obtain ⟨pv4, cv4, rfl⟩ := h4.len
  clear h1 h2 h3 h4
  have hd : decide (ps = qs ∧ es = fs) = (decide (ps = qs) && decide (es = fs)) := by by_cases c1 : ps = qs <;> by_cases c2 : es = fs <;> simp [c1, c2]
  rw [hd]
  clear hd
  generalize decide (ps = qs) = d1 at *
  generalize decide (es = fs) = d2 at *
  cases d1
  · go_enter Try.func23, Try.ntmps23
    go_wp2_with fail
    refine (HP.out).mono ?_
    rintro e w2 ⟨rfl, hb2⟩
    go_wp2_with fail
    go_ret
    exact ⟨rfl, sames hb1 hb2⟩
  · go_enter Try.func23, Try.ntmps23
    go_wp2_with fail
    refine (HP.out).mono ?_
    rintro e w2 ⟨rfl, hb2⟩
    have m1 : w2.cell? ⟨w.heap.size, 1, none⟩ = some (.slice pv2 es.length cv2) := (hb2.cell (p := ⟨w.heap.size, 1, none⟩) (by simp; omega)).trans k2
    have m2 : w2.cell? ⟨w.heap.size + 1, 1, none⟩ = some (.slice pv4 fs.length cv4) := (hb2.cell (p := ⟨w.heap.size + 1, 1, none⟩) (by simp; omega)).trans k4
    go_wp2_with fail
    refine (HE.out _ hb2).mono ?_
    rintro e w3 ⟨rfl, hb3⟩
    go_wp2_with fail
    go_ret
    exact ⟨rfl, sames (sames hb1 hb2) hb3⟩

/-- Is an outline too much to be looked at? -/
def bigO (ps : List Pn) (es : List Int) : Bool := decide (1500 < ps.length) || decide (300 < es.length)
set_option maxHeartbeats 1000000 in
theorem big_any (v1 v2 : Value) (ps : List Pn) (es : List Int) (w : World) (h1 : PtsAt w v1 ps) (h2 : EndsAt w v2 es) :
    Calls Try.prog 12 #[.agg #[v1, v2]] w (BoolIs (bigO ps es) w) := by
  obtain ⟨pv1, cv1, rfl⟩ := h1.len
  obtain ⟨pv2, cv2, rfl⟩ := h2.len
  clear h1 h2
  have hB : Below w.heap.size w (w.alloc (.cells #[.slice pv1 ps.length cv1, .slice pv2 es.length cv2] 25)) := (Below.refl _ _).alloc (Nat.le_refl _) _
  by_cases c1 : 1500 < ps.length
  · rw [show bigO ps es = true by simp [bigO, c1]]
    have e1 : decide ((1500 : Int) < (ps.length : Int)) = true := decide_eq_true (by omega)
    go_enter Try.func12, Try.ntmps12
    go_wp2_with fail
    go_ret
    exact ⟨rfl, hB⟩
  · by_cases c2 : 300 < es.length
    · rw [show bigO ps es = true by simp [bigO, c2]]
      have e1 : decide ((1500 : Int) < (ps.length : Int)) = false := decide_eq_false (by omega)
      have e2 : decide ((300 : Int) < (es.length : Int)) = true := decide_eq_true (by omega)
      go_enter Try.func12, Try.ntmps12
      go_wp2_with fail
      go_ret
      exact ⟨rfl, hB⟩
    · rw [show bigO ps es = false by simp [bigO]; omega]
      have e1 : decide ((1500 : Int) < (ps.length : Int)) = false := decide_eq_false (by omega)
      have e2 : decide ((300 : Int) < (es.length : Int)) = false := decide_eq_false (by omega)
      go_enter Try.func12, Try.ntmps12
      go_wp2_with fail
      go_ret
      exact ⟨rfl, hB⟩

/-- A row of rows of points without their kind, wherever it lies. -/
def RsAt (W : World) (v : Value) (rs : List (List (Int × Int))) : Prop :=
  (v = .slice none 0 0 ∧ rs = []) ∨ ∃ a c, v = .slice (some a) rs.length c ∧ a.block < W.heap.size ∧ rs.length ≤ c ∧ c ≤ maxLen ∧ ∀ i, i < rs.length → ∃ u, W.cell? (a.add i) = some u ∧ TsAt W u (rs[i]?.getD [])
theorem RsAt.on {W W' : World} {v : Value} {rs : List (List (Int × Int))} (h : RsAt W v rs) (hb : Below W.heap.size W W') : RsAt W' v rs := by
  rcases h with h | ⟨a, c, h1, h2, h3, h4, h5⟩
  · exact .inl h
  · exact .inr ⟨a, c, h1, Nat.lt_of_lt_of_le h2 hb.size, h3, h4, fun i hi => by obtain ⟨u, u1, u2⟩ := h5 i hi; exact ⟨u, (hb.cell (p := a.add i) (by rw [add_block]; exact h2)).trans u1, u2.on hb⟩⟩
theorem RsAt.len {W : World} {v : Value} {rs : List (List (Int × Int))} (h : RsAt W v rs) : ∃ p c, v = .slice p rs.length c := by
  rcases h with ⟨rfl, rfl⟩ | ⟨a, c, rfl, _⟩
  · exact ⟨_, _, rfl⟩
  · exact ⟨_, _, rfl⟩
theorem RRow.at {W : World} {B : Nat} {v : Value} {rs : List (List (Int × Int))} (h : RRow W B v rs) : RsAt W v rs := by
  obtain ⟨vs, h1, h2, h3⟩ := h
  rcases own_form h1 with ⟨e1, e2⟩ | ⟨g, c, rfl, -, hg, hn, hc⟩
  · exact .inl ⟨e1, List.length_eq_zero_iff.1 (by omega)⟩
  · refine .inr ⟨_, c, by rw [h2], hg, by omega, hc, fun i hi => ?_⟩
    obtain ⟨u, u1, u2, -⟩ := h3 i (by omega)
    exact ⟨u, World.ownsRow.cells h1 (g := g) rfl _ _ u1, u2⟩
set_option maxHeartbeats 1000000 in
theorem sameRows_any (v1 v2 : Value) (ts us : List (List (Int × Int))) (w : World) (h1 : RsAt w v1 ts) (h2 : RsAt w v2 us) (hl : ts.length ≤ 100000000) (ht : ∀ i : Nat, (ts[i]?.getD []).length ≤ 100000000) :
    Calls Try.prog 28 #[v1, v2] w (BoolIs (decide (ts = us)) w) := by
  obtain ⟨p1, c1, rfl⟩ := h1.len
  obtain ⟨p2, c2, rfl⟩ := h2.len
  obtain ⟨d, hd⟩ : ∃ d, decide (ts = us) = d := ⟨_, rfl⟩
  rw [hd]
  have HD := Lib.hid hd
  clear hd
  by_cases hlen : ts.length = us.length
  · have H1 := Lib.hid (fun (W : World) (hb : Below w.heap.size w W) i (hi : i < ts.length) => show ∃ a, p1 = some a ∧ ∃ u, W.cell? (a.add i) = some u ∧ TsAt W u (ts[i]?.getD []) from by
      rcases h1.on hb with ⟨h, hh⟩ | ⟨a, c, h, hg, hlc, hc, hcell⟩
      · rw [hh] at hi; simp at hi
      · simp only [Value.slice.injEq, true_and] at h
        obtain ⟨rfl, rfl⟩ := h
        exact ⟨a, rfl, hcell i hi⟩)
    have H2 := Lib.hid (fun (W : World) (hb : Below w.heap.size w W) i (hi : i < us.length) => show ∃ a, p2 = some a ∧ ∃ u, W.cell? (a.add i) = some u ∧ TsAt W u (us[i]?.getD []) from by
      rcases h2.on hb with ⟨h, hh⟩ | ⟨a, c, h, hg, hlc, hc, hcell⟩
      · rw [hh] at hi; simp at hi
      · simp only [Value.slice.injEq, true_and] at h
        obtain ⟨rfl, rfl⟩ := h
        exact ⟨a, rfl, hcell i hi⟩)
    rw [← hlen]
    rw [← hlen] at H2
    have HL := Lib.hid hlen
    clear h1 h2 hlen
    go_enter Try.func28, Try.ntmps28
    go_wp2_with fail
    go_loopw [5] (fun i wr => ∃ k : Nat, k ≤ ts.length ∧ i = .int .i64 k ∧ Below w.heap.size w wr ∧ Hid (∀ j, j < k → ts[j]?.getD [] = us[j]?.getD [])) (fun i _ => (ts.length - intOf i).toNat)
    case atStart => exact ⟨0, by omega, rfl, Below.refl _ _, Lib.hid (fun j hj => by omega)⟩
    case round =>
      obtain ⟨k, hk, rfl, hB, hs⟩ := hrel
      by_cases hlt : k < ts.length
      · obtain ⟨a, rfl, x, a1, a2⟩ := H1.out wr hB k hlt
        obtain ⟨b, rfl, y, b1, b2⟩ := H2.out wr hB k hlt
        obtain ⟨q, hq⟩ : ∃ q, decide (ts[k]?.getD [] = us[k]?.getD []) = q := ⟨_, rfl⟩
        have HX := Lib.hid (fun (W : World) (hb : Below wr.heap.size wr W) => show Calls Try.prog 32 #[x, y] W fun e w' => e = .returned (.bool q) ∧ Below W.heap.size W w' from by rw [← hq]; exact samePts_any x y _ _ W (a2.on hb) (b2.on hb) (ht k))
        have HQ := Lib.hid hq
        clear hq a2 b2
        have l1 := World.block_lt_of_cell? wr _ a1
        have l2 := World.block_lt_of_cell? wr _ b1
        go_wp2_with fail
        go_region_held3 (fun w' => Below wr.heap.size wr w' ∧ w'.cell? (a.add k) = some x ∧ w'.cell? (b.add k) = some y) (first | exact ⟨(Below.refl _ _).drew, a1, b1⟩ | exact ⟨sames hbd hb5, ((sames hbd hb5).cell (p := a.add k) l1).trans a1, ((sames hbd hb5).cell (p := b.add k) l2).trans b1⟩)
          (first | (go_at_call 32; with_reducible refine (HX.out _ (Below.refl _ _).drew).mono ?_; rintro e w5 ⟨rfl, hb5⟩; have hbd : Below wr.heap.size wr wr.drew := (Below.refl _ _).drew))
        have hBw : Below w.heap.size w w5 := sames hB (sames hbd hb5)
        cases q
        · go_wp2_with fail
          have hQ : d = false := by rw [← HD.out]; exact decide_eq_false (fun e => by have h1 := HQ.out; rw [e] at h1; simp at h1)
          rw [hQ]
          go_ret
          exact ⟨rfl, hBw⟩
        · go_wp2_with fail
          go_roundw
          case rel => exact ⟨k + 1, by omega, by go_num, hBw, Lib.hid (fun j hj => by
            by_cases e : j = k
            · subst e; exact of_decide_eq_true HQ.out
            · exact hs.out j (by omega))⟩
          case measure => simp [intOf]; omega
      · obtain rfl : k = ts.length := by omega
        have hQ : d = true := by
          rw [← HD.out, decide_eq_true_eq]
          refine List.ext_getElem HL.out (fun i h1 h2 => ?_)
          have := hs.out i h1
          rwa [List.getElem?_eq_getElem h1, List.getElem?_eq_getElem h2] at this
        go_wp2_with fail
        rw [hQ]
        go_ret
        exact ⟨rfl, hB⟩
  · have hQ : d = false := by rw [← HD.out]; exact decide_eq_false (fun e => hlen (by rw [e]))
    rw [hQ]
    go_enter Try.func28, Try.ntmps28
    go_wp2_with fail
    go_ret
    exact ⟨rfl, Below.refl _ _⟩
end Go.Proofs.Ytenmgbcbnofcmaa
