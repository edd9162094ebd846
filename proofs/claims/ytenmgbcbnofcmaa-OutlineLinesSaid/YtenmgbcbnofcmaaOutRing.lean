/- The contract of ring. -/
import Derived.Test.YtenmgbcbnofcmaaOutAt
namespace Go.Proofs.Ytenmgbcbnofcmaa
open Go.RowKit

/-- What of a ring the i-th point of a contour gives. -/
def ringAt (ps : List Pn) (i : Nat) : List Pn :=
  let p := ps[i]?.getD default
  let q := ps[(i + 1) % ps.length]?.getD default
  if !p.on && !q.on then [p, betweenO p q] else [p]
def ringL (ps : List Pn) (k : Nat) : List Pn := (List.range k).flatMap (ringAt ps)
theorem ringL_succ (ps : List Pn) (k : Nat) : ringL ps (k + 1) = ringL ps k ++ ringAt ps k := by
  unfold ringL
  rw [List.range_succ, List.flatMap_append]
  simp
/-- The place where the row begins, of the first k points: -1 where none is on. -/
def startK (ps : List Pn) : Nat → Int
  | 0 => -1
  | k + 1 => if (ps[k]?.getD default).on = true ∧ startK ps k < 0 then ((ringL ps k).length : Int) else startK ps k
theorem ringL_len (ps : List Pn) (k : Nat) : (ringL ps k).length ≤ 2 * k := by
  induction k with
  | zero => simp [ringL]
  | succ k ih =>
    rw [ringL_succ, List.length_append]
    have : (ringAt ps k).length ≤ 2 := by unfold ringAt; simp only; split <;> simp
    omega

theorem ring_own_on {W W' : World} {B : Nat} {T : TypeId} {sz n : Nat} {v : Value} {xs : List Value} (h : W.ownsRow B T sz v n xs) (hb : Below W.heap.size W W') : W'.ownsRow B T sz v n xs := by
  obtain ⟨h1, h2⟩ := h
  refine ⟨h1, ?_⟩
  rcases h2 with h2 | ⟨g, cap, cur, hv, hg, hh, hn, hc, hr⟩
  · exact .inl h2
  · exact .inr ⟨g, cap, cur, hv, hg, (hb.block g (Array.getElem?_eq_some_iff.1 hh).1).trans hh, hn, hc, hr⟩
theorem encs_app (ps qs : List Pn) : encs (ps ++ qs) = encs ps ++ encs qs := by
  induction ps with
  | nil => rfl
  | cons p ps ih => simp only [encs, List.cons_append, ih]
set_option maxHeartbeats 1000000 in
theorem ring_walk (v : Value) (ps : List Pn) (w : World) (hp : PtsAt w v ps) (hl : ps.length ≤ 1000000) :
    Calls Try.prog 44 #[v] w fun e w' => ∃ r, e = .returned (.tuple #[r, .int .i64 (if startK ps ps.length < 0 then ((ringL ps ps.length).length : Int) - 1 else startK ps ps.length)]) ∧ PRow w' w.heap.size r (ringL ps ps.length) ∧ Below w.heap.size w w' := by
  obtain ⟨i0, hi, hz0, hz1, hz2⟩ := info_parts infoPoint
  have HN := Lib.hid (ringL_len ps)
  have HS := Lib.hid (ringL_succ ps)
  have HK := Lib.hid (fun k => show startK ps (k + 1) = if (ps[k]?.getD default).on = true ∧ startK ps k < 0 then ((ringL ps k).length : Int) else startK ps k from rfl)
  obtain ⟨p1, c1, rfl⟩ := hp.len
  have HC := Lib.hid (fun (W : World) (hb : Below w.heap.size w W) => hp.on hb)
  go_enter Try.func44, Try.ntmps44
  go_wp2_with fail
  go_loopw [4, 5, 11] (fun r st i wr => ∃ k : Nat, k ≤ ps.length ∧ i = .int .i64 k ∧ st = .int .i64 (startK ps k) ∧ PRow wr w.heap.size r (ringL ps k) ∧ Below w.heap.size w wr) (fun _ _ i _ => (ps.length - intOf i).toNat)
  case atStart => exact ⟨0, by omega, rfl, rfl, World.ownsRow_nil _ _ _ _, Below.refl _ _⟩
  case round =>
    obtain ⟨k, hk, rfl, rfl, hown, hB⟩ := hrel
    by_cases hlt : k < ps.length
    · rcases HC.out wr hB with ⟨h, -⟩ | ⟨a, c, hv, hg, hc1, hc2, hcell⟩
      · simp only [Value.slice.injEq] at h
        omega
      · obtain ⟨rfl, rfl⟩ : p1 = some a ∧ c1 = c := by simp only [Value.slice.injEq] at hv; exact ⟨hv.1, hv.2.2⟩
        obtain ⟨J, hJ⟩ : ∃ J, (k + 1) % ps.length = J := ⟨_, rfl⟩
        have hj : J < ps.length := by rw [← hJ]; exact Nat.mod_lt _ (by omega)
        obtain ⟨q1, q2, q3⟩ := hcell k hlt
        obtain ⟨r1, r2, r3⟩ := hcell J hj
        have e1 : IntKind.i64.wrap ((k : Int) + 1) = ((k + 1 : Nat) : Int) := by rw [IntWalk.i64_in _ (by omega)]; rfl
        have hs := HS.out k
        have hst := HK.out k
        have hln := HN.out k
        unfold ringAt at hs
        rw [hJ] at hs
        simp only at hs
        generalize ringL ps k = L at *
        generalize startK ps k = st at *
        obtain ⟨p, hpk⟩ : ∃ p, ps[k]?.getD default = p := ⟨_, rfl⟩
        obtain ⟨q, hqk⟩ : ∃ q, ps[J]?.getD default = q := ⟨_, rfl⟩
        rw [hpk, hqk] at hs
        rw [hpk] at q1 q2 q3 hst
        rw [hqk] at r1 r2 r3
        obtain ⟨px, py, po⟩ := p
        obtain ⟨qx, qy, qo⟩ := q
        have hpk := Lib.hid hpk
        have hqk := Lib.hid hqk
        obtain ⟨pr, cr, rfl⟩ : ∃ p c, u4 = .slice p L.length c := by
          rcases own_form hown with ⟨h, h0⟩ | ⟨g, c, h, -⟩
          · exact ⟨none, 0, by rw [h, h0]⟩
          · exact ⟨_, _, h⟩
        clear hcell
        simp only at q1 q2 q3 r1 r2 r3 hst hs
        have hs := Lib.hid hs
        have hst := Lib.hid hst
        cases po
        · cases qo
          · go_wp2_with (at_builtin; refine wpList_append_lies _ (by rfl) _ _ _ (by rfl) w.heap.size 33 i0 _ 3 24 Try.underlying22 hi hz0 hz1 hz2 rfl (by omega) _ _ _ (by rfl) ((World.ownsRow.alloc hown _).alloc _) ⟨wr.heap.size + 1, 0, none⟩ 1 1 [.int .i64 px, .int .i64 py, .bool false] (by rfl) (by rfl) (World.news_of_block (cs := #[.int .i64 px, .int .i64 py, .bool false]) (t := 33) (fr := (0, 0)) (by have h := heap_alloc_new (wr.alloc (.cells #[.int .i64 px, .int .i64 py, .bool false] 33)) (.cells #[.int .i64 px, .int .i64 py, .bool false] 33); rwa [show (wr.alloc (.cells #[.int .i64 px, .int .i64 py, .bool false] 33)).heap.size = wr.heap.size + 1 by simp] at h)) (by simp [Value.oneCell']) (by omega) (by unfold maxLen; omega) (by omega) (by have := hB.size; simp; omega) (wr.heap.size + 1 + 1) (by simp) ?_)
            · intro g cap w1 hown1 hgrow hat hlt2
              have hne : ∀ x, (Value.slice pr L.length cr).ownBlock = some x → x < wr.heap.size := fun x hx => (World.ownsRow.lt hown x hx).2
              have hB2 : Below w.heap.size w w1 := ((hB.alloc hB.size _).alloc (by have := hB.size; simp; omega) _).grown hgrow (by have := hB.size; simp; omega) (fun x hx => (World.ownsRow.lt hown x hx).1)
              have hbox : ∀ o, w1.cell? ⟨wr.heap.size, o, none⟩ = (((wr.alloc (.cells #[.int .i64 px, .int .i64 py, .bool false] 33)).alloc (.cells #[.int .i64 px, .int .i64 py, .bool false] 33)).cell? ⟨wr.heap.size, o, none⟩) := fun o => hgrow.cell_far _ (by simp; omega) (fun e => by have := hne _ e.symm; simp at this)
              have b0 := (hbox 0).trans (by simp [go_sem] : _ = some (.int .i64 px))
              have b1 := (hbox 1).trans (by simp [go_sem] : _ = some (.int .i64 py))
              have b2 := (hbox 2).trans (by simp [go_sem] : _ = some (.bool false))
              obtain ⟨t1, t2, t3⟩ : w1.cell? (a.add (J * 3)) = some (.int .i64 qx) ∧ w1.cell? ⟨(a.add (J * 3)).block, (a.add (J * 3)).off + 1, none⟩ = some (.int .i64 qy) ∧ w1.cell? ⟨(a.add (J * 3)).block, (a.add (J * 3)).off + 2, none⟩ = some (.bool false) := by
                rcases HC.out w1 hB2 with ⟨h, -⟩ | ⟨a', c', hv', -, -, -, hcell'⟩
                · simp at h
                · simp only [Value.slice.injEq, Option.some.injEq] at hv'
                  have h := hcell' J hj
                  rw [← hv'.1, hqk.out] at h
                  exact h
              have e2 : ((k : Int) + 1) % (ps.length : Int) = (J : Int) := by rw [← hJ]; rfl
              have z0 : (0 : Int) ≤ (J : Int) := by omega
              have z1 : (J : Int) < (ps.length : Int) := by omega
              have z4 : ¬ ps.length = 0 := by omega
              have lw := Nat.lt_of_lt_of_le (show wr.heap.size < wr.heap.size + 1 + 1 by omega) (by have := hgrow.size; simpa using this)
              have hst2 : startK ps (k + 1) = st := by rw [hst.out, if_neg (fun h => by simp at h)]
              clear hgrow hown hbox hat q1 q2 q3 r1 r2 r3
              go_wp2_with fail
              have hbt := between_any ⟨px, py, false⟩ ⟨qx, qy, false⟩ (w1.alloc (.cells #[.int .i64 qx, .int .i64 qy, .bool false] 33))
              have hs := hs.out
              simp only [Bool.not_false, Bool.and_self, if_true] at hs
              have hmo : (betweenO ⟨px, py, false⟩ ⟨qx, qy, false⟩).on = true := rfl
              obtain ⟨M, hM⟩ : ∃ M, betweenO ⟨px, py, false⟩ ⟨qx, qy, false⟩ = M := ⟨_, rfl⟩
              rw [hM] at hbt hs hmo
              obtain ⟨mx, my, mo⟩ := M
              simp only at hmo hbt
              subst hmo
              have hs := Lib.hid hs
              clear hM
              refine hbt.mono ?_
              rintro e w2 ⟨rfl, hb2⟩
              have hB3 : Below w.heap.size w w2 := (hB2.alloc hB2.size _).trans (hb2.mono (by have := hB2.size; simp; omega))
              have hown2 := ring_own_on (World.ownsRow.alloc hown1 (.cells #[.int .i64 qx, .int .i64 qy, .bool false] 33)) hb2
              go_wp2_with (at_builtin; refine wpList_append_lies _ (by rfl) _ _ _ (by rfl) w.heap.size 33 i0 _ 3 24 Try.underlying22 hi hz0 hz1 hz2 rfl (by omega) _ _ _ (by rfl) (World.ownsRow.alloc hown2 _) ⟨w2.heap.size, 0, none⟩ 1 1 [.int .i64 mx, .int .i64 my, .bool true] (by rfl) (by rfl) (World.news_of_block (cs := #[.int .i64 mx, .int .i64 my, .bool true]) (t := 33) (fr := (0, 0)) (heap_alloc_new _ _)) (by simp [Value.oneCell']) (by omega) (by unfold maxLen; omega) (by omega) (by have := hB3.size; simp; omega) (w2.heap.size + 1) (by simp) ?_)
              intro g2 cap2 w3 hown3 hgrow3 hat3 hlt3
              have hB4 : Below w.heap.size w w3 := (hB3.alloc hB3.size _).grown hgrow3 (by have := hB3.size; simp; omega) (fun x hx => (World.ownsRow.lt hown2 x hx).1)
              have hrow : PRow w3 w.heap.size (.slice (some ⟨g2, 0, none⟩) (L.length + 1 + 1) cap2) (ringL ps (k + 1)) := by
                rw [hs.out]
                have h := encs_app L [⟨px, py, false⟩, ⟨mx, my, true⟩]
                simp only [PRow, List.length_append, List.length_cons, List.length_nil, h]
                first | exact hown3 | (simp only [List.append_assoc, List.cons_append, List.nil_append] at hown3; exact hown3) | (simp only [List.append_assoc] at hown3; simpa [encs] using hown3)
              clear hgrow3 hown3 hown2 hown1 hat3 hb2
              go_wp2_with fail
              go_roundw
              case rel => exact ⟨k + 1, by omega, by go_num, by rw [hst2], hrow, hB4⟩
              case measure => simp [intOf]; omega
          · go_wp2_with (at_builtin; refine wpList_append_lies _ (by rfl) _ _ _ (by rfl) w.heap.size 33 i0 _ 3 24 Try.underlying22 hi hz0 hz1 hz2 rfl (by omega) _ _ _ (by rfl) ((World.ownsRow.alloc hown _).alloc _) ⟨wr.heap.size + 1, 0, none⟩ 1 1 [.int .i64 px, .int .i64 py, .bool false] (by rfl) (by rfl) (World.news_of_block (cs := #[.int .i64 px, .int .i64 py, .bool false]) (t := 33) (fr := (0, 0)) (by have h := heap_alloc_new (wr.alloc (.cells #[.int .i64 px, .int .i64 py, .bool false] 33)) (.cells #[.int .i64 px, .int .i64 py, .bool false] 33); rwa [show (wr.alloc (.cells #[.int .i64 px, .int .i64 py, .bool false] 33)).heap.size = wr.heap.size + 1 by simp] at h)) (by simp [Value.oneCell']) (by omega) (by unfold maxLen; omega) (by omega) (by have := hB.size; simp; omega) (wr.heap.size + 1 + 1) (by simp) ?_)
            · intro g cap w1 hown1 hgrow hat hlt2
              have hne : ∀ x, (Value.slice pr L.length cr).ownBlock = some x → x < wr.heap.size := fun x hx => (World.ownsRow.lt hown x hx).2
              have hB2 : Below w.heap.size w w1 := ((hB.alloc hB.size _).alloc (by have := hB.size; simp; omega) _).grown hgrow (by have := hB.size; simp; omega) (fun x hx => (World.ownsRow.lt hown x hx).1)
              have hbox : ∀ o, w1.cell? ⟨wr.heap.size, o, none⟩ = (((wr.alloc (.cells #[.int .i64 px, .int .i64 py, .bool false] 33)).alloc (.cells #[.int .i64 px, .int .i64 py, .bool false] 33)).cell? ⟨wr.heap.size, o, none⟩) := fun o => hgrow.cell_far _ (by simp; omega) (fun e => by have := hne _ e.symm; simp at this)
              have b0 := (hbox 0).trans (by simp [go_sem] : _ = some (.int .i64 px))
              have b1 := (hbox 1).trans (by simp [go_sem] : _ = some (.int .i64 py))
              have b2 := (hbox 2).trans (by simp [go_sem] : _ = some (.bool false))
              obtain ⟨t1, t2, t3⟩ : w1.cell? (a.add (J * 3)) = some (.int .i64 qx) ∧ w1.cell? ⟨(a.add (J * 3)).block, (a.add (J * 3)).off + 1, none⟩ = some (.int .i64 qy) ∧ w1.cell? ⟨(a.add (J * 3)).block, (a.add (J * 3)).off + 2, none⟩ = some (.bool true) := by
                rcases HC.out w1 hB2 with ⟨h, -⟩ | ⟨a', c', hv', -, -, -, hcell'⟩
                · simp at h
                · simp only [Value.slice.injEq, Option.some.injEq] at hv'
                  have h := hcell' J hj
                  rw [← hv'.1, hqk.out] at h
                  exact h
              have e2 : ((k : Int) + 1) % (ps.length : Int) = (J : Int) := by rw [← hJ]; rfl
              have z0 : (0 : Int) ≤ (J : Int) := by omega
              have z1 : (J : Int) < (ps.length : Int) := by omega
              have z4 : ¬ ps.length = 0 := by omega
              have lw := Nat.lt_of_lt_of_le (show wr.heap.size < wr.heap.size + 1 + 1 by omega) (by have := hgrow.size; simpa using this)
              have hrow : PRow w1 w.heap.size (.slice (some ⟨g, 0, none⟩) (L.length + 1) cap) (ringL ps (k + 1)) := by
                rw [hs.out]
                have h := encs_app L [⟨px, py, false⟩]
                simp only [PRow, Bool.not_true, Bool.and_false, Bool.false_eq_true, if_false, List.length_append, List.length_singleton, h]
                exact hown1
              have hst2 : startK ps (k + 1) = st := by rw [hst.out, if_neg (fun h => by simp at h)]
              clear hgrow hown1 hown hbox hat q1 q2 q3 r1 r2 r3
              go_wp2_with fail
              go_roundw
              case rel => exact ⟨k + 1, by omega, by go_num, by rw [hst2], World.ownsRow.alloc hrow _, hB2.alloc hB2.size _⟩
              case measure => simp [intOf]; omega
        · by_cases h0 : st < 0
          · go_wp2_with (at_builtin; refine wpList_append_lies _ (by rfl) _ _ _ (by rfl) w.heap.size 33 i0 _ 3 24 Try.underlying22 hi hz0 hz1 hz2 rfl (by omega) _ _ _ (by rfl) ((World.ownsRow.alloc hown _).alloc _) ⟨wr.heap.size + 1, 0, none⟩ 1 1 [.int .i64 px, .int .i64 py, .bool true] (by rfl) (by rfl) (World.news_of_block (cs := #[.int .i64 px, .int .i64 py, .bool true]) (t := 33) (fr := (0, 0)) (by have h := heap_alloc_new (wr.alloc (.cells #[.int .i64 px, .int .i64 py, .bool true] 33)) (.cells #[.int .i64 px, .int .i64 py, .bool true] 33); rwa [show (wr.alloc (.cells #[.int .i64 px, .int .i64 py, .bool true] 33)).heap.size = wr.heap.size + 1 by simp] at h)) (by simp [Value.oneCell']) (by omega) (by unfold maxLen; omega) (by omega) (by have := hB.size; simp; omega) (wr.heap.size + 1 + 1) (by simp) ?_)
            · intro g cap w1 hown1 hgrow hat hlt2
              have hne : ∀ x, (Value.slice pr L.length cr).ownBlock = some x → x < wr.heap.size := fun x hx => (World.ownsRow.lt hown x hx).2
              have hB2 : Below w.heap.size w w1 := ((hB.alloc hB.size _).alloc (by have := hB.size; simp; omega) _).grown hgrow (by have := hB.size; simp; omega) (fun x hx => (World.ownsRow.lt hown x hx).1)
              have hbox : ∀ o, w1.cell? ⟨wr.heap.size, o, none⟩ = (((wr.alloc (.cells #[.int .i64 px, .int .i64 py, .bool true] 33)).alloc (.cells #[.int .i64 px, .int .i64 py, .bool true] 33)).cell? ⟨wr.heap.size, o, none⟩) := fun o => hgrow.cell_far _ (by simp; omega) (fun e => by have := hne _ e.symm; simp at this)
              have b0 := (hbox 0).trans (by simp [go_sem] : _ = some (.int .i64 px))
              have b1 := (hbox 1).trans (by simp [go_sem] : _ = some (.int .i64 py))
              have b2 := (hbox 2).trans (by simp [go_sem] : _ = some (.bool true))
              obtain ⟨t1, t2, t3⟩ : w1.cell? (a.add (J * 3)) = some (.int .i64 qx) ∧ w1.cell? ⟨(a.add (J * 3)).block, (a.add (J * 3)).off + 1, none⟩ = some (.int .i64 qy) ∧ w1.cell? ⟨(a.add (J * 3)).block, (a.add (J * 3)).off + 2, none⟩ = some (.bool qo) := by
                rcases HC.out w1 hB2 with ⟨h, -⟩ | ⟨a', c', hv', -, -, -, hcell'⟩
                · simp at h
                · simp only [Value.slice.injEq, Option.some.injEq] at hv'
                  have h := hcell' J hj
                  rw [← hv'.1, hqk.out] at h
                  exact h
              have e2 : ((k : Int) + 1) % (ps.length : Int) = (J : Int) := by rw [← hJ]; rfl
              have z0 : (0 : Int) ≤ (J : Int) := by omega
              have z1 : (J : Int) < (ps.length : Int) := by omega
              have z4 : ¬ ps.length = 0 := by omega
              have lw := Nat.lt_of_lt_of_le (show wr.heap.size < wr.heap.size + 1 + 1 by omega) (by have := hgrow.size; simpa using this)
              have hrow : PRow w1 w.heap.size (.slice (some ⟨g, 0, none⟩) (L.length + 1) cap) (ringL ps (k + 1)) := by
                rw [hs.out]
                have h := encs_app L [⟨px, py, true⟩]
                simp only [PRow, Bool.not_true, Bool.false_and, Bool.false_eq_true, if_false, List.length_append, List.length_singleton, h]
                exact hown1
              have hst2 : startK ps (k + 1) = (L.length : Int) := by rw [hst.out, if_pos ⟨trivial, h0⟩]
              clear hgrow hown1 hown hbox hat q1 q2 q3 r1 r2 r3
              go_wp2_with fail
              go_roundw
              case rel => exact ⟨k + 1, by omega, by go_num, by rw [hst2], World.ownsRow.alloc hrow _, hB2.alloc hB2.size _⟩
              case measure => simp [intOf]; omega
          · go_wp2_with (at_builtin; refine wpList_append_lies _ (by rfl) _ _ _ (by rfl) w.heap.size 33 i0 _ 3 24 Try.underlying22 hi hz0 hz1 hz2 rfl (by omega) _ _ _ (by rfl) ((World.ownsRow.alloc hown _).alloc _) ⟨wr.heap.size + 1, 0, none⟩ 1 1 [.int .i64 px, .int .i64 py, .bool true] (by rfl) (by rfl) (World.news_of_block (cs := #[.int .i64 px, .int .i64 py, .bool true]) (t := 33) (fr := (0, 0)) (by have h := heap_alloc_new (wr.alloc (.cells #[.int .i64 px, .int .i64 py, .bool true] 33)) (.cells #[.int .i64 px, .int .i64 py, .bool true] 33); rwa [show (wr.alloc (.cells #[.int .i64 px, .int .i64 py, .bool true] 33)).heap.size = wr.heap.size + 1 by simp] at h)) (by simp [Value.oneCell']) (by omega) (by unfold maxLen; omega) (by omega) (by have := hB.size; simp; omega) (wr.heap.size + 1 + 1) (by simp) ?_)
            · intro g cap w1 hown1 hgrow hat hlt2
              have hne : ∀ x, (Value.slice pr L.length cr).ownBlock = some x → x < wr.heap.size := fun x hx => (World.ownsRow.lt hown x hx).2
              have hB2 : Below w.heap.size w w1 := ((hB.alloc hB.size _).alloc (by have := hB.size; simp; omega) _).grown hgrow (by have := hB.size; simp; omega) (fun x hx => (World.ownsRow.lt hown x hx).1)
              have hbox : ∀ o, w1.cell? ⟨wr.heap.size, o, none⟩ = (((wr.alloc (.cells #[.int .i64 px, .int .i64 py, .bool true] 33)).alloc (.cells #[.int .i64 px, .int .i64 py, .bool true] 33)).cell? ⟨wr.heap.size, o, none⟩) := fun o => hgrow.cell_far _ (by simp; omega) (fun e => by have := hne _ e.symm; simp at this)
              have b0 := (hbox 0).trans (by simp [go_sem] : _ = some (.int .i64 px))
              have b1 := (hbox 1).trans (by simp [go_sem] : _ = some (.int .i64 py))
              have b2 := (hbox 2).trans (by simp [go_sem] : _ = some (.bool true))
              obtain ⟨t1, t2, t3⟩ : w1.cell? (a.add (J * 3)) = some (.int .i64 qx) ∧ w1.cell? ⟨(a.add (J * 3)).block, (a.add (J * 3)).off + 1, none⟩ = some (.int .i64 qy) ∧ w1.cell? ⟨(a.add (J * 3)).block, (a.add (J * 3)).off + 2, none⟩ = some (.bool qo) := by
                rcases HC.out w1 hB2 with ⟨h, -⟩ | ⟨a', c', hv', -, -, -, hcell'⟩
                · simp at h
                · simp only [Value.slice.injEq, Option.some.injEq] at hv'
                  have h := hcell' J hj
                  rw [← hv'.1, hqk.out] at h
                  exact h
              have e2 : ((k : Int) + 1) % (ps.length : Int) = (J : Int) := by rw [← hJ]; rfl
              have z0 : (0 : Int) ≤ (J : Int) := by omega
              have z1 : (J : Int) < (ps.length : Int) := by omega
              have z4 : ¬ ps.length = 0 := by omega
              have lw := Nat.lt_of_lt_of_le (show wr.heap.size < wr.heap.size + 1 + 1 by omega) (by have := hgrow.size; simpa using this)
              have hrow : PRow w1 w.heap.size (.slice (some ⟨g, 0, none⟩) (L.length + 1) cap) (ringL ps (k + 1)) := by
                rw [hs.out]
                have h := encs_app L [⟨px, py, true⟩]
                simp only [PRow, Bool.not_true, Bool.false_and, Bool.false_eq_true, if_false, List.length_append, List.length_singleton, h]
                exact hown1
              have hst2 : startK ps (k + 1) = st := by rw [hst.out, if_neg (fun h => by have := h.2; omega)]
              clear hgrow hown1 hown hbox hat q1 q2 q3 r1 r2 r3
              go_wp2_with fail
              go_roundw
              case rel => exact ⟨k + 1, by omega, by go_num, by rw [hst2], World.ownsRow.alloc hrow _, hB2.alloc hB2.size _⟩
              case measure => simp [intOf]; omega
    · obtain rfl : k = ps.length := by omega
      obtain ⟨pr, cr, rfl⟩ : ∃ p c, u4 = .slice p (ringL ps ps.length).length c := by
        rcases own_form hown with ⟨h, h0⟩ | ⟨g, c, h, -⟩
        · exact ⟨none, 0, by rw [h, h0]⟩
        · exact ⟨_, _, h⟩
      have hln := HN.out ps.length
      by_cases h0 : startK ps ps.length < 0
      · have e1 : IntKind.i64.wrap (((ringL ps ps.length).length : Int) - 1) = ((ringL ps ps.length).length : Int) - 1 := by rw [IntWalk.i64_in _ (by omega)]
        go_wp2_with fail
        refine bodyPost_ret (v := .tuple #[.slice pr (ringL ps ps.length).length cr, .int .i64 (((ringL ps ps.length).length : Int) - 1)]) (by simp [results, Try.results44, go_sem]) rfl ⟨_, by first | rfl | rw [if_pos h0], hown, hB⟩
      · go_wp2_with fail
        refine bodyPost_ret (v := .tuple #[.slice pr (ringL ps ps.length).length cr, .int .i64 (startK ps ps.length)]) (by simp [results, Try.results44, go_sem]) rfl ⟨_, by first | rfl | rw [if_neg (by omega)], hown, hB⟩
end Go.Proofs.Ytenmgbcbnofcmaa
