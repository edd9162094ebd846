/- The law on sets, walked. -/
import Derived.Test.YthoohbmpbahkgaaWrdRefSets
import Derived.Test.YthoohbmpbahkgaaWrdAllW
namespace Go.Proofs.Ythoohbmpbahkgaa
open Go.RowKit

def enS (s : ByteArray) : List Value := [.string s]
def enB (z : Int) : List Value := [.int .u8 z]
theorem addLast_each {n : Nat} (acc : List (List Wd)) (x : Wd) (h : ∀ y ∈ acc, y.length ≤ n) : ∀ y ∈ addLast acc x, y.length ≤ n + 1 := by
  intro y hy
  obtain ⟨i, hi⟩ := List.getElem?_of_mem hy
  have h2 := addLast_len acc x n (fun j => by
    cases e : acc[j]? with
    | none => simp
    | some z => exact h z (List.mem_of_getElem? e)) i
  rw [hi] at h2
  exact h2
theorem setsK_each (ws : List Wd) (op : Bool) (acc rs : List (List Wd)) (n : Nat) (h : setsK op acc ws = some rs) (ha : ∀ y ∈ acc, y.length ≤ n) : rs.length ≤ acc.length + ws.length ∧ ∀ y ∈ rs, y.length ≤ n + ws.length := by
  induction ws generalizing op acc n with
  | nil =>
    unfold setsK at h
    cases op <;> simp at h
    subst h
    exact ⟨by simp, fun y hy => by have := ha y hy; simpa using this⟩
  | cons x xs ih =>
    have hm : ∀ y ∈ acc ++ [[]], y.length ≤ n := fun y hy => by
      rcases List.mem_append.1 hy with hy | hy
      · exact ha y hy
      · simp at hy; rw [hy]; simp
    unfold setsK at h
    split at h
    · split at h
      · cases h
      · obtain ⟨h1, h2⟩ := ih _ _ n h hm
        exact ⟨by simp at h1 ⊢; omega, fun y hy => by have := h2 y hy; simp; omega⟩
    · split at h
      · split at h
        · obtain ⟨h1, h2⟩ := ih _ _ n h ha
          exact ⟨by simp; omega, fun y hy => by have := h2 y hy; simp; omega⟩
        · cases h
      · have hl : ∀ a : List (List Wd), (addLast a x).length = a.length := fun a => by simp [addLast]
        obtain ⟨h1, h2⟩ := ih _ _ (n + 1) h (addLast_each _ _ (by split; exact ha; exact hm))
        refine ⟨?_, fun y hy => by have := h2 y hy; simp; omega⟩
        rw [hl] at h1
        split at h1 <;> simp at h1 ⊢ <;> omega

set_option maxRecDepth 100000 in
set_option maxHeartbeats 8000000 in
theorem sets_law (va vb : Value) (ss : List ByteArray) (bs : List Int) (w : World) (ha : RowAt enS w va ss) (hb : RowAt enB w vb bs) (hss : ∀ s ∈ ss, s.size ≤ maxLen) (hbs : ∀ z ∈ bs, 0 ≤ z ∧ z ≤ 255) :
    Calls Try.prog 5 #[va, vb] w fun e w' => e = .returned (.bool true) ∧ Below w.heap.size w w' := by
  obtain ⟨i0, hi, hz0, hz1, hz2⟩ := info_parts infoWord
  obtain ⟨j0, hj, hj0, hj1, hj2⟩ := info_parts infoWord2
  have cs := shown_any w
  obtain ⟨qa, da, rfl, hla, hma⟩ := ha.len
  obtain ⟨qb, db, rfl, hlb, hmb⟩ := hb.len
  unfold maxLen at hma hmb
  have HA := Lib.hid (fun (W : World) (h : Below w.heap.size w W) (k : Nat) (hk : k < ss.length) => show ∃ a : Addr, qa = some a ∧ W.cell? (a.add k) = some (.string (ss[k]?.getD default)) ∧ (ss[k]?.getD default).size ≤ maxLen from by
    rcases ha.on h with ⟨-, h0⟩ | ⟨a, c, e, -, -, -, hcell⟩
    · rw [h0] at hk; simp at hk
    · simp only [Value.slice.injEq] at e
      have hg := flat_get enS 1 (fun _ => rfl) ss k 0 hk (by omega)
      refine ⟨a, e.1, hcell k _ (by have h := hg; rw [Nat.mul_one, Nat.add_zero] at h; exact h), ?_⟩
      rw [List.getElem?_eq_getElem hk]
      exact hss _ (List.getElem_mem hk))
  have HBb := Lib.hid (fun (W : World) (h : Below w.heap.size w W) (k : Nat) (hk : k < bs.length) => show ∃ a : Addr, qb = some a ∧ W.cell? (a.add k) = some (.int .u8 (bs[k]?.getD default)) ∧ 0 ≤ (bs[k]?.getD default) ∧ (bs[k]?.getD default) ≤ 255 from by
    rcases hb.on h with ⟨-, h0⟩ | ⟨a, c, e, -, -, -, hcell⟩
    · rw [h0] at hk; simp at hk
    · simp only [Value.slice.injEq] at e
      have hg := flat_get enB 1 (fun _ => rfl) bs k 0 hk (by omega)
      refine ⟨a, e.1, hcell k _ (by have h := hg; rw [Nat.mul_one, Nat.add_zero] at h; exact h), ?_⟩
      rw [List.getElem?_eq_getElem hk]
      exact hbs _ (List.getElem_mem hk))
  clear ha hb hss hbs
  go_enter Try.func5, Try.ntmps5
  go_wp2_with fail
  refine cs.mono ?_
  rintro e w1 ⟨rfl, hB1⟩
  clear cs
  obtain ⟨B0, hB0⟩ : ∃ B0, w1.heap.size = B0 := ⟨_, rfl⟩
  have ha0 : OwnR enW 37 3 ((w1.alloc (.cells #[] 37)).alloc (.cells #[] 38)) B0 (.slice (some ⟨w1.heap.size, 0, none⟩) 0 0) [] := World.ownsRow.alloc (World.ownsRow_made (base := B0) (e := 37) (size := 3) w1 #[] 0 (by omega) (by unfold maxLen; omega) rfl) _
  have hb0 : OwnR enW 38 3 ((w1.alloc (.cells #[] 37)).alloc (.cells #[] 38)) B0 (.slice (some ⟨w1.heap.size + 1, 0, none⟩) 0 0) [] := by
    have h := World.ownsRow_made (base := B0) (e := 38) (size := 3) (w1.alloc (.cells #[] 37)) #[] 0 (by simp; omega) (by unfold maxLen; omega) rfl
    rw [show (w1.alloc (.cells #[] 37)).heap.size = w1.heap.size + 1 by simp] at h
    exact h
  have hBb : Below B0 w1 ((w1.alloc (.cells #[] 37)).alloc (.cells #[] 38)) := by rw [← hB0]; exact (balloc1 _ _).trans ((balloc1 _ _).mono (by simp))
  have hw1 := hB1.size
  replace hB0 := Lib.hid hB0
  go_wp2_with fail
  go_loopw [6, 7, 8] (fun av bv iv wr => ∃ (k : Nat) (pa : Option Addr) (ca : Nat) (pb : Option Addr) (cb : Nat) (ws : List Wd), k ≤ ss.length ∧ k ≤ 60 ∧ ws.length = k ∧ iv = .int .i64 k ∧ av = .slice pa ws.length ca ∧ bv = .slice pb ws.length cb ∧ OwnR enW 37 3 wr B0 (.slice pa ws.length ca) ws ∧ OwnR enW 38 3 wr B0 (.slice pb ws.length cb) ws ∧ Hid (∀ x, (Value.slice pa ws.length ca).ownBlock = some x → (Value.slice pb ws.length cb).ownBlock ≠ some x) ∧ Below B0 w1 wr) (fun _ _ iv _ => (ss.length - intOf iv).toNat)
  case atStart => exact ⟨0, _, _, _, _, [], by omega, by omega, rfl, rfl, rfl, rfl, ha0, hb0, Lib.hid (fun x hx e => by simp [Value.ownBlock] at hx e; omega), hBb⟩
  case round =>
    clear ha0 hb0 hBb
    obtain ⟨k, pa, ca, pb, cb, ws, hk, hk60, hwl, rfl, rfl, rfl, ha, hb, hne', hBr⟩ := hrel
    have hBw : Below w.heap.size w wr := hB1.trans (hBr.mono (by have := hB0.out; omega))
    have hwb : ws.length ≤ 60 := by omega
    replace hwl := Lib.hid hwl
    by_cases hgo : k < ss.length ∧ k < 60
    · obtain ⟨hlt, h60⟩ := hgo
      obtain ⟨a, rfl, hc, hts⟩ := HA.out wr hBw k hlt
      obtain ⟨t, ht⟩ : ∃ t, ss[k]?.getD default = t := ⟨_, rfl⟩
      rw [ht] at hc hts
      replace ht := Lib.hid ht
      unfold maxLen at hts
      obtain ⟨M, hM, hMt⟩ : ∃ M : Nat, (if (20 : Int) < (t.size : Int) then (20 : Int) else (t.size : Int)) = (M : Int) ∧ M ≤ t.size := by
        by_cases h : 20 < t.size
        · exact ⟨20, by rw [if_pos (by omega)]; rfl, by omega⟩
        · exact ⟨t.size, by rw [if_neg (by omega)], Nat.le_refl _⟩
      have zk0 : (0 : Int) ≤ (k : Int) := by omega
      have zk1 : (k : Int) < (ss.length : Int) := by omega
      have zk2 : (k : Int) < 60 := by omega
      have zM : (M : Int) ≤ (t.size : Int) := by omega
      have HAa := Lib.hid (fun q : Nat => show (wr.drewN q).ownsRow B0 37 3 (.slice pa ws.length ca) ws.length (flat enW ws) from ha)
      have HAb := Lib.hid (fun q : Nat => show (wr.drewN q).ownsRow B0 38 3 (.slice pb ws.length cb) ws.length (flat enW ws) from hb)
      clear ha hb
      go_wp2_with fail
      go_quiet (fail)
      obtain ⟨wq, hwq⟩ : ∃ wq, wr.drewN nq = wq := ⟨_, rfl⟩
      have ha := HAa.out nq
      have hb := HAb.out nq
      have hBq : Below B0 w1 wq := by rw [← hwq]; exact below_drewN hBr nq
      have hBwq : Below w.heap.size w wq := by rw [← hwq]; exact below_drewN hBw nq
      rw [hwq] at ha hb ⊢
      have hzq : B0 ≤ wq.heap.size := by have h := hBq.size; have h2 := hB0.out; omega
      have hpla := own_lt ha
      have hne := hne'.out
      replace hwq := Lib.hid hwq
      clear HAa HAb hc hM
      by_cases hbr : k < bs.length
      · obtain ⟨b, rfl, hcb, hz1', hz2'⟩ := HBb.out wq hBwq k hbr
        obtain ⟨z, hz⟩ : ∃ z, bs[k]?.getD default = z := ⟨_, rfl⟩
        rw [hz] at hcb hz1' hz2'
        replace hz := Lib.hid hz
        have zb1 : (k : Int) < (bs.length : Int) := by omega
        have hzr : z % 4 = 1 ∨ z % 4 = 2 ∨ (z % 4 ≠ 1 ∧ z % 4 ≠ 2) := by omega
        rcases hzr with h4 | h4 | ⟨h41, h42⟩
        · skip
          go_wp2_with (at_builtin; refine wpList_append_lies _ (by rfl) (.tmp 62) (.tmp 66) 34 (by rfl) B0 37 i0 _ 3 32 Try.underlying34 hi hz0 hz1 hz2 rfl (by omega) (.slice pa ws.length ca) ws.length (flat enW ws) (by rfl) (World.ownsRow.alloc ha _) ⟨wq.heap.size, 0, none⟩ 1 1 [.int .i64 (k : Int), .int .i64 7, .string ⟨#[91]⟩] (by rfl) (by rfl) (World.news_of_block (cs := #[.int .i64 (k : Int), .int .i64 7, .string ⟨#[91]⟩]) (t := 37) (fr := (0, 0)) (heap_alloc_new wq _)) (by simp [Value.oneCell']) (by omega) (by unfold maxLen; omega) (by omega) (by simp; omega) (wq.heap.size + 1) (by simp) ?_)
          intro g cap w2 hown2 hgrow hat hlt2
          have hb2 : w2.ownsRow B0 38 3 (.slice pb ws.length cb) ws.length (flat enW ws) := own_same (hb.alloc _) fun g hg => hgrow.block g (by have := (own_lt hb g hg).2; simp; omega) (fun e => hne g e.symm hg)
          have hplb := own_lt hb2
          have hB2 : Below B0 w1 w2 := (hBq.alloc hzq _).grown hgrow (by simp; omega) (fun x hx => (hpla x hx).1)
          have hz2' : B0 ≤ w2.heap.size := by have h := hB2.size; have h2 := hB0.out; omega
          have hga : ∀ x, (Value.slice (some ⟨g, 0, none⟩) (ws.length + 1) cap).ownBlock = some x → (Value.slice pb ws.length cb).ownBlock ≠ some x := fun x hx e => by
            simp only [Value.ownBlock, Option.some.injEq] at hx
            subst hx
            rcases hat with h | h
            · exact hne g h e
            · have := (own_lt hb g e).2; omega
          have hA2 : OwnR enW 37 3 w2 B0 (.slice (some ⟨g, 0, none⟩) (ws.length + 1) cap) (ws ++ [⟨k, 7, ⟨#[91]⟩⟩]) := by
            show w2.ownsRow _ _ _ _ _ _
            rw [List.length_append, List.length_singleton, flat_app, flat_one]
            exact hown2
          replace hA2 := Lib.hid hA2
          replace hga := Lib.hid hga
          replace hplb := Lib.hid hplb
          clear hown2 hgrow hat ha hb hpla hne
          go_wp2_with (at_builtin; refine wpList_append_lies _ (by rfl) (.tmp 68) (.tmp 72) 35 (by rfl) B0 38 j0 _ 3 32 Try.underlying35 hj hj0 hj1 hj2 rfl (by omega) (.slice pb ws.length cb) ws.length (flat enW ws) (by rfl) (World.ownsRow.alloc hb2 _) ⟨w2.heap.size, 0, none⟩ 1 1 [.int .i64 (k : Int), .int .i64 7, .string ⟨#[91]⟩] (by rfl) (by rfl) (World.news_of_block (cs := #[.int .i64 (k : Int), .int .i64 7, .string ⟨#[91]⟩]) (t := 38) (fr := (0, 0)) (heap_alloc_new w2 _)) (by simp [Value.oneCell']) (by omega) (by unfold maxLen; omega) (by omega) (by simp; omega) (w2.heap.size + 1) (by simp) ?_)
          intro g3 cap3 w3 hown3 hgrow3 hat3 hlt3
          have hB3 : Below B0 w1 w3 := (hB2.alloc hz2' _).grown hgrow3 (by simp; omega) (fun x hx => (hplb.out x hx).1)
          have hA3 : OwnR enW 37 3 w3 B0 (.slice (some ⟨g, 0, none⟩) (ws.length + 1) cap) (ws ++ [⟨k, 7, ⟨#[91]⟩⟩]) := own_same (hA2.out.alloc _) fun x hx => hgrow3.block x (by have := (own_lt hA2.out x hx).2; simp; omega) (fun e => hga.out x hx e.symm)
          have hgl := (own_lt hA2.out g rfl).2
          have hb3 : OwnR enW 38 3 w3 B0 (.slice (some ⟨g3, 0, none⟩) (ws.length + 1) cap3) (ws ++ [⟨k, 7, ⟨#[91]⟩⟩]) := by
            show w3.ownsRow _ _ _ _ _ _
            rw [List.length_append, List.length_singleton, flat_app, flat_one]
            exact hown3
          have hne3 : Hid (∀ x, (Value.slice (some ⟨g, 0, none⟩) (ws.length + 1) cap).ownBlock = some x → (Value.slice (some ⟨g3, 0, none⟩) (ws.length + 1) cap3).ownBlock ≠ some x) := Lib.hid (fun x hx e => by
            simp only [Value.ownBlock, Option.some.injEq] at hx e
            subst hx
            rcases hat3 with h | h
            · exact hga.out g rfl (by rw [h, e])
            · omega)
          clear hown3 hgrow3 hat3 hb2
          replace hA3 := Lib.hid hA3
          replace hb3 := Lib.hid hb3
          go_wp2_with fail
          go_roundw
          case rel => exact ⟨k + 1, some ⟨g, 0, none⟩, cap, some ⟨g3, 0, none⟩, cap3, ws ++ [(⟨k, 7, ⟨#[91]⟩⟩ : Wd)], by omega, by omega, by simp [hwl.out], by go_num, by simp, by simp, by simpa using hA3.out, by simpa using hb3.out, by simpa using hne3, hB3⟩
          case measure => simp [intOf]; omega
        · skip
          go_wp2_with (at_builtin; refine wpList_append_lies _ (by rfl) (.tmp 62) (.tmp 66) 34 (by rfl) B0 37 i0 _ 3 32 Try.underlying34 hi hz0 hz1 hz2 rfl (by omega) (.slice pa ws.length ca) ws.length (flat enW ws) (by rfl) (World.ownsRow.alloc ha _) ⟨wq.heap.size, 0, none⟩ 1 1 [.int .i64 (k : Int), .int .i64 7, .string ⟨#[93]⟩] (by rfl) (by rfl) (World.news_of_block (cs := #[.int .i64 (k : Int), .int .i64 7, .string ⟨#[93]⟩]) (t := 37) (fr := (0, 0)) (heap_alloc_new wq _)) (by simp [Value.oneCell']) (by omega) (by unfold maxLen; omega) (by omega) (by simp; omega) (wq.heap.size + 1) (by simp) ?_)
          intro g cap w2 hown2 hgrow hat hlt2
          have hb2 : w2.ownsRow B0 38 3 (.slice pb ws.length cb) ws.length (flat enW ws) := own_same (hb.alloc _) fun g hg => hgrow.block g (by have := (own_lt hb g hg).2; simp; omega) (fun e => hne g e.symm hg)
          have hplb := own_lt hb2
          have hB2 : Below B0 w1 w2 := (hBq.alloc hzq _).grown hgrow (by simp; omega) (fun x hx => (hpla x hx).1)
          have hz2' : B0 ≤ w2.heap.size := by have h := hB2.size; have h2 := hB0.out; omega
          have hga : ∀ x, (Value.slice (some ⟨g, 0, none⟩) (ws.length + 1) cap).ownBlock = some x → (Value.slice pb ws.length cb).ownBlock ≠ some x := fun x hx e => by
            simp only [Value.ownBlock, Option.some.injEq] at hx
            subst hx
            rcases hat with h | h
            · exact hne g h e
            · have := (own_lt hb g e).2; omega
          have hA2 : OwnR enW 37 3 w2 B0 (.slice (some ⟨g, 0, none⟩) (ws.length + 1) cap) (ws ++ [⟨k, 7, ⟨#[93]⟩⟩]) := by
            show w2.ownsRow _ _ _ _ _ _
            rw [List.length_append, List.length_singleton, flat_app, flat_one]
            exact hown2
          replace hA2 := Lib.hid hA2
          replace hga := Lib.hid hga
          replace hplb := Lib.hid hplb
          clear hown2 hgrow hat ha hb hpla hne
          go_wp2_with (at_builtin; refine wpList_append_lies _ (by rfl) (.tmp 68) (.tmp 72) 35 (by rfl) B0 38 j0 _ 3 32 Try.underlying35 hj hj0 hj1 hj2 rfl (by omega) (.slice pb ws.length cb) ws.length (flat enW ws) (by rfl) (World.ownsRow.alloc hb2 _) ⟨w2.heap.size, 0, none⟩ 1 1 [.int .i64 (k : Int), .int .i64 7, .string ⟨#[93]⟩] (by rfl) (by rfl) (World.news_of_block (cs := #[.int .i64 (k : Int), .int .i64 7, .string ⟨#[93]⟩]) (t := 38) (fr := (0, 0)) (heap_alloc_new w2 _)) (by simp [Value.oneCell']) (by omega) (by unfold maxLen; omega) (by omega) (by simp; omega) (w2.heap.size + 1) (by simp) ?_)
          intro g3 cap3 w3 hown3 hgrow3 hat3 hlt3
          have hB3 : Below B0 w1 w3 := (hB2.alloc hz2' _).grown hgrow3 (by simp; omega) (fun x hx => (hplb.out x hx).1)
          have hA3 : OwnR enW 37 3 w3 B0 (.slice (some ⟨g, 0, none⟩) (ws.length + 1) cap) (ws ++ [⟨k, 7, ⟨#[93]⟩⟩]) := own_same (hA2.out.alloc _) fun x hx => hgrow3.block x (by have := (own_lt hA2.out x hx).2; simp; omega) (fun e => hga.out x hx e.symm)
          have hgl := (own_lt hA2.out g rfl).2
          have hb3 : OwnR enW 38 3 w3 B0 (.slice (some ⟨g3, 0, none⟩) (ws.length + 1) cap3) (ws ++ [⟨k, 7, ⟨#[93]⟩⟩]) := by
            show w3.ownsRow _ _ _ _ _ _
            rw [List.length_append, List.length_singleton, flat_app, flat_one]
            exact hown3
          have hne3 : Hid (∀ x, (Value.slice (some ⟨g, 0, none⟩) (ws.length + 1) cap).ownBlock = some x → (Value.slice (some ⟨g3, 0, none⟩) (ws.length + 1) cap3).ownBlock ≠ some x) := Lib.hid (fun x hx e => by
            simp only [Value.ownBlock, Option.some.injEq] at hx e
            subst hx
            rcases hat3 with h | h
            · exact hga.out g rfl (by rw [h, e])
            · omega)
          clear hown3 hgrow3 hat3 hb2
          replace hA3 := Lib.hid hA3
          replace hb3 := Lib.hid hb3
          go_wp2_with fail
          go_roundw
          case rel => exact ⟨k + 1, some ⟨g, 0, none⟩, cap, some ⟨g3, 0, none⟩, cap3, ws ++ [(⟨k, 7, ⟨#[93]⟩⟩ : Wd)], by omega, by omega, by simp [hwl.out], by go_num, by simp, by simp, by simpa using hA3.out, by simpa using hb3.out, by simpa using hne3, hB3⟩
          case measure => simp [intOf]; omega
        · obtain ⟨y, hy⟩ : ∃ y, z % 4 = y := ⟨_, rfl⟩
          have ey1 : (y == 1) = false := by simp; omega
          have ey2 : (y == 2) = false := by simp; omega
          clear h41 h42
          go_wp2_with (at_builtin; refine wpList_append_lies _ (by rfl) (.tmp 62) (.tmp 66) 34 (by rfl) B0 37 i0 _ 3 32 Try.underlying34 hi hz0 hz1 hz2 rfl (by omega) (.slice pa ws.length ca) ws.length (flat enW ws) (by rfl) (World.ownsRow.alloc ha _) ⟨wq.heap.size, 0, none⟩ 1 1 [.int .i64 (k : Int), .int .i64 7, .string (t.extract 0 M)] (by rfl) (by rfl) (World.news_of_block (cs := #[.int .i64 (k : Int), .int .i64 7, .string (t.extract 0 M)]) (t := 37) (fr := (0, 0)) (heap_alloc_new wq _)) (by simp [Value.oneCell']) (by omega) (by unfold maxLen; omega) (by omega) (by simp; omega) (wq.heap.size + 1) (by simp) ?_)
          intro g cap w2 hown2 hgrow hat hlt2
          have hb2 : w2.ownsRow B0 38 3 (.slice pb ws.length cb) ws.length (flat enW ws) := own_same (hb.alloc _) fun g hg => hgrow.block g (by have := (own_lt hb g hg).2; simp; omega) (fun e => hne g e.symm hg)
          have hplb := own_lt hb2
          have hB2 : Below B0 w1 w2 := (hBq.alloc hzq _).grown hgrow (by simp; omega) (fun x hx => (hpla x hx).1)
          have hz2' : B0 ≤ w2.heap.size := by have h := hB2.size; have h2 := hB0.out; omega
          have hga : ∀ x, (Value.slice (some ⟨g, 0, none⟩) (ws.length + 1) cap).ownBlock = some x → (Value.slice pb ws.length cb).ownBlock ≠ some x := fun x hx e => by
            simp only [Value.ownBlock, Option.some.injEq] at hx
            subst hx
            rcases hat with h | h
            · exact hne g h e
            · have := (own_lt hb g e).2; omega
          have hA2 : OwnR enW 37 3 w2 B0 (.slice (some ⟨g, 0, none⟩) (ws.length + 1) cap) (ws ++ [⟨k, 7, (t.extract 0 M)⟩]) := by
            show w2.ownsRow _ _ _ _ _ _
            rw [List.length_append, List.length_singleton, flat_app, flat_one]
            exact hown2
          replace hA2 := Lib.hid hA2
          replace hga := Lib.hid hga
          replace hplb := Lib.hid hplb
          clear hown2 hgrow hat ha hb hpla hne
          go_wp2_with (at_builtin; refine wpList_append_lies _ (by rfl) (.tmp 68) (.tmp 72) 35 (by rfl) B0 38 j0 _ 3 32 Try.underlying35 hj hj0 hj1 hj2 rfl (by omega) (.slice pb ws.length cb) ws.length (flat enW ws) (by rfl) (World.ownsRow.alloc hb2 _) ⟨w2.heap.size, 0, none⟩ 1 1 [.int .i64 (k : Int), .int .i64 7, .string (t.extract 0 M)] (by rfl) (by rfl) (World.news_of_block (cs := #[.int .i64 (k : Int), .int .i64 7, .string (t.extract 0 M)]) (t := 38) (fr := (0, 0)) (heap_alloc_new w2 _)) (by simp [Value.oneCell']) (by omega) (by unfold maxLen; omega) (by omega) (by simp; omega) (w2.heap.size + 1) (by simp) ?_)
          intro g3 cap3 w3 hown3 hgrow3 hat3 hlt3
          have hB3 : Below B0 w1 w3 := (hB2.alloc hz2' _).grown hgrow3 (by simp; omega) (fun x hx => (hplb.out x hx).1)
          have hA3 : OwnR enW 37 3 w3 B0 (.slice (some ⟨g, 0, none⟩) (ws.length + 1) cap) (ws ++ [⟨k, 7, (t.extract 0 M)⟩]) := own_same (hA2.out.alloc _) fun x hx => hgrow3.block x (by have := (own_lt hA2.out x hx).2; simp; omega) (fun e => hga.out x hx e.symm)
          have hgl := (own_lt hA2.out g rfl).2
          have hb3 : OwnR enW 38 3 w3 B0 (.slice (some ⟨g3, 0, none⟩) (ws.length + 1) cap3) (ws ++ [⟨k, 7, (t.extract 0 M)⟩]) := by
            show w3.ownsRow _ _ _ _ _ _
            rw [List.length_append, List.length_singleton, flat_app, flat_one]
            exact hown3
          have hne3 : Hid (∀ x, (Value.slice (some ⟨g, 0, none⟩) (ws.length + 1) cap).ownBlock = some x → (Value.slice (some ⟨g3, 0, none⟩) (ws.length + 1) cap3).ownBlock ≠ some x) := Lib.hid (fun x hx e => by
            simp only [Value.ownBlock, Option.some.injEq] at hx e
            subst hx
            rcases hat3 with h | h
            · exact hga.out g rfl (by rw [h, e])
            · omega)
          clear hown3 hgrow3 hat3 hb2
          replace hA3 := Lib.hid hA3
          replace hb3 := Lib.hid hb3
          go_wp2_with fail
          go_roundw
          case rel => exact ⟨k + 1, some ⟨g, 0, none⟩, cap, some ⟨g3, 0, none⟩, cap3, ws ++ [(⟨k, 7, (t.extract 0 M)⟩ : Wd)], by omega, by omega, by simp [hwl.out], by go_num, by simp, by simp, by simpa using hA3.out, by simpa using hb3.out, by simpa using hne3, hB3⟩
          case measure => simp [intOf]; omega
      · have zb1 : ¬ (k : Int) < (bs.length : Int) := by omega
        go_wp2_with (at_builtin; refine wpList_append_lies _ (by rfl) (.tmp 62) (.tmp 66) 34 (by rfl) B0 37 i0 _ 3 32 Try.underlying34 hi hz0 hz1 hz2 rfl (by omega) (.slice pa ws.length ca) ws.length (flat enW ws) (by rfl) (World.ownsRow.alloc ha _) ⟨wq.heap.size, 0, none⟩ 1 1 [.int .i64 (k : Int), .int .i64 7, .string (t.extract 0 M)] (by rfl) (by rfl) (World.news_of_block (cs := #[.int .i64 (k : Int), .int .i64 7, .string (t.extract 0 M)]) (t := 37) (fr := (0, 0)) (heap_alloc_new wq _)) (by simp [Value.oneCell']) (by omega) (by unfold maxLen; omega) (by omega) (by simp; omega) (wq.heap.size + 1) (by simp) ?_)
        intro g cap w2 hown2 hgrow hat hlt2
        have hb2 : w2.ownsRow B0 38 3 (.slice pb ws.length cb) ws.length (flat enW ws) := own_same (hb.alloc _) fun g hg => hgrow.block g (by have := (own_lt hb g hg).2; simp; omega) (fun e => hne g e.symm hg)
        have hplb := own_lt hb2
        have hB2 : Below B0 w1 w2 := (hBq.alloc hzq _).grown hgrow (by simp; omega) (fun x hx => (hpla x hx).1)
        have hz2' : B0 ≤ w2.heap.size := by have h := hB2.size; have h2 := hB0.out; omega
        have hga : ∀ x, (Value.slice (some ⟨g, 0, none⟩) (ws.length + 1) cap).ownBlock = some x → (Value.slice pb ws.length cb).ownBlock ≠ some x := fun x hx e => by
          simp only [Value.ownBlock, Option.some.injEq] at hx
          subst hx
          rcases hat with h | h
          · exact hne g h e
          · have := (own_lt hb g e).2; omega
        have hA2 : OwnR enW 37 3 w2 B0 (.slice (some ⟨g, 0, none⟩) (ws.length + 1) cap) (ws ++ [⟨k, 7, (t.extract 0 M)⟩]) := by
          show w2.ownsRow _ _ _ _ _ _
          rw [List.length_append, List.length_singleton, flat_app, flat_one]
          exact hown2
        replace hA2 := Lib.hid hA2
        replace hga := Lib.hid hga
        replace hplb := Lib.hid hplb
        clear hown2 hgrow hat ha hb hpla hne
        go_wp2_with (at_builtin; refine wpList_append_lies _ (by rfl) (.tmp 68) (.tmp 72) 35 (by rfl) B0 38 j0 _ 3 32 Try.underlying35 hj hj0 hj1 hj2 rfl (by omega) (.slice pb ws.length cb) ws.length (flat enW ws) (by rfl) (World.ownsRow.alloc hb2 _) ⟨w2.heap.size, 0, none⟩ 1 1 [.int .i64 (k : Int), .int .i64 7, .string (t.extract 0 M)] (by rfl) (by rfl) (World.news_of_block (cs := #[.int .i64 (k : Int), .int .i64 7, .string (t.extract 0 M)]) (t := 38) (fr := (0, 0)) (heap_alloc_new w2 _)) (by simp [Value.oneCell']) (by omega) (by unfold maxLen; omega) (by omega) (by simp; omega) (w2.heap.size + 1) (by simp) ?_)
        intro g3 cap3 w3 hown3 hgrow3 hat3 hlt3
        have hB3 : Below B0 w1 w3 := (hB2.alloc hz2' _).grown hgrow3 (by simp; omega) (fun x hx => (hplb.out x hx).1)
        have hA3 : OwnR enW 37 3 w3 B0 (.slice (some ⟨g, 0, none⟩) (ws.length + 1) cap) (ws ++ [⟨k, 7, (t.extract 0 M)⟩]) := own_same (hA2.out.alloc _) fun x hx => hgrow3.block x (by have := (own_lt hA2.out x hx).2; simp; omega) (fun e => hga.out x hx e.symm)
        have hgl := (own_lt hA2.out g rfl).2
        have hb3 : OwnR enW 38 3 w3 B0 (.slice (some ⟨g3, 0, none⟩) (ws.length + 1) cap3) (ws ++ [⟨k, 7, (t.extract 0 M)⟩]) := by
          show w3.ownsRow _ _ _ _ _ _
          rw [List.length_append, List.length_singleton, flat_app, flat_one]
          exact hown3
        have hne3 : Hid (∀ x, (Value.slice (some ⟨g, 0, none⟩) (ws.length + 1) cap).ownBlock = some x → (Value.slice (some ⟨g3, 0, none⟩) (ws.length + 1) cap3).ownBlock ≠ some x) := Lib.hid (fun x hx e => by
          simp only [Value.ownBlock, Option.some.injEq] at hx e
          subst hx
          rcases hat3 with h | h
          · exact hga.out g rfl (by rw [h, e])
          · omega)
        clear hown3 hgrow3 hat3 hb2
        replace hA3 := Lib.hid hA3
        replace hb3 := Lib.hid hb3
        go_wp2_with fail
        go_roundw
        case rel => exact ⟨k + 1, some ⟨g, 0, none⟩, cap, some ⟨g3, 0, none⟩, cap3, ws ++ [(⟨k, 7, (t.extract 0 M)⟩ : Wd)], by omega, by omega, by simp [hwl.out], by go_num, by simp, by simp, by simpa using hA3.out, by simpa using hb3.out, by simpa using hne3, hB3⟩
        case measure => simp [intOf]; omega
    · clear hne'
      have ew : ((ws.length : Nat) : Int) = ws.length := rfl
      clear ew
      have hat1 := ha.at
      have hat2 := hb.at
      have hlw : ws.length ≤ 100000 := by omega
      have cR := sets_any _ ws wr hat1 hlw
      have cR2 := fun W (h : Below wr.heap.size wr W) => refsets_any _ ws W (hat2.on h) hlw
      have hes := setsK_each ws false [] 
      replace hat1 := Lib.hid hat1
      replace hat2 := Lib.hid hat2
      have hB0' := hB0.out
      have hexit : ¬ k < ss.length ∨ (k < ss.length ∧ k = 60) := by omega
      obtain ⟨r, hr⟩ : ∃ r, setsP ws = r := ⟨_, rfl⟩
      have hes : ∀ rs, r = some rs → rs.length ≤ ws.length ∧ ∀ y ∈ rs, y.length ≤ ws.length := fun rs h => by
        have h2 := setsK_each ws false [] rs 0 (hr.trans h) (by simp)
        simpa using h2
      rw [hr] at cR
      simp only [hr] at cR2
      replace hr := Lib.hid hr
      replace hes := Lib.hid hes
      replace cR2 := Lib.hid cR2
      clear ha hb hB0' hgo
      have zz : (60 : Int) = ((60 : Nat) : Int) := rfl
      clear zz
      cases r with
      | none =>
        rcases hexit with hx | ⟨hx, rfl⟩
        all_goals
          go_wp2_with fail
          refine cR.mono ?_
          rintro e w2 ⟨rfl, hb2⟩
          have c2 := cR2.out w2 hb2
          go_wp2_with fail
          refine c2.mono ?_
          rintro e w3 ⟨rfl, hb3⟩
          have cSm := same_any (.slice none 0 0) (.slice none 0 0) [] w3 (.inl ⟨rfl, rfl⟩) (.inl ⟨rfl, rfl⟩) (by simp) (by simp)
          go_wp2_with fail
          refine cSm.mono ?_
          rintro e w4 ⟨rfl, hb4⟩
          go_wp2_with fail
          go_ret
          exact ⟨rfl, sames (sames (sames hBw hb2) hb3) hb4⟩
      | some rs =>
        obtain ⟨hr1, hr2⟩ := hes.out rs rfl
        have hr3 := Lib.hid (getD_each (P := fun x => x.length ≤ 10000000) (fun x hx => by have := hr2 x hx; omega) (by simp))
        replace hr2 := Lib.hid hr2
        rcases hexit with hx | ⟨hx, rfl⟩
        all_goals
          go_wp2_with fail
          refine cR.mono ?_
          rintro e w2 ⟨v2, rfl, hR2, hb2⟩
          have c2 := cR2.out w2 hb2
          replace hR2 := Lib.hid hR2
          go_wp2_with fail
          refine c2.mono ?_
          rintro e w3 ⟨v3, rfl, hR3, hb3⟩
          have cSm := same_any v2 v3 rs w3 (hR2.out.at.on hb3) hR3.at (by omega) hr3.out
          replace hR3 := Lib.hid hR3
          go_wp2_with fail
          refine cSm.mono ?_
          rintro e w4 ⟨rfl, hb4⟩
          go_wp2_with fail
          go_ret
          exact ⟨rfl, sames (sames (sames hBw hb2) hb3) hb4⟩
end Go.Proofs.Ythoohbmpbahkgaa
