/- The contract of once: a row that goes round a ring once. -/
import Derived.Test.YtenmgbcbnofcmaaOutRing
import Derived.OneCell
namespace Go.Proofs.Ytenmgbcbnofcmaa
open Go.RowKit

def atO (qs : List Pn) (s i : Nat) : Pn := qs[(s + i) % qs.length]?.getD default
def goO (qs : List Pn) (s : Nat) : Nat → Nat → Pn → List (Int × Int)
  | 0, _, _ => []
  | f + 1, i, a => if qs.length < i then [] else if (atO qs s i).on = true then ((atO qs s i).x, (atO qs s i).y) :: goO qs s f (i + 1) (atO qs s i) else linesO a (atO qs s i) (atO qs s (i + 1)) 8 ++ goO qs s f (i + 2) (atO qs s (i + 1))
theorem goO_on {qs : List Pn} {s f i : Nat} {a : Pn} (h : i ≤ qs.length) (ho : (atO qs s i).on = true) : goO qs s (f + 1) i a = ((atO qs s i).x, (atO qs s i).y) :: goO qs s f (i + 1) (atO qs s i) := by
  rw [goO, if_neg (by omega), if_pos ho]
theorem goO_off {qs : List Pn} {s f i : Nat} {a : Pn} (h : i ≤ qs.length) (ho : (atO qs s i).on = false) : goO qs s (f + 1) i a = linesO a (atO qs s i) (atO qs s (i + 1)) 8 ++ goO qs s f (i + 2) (atO qs s (i + 1)) := by
  rw [goO, if_neg (by omega), if_neg (by simp [ho])]
theorem goO_end {qs : List Pn} {s f i : Nat} {a : Pn} (h : qs.length < i) : goO qs s f i a = [] := by
  cases f with
  | zero => rfl
  | succ f => rw [goO, if_pos h]
def roundO (qs : List Pn) (s : Nat) : List (Int × Int) := ((atO qs s 0).x, (atO qs s 0).y) :: goO qs s qs.length 1 (atO qs s 0)
def onceO (qs : List Pn) (s : Nat) : List (Int × Int) := (roundO qs s).dropLast

/-- A row of points without their kind, wherever it lies. -/
def TsAt (W : World) (v : Value) (ts : List (Int × Int)) : Prop :=
  (v = .slice none 0 0 ∧ ts = []) ∨ ∃ a c, v = .slice (some a) ts.length c ∧ a.block < W.heap.size ∧ ts.length ≤ c ∧ c ≤ maxLen ∧ ∀ i, i < ts.length → W.cell? (a.add (i * 2)) = some (.int .i64 (ts[i]?.getD default).1) ∧ W.cell? ⟨(a.add (i * 2)).block, (a.add (i * 2)).off + 1, none⟩ = some (.int .i64 (ts[i]?.getD default).2)
theorem TsAt.on {W W' : World} {v : Value} {ts : List (Int × Int)} (h : TsAt W v ts) (hb : Below W.heap.size W W') : TsAt W' v ts := by
  rcases h with h | ⟨a, c, h1, h2, h3, h4, h5⟩
  · exact .inl h
  · exact .inr ⟨a, c, h1, Nat.lt_of_lt_of_le h2 hb.size, h3, h4, fun i hi => ⟨(hb.cell (p := a.add (i * 2)) (by rw [add_block]; exact h2)).trans (h5 i hi).1, (hb.cell (p := ⟨(a.add (i * 2)).block, (a.add (i * 2)).off + 1, none⟩) (by rw [add_block]; exact h2)).trans (h5 i hi).2⟩⟩
theorem TsAt.len {W : World} {v : Value} {ts : List (Int × Int)} (h : TsAt W v ts) : ∃ p c, v = .slice p ts.length c := by
  rcases h with ⟨rfl, rfl⟩ | ⟨a, c, rfl, _⟩
  · exact ⟨_, _, rfl⟩
  · exact ⟨_, _, rfl⟩
theorem encT_get (ts : List (Int × Int)) (i : Nat) (h : i < ts.length) : (encT ts)[i * 2]? = some (.int .i64 (ts[i]?.getD default).1) ∧ (encT ts)[i * 2 + 1]? = some (.int .i64 (ts[i]?.getD default).2) := by
  induction ts generalizing i with
  | nil => simp at h
  | cons p ps ih =>
    cases i with
    | zero => simp [encT]
    | succ i =>
      have := ih i (by simpa using h)
      rw [show (i + 1) * 2 = i * 2 + 2 by omega]
      simpa [encT] using this
theorem TRow.cut {W : World} {B g n c : Nat} {ts : List (Int × Int)} (h : TRow W B (.slice (some ⟨g, 0, none⟩) n c) ts) (us : List (Int × Int)) (hu : us <+: ts) : TsAt W (.slice (some ⟨g, 0, none⟩) us.length c) us := by
  obtain ⟨r, rfl⟩ := hu
  rcases own_form h with ⟨h1, h2⟩ | ⟨g', c', hv, -, hg, hn, hc⟩
  · simp at h1
  · have hcells := World.ownsRow.cells h (g := g) rfl
    simp only [Value.slice.injEq, Option.some.injEq, Addr.mk.injEq, and_true] at hv
    obtain ⟨rfl, -, rfl⟩ := hv
    rw [List.length_append] at hn
    refine .inr ⟨_, c, rfl, hg, by omega, hc, fun i hi => ?_⟩
    obtain ⟨e1, e2⟩ := encT_get (us ++ r) i (by rw [List.length_append]; omega)
    rw [List.getElem?_append_left hi] at e1 e2
    exact ⟨hcells _ _ e1, (by rw [add_more _ _ 0]; exact hcells _ _ e2)⟩

/-- What is known of a world within once: the point ahead lies in A, the row in g. -/
structure OW (w1 : World) (A : Nat) (a : Pn) (g cap : Nat) (T : List (Int × Int)) (W : World) : Prop where
  bel : Below w1.heap.size w1 W
  al : w1.heap.size ≤ A
  sz : A < W.heap.size
  c0 : W.cell? ⟨A, 0, none⟩ = some (.int .i64 a.x)
  c1 : W.cell? ⟨A, 1, none⟩ = some (.int .i64 a.y)
  c2 : W.cell? ⟨A, 2, none⟩ = some (.bool a.on)
  fz : ∀ o, W.frozen? ⟨A, o, none⟩ = false
  row : TRow W w1.heap.size (.slice (some ⟨g, 0, none⟩) T.length cap) T
  ne : g ≠ A
  gl : w1.heap.size ≤ g
  gs : g < W.heap.size
theorem OW.next {w1 W W' : World} {A g cap : Nat} {a : Pn} {T : List (Int × Int)} (h : OW w1 A a g cap T W) (hb : Below W.heap.size W W') : OW w1 A a g cap T W' where
  bel := h.bel.trans (hb.mono h.bel.size)
  al := h.al
  sz := Nat.lt_of_lt_of_le h.sz hb.size
  c0 := (hb.cell (p := ⟨A, 0, none⟩) h.sz).trans h.c0
  c1 := (hb.cell (p := ⟨A, 1, none⟩) h.sz).trans h.c1
  c2 := (hb.cell (p := ⟨A, 2, none⟩) h.sz).trans h.c2
  fz := fun o => (hb.frozen (p := ⟨A, o, none⟩) h.sz).trans (h.fz o)
  row := ring_own_on h.row hb
  ne := h.ne
  gl := h.gl
  gs := Nat.lt_of_lt_of_le h.gs hb.size
theorem OW.alloc {w1 W : World} {A g cap : Nat} {a : Pn} {T : List (Int × Int)} (h : OW w1 A a g cap T W) (o : Obj) : OW w1 A a g cap T (W.alloc o) := h.next ((Below.refl _ _).alloc (Nat.le_refl _) o)
theorem OW.drew {w1 W : World} {A g cap : Nat} {a : Pn} {T : List (Int × Int)} (h : OW w1 A a g cap T W) : OW w1 A a g cap T W.drew := h.next (below_drewN (Below.refl _ _) 1)
theorem OW.grew {w1 W W' : World} {A g cap g' cap' : Nat} {a : Pn} {T T' : List (Int × Int)} (h : OW w1 A a g cap T W) (hG : W.grownBy W' (some g)) (hl : g' = g ∨ W.heap.size ≤ g') (ht : g' < W'.heap.size) (hr : TRow W' w1.heap.size (.slice (some ⟨g', 0, none⟩) T'.length cap') T') : OW w1 A a g' cap' T' W' where
  bel := h.bel.grown hG h.bel.size (fun x hx => by cases hx; exact h.gl)
  al := h.al
  sz := Nat.lt_of_lt_of_le h.sz hG.size
  c0 := (hG.cell_far _ h.sz (fun e => h.ne (by simpa using e.symm))).trans h.c0
  c1 := (hG.cell_far _ h.sz (fun e => h.ne (by simpa using e.symm))).trans h.c1
  c2 := (hG.cell_far _ h.sz (fun e => h.ne (by simpa using e.symm))).trans h.c2
  fz := fun o => (hG.frozen_far _ h.sz (fun e => h.ne (by simpa using e.symm))).trans (h.fz o)
  row := hr
  ne := by rcases hl with rfl | hl; exact h.ne; exact fun e => by have := h.sz; omega
  gl := by rcases hl with rfl | hl; exact h.gl; exact Nat.le_trans h.bel.size hl
  gs := ht
theorem OW.setA {w1 W : World} {A g cap : Nat} {a : Pn} {T : List (Int × Int)} (h : OW w1 A a g cap T W) (b : Pn) : OW w1 A b g cap T (((W.setCell ⟨A, 0, none⟩ (.int .i64 b.x)).setCell ⟨A, 1, none⟩ (.int .i64 b.y)).setCell ⟨A, 2, none⟩ (.bool b.on)) := by
  obtain ⟨h0, h1, h2, h3, h4, h5, h6, h7, h8, h9, h10⟩ := h
  have hr : ∀ {V : World} (o : Nat) (u : Value), TRow V w1.heap.size (.slice (some ⟨g, 0, none⟩) T.length cap) T → TRow (V.setCell ⟨A, o, none⟩ u) w1.heap.size (.slice (some ⟨g, 0, none⟩) T.length cap) T := fun o u hv => ownsRow_setCell_other hv (by simpa [Value.ownBlock] using h8) u
  exact ⟨((h0.setCell (by simpa using h1) _).setCell (by simpa using h1) _).setCell (by simpa using h1) _, h1, by simpa using h2, by simp [go_sem, h3], by simp [go_sem, h4], by simp [go_sem, h5], fun o => by simp [go_sem, h6], hr _ _ (hr _ _ (hr _ _ h7)), h8, h9, by simpa using h10⟩

theorem OW.set {w1 W : World} {A g cap : Nat} {a : Pn} {T : List (Int × Int)} (h : OW w1 A a g cap T W) (p : Addr) (hp : w1.heap.size ≤ p.block) (hA : p.block ≠ A) (hg : p.block ≠ g) (u : Value) : OW w1 A a g cap T (W.setCell p u) := by
  obtain ⟨h0, h1, h2, h3, h4, h5, h6, h7, h8, h9, h10⟩ := h
  exact ⟨h0.setCell hp u, h1, by simpa using h2, (World.cell?_setCell_far _ _ _ _ hA).trans h3, (World.cell?_setCell_far _ _ _ _ hA).trans h4, (World.cell?_setCell_far _ _ _ _ hA).trans h5, fun o => by simp [go_sem, h6], ownsRow_setCell_other h7 (by simpa [Value.ownBlock] using fun e => hg e.symm) u, h8, h9, by simpa using h10⟩
set_option maxHeartbeats 2000000 in
theorem once_any (v : Value) (qs : List Pn) (s : Nat) (w : World) (hp : PtsAt w v qs) (h0 : 0 < qs.length) (hl : qs.length ≤ 1000000) (hs : s ≤ 1000000) :
    Calls Try.prog 43 #[v, .int .i64 (s : Int)] w fun e w' => ∃ v', e = .returned v' ∧ TsAt w' v' (onceO qs s) ∧ Below w.heap.size w w' ∧ ∀ a l c, v' = .slice (some a) l c → w.heap.size ≤ a.block := by
  obtain ⟨i0, hi, hz0, hz1, hz2⟩ := info_parts infoPt
  obtain ⟨p1, c1, rfl⟩ := hp.len
  obtain ⟨w1, hw1⟩ : ∃ w1, (w.alloc (.cells #[.slice p1 qs.length c1] 22)).alloc (.cells #[.int .i64 (s : Int)] 3) = w1 := ⟨_, rfl⟩
  have hb1 : Below w.heap.size w w1 := by rw [← hw1]; exact ((Below.refl _ _).alloc (Nat.le_refl _) _).alloc (by simp) _
  have k1 : w1.cell? ⟨w.heap.size, 0, none⟩ = some (.slice p1 qs.length c1) := by rw [← hw1]; simp [go_sem]
  have k2 : w1.cell? ⟨w.heap.size + 1, 0, none⟩ = some (.int .i64 (s : Int)) := by rw [← hw1]; simp [go_sem]
  have hz : w1.heap.size = w.heap.size + 1 + 1 := by rw [← hw1]; simp
  have HA := Lib.hid (fun (i : Nat) (hi : i ≤ 100000000) (W : World) (hb : Below w1.heap.size w1 W) => show Calls Try.prog 50 #[.int .i64 (i : Int), .pointer (some ⟨w.heap.size, 0, none⟩), .pointer (some ⟨w.heap.size + 1, 0, none⟩)] W fun e w' => e = .returned (.agg #[.int .i64 (atO qs s i).x, .int .i64 (atO qs s i).y, .bool (atO qs s i).on]) ∧ Below W.heap.size W w' from
    at_any _ _ (.slice p1 qs.length c1) qs s i W ((hp.on hb1).on hb) h0 (by omega) (by omega) (by omega) ((hb.cell (p := ⟨w.heap.size, 0, none⟩) (by simp; omega)).trans k1) ((hb.cell (p := ⟨w.heap.size + 1, 0, none⟩) (by simp; omega)).trans k2))
  have h1 := HA.out 0 (by omega) w1 (Below.refl _ _)
  clear hp k2
  obtain ⟨a0, ha0⟩ : ∃ a0, atO qs s 0 = a0 := ⟨_, rfl⟩
  rw [ha0] at h1
  have HR := Lib.hid (show roundO qs s = (a0.x, a0.y) :: goO qs s qs.length 1 a0 by rw [← ha0]; rfl)
  clear ha0
  obtain ⟨ax, ay, ao⟩ := a0
  simp only at h1
  go_enter Try.func43, Try.ntmps43
  go_wp2_with fail
  refine h1.mono ?_
  rintro e w2 ⟨rfl, hb2⟩
  have F0 : OW w1 w2.heap.size ⟨ax, ay, ao⟩ (w2.heap.size + 1) 1 [(ax, ay)] ((w2.alloc (.cells #[.int .i64 ax, .int .i64 ay, .bool ao] 33)).alloc (.cells #[.int .i64 ax, .int .i64 ay] 52)) :=
    ⟨(hb2.alloc hb2.size _).alloc (by have := hb2.size; simp; omega) _, hb2.size, by simp; omega, by simp [go_sem], by simp [go_sem], by simp [go_sem], fun o => by simp [go_sem], (by simpa [TRow, encT] using World.ownsRow_lit (base := w1.heap.size) (e := 52) (size := 2) (w2.alloc (.cells #[.int .i64 ax, .int .i64 ay, .bool ao] 33)) #[.int .i64 ax, .int .i64 ay] 1 (by have := hb2.size; simp; omega) (by unfold maxLen; omega) rfl), by omega, by have := hb2.size; omega, by simp⟩
  go_wp2_with fail
  go_loopw [7, 8] (fun r i wr => ∃ (k f g cap : Nat) (a : Pn) (T : List (Int × Int)), 1 ≤ k ∧ k ≤ qs.length + 2 ∧ qs.length + 1 ≤ f + k ∧ T.length ≤ 8 * k ∧ 1 ≤ T.length ∧ i = .int .i64 (k : Int) ∧ r = .slice (some ⟨g, 0, none⟩) T.length cap ∧ Hid (T ++ goO qs s f k a = roundO qs s) ∧ OW w1 w2.heap.size a g cap T wr) (fun _ i _ => (qs.length + 2 - intOf i).toNat)
  case atStart => exact ⟨1, qs.length, _, _, _, _, by omega, by omega, by omega, by simp, by simp, rfl, rfl, Lib.hid HR.out.symm, F0⟩
  case round =>
    clear F0 HR h1
    obtain ⟨k, f, g, cap, a, T, hk1, hk2, hf, hT, hT1, rfl, rfl, hrel, F⟩ := hrel
    obtain ⟨hB, hal, has, c0, c1', c2, fz, hrow, hne, hgl, hgs⟩ := id F
    have hR0 := (hB.cell (p := ⟨w.heap.size, 0, none⟩) (by simp; omega)).trans k1
    obtain ⟨ax', ay', ao'⟩ := a
    simp only at c0 c1' c2
    by_cases hlt : k ≤ qs.length
    · obtain ⟨f, rfl⟩ : ∃ f', f = f' + 1 := ⟨f - 1, by omega⟩
      have hk := HA.out k (by omega) wr hB
      have hrel := hrel.out
      by_cases hon : (atO qs s k).on = true
      · rw [goO_on hlt hon] at hrel
        obtain ⟨b, hb⟩ : ∃ b, atO qs s k = b := ⟨_, rfl⟩
        rw [hb] at hrel hk hon
        obtain ⟨bx, yb, bo⟩ := b
        simp only at hon hrel hk
        subst hon
        have hrel := Lib.hid hrel
        clear hb
        have HAp : ∀ (W : World), Below wr.heap.size wr W → OW w1 w2.heap.size ⟨ax', ay', ao'⟩ g cap T W := fun W h => F.next h
        go_wp2_with fail
        refine hk.mono ?_
        rintro e w3 ⟨rfl, hb3⟩
        have F3 := HAp w3 hb3
        clear HAp F hk hrow
        have hrow := F3.row
        have sz3 := F3.bel.size
        have gs3 := F3.gs
        go_wp2_with (at_builtin; refine wpList_append_lies _ (by rfl) _ _ _ (by rfl) w1.heap.size 52 i0 _ 2 16 Try.underlying42 hi hz0 hz1 hz2 rfl (by omega) (.slice (some ⟨g, 0, none⟩) T.length cap) T.length (encT T) (by rfl) (World.ownsRow.alloc (World.ownsRow.alloc hrow _) _) ⟨w3.heap.size + 1, 0, none⟩ 1 1 [.int .i64 bx, .int .i64 yb] (by rfl) (by rfl) (World.news_of_block (cs := #[.int .i64 bx, .int .i64 yb]) (t := 52) (fr := (0, 0)) (by have h := heap_alloc_new (w3.alloc (.cells #[.int .i64 bx, .int .i64 yb, .bool true] 33)) (.cells #[.int .i64 bx, .int .i64 yb] 52); rwa [show (w3.alloc (.cells #[.int .i64 bx, .int .i64 yb, .bool true] 33)).heap.size = w3.heap.size + 1 by simp] at h)) (by simp [Value.oneCell']) (by omega) (by unfold maxLen; omega) (by omega) (by simp; omega) (w3.heap.size + 1 + 1) (by simp) ?_)
        intro g2 cap2 w4 hown4 hgrow hat hlt2
        have hbox : ∀ o, w4.cell? ⟨w3.heap.size, o, none⟩ = ((w3.alloc (.cells #[.int .i64 bx, .int .i64 yb, .bool true] 33)).alloc (.cells #[.int .i64 bx, .int .i64 yb] 52)).cell? ⟨w3.heap.size, o, none⟩ := fun o => hgrow.cell_far _ (by simp; omega) (by simp [Value.ownBlock]; omega)
        have b0 := (hbox 0).trans (by simp [go_sem] : _ = some (.int .i64 bx))
        have b1 := (hbox 1).trans (by simp [go_sem] : _ = some (.int .i64 yb))
        have b2 := (hbox 2).trans (by simp [go_sem] : _ = some (.bool true))
        have l3 : w3.heap.size < w4.heap.size := Nat.lt_of_lt_of_le (show w3.heap.size < w3.heap.size + 1 + 1 by omega) (by have := hgrow.size; simpa using this)
        have F4 : OW w1 w2.heap.size ⟨ax', ay', ao'⟩ g2 cap2 (T ++ [(bx, yb)]) w4 := OW.grew ((F3.alloc (.cells #[.int .i64 bx, .int .i64 yb, .bool true] 33)).alloc (.cells #[.int .i64 bx, .int .i64 yb] 52)) hgrow (by rcases hat with h | h; left; simpa [Value.ownBlock] using h.symm; right; simp; omega) hlt2 (by have h := hown4; rw [← hz] at h; simpa [TRow, encT_app, encT] using h)
        obtain ⟨hB4, -, hs4, c04, c14, c24, fz4, -, -, -, -⟩ := id F4
        simp only at c04 c14 c24
        have f0 := fz4 0
        have f1 := fz4 1
        have f2 := fz4 2
        clear hbox hgrow hown4 hat F3 hrow hB c0 c1' c2 fz fz4
        go_wp2_with fail
        go_roundw
        case rel => exact ⟨k + 1, f, g2, cap2, ⟨bx, yb, true⟩, T ++ [(bx, yb)], by omega, by omega, by omega, by simp; omega, by simp, by go_num, by simp, Lib.hid (by rw [List.append_assoc]; exact hrel.out), F4.setA ⟨bx, yb, true⟩⟩
        case measure => simp [intOf]; omega
      · have hoff : (atO qs s k).on = false := by simpa using hon
        rw [goO_off hlt hoff] at hrel
        clear hon
        have hk2 := HA.out (k + 1) (by omega)
        obtain ⟨c, hc⟩ : ∃ c, atO qs s k = c := ⟨_, rfl⟩
        obtain ⟨b, hb⟩ : ∃ b, atO qs s (k + 1) = b := ⟨_, rfl⟩
        rw [hc] at hrel hk hoff
        rw [hb] at hrel hk2
        obtain ⟨cx, cy, co⟩ := c
        obtain ⟨bx, yb, bo⟩ := b
        simp only at hoff hrel hk hk2
        subst hoff
        have hrel := Lib.hid hrel
        have HK2 := Lib.hid hk2
        have HAp : ∀ (W : World), Below wr.heap.size wr W → OW w1 w2.heap.size ⟨ax', ay', ao'⟩ g cap T W := fun W h => F.next h
        clear hc hb hk2
        have e1 : IntKind.i64.wrap ((k : Int) + 1) = ((k + 1 : Nat) : Int) := by rw [IntWalk.i64_in _ (by omega)]; rfl
        have e2 : IntKind.i64.wrap (((k + 1 : Nat) : Int) + 1) = ((k + 2 : Nat) : Int) := by rw [IntWalk.i64_in _ (by omega)]; push_cast; omega
        have hHA := Lib.hid HA
        go_wp2_with fail
        refine hk.mono ?_
        rintro e w3 ⟨rfl, hb3⟩
        have F3 := (HAp w3 hb3).alloc (.cells #[.int .i64 cx, .int .i64 cy, .bool false] 33) |>.alloc (.cells #[.int .i64 cx, .int .i64 cy, .bool false] 33)
        have hk2 := HK2.out _ F3.bel
        have hb30 := hb3.size
        go_wp2_with fail
        refine hk2.mono ?_
        rintro e w4 ⟨rfl, hb4⟩
        have F4 := F3.next hb4
        have gs3 := (HAp w3 hb3).gs
        have ne3 := F3.ne
        have sz3 : w2.heap.size < w3.heap.size := (HAp w3 hb3).sz
        have sz31 := (HAp w3 hb3).bel.size
        have d0 : w4.cell? ⟨w3.heap.size, 0, none⟩ = some (.int .i64 cx) := by rw [hb4.cell (by simp; omega)]; simp [go_sem]
        have d1 : w4.cell? ⟨w3.heap.size, 1, none⟩ = some (.int .i64 cy) := by rw [hb4.cell (by simp; omega)]; simp [go_sem]
        have d2 : w4.cell? ⟨w3.heap.size, 2, none⟩ = some (.bool false) := by rw [hb4.cell (by simp; omega)]; simp [go_sem]
        have df : ∀ o, w4.frozen? ⟨w3.heap.size, o, none⟩ = false := fun o => by rw [hb4.frozen (by simp; omega)]; simp [go_sem]
        have f0 := df 0
        have f1 := df 1
        have f2 := df 2
        have g0 : w4.cell? ⟨w3.heap.size + 1, 0, none⟩ = some (.int .i64 cx) := by rw [hb4.cell (by simp)]; simp [go_sem]
        have g1 : w4.cell? ⟨w3.heap.size + 1, 1, none⟩ = some (.int .i64 cy) := by rw [hb4.cell (by simp)]; simp [go_sem]
        have g2 : w4.cell? ⟨w3.heap.size + 1, 2, none⟩ = some (.bool false) := by rw [hb4.cell (by simp)]; simp [go_sem]
        have sz4 : w3.heap.size + 1 < w4.heap.size := by have := hb4.size; simp at this; omega
        obtain ⟨w5, hw5⟩ : ∃ w5, (((w4.setCell ⟨w3.heap.size, 0, none⟩ (.int .i64 bx)).setCell ⟨w3.heap.size, 1, none⟩ (.int .i64 yb)).setCell ⟨w3.heap.size, 2, none⟩ (.bool bo)) = w5 := ⟨_, rfl⟩
        have F5 : OW w1 w2.heap.size ⟨ax', ay', ao'⟩ g cap T w5 := by rw [← hw5]; exact ((F4.set _ (by simp; omega) (by simp; omega) (by simp; omega) _).set _ (by simp; omega) (by simp; omega) (by simp; omega) _).set _ (by simp; omega) (by simp; omega) (by simp; omega) _
        have sz5 : w3.heap.size + 1 < w5.heap.size := by rw [← hw5]; simpa using sz4
        have b0 : w5.cell? ⟨w3.heap.size, 0, none⟩ = some (.int .i64 bx) := by rw [← hw5]; simp [go_sem, d0]
        have b1 : w5.cell? ⟨w3.heap.size, 1, none⟩ = some (.int .i64 yb) := by rw [← hw5]; simp [go_sem, d1]
        have b2 : w5.cell? ⟨w3.heap.size, 2, none⟩ = some (.bool bo) := by rw [← hw5]; simp [go_sem, d2]
        have g0' : w5.cell? ⟨w3.heap.size + 1, 0, none⟩ = some (.int .i64 cx) := by rw [← hw5]; simp [go_sem, g0]
        have g1' : w5.cell? ⟨w3.heap.size + 1, 1, none⟩ = some (.int .i64 cy) := by rw [← hw5]; simp [go_sem, g1]
        have g2' : w5.cell? ⟨w3.heap.size + 1, 2, none⟩ = some (.bool false) := by rw [← hw5]; simp [go_sem, g2]
        obtain ⟨hB5, -, hs5, c05, c15, c25, fz5, hrow5, hne5, hgl5, hgs5⟩ := id F5
        simp only at c05 c15 c25
        have hcu := curve_any ⟨ax', ay', ao'⟩ ⟨cx, cy, false⟩ ⟨bx, yb, bo⟩ T w1.heap.size g cap w5 hrow5 hB5.size (by omega) hgs5
        clear HAp F F3 F4 hB c0 c1' c2 fz hrow hk hk2 df
        go_wp2_with fail
        refine hcu.mono ?_
        rintro e w6 ⟨g', cap', rfl, hrow6, hG⟩
        have hll := linesO_len ⟨ax', ay', ao'⟩ ⟨cx, cy, false⟩ ⟨bx, yb, bo⟩ 8
        have F6 : OW w1 w2.heap.size ⟨ax', ay', ao'⟩ g' cap' (T ++ linesO ⟨ax', ay', ao'⟩ ⟨cx, cy, false⟩ ⟨bx, yb, bo⟩ 8) w6 := F5.grew hG.grown hG.lies hG.lt (by rw [List.length_append, hll]; exact hrow6)
        have h0 := (hG.grown.cell_far ⟨w3.heap.size, 0, none⟩ (by simp; omega) (by simp; omega)).trans b0
        have h1 := (hG.grown.cell_far ⟨w3.heap.size, 1, none⟩ (by simp; omega) (by simp; omega)).trans b1
        have h2 := (hG.grown.cell_far ⟨w3.heap.size, 2, none⟩ (by simp; omega) (by simp; omega)).trans b2
        obtain ⟨hB6, -, hs6, c06, c16, c26, fz6, -, -, -, -⟩ := id F6
        simp only at c06 c16 c26
        have sz6 := hG.grown.size
        have l3 : w3.heap.size < w6.heap.size := by omega
        have f0 := fz6 0
        have f1 := fz6 1
        have f2 := fz6 2
        generalize linesO ⟨ax', ay', ao'⟩ ⟨cx, cy, false⟩ ⟨bx, yb, bo⟩ 8 = LL at *
        clear hG F5 hw5 hcu hB5 c05 c15 c25 fz5 fz6 hrow5 hrow6 b0 b1 b2 g0' g1' g2' d0 d1 d2 g0 g1 g2
        go_wp2_with fail
        go_roundw
        case rel => exact ⟨k + 2, f, g', cap', ⟨bx, yb, bo⟩, T ++ LL, by omega, by omega, by omega, by simp; omega, by simp; omega, by go_num, by simp; omega, Lib.hid (by rw [List.append_assoc]; exact hrel.out), F6.setA ⟨bx, yb, bo⟩⟩
        case measure => simp [intOf]; omega
    · have hrel := hrel.out
      rw [goO_end (by omega), List.append_nil] at hrel
      have hcap : T.length ≤ cap := by
        rcases own_form hrow with ⟨h, -⟩ | ⟨g', c', hv, -, -, hn, -⟩
        · simp at h
        · simp only [Value.slice.injEq] at hv
          rw [hv.2.2]
          exact hn
      have hQ : TsAt wr (.slice (some ⟨g, 0, none⟩) T.dropLast.length cap) T.dropLast := hrow.cut _ (List.dropLast_prefix T)
      rw [List.length_dropLast] at hQ
      have hO : onceO qs s = T.dropLast := by unfold onceO; rw [← hrel]
      have hBw : Below w.heap.size w wr := hb1.trans (hB.mono (by omega))
      obtain ⟨m, hm⟩ : ∃ m : Nat, T.length - 1 = m := ⟨_, rfl⟩
      have e3 : IntKind.i64.wrap ((T.length : Int) - 1) = (m : Int) := by rw [IntWalk.i64_in _ (by omega)]; omega
      have z1 : (0 : Int) ≤ (m : Int) := by omega
      have z2 : (m : Int) ≤ (cap : Int) := by omega
      rw [hm] at hQ
      have Q := Lib.hid (And.intro hQ (And.intro hO hBw))
      generalize hTL : T.length = TL at *
      clear hQ hO hBw hrel hrow hm F hcap hT hT1
      go_wp2_with fail
      refine bodyPost_ret (v := .slice (some ⟨g, 0, none⟩) m cap) (by simp [results, Try.results43, go_sem]) rfl ⟨_, rfl, ?_, Q.out.2.2, fun a l c h => ?_⟩
      · rw [Q.out.2.1]
        exact Q.out.1
      · simp only [Value.slice.injEq, Option.some.injEq] at h
        rw [← h.1]
        simp only
        omega
end Go.Proofs.Ytenmgbcbnofcmaa
