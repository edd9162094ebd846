/- The contracts of between, weighed and curve. -/
import Derived.Test.YtenmgbcbnofcmaaOutRow
import Derived.Deep.AppendLies
import Derived.Deep.RegionHeld3
import Derived.OwnWalk
namespace Go.Proofs.Ytenmgbcbnofcmaa
open Go.RowKit

def betweenO (p q : Pn) : Pn := ⟨wrap64 (p.x + q.x) / 2, wrap64 (p.y + q.y) / 2, true⟩
set_option maxHeartbeats 1000000 in
theorem between_any (p q : Pn) (w : World) : Calls Try.prog 52 #[.agg #[.int .i64 p.x, .int .i64 p.y, .bool p.on], .agg #[.int .i64 q.x, .int .i64 q.y, .bool q.on]] w fun e w' => e = .returned (.agg #[.int .i64 (betweenO p q).x, .int .i64 (betweenO p q).y, .bool true]) ∧ Below w.heap.size w w' := by
  obtain ⟨px, py, po⟩ := p
  obtain ⟨qx, qy, qo⟩ := q
  have hB : Below w.heap.size w (((w.alloc (.cells #[.int .i64 px, .int .i64 py, .bool po] 33)).alloc (.cells #[.int .i64 qx, .int .i64 qy, .bool qo] 33)).alloc (.cells #[.int .i64 (wrap64 (px + qx) / 2), .int .i64 (wrap64 (py + qy) / 2), .bool true] 33)) := (((Below.refl _ _).alloc (Nat.le_refl _) _).alloc (by simp) _).alloc (by simp; omega) _
  go_enter Try.func52, Try.ntmps52
  go_wp2_with fail
  refine bodyPost_ret (v := .agg #[.int .i64 (wrap64 (px + qx) / 2), .int .i64 (wrap64 (py + qy) / 2), .bool true]) (by simp [results, Try.results52, go_sem]) rfl ⟨rfl, hB⟩

/-- A curve's number at the end of its n-th line. -/
def weighO (n a c b : Int) : Int := wrap64 ((8 - n) * (8 - n) * a + 2 * n * (8 - n) * c + n * n * b + 32) / 64
theorem wrap64_mod (x : Int) : ∃ k, wrap64 x = x + 18446744073709551616 * k := ⟨(wrap64 x - x) / 18446744073709551616, by unfold wrap64; omega⟩
theorem wrap64_eq {x y : Int} (k : Int) (h : x = y + 18446744073709551616 * k) : wrap64 x = wrap64 y := by subst h; unfold wrap64; omega
theorem weigh_wrap (u v t a c b : Int) : wrap64 (wrap64 (wrap64 (wrap64 (u * a) + wrap64 (v * c)) + wrap64 (t * b)) + 32) = wrap64 (u * a + v * c + t * b + 32) := by
  generalize u * a = x
  generalize v * c = y
  generalize t * b = z
  obtain ⟨k1, h1⟩ := wrap64_mod x
  obtain ⟨k2, h2⟩ := wrap64_mod y
  obtain ⟨k3, h3⟩ := wrap64_mod z
  obtain ⟨k4, h4⟩ := wrap64_mod (wrap64 x + wrap64 y)
  obtain ⟨k5, h5⟩ := wrap64_mod (wrap64 (wrap64 x + wrap64 y) + wrap64 z)
  exact wrap64_eq (k1 + k2 + k3 + k4 + k5) (by omega)
theorem weighed_any (n a c b : Int) (w : World) (h1 : 1 ≤ n) (h2 : n ≤ 8) : Calls Try.prog 55 #[.int .i64 n, .int .i64 a, .int .i64 c, .int .i64 b] w fun e w' => e = .returned (.int .i64 (weighO n a c b)) ∧ w = w' := by
  have key : wrap64 (wrap64 (wrap64 (wrap64 (wrap64 ((8 - n) * (8 - n)) * a) + wrap64 (wrap64 (2 * n * (8 - n)) * c)) + wrap64 (wrap64 (n * n) * b)) + 32) / 64 = weighO n a c b := by
    have hn : n = 1 ∨ n = 2 ∨ n = 3 ∨ n = 4 ∨ n = 5 ∨ n = 6 ∨ n = 7 ∨ n = 8 := by omega
    have e1 : wrap64 ((8 - n) * (8 - n)) = (8 - n) * (8 - n) := by rcases hn with rfl | rfl | rfl | rfl | rfl | rfl | rfl | rfl <;> (unfold wrap64; omega)
    have e2 : wrap64 (2 * n * (8 - n)) = 2 * n * (8 - n) := by rcases hn with rfl | rfl | rfl | rfl | rfl | rfl | rfl | rfl <;> (unfold wrap64; omega)
    have e3 : wrap64 (n * n) = n * n := by rcases hn with rfl | rfl | rfl | rfl | rfl | rfl | rfl | rfl <;> (unfold wrap64; omega)
    unfold weighO
    rw [weigh_wrap, e1, e2, e3]
  have key := Lib.hid key
  go_enter Try.func55, Try.ntmps55
  go_wp2_with fail
  go_ret
  refine ⟨?_, rfl⟩
  rw [← key.out]
  rfl
theorem infoPt : (Try.prog.info? 52).map (fun i => (i.zero, i.size, i.bytes)) = some (some (.agg #[.int .i64 0, .int .i64 0]), 2, 16) := by kernel_rfl
/-- A row of points without their kind, of a call's own. -/
def encT : List (Int × Int) → List Value
  | [] => []
  | t :: ts => .int .i64 t.1 :: .int .i64 t.2 :: encT ts
theorem encT_len (ts : List (Int × Int)) : (encT ts).length = ts.length * 2 := by
  induction ts with
  | nil => rfl
  | cons p ps ih => simp only [encT, List.length_cons, ih]; omega
theorem encT_app (ts us : List (Int × Int)) : encT (ts ++ us) = encT ts ++ encT us := by
  induction ts with
  | nil => rfl
  | cons p ps ih => simp only [encT, List.cons_append, ih]
def TRow (W : World) (B : Nat) (v : Value) (ts : List (Int × Int)) : Prop := W.ownsRow B 52 2 v ts.length (encT ts)
theorem TRow.snoc {W : World} {B : Nat} {v : Value} {ts : List (Int × Int)} {n : Nat} {x y : Int} (hn : ts.length = n) (h : W.ownsRow B 52 2 v (n + 1) (encT ts ++ [.int .i64 x, .int .i64 y])) : TRow W B v (ts ++ [(x, y)]) := by
  unfold TRow
  rw [encT_app, List.length_append, hn]
  exact h

/-- The ends of a curve's lines, the first k. -/
def linesO (a c b : Pn) (k : Nat) : List (Int × Int) := (List.range k).map fun (i : Nat) => (weighO ((i : Int) + 1) a.x c.x b.x, weighO ((i : Int) + 1) a.y c.y b.y)
theorem linesO_succ (a c b : Pn) (k : Nat) : linesO a c b (k + 1) = linesO a c b k ++ [(weighO ((k : Int) + 1) a.x c.x b.x, weighO ((k : Int) + 1) a.y c.y b.y)] := by
  unfold linesO
  rw [List.range_succ, List.map_append]
  rfl
theorem linesO_len (a c b : Pn) (k : Nat) : (linesO a c b k).length = k := by unfold linesO; simp

/-- What has happened since w: but for the row in g, and what is new, all is as it was; the row lies in g, or in a block made behind H. -/
structure Grew (w : World) (g H g' : Nat) (W : World) : Prop where
  grown : w.grownBy W (some g)
  lies : g' = g ∨ H ≤ g'
  lt : g' < W.heap.size
theorem Grew.step {w W W' : World} {g H g' g2 : Nat} (h : Grew w g H g' W) (hH : w.heap.size ≤ H) (hW : H ≤ W.heap.size) (hg : W.grownBy W' (some g')) (hat : some g' = some g2 ∨ g2 = W.heap.size) (hlt : g2 < W'.heap.size) : Grew w g H g2 W' := by
  obtain ⟨⟨g1, g2', g3, g4, g5⟩, l, t⟩ := h
  refine ⟨⟨hg.os.trans g1, hg.tape.trans g2', hg.output.trans g3, Nat.le_trans g4 hg.size, fun k hk hne => ?_⟩, ?_, hlt⟩
  · refine (hg.block k (Nat.lt_of_lt_of_le hk g4) ?_).trans (g5 k hk hne)
    intro e
    simp only [Option.some.injEq] at e
    rcases l with rfl | l
    · exact hne (by rw [e])
    · omega
  · rcases hat with e | rfl
    · simp only [Option.some.injEq] at e
      subst e
      exact l
    · exact .inr hW
theorem Grew.alloc {w W : World} {g H g' : Nat} (h : Grew w g H g' W) (o : Obj) : Grew w g H g' (W.alloc o) := by
  obtain ⟨⟨g1, g2, g3, g4, g5⟩, l, t⟩ := h
  exact ⟨⟨g1, g2, g3, by simp; omega, fun k hk hne => (by simp only [World.alloc]; rw [Array.getElem?_push_lt (by omega), Array.getElem?_eq_getElem (by omega)] : (W.alloc o).heap[k]? = W.heap[k]?).trans (g5 k hk hne)⟩, l, by simp; omega⟩
theorem Grew.drew {w W : World} {g H g' : Nat} (h : Grew w g H g' W) : Grew w g H g' W.drew := by
  obtain ⟨⟨g1, g2, g3, g4, g5⟩, l, t⟩ := h
  exact ⟨⟨g1, g2, g3, g4, g5⟩, l, t⟩

theorem Grew.refl (w : World) (g H : Nat) (h : g < w.heap.size) : Grew w g H g w := ⟨⟨rfl, rfl, rfl, Nat.le_refl _, fun _ _ _ => rfl⟩, .inl rfl, h⟩
theorem Grew.mono {w W : World} {g H H' g' : Nat} (h : Grew w g H g' W) (hH : H' ≤ H) : Grew w g H' g' W := ⟨h.grown, by rcases h.lies with h | h; exact .inl h; exact .inr (by omega), h.lt⟩
set_option maxHeartbeats 2000000 in
theorem curve_any (a c b : Pn) (ts : List (Int × Int)) (B g cap : Nat) (w : World) (hr : TRow w B (.slice (some ⟨g, 0, none⟩) ts.length cap) ts) (hB : B ≤ w.heap.size) (hn : ts.length ≤ 100000000) (hgl : g < w.heap.size) :
    Calls Try.prog 51 #[.slice (some ⟨g, 0, none⟩) ts.length cap, .agg #[.int .i64 a.x, .int .i64 a.y, .bool a.on], .agg #[.int .i64 c.x, .int .i64 c.y, .bool c.on], .agg #[.int .i64 b.x, .int .i64 b.y, .bool b.on]] w fun e w' => ∃ g' cap', e = .returned (.slice (some ⟨g', 0, none⟩) (ts.length + 8) cap') ∧ TRow w' B (.slice (some ⟨g', 0, none⟩) (ts.length + 8) cap') (ts ++ linesO a c b 8) ∧ Grew w g w.heap.size g' w' := by
  obtain ⟨i0, hi, hz0, hz1, hz2⟩ := info_parts infoPt
  have HL := Lib.hid (linesO_succ a c b)
  have HN := Lib.hid (linesO_len a c b)
  have HW := Lib.hid (fun (k : Nat) (W : World) (h : k < 8) => (And.intro (weighed_any ((k : Int) + 1) a.x c.x b.x W (by omega) (by omega)) (weighed_any ((k : Int) + 1) a.y c.y b.y W (by omega) (by omega))))
  generalize hLO : linesO a c b = LO at *
  have HLO := Lib.hid hLO
  obtain ⟨ax, ay, ao⟩ := a
  obtain ⟨cx, cy, co⟩ := c
  obtain ⟨bx, yb, bo⟩ := b
  simp only at HL HW
  clear hLO
  go_enter Try.func51, Try.ntmps51
  go_wp2_with fail
  go_loopw [0, 9] (fun r i wr => ∃ (k g' cap' : Nat), k ≤ 8 ∧ i = .int .i64 ((k : Int) + 1) ∧ r = .slice (some ⟨g', 0, none⟩) (ts.length + k) cap' ∧ TRow wr B r (ts ++ LO k) ∧ Grew w g (w.heap.size + 3) g' wr ∧ w.heap.size + 3 ≤ wr.heap.size ∧ wr.cell? ⟨w.heap.size, 0, none⟩ = some (.int .i64 ax) ∧ wr.cell? ⟨w.heap.size, 1, none⟩ = some (.int .i64 ay) ∧ wr.cell? ⟨w.heap.size + 1, 0, none⟩ = some (.int .i64 cx) ∧ wr.cell? ⟨w.heap.size + 1, 1, none⟩ = some (.int .i64 cy) ∧ wr.cell? ⟨w.heap.size + 1 + 1, 0, none⟩ = some (.int .i64 bx) ∧ wr.cell? ⟨w.heap.size + 1 + 1, 1, none⟩ = some (.int .i64 yb)) (fun _ i _ => (9 - intOf i).toNat)
  case atStart =>
    refine ⟨0, g, cap, by omega, by go_num, rfl, ?_, (((Grew.refl w g _ hgl).alloc _).alloc _).alloc _, by simp, by simp [go_sem], by simp [go_sem], by simp [go_sem], by simp [go_sem], by simp [go_sem], by simp [go_sem]⟩
    rw [List.eq_nil_of_length_eq_zero (HN.out 0), List.append_nil]
    exact ((hr.alloc _).alloc _).alloc _
  case round =>
    obtain ⟨k, g', cap', hk, rfl, rfl, hown, hG, hz, c1, c2, c3, c4, c5, c6⟩ := hrel
    by_cases hlt : k < 8
    · have HX := Lib.hid (fun W => (HW.out k W hlt).1)
      have HY := Lib.hid (fun W => (HW.out k W hlt).2)
      generalize hX : weighO ((k : Int) + 1) ax cx bx = X at *
      generalize hY : weighO ((k : Int) + 1) ay cy yb = Y at *
      have hs : LO (k + 1) = LO k ++ [(X, Y)] := by rw [HL.out k, hX, hY]
      have hs := Lib.hid hs
      have hlen : (ts ++ LO k).length = ts.length + k := by rw [List.length_append, HN.out k]
      have hown : wr.ownsRow B 52 2 (.slice (some ⟨g', 0, none⟩) (ts.length + k) cap') (ts.length + k) (encT (ts ++ LO k)) := by rw [← hlen]; rw [← hlen] at hown; exact hown
      have hne0 : g' ≠ w.heap.size := by rcases hG.lies with h | h <;> omega
      have hne1 : g' ≠ w.heap.size + 1 := by rcases hG.lies with h | h <;> omega
      have hne2 : g' ≠ w.heap.size + 1 + 1 := by rcases hG.lies with h | h <;> omega
      have HL2 := Lib.hid hlen
      clear hX hY HW HL hlen HN HLO
      generalize hEN : encT (ts ++ LO k) = EN at *
      have hEN := Lib.hid hEN
      go_wp2_with fail
      go_region_held3 (fun w' => w'.cell? ⟨w.heap.size, 0, none⟩ = some (.int .i64 ax) ∧ w'.cell? ⟨w.heap.size, 1, none⟩ = some (.int .i64 ay) ∧ w'.cell? ⟨w.heap.size + 1, 0, none⟩ = some (.int .i64 cx) ∧ w'.cell? ⟨w.heap.size + 1, 1, none⟩ = some (.int .i64 cy) ∧ w'.cell? ⟨w.heap.size + 1 + 1, 0, none⟩ = some (.int .i64 bx) ∧ w'.cell? ⟨w.heap.size + 1 + 1, 1, none⟩ = some (.int .i64 yb)) (first | go_keep | (go_split_ands; refine ⟨?_, ?_, ?_, ?_, ?_, ?_⟩ <;> (rw [hgrow.cell_far _ (by simp; omega) (by simp [Value.ownBlock]; omega)]; assumption)))
        (first | (go_at_call 55; (first | with_reducible refine (HX.out _).mono ?_ | with_reducible refine (HY.out _).mono ?_); rintro e w' ⟨rfl, rfl⟩) | (refine step_append_lies _ (by rfl) _ _ _ (by rfl) B 52 i0 _ 2 16 Try.underlying42 hi hz0 hz1 hz2 rfl (by omega) (.slice (some ⟨g', 0, none⟩) (ts.length + k) cap') (ts.length + k) EN (by rfl) ((hown.alloc _).drew) ⟨wr.heap.size, 0, none⟩ 1 1 [.int .i64 X, .int .i64 Y] (by rfl) (by rfl) (World.news_of_block (cs := #[.int .i64 X, .int .i64 Y]) (t := 52) (fr := (0, 0)) (heap_alloc_new wr _)) (by simp [Value.oneCell']) (by omega) (by unfold maxLen; omega) (by omega) (by simp; omega) (wr.heap.size + 1) (by simp) ?_; intro gg cap2 w1 hown1 hgrow hat hlt2))
      have hG2 : Grew w g (w.heap.size + 3) gg w1 := Grew.step ((hG.alloc _).drew) (by omega) (by simp; omega) hgrow (by simpa [Value.ownBlock] using hat) hlt2
      have hrow : TRow w1 B (.slice (some ⟨gg, 0, none⟩) (ts.length + k + 1) cap2) (ts ++ LO (k + 1)) := by
        rw [hs.out, ← List.append_assoc]
        exact TRow.snoc HL2.out (by rw [hEN.out]; exact hown1)
      have hz2 : w.heap.size + 3 ≤ w1.heap.size := by have := hgrow.size; simp at this; omega
      have hc : ∀ (b o : Nat) (v : Value), b < wr.heap.size → g' ≠ b → wr.cell? ⟨b, o, none⟩ = some v → w1.cell? ⟨b, o, none⟩ = some v := fun b o v hb hn h => (hgrow.cell_far _ (by simp; omega) (by simp [Value.ownBlock]; omega)).trans (by simp [go_sem, h, hb])
      have d1 := hc _ _ _ (by omega) hne0 c1
      have d2 := hc _ _ _ (by omega) hne0 c2
      have d3 := hc _ _ _ (by omega) hne1 c3
      have d4 := hc _ _ _ (by omega) hne1 c4
      have d5 := hc _ _ _ (by omega) hne2 c5
      have d6 := hc _ _ _ (by omega) hne2 c6
      clear hgrow hown1 hown hG hat hc c1 c2 c3 c4 c5 c6
      go_wp2_with fail
      go_roundw
      case rel => exact ⟨k + 1, gg, cap2, by omega, by go_num, rfl, hrow, hG2, hz2, d1, d2, d3, d4, d5, d6⟩
      case measure => simp [intOf]; omega
    · obtain rfl : k = 8 := by omega
      go_wp2_with fail
      go_ret
      exact ⟨g', cap', rfl, hown, hG.mono (by omega)⟩
end Go.Proofs.Ytenmgbcbnofcmaa
