/- The contracts of Box (of any outline), square. -/
import Derived.Test.YtenmgbcbnofcmaaOutSame
import Derived.Test.YtenmgbcbnofcmaaOutBox
import Derived.Test.YtenmgbcbnofcmaaOutMoved
namespace Go.Proofs.Ytenmgbcbnofcmaa
open Go.RowKit

set_option maxHeartbeats 1000000 in
theorem box_none (p1 : Option Addr) (c1 : Nat) (p2 : Option Addr) (n2 c2 : Nat) (w : World) :
    Calls Try.prog 16 #[.agg #[.slice p1 0 c1, .slice p2 n2 c2]] w (BoxR 0 0 0 0 false w) := by
  go_enter Try.func16, Try.ntmps16
  go_wp2_with fail
  refine bodyPost_ret (v := .tuple #[.agg #[.int .i64 0, .int .i64 0, .bool false], .agg #[.int .i64 0, .int .i64 0, .bool false], .bool false]) (by simp [results, Try.results16, go_sem]) rfl ⟨rfl, (((Below.refl _ _).alloc (Nat.le_refl _) _).alloc (by simp) _).alloc (by simp; omega) _⟩
theorem box_any (v1 v2 : Value) (ps : List Pn) (w : World) (h1 : PtsAt w v1 ps) (h2 : ∃ p n c, v2 = .slice p n c) (hl : ps.length ≤ 9223372036854775807) :
    Calls Try.prog 16 #[.agg #[v1, v2]] w (BoxR (lowX ps) (lowY ps) (highX ps) (highY ps) (decide (0 < ps.length)) w) := by
  by_cases hp : 0 < ps.length
  · rw [decide_eq_true hp]
    exact box_some v1 v2 ps w h1 hp h2 hl
  · rw [decide_eq_false hp]
    obtain ⟨p2, n2, c2, rfl⟩ := h2
    obtain ⟨p1, c1, rfl⟩ := h1.len
    obtain rfl : ps = [] := List.length_eq_zero_iff.1 (by omega)
    exact box_none p1 c1 p2 n2 c2 w

def sqP : List Pn := [⟨0, 0, true⟩, ⟨4, 0, true⟩, ⟨4, 4, true⟩, ⟨0, 4, true⟩]
/-- An outline, wherever it lies. -/
def OAt (W : World) (x : Value) (ps : List Pn) (es : List Int) : Prop := ∃ v1 v2, x = .agg #[v1, v2] ∧ PtsAt W v1 ps ∧ EndsAt W v2 es
theorem OAt.on {W W' : World} {x : Value} {ps : List Pn} {es : List Int} (h : OAt W x ps es) (hb : Below W.heap.size W W') : OAt W' x ps es := by
  obtain ⟨v1, v2, h1, h2, h3⟩ := h
  exact ⟨v1, v2, h1, h2.on hb, h3.on hb⟩
theorem OutIs.at {W : World} {x : Value} {B : Nat} {ps : List Pn} {es : List Int} (h : OutIs ps es B W x) : OAt W x ps es := by
  obtain ⟨m, p1, c1, p2, c2, h1, h2, h3, -⟩ := h
  exact ⟨_, _, h1, h2.at, h3.at⟩
set_option maxHeartbeats 1000000 in
theorem square_any (w : World) : Calls Try.prog 35 #[] w fun e w' => ∃ x, e = .returned x ∧ OAt w' x sqP [3] ∧ Below w.heap.size w w' := by
  go_enter Try.func35, Try.ntmps35
  go_wp2_with fail
  refine bodyPost_ret (v := .agg #[.slice (some ⟨w.heap.size + 1, 0, none⟩) 4 4, .slice (some ⟨w.heap.size + 1 + 1, 0, none⟩) 1 1]) (by simp [results, Try.results35, go_sem]) rfl ⟨_, rfl, ⟨_, _, rfl, .inr ⟨_, _, rfl, by simp, by decide, by unfold maxLen; omega, fun i hi => ?_⟩, .inr ⟨_, _, rfl, by simp, by decide, by unfold maxLen; omega, fun i hi => ?_⟩⟩, (((Below.refl _ _).alloc (Nat.le_refl _) _).alloc (by simp) _).alloc (by simp; omega) _⟩
  · have hi : i < 4 := hi
    have hi4 : i = 0 ∨ i = 1 ∨ i = 2 ∨ i = 3 := by omega
    rcases hi4 with rfl | rfl | rfl | rfl <;> simp [go_sem, sqP]
  · have hi : i < 1 := hi
    obtain rfl : i = 0 := by omega
    simp [go_sem]
/-- Cells that hold what they hold. -/
def Cs (L : List (Addr × Value)) (W : World) : Prop := ∀ p ∈ L, W.cell? p.1 = some p.2
theorem Cs.next {L : List (Addr × Value)} {W W' : World} (h : Cs L W) (hb : Below W.heap.size W W') : Cs L W' := fun p hp => (hb.cell (cell_lt (h p hp))).trans (h p hp)
theorem Cs.cons {L : List (Addr × Value)} {W : World} {a : Addr} {u : Value} (h : Cs L W) (hc : W.cell? a = some u) : Cs ((a, u) :: L) W := fun p hp => by
  rcases List.mem_cons.1 hp with rfl | hp
  · exact hc
  · exact h p hp
theorem rev_sq : revO sqP [3] = [⟨0, 0, true⟩, ⟨0, 4, true⟩, ⟨4, 4, true⟩, ⟨4, 0, true⟩] := by decide +kernel
theorem mov_sq : movedO 1 2 sqP = [⟨1, 2, true⟩, ⟨5, 2, true⟩, ⟨5, 6, true⟩, ⟨1, 6, true⟩] := by decide +kernel
theorem area_sq : areaO sqP [3] = 32 := by decide +kernel
theorem area_rev : areaO [⟨0, 0, true⟩, ⟨0, 4, true⟩, ⟨4, 4, true⟩, ⟨4, 0, true⟩] [3] = -32 := by decide +kernel
theorem lines_sq : linesR [(0, 0), (64, 0), (64, 64)] [true, false, true] [2] = [[(0, 0), (15, 1), (28, 4), (39, 9), (48, 16), (55, 25), (60, 36), (63, 49), (64, 64)]] := by decide +kernel
theorem right_sq : rightO sqP [3] = true := by decide +kernel
theorem right_no : rightO [] [0] = false := by decide +kernel

theorem OAt.form {W : World} {x : Value} {ps : List Pn} {es : List Int} (h : OAt W x ps es) : ∃ p1 c1 p2 c2, x = .agg #[.slice p1 ps.length c1, .slice p2 es.length c2] := by
  obtain ⟨v1, v2, rfl, h1, h2⟩ := h
  obtain ⟨p1, c1, rfl⟩ := h1.len
  obtain ⟨p2, c2, rfl⟩ := h2.len
  exact ⟨_, _, _, _, rfl⟩
theorem Cs.get {L : List (Addr × Value)} {W : World} (h : Cs L W) (i : Nat) {a : Addr} {u : Value} (hi : L[i]? = some (a, u)) : W.cell? a = some u := h (a, u) (List.mem_of_getElem? hi)
theorem Cs.alloc {L : List (Addr × Value)} {W : World} (h : Cs L W) (o : Obj) : Cs L (W.alloc o) := h.next ((Below.refl _ _).alloc (Nat.le_refl _) o)
theorem Cs.box2 {L : List (Addr × Value)} {W : World} (h : Cs L W) (u v : Value) (T : TypeId) : Cs ((⟨W.heap.size, 0, none⟩, u) :: (⟨W.heap.size, 1, none⟩, v) :: L) (W.alloc (.cells #[u, v] T)) := ((h.alloc _).cons (by simp [go_sem])).cons (by simp [go_sem])
theorem Cs.box3 {L : List (Addr × Value)} {W : World} (h : Cs L W) (u v x : Value) (T : TypeId) : Cs ((⟨W.heap.size, 0, none⟩, u) :: (⟨W.heap.size, 1, none⟩, v) :: (⟨W.heap.size, 2, none⟩, x) :: L) (W.alloc (.cells #[u, v, x] T)) := (((h.alloc _).cons (by simp [go_sem])).cons (by simp [go_sem])).cons (by simp [go_sem])
theorem Cs.nil (W : World) : Cs [] W := fun p hp => by cases hp
theorem balloc (W : World) (o : Obj) : Below W.heap.size W (W.alloc o) := (Below.refl _ _).alloc (Nat.le_refl _) o
theorem balloc2 (W : World) (o o' : Obj) : Below W.heap.size W ((W.alloc o).alloc o') := sames (balloc W o) (balloc _ o')
theorem balloc3 (W : World) (o o' o'' : Obj) : Below W.heap.size W (((W.alloc o).alloc o').alloc o'') := sames (balloc2 W o o') (balloc _ o'')
theorem below_at {B : Nat} {W W' : World} (h : Below B W W') (e : B = W.heap.size) : Below W.heap.size W W' := e ▸ h
theorem ts_sq (W : World) (o o' : Obj) : TsAt (((W.alloc (.cells #[.int .i64 0, .int .i64 0, .int .i64 64, .int .i64 0, .int .i64 64, .int .i64 64] 52)).alloc o).alloc o') (.slice (some ⟨W.heap.size, 0, none⟩) 3 3) [(0, 0), (64, 0), (64, 64)] := by
  refine .inr ⟨_, _, rfl, by simp; omega, by decide, by unfold maxLen; omega, fun i hi => ?_⟩
  have hi : i < 3 := hi
  have hi4 : i = 0 ∨ i = 1 ∨ i = 2 := by omega
  rcases hi4 with rfl | rfl | rfl <;> simp [go_sem]
theorem bs_sq (W : World) (o : Obj) : BsAt ((W.alloc (.cells #[.bool true, .bool false, .bool true] 4)).alloc o) (.slice (some ⟨W.heap.size, 0, none⟩) 3 3) [true, false, true] := by
  refine .inr ⟨_, _, rfl, by simp; omega, by decide, by unfold maxLen; omega, fun i hi => ?_⟩
  have hi : i < 3 := hi
  have hi4 : i = 0 ∨ i = 1 ∨ i = 2 := by omega
  rcases hi4 with rfl | rfl | rfl <;> simp [go_sem]
theorem es_one (W : World) (n : Int) : EndsAt (W.alloc (.cells #[.int .i64 n] 3)) (.slice (some ⟨W.heap.size, 0, none⟩) 1 1) [n] := by
  refine .inr ⟨_, _, rfl, by simp, by simp, by unfold maxLen; omega, fun i hi => ?_⟩
  have hi : i < 1 := hi
  obtain rfl : i = 0 := by omega
  simp [go_sem]
def wantT : List (Int × Int) := [(0, 0), (15, 1), (28, 4), (39, 9), (48, 16), (55, 25), (60, 36), (63, 49), (64, 64)]
theorem ts_want (W : World) : TsAt (W.alloc (.cells #[.int .i64 0, .int .i64 0, .int .i64 15, .int .i64 1, .int .i64 28, .int .i64 4, .int .i64 39, .int .i64 9, .int .i64 48, .int .i64 16, .int .i64 55, .int .i64 25, .int .i64 60, .int .i64 36, .int .i64 63, .int .i64 49, .int .i64 64, .int .i64 64] 52)) (.slice (some ⟨W.heap.size, 0, none⟩) 9 9) wantT := by
  refine .inr ⟨_, _, rfl, by simp, by decide, by unfold maxLen; omega, fun i hi => ?_⟩
  have hi : i < 9 := hi
  have hi4 : i = 0 ∨ i = 1 ∨ i = 2 ∨ i = 3 ∨ i = 4 ∨ i = 5 ∨ i = 6 ∨ i = 7 ∨ i = 8 := by omega
  rcases hi4 with rfl | rfl | rfl | rfl | rfl | rfl | rfl | rfl | rfl <;> simp [go_sem, wantT]
set_option maxHeartbeats 4000000 in
theorem drawn_any (w : World) : Calls Try.prog 18 #[] w (BoolIs true w) := by
  have HSq := Lib.hid square_any
  go_enter Try.func18, Try.ntmps18
  go_wp2_with fail
  refine (HSq.out _).mono ?_
  rintro e w1 ⟨x, rfl, ⟨o1, o2, rfl, ho1, ho2⟩, hb1⟩
  obtain ⟨p1, c1, rfl⟩ := ho1.len
  obtain ⟨p2, c2, rfl⟩ := ho2.len
  have hBox : Calls Try.prog 16 #[.agg #[.slice p1 4 c1, .slice p2 1 c2]] (w1.alloc (.cells #[.slice p1 4 c1, .slice p2 1 c2] 25)) (BoxR 0 0 4 4 true (w1.alloc (.cells #[.slice p1 4 c1, .slice p2 1 c2] 25))) := box_any _ (.slice p2 1 c2) sqP _ (ho1.on (balloc _ _)) ⟨_, _, _, rfl⟩ (by decide)
  have C1 := (Cs.nil w1).box2 (.slice p1 4 c1) (.slice p2 1 c2) 25
  rw [show sqP.length = 4 from rfl] at *
  rw [show ([3] : List Int).length = 1 from rfl] at *
  go_wp2_with fail
  refine hBox.mono ?_
  rintro e w2 ⟨rfl, hb2⟩
  have B2 : Below w1.heap.size w1 w2 := sames (balloc w1 _) hb2
  have C2 := (C1.next hb2).box3 (.int .i64 0) (.int .i64 0) (.bool false) 33 |>.box3 (.int .i64 4) (.int .i64 4) (.bool false) 33
  clear hBox C1
  go_wp2_with fail
  refine (box_none none 0 none 0 0 _).mono ?_
  rintro e w3 ⟨rfl, hb3⟩
  have B3 : Below w1.heap.size w1 w3 := sames B2 (sames (balloc2 w2 _ _) hb3)
  have C3 := C2.next hb3
  have z3 := hb3.size
  have z2 := B2.size
  clear C2
  have k1 := C3.get 6 rfl
  have k2 := C3.get 7 rfl
  have l1 := cell_lt k1
  simp only at l1
  go_wp2_with fail
  have B3' := sames B3 (balloc2 w3 (.cells #[.int .i64 0, .int .i64 0, .bool false] 33) (.cells #[.int .i64 0, .int .i64 0, .bool false] 33))
  have hRev := reversed_any _ _ sqP [3] _ (ho1.on B3') (ho2.on B3') (by decide) (by decide)
  rw [rev_sq] at hRev
  refine hRev.mono ?_
  rintro e w4 ⟨x, rfl, hx4, hb4⟩
  have B4 : Below w1.heap.size w1 w4 := sames B3' hb4
  have C4 := (C3.next (balloc2 w3 _ _)).next hb4
  obtain ⟨r1, r2, rfl, hr1, hr2⟩ := hx4.at
  obtain ⟨q1, d1, rfl⟩ := hr1.len
  obtain ⟨q2, d2, rfl⟩ := hr2.len
  try rw [show ([⟨0, 0, true⟩, ⟨0, 4, true⟩, ⟨4, 4, true⟩, ⟨4, 0, true⟩] : List Pn).length = 4 from rfl] at *
  try rw [show ([3] : List Int).length = 1 from rfl] at *
  have C4 := C4.box2 (.slice q1 4 d1) (.slice q2 1 d2) 25
  have z4 := hb4.size
  clear hRev hx4 k1 k2 l1 C3
  have k1 := C4.get 8 rfl
  have k2 := C4.get 9 rfl
  have l1 := cell_lt k1
  simp only at l1
  have B4' := sames B4 (balloc w4 (.cells #[.slice q1 4 d1, .slice q2 1 d2] 25))
  have hMov := moved_any _ _ sqP [3] 1 2 _ (ho1.on B4') (ho2.on B4') (by decide) (by decide)
  rw [mov_sq] at hMov
  try rw [show sqP.length = 4 from rfl] at *
  try rw [show ([3] : List Int).length = 1 from rfl] at *
  go_wp2_with fail
  refine hMov.mono ?_
  rintro e w5 ⟨x, rfl, hx5, hb5⟩
  have B5 : Below w1.heap.size w1 w5 := sames B4' hb5
  have B54 : Below w4.heap.size w4 w5 := sames (balloc w4 _) hb5
  have C5 := C4.next hb5
  obtain ⟨m1, m2, rfl, hm1, hm2⟩ := hx5.at
  obtain ⟨f1, g1, rfl⟩ := hm1.len
  obtain ⟨f2, g2, rfl⟩ := hm2.len
  try rw [show ([⟨1, 2, true⟩, ⟨5, 2, true⟩, ⟨5, 6, true⟩, ⟨1, 6, true⟩] : List Pn).length = 4 from rfl] at *
  try rw [show ([3] : List Int).length = 1 from rfl] at *
  have C5 := C5.box2 (.slice f1 4 g1) (.slice f2 1 g2) 25
  have z5 := hb5.size
  clear hMov hx5 k1 k2 l1 C4
  have B5' := sames B5 (balloc w5 (.cells #[.slice f1 4 g1, .slice f2 1 g2] 25))
  have b54' := sames B54 (balloc w5 (.cells #[.slice f1 4 g1, .slice f2 1 g2] 25))
  have hm1' := hm1.on (balloc w5 (.cells #[.slice f1 4 g1, .slice f2 1 g2] 25))
  have HL := Lib.hid (fun W => lines_any _ _ _ _ _ _ _ (ts_sq W (.cells #[.bool true, .bool false, .bool true] 4) (.cells #[.int .i64 2] 3)) (bs_sq (W.alloc (.cells #[.int .i64 0, .int .i64 0, .int .i64 64, .int .i64 0, .int .i64 64, .int .i64 64] 52)) (.cells #[.int .i64 2] 3)) (es_one ((W.alloc (.cells #[.int .i64 0, .int .i64 0, .int .i64 64, .int .i64 0, .int .i64 64, .int .i64 64] 52)).alloc (.cells #[.bool true, .bool false, .bool true] 4)) 2) (by decide) (by decide))
  have hL := HL.out (w5.alloc (.cells #[.slice f1 4 g1, .slice f2 1 g2] 25))
  rw [lines_sq] at hL
  simp only [World.size_alloc] at hL
  clear HL
  go_wp2_with fail
  refine hL.mono ?_
  rintro e w6 ⟨v6, rfl, hr6, hb6⟩
  have hb6 := below_at hb6 (by simp)
  have C6 := (C5.next (balloc3 _ (.cells #[.int .i64 0, .int .i64 0, .int .i64 64, .int .i64 0, .int .i64 64, .int .i64 64] 52) (.cells #[.bool true, .bool false, .bool true] 4) (.cells #[.int .i64 2] 3))).next hb6
  have B56 : Below w5.heap.size w5 w6 := sames (sames (balloc w5 _) (balloc3 _ _ _ _)) hb6
  have B6 : Below w1.heap.size w1 w6 := sames B5 B56
  have hr1' := hr1.on (sames B54 B56)
  have hr2' := hr2.on (sames B54 B56)
  have hm1'' := hm1.on B56
  clear hL hm1 hm1' hr1 hr2 hm2 C5 b54' B5' B4' B3' hb6 hb5 hb4 hb3 hb2
  have z6 := B56.size
  have ho1 := ho1.on B6
  have ho2 := ho2.on B6
  rcases hr6.at with ⟨-, h⟩ | ⟨a6, c6, rfl, hg6, -, -, hc6⟩
  · cases h
  obtain ⟨u6, hu6, ht6⟩ := hc6 0 (by decide)
  rw [Addr.add_zero'] at hu6
  have ht6 : TsAt w6 u6 wantT := ht6
  rw [show ([[(0, 0), (15, 1), (28, 4), (39, 9), (48, 16), (55, 25), (60, 36), (63, 49), (64, 64)]] : List (List (Int × Int))).length = 1 from rfl] at *
  clear hr6 hc6 B56 B54 B5 B4 B3 B2
  have k1 := C6.get 0 rfl
  have k2 := C6.get 2 rfl
  have n1 := cell_lt k1
  have n2 := cell_lt k2
  simp only at n1 n2
  have HRt := Lib.hid (fun (W : World) (hb : Below w6.heap.size w6 W) => show Calls Try.prog 19 #[.agg #[.slice p1 4 c1, .slice p2 1 c2]] W (BoolIs true W) from by have h := right_any _ _ sqP [3] W (ho1.on hb) (ho2.on hb); rwa [right_sq] at h)
  have HAr := Lib.hid (fun (W : World) (hb : Below w6.heap.size w6 W) => show Calls Try.prog 21 #[.agg #[.slice p1 4 c1, .slice p2 1 c2]] W (IntIs 32 W) from by have h := area_any _ _ sqP [3] W (ho1.on hb) (ho2.on hb) (by decide) (by decide); rwa [area_sq] at h)
  have HArR := Lib.hid (fun (W : World) (hb : Below w6.heap.size w6 W) => show Calls Try.prog 21 #[.agg #[.slice q1 4 d1, .slice q2 1 d2]] W (IntIs (-32) W) from by have h := area_any _ _ [⟨0, 0, true⟩, ⟨0, 4, true⟩, ⟨4, 4, true⟩, ⟨4, 0, true⟩] [3] W (hr1'.on hb) (hr2'.on hb) (by decide) (by decide); rwa [area_rev] at h)
  have HNo := Lib.hid (fun (W : World) => show Calls Try.prog 19 #[.agg #[.slice none 0 0, .slice (some ⟨W.heap.size, 0, none⟩) 1 1]] (W.alloc (.cells #[.int .i64 0] 3)) (BoolIs false (W.alloc (.cells #[.int .i64 0] 3))) from by have h := right_any _ _ [] [0] _ (.inl ⟨rfl, rfl⟩) (es_one W 0); rwa [right_no] at h)
  have C7 := C6.next (balloc w6 (.cells #[.int .i64 0, .int .i64 0, .int .i64 15, .int .i64 1, .int .i64 28, .int .i64 4, .int .i64 39, .int .i64 9, .int .i64 48, .int .i64 16, .int .i64 55, .int .i64 25, .int .i64 60, .int .i64 36, .int .i64 63, .int .i64 49, .int .i64 64, .int .i64 64] 52))
  have hw7 := ts_want w6
  obtain ⟨w7, e7⟩ : ∃ w7, (w6.alloc (.cells #[.int .i64 0, .int .i64 0, .int .i64 15, .int .i64 1, .int .i64 28, .int .i64 4, .int .i64 39, .int .i64 9, .int .i64 48, .int .i64 16, .int .i64 55, .int .i64 25, .int .i64 60, .int .i64 36, .int .i64 63, .int .i64 49, .int .i64 64, .int .i64 64] 52)) = w7 := ⟨_, rfl⟩
  have B7 : Below w6.heap.size w6 w7 := by rw [← e7]; exact balloc _ _
  rw [e7] at hw7 C7
  have j1 := C7.get 10 rfl
  have j2 := C7.get 11 rfl
  go_wp2_with fail
  refine (HRt.out _ B7).mono ?_
  rintro e w8 ⟨rfl, hb8⟩
  have B8 := sames B7 hb8
  go_wp2_with fail
  refine (HNo.out w8).mono ?_
  rintro e w9 ⟨rfl, hb9⟩
  have B89 := sames (balloc w8 _) hb9
  have B9 := sames B8 B89
  have C9 := (C7.next hb8).next B89
  clear j1 j2 HRt HNo
  have j1 := C9.get 10 rfl
  have j2 := C9.get 11 rfl
  go_wp2_with fail
  refine (HAr.out _ B9).mono ?_
  rintro e w10 ⟨rfl, hb10⟩
  have B10 := sames B9 hb10
  have C10 := C9.next hb10
  clear j1 j2 HAr
  have j1 := C10.get 2 rfl
  have j2 := C10.get 3 rfl
  go_wp2_with fail
  refine (HArR.out _ B10).mono ?_
  rintro e w11 ⟨rfl, hb11⟩
  have B11 := sames B10 hb11
  have C11 := C10.next hb11
  clear j1 j2 HArR
  have j1 := C11.get 2 rfl
  have j2 := C11.get 0 rfl
  have x0 := C11.get 7 rfl
  have x1 := C11.get 8 rfl
  have x2 := C11.get 9 rfl
  have y0 : w11.cell? ⟨w2.heap.size + 1, 0, none⟩ = some (.int .i64 4) := by have h := C11.get 4 rfl; simpa using h
  have y1 : w11.cell? ⟨w2.heap.size + 1, 1, none⟩ = some (.int .i64 4) := by have h := C11.get 5 rfl; simpa using h
  have y2 : w11.cell? ⟨w2.heap.size + 1, 2, none⟩ = some (.bool false) := by have h := C11.get 6 rfl; simpa using h
  rcases hr1'.on B11 with ⟨-, h⟩ | ⟨qa, qc, hq, -, -, -, hqc⟩
  · cases h
  obtain ⟨-, r1, -⟩ := hqc 1 (by decide)
  simp only [Value.slice.injEq] at hq
  obtain ⟨rfl, -⟩ := hq
  rcases hm1''.on B11 with ⟨-, h⟩ | ⟨fa, fc, hf, -, -, -, hfc⟩
  · cases h
  obtain ⟨-, r2, -⟩ := hfc 0 (by decide)
  simp only [Value.slice.injEq] at hf
  obtain ⟨rfl, -⟩ := hf
  rw [Nat.zero_mul, Addr.add_zero'] at r2
  rw [Nat.one_mul] at r1
  have r1 : w11.cell? ⟨(qa.add 3).block, (qa.add 3).off + 1, none⟩ = some (.int .i64 4) := r1
  have r2 : w11.cell? ⟨fa.block, fa.off + 1, none⟩ = some (.int .i64 2) := r2
  have r3 : w11.cell? ⟨qa.block, qa.off + 3 + 1, none⟩ = some (.int .i64 4) := by have h := r1; rwa [add_block, add_off] at h
  have r4 : w11.cell? ⟨qa.block, qa.off + 4, none⟩ = some (.int .i64 4) := r3
  have hu11 := (B11.cell (cell_lt hu6)).trans hu6
  have hSP := samePts_any _ _ wantT wantT w11 (ht6.on B11) (hw7.on (sames (sames (sames hb8 B89) hb10) hb11)) (by decide)
  rw [decide_eq_true (rfl : wantT = wantT)] at hSP
  clear hqc hfc C10 C9 C7 C6 hr1' hr2' hm1'' ho1 ho2 ht6 hw7
  go_wp2_with fail
  refine hSP.mono ?_
  rintro e w12 ⟨rfl, hb12⟩
  have Q := Lib.hid (sames hb1 (sames B6 (sames B11 hb12)))
  go_wp2_with fail
  go_ret
  exact ⟨rfl, Q.out⟩
end Go.Proofs.Ytenmgbcbnofcmaa
