/- The contract of the reference's Of. -/
import Derived.Test.YtnbloflgggndiaaRefNeg
namespace Go.Proofs.Ytnbloflgggndiaa
open Go.RowKit Rf Rt

/-- What is known of a world within a call whose result lies first. -/
structure F0 (w : World) (W : World) : Prop where
  bel : Below w.heap.size w W
  size : w.heap.size + 1 ≤ W.heap.size
  c5 : W.cell? ⟨w.heap.size, 0, none⟩ = some (.bool false)
  c6 : W.cell? ⟨w.heap.size, 1, none⟩ = some (.slice none 0 0)
  fz : ∀ o, W.frozen? ⟨w.heap.size, o, none⟩ = false
theorem F0.next {w W W' : World} (h : F0 w W) (hb : Below W.heap.size W W') : F0 w W' where
  bel := h.bel.trans (hb.mono h.bel.size)
  size := Nat.le_trans h.size hb.size
  c5 := by rw [hb.cell (by have := h.size; simp; omega)]; exact h.c5
  c6 := by rw [hb.cell (by have := h.size; simp; omega)]; exact h.c6
  fz := fun o => by rw [hb.frozen (by have := h.size; simp; omega)]; exact h.fz o
theorem F0.first (w : World) (T : TypeId) : F0 w (w.alloc (.cells #[.bool false, .slice none 0 0] T)) where
  bel := (Below.refl _ _).alloc (Nat.le_refl _) _
  size := by simp
  c5 := by simp [go_sem]
  c6 := by simp [go_sem]
  fz := fun o => by simp [go_sem]

/-- The four digits of what 64 bits hold. -/
def Rf.four (k : Nat) : List Nat := [k % 65536, k / 65536 % 65536, k / 4294967296 % 65536, k / 281474976710656]
theorem Rf.four_dig (k : Nat) (h : k < 18446744073709551616) : Dig (four k) := fun i => by
  unfold dd four
  rcases i with _ | _ | _ | _ | i <;> simp <;> omega
theorem Rf.four_is (k : Nat) : dv (four k) = k := by
  simp only [dv, four, List.length_cons, List.length_nil, ev, dd]
  simp
  omega

theorem sg_of (n : Int) : sg (decide (n < 0)) ((n.natAbs : Nat) : Int) = n := by
  by_cases h : n < 0 <;> simp [sg, h] <;> omega

theorem of_row (w : World) (k : Nat) : Row (w.alloc (.cells #[.int .i64 (k % 65536 : Int), .int .i64 (k / 65536 % 65536 : Int), .int .i64 (k / 4294967296 % 65536 : Int), .int .i64 (k / 281474976710656 : Int)] 3)) w.heap.size (.slice (some ⟨w.heap.size, 0, none⟩) 4 4) (four k) :=
  World.ownsRow_lit w #[.int .i64 (k % 65536 : Int), .int .i64 (k / 65536 % 65536 : Int), .int .i64 (k / 4294967296 % 65536 : Int), .int .i64 (k / 281474976710656 : Int)] 4 (Nat.le_refl _) (by unfold maxLen; omega) rfl

set_option maxHeartbeats 1000000 in
theorem rof_neg (w : World) (n : Int) (h1 : -9223372036854775808 ≤ n) (h2 : n ≤ 9223372036854775807) (h3 : n < 0) :
    Calls Try.prog 27 #[.int .i64 n] w (NumR n w) := by
  obtain ⟨k, hk⟩ : ∃ k : Nat, mg n = k := ⟨n.natAbs, by unfold mg; split <;> omega⟩
  have hk2 : n.natAbs = k := by unfold mg at hk; split at hk <;> omega
  have e1 := mg_neg n h1 h3
  rw [hk] at e1
  have hs := sg_of n
  rw [hk2, show decide (n < 0) = true by simpa using h3] at hs
  have hkk : k < 18446744073709551616 := by omega
  have F := F0.first w 47
  have HW := Lib.hid (fun w1 B (hr : Row w1 B (.slice (some ⟨w.heap.size + 1, 0, none⟩) 4 4) (four k)) => whole_any w1 true _ B (four k) hr (by simp [four]) (four_dig k hkk))
  rw [four_is, hs] at HW
  have HO := of_row (w.alloc (.cells #[.bool false, .slice none 0 0] 47)) k
  rw [World.size_alloc] at HO
  have HO := Lib.hid HO
  clear hk hk2 hs
  go_enter Try.func27, Try.ntmps27
  go_wp2_with fail
  refine (HW.out _ _ HO.out).mono ?_
  rintro e w1 ⟨y, rfl, hy, hb⟩
  have Fa := (F.next ((Below.refl _ _).alloc (Nat.le_refl _) (.cells #[.int .i64 (k % 65536 : Int), .int .i64 (k / 65536 % 65536 : Int), .int .i64 (k / 4294967296 % 65536 : Int), .int .i64 (k / 281474976710656 : Int)] 3))).next hb
  obtain ⟨p', c', ds', rfl, -⟩ := id hy.form
  have Q := fun u v => num_done (a := w.heap.size) Fa.bel hy (by omega) (by simp; omega) u v
  generalize hd : decide (n < 0) = b' at *
  generalize ds'.length = l' at *
  obtain ⟨-, hz, k3, k4, kf⟩ := Fa
  have Q := Lib.hid Q
  clear hb hy F hd
  go_wp2_with fail
  refine bodyPost_ret (v := .agg #[.bool b', .slice p' l' c']) (by simp [results, Try.results27, go_sem, k3, k4]) rfl (Q.out _ _)

set_option maxHeartbeats 1000000 in
theorem rof_pos (w : World) (n : Int) (h1 : -9223372036854775808 ≤ n) (h2 : n ≤ 9223372036854775807) (h3 : 0 ≤ n) :
    Calls Try.prog 27 #[.int .i64 n] w (NumR n w) := by
  obtain ⟨k, hk⟩ : ∃ k : Nat, mg n = k := ⟨n.natAbs, by unfold mg; split <;> omega⟩
  have hk2 : n.natAbs = k := by unfold mg at hk; split at hk <;> omega
  have hkn : n = k := by omega
  have hs := sg_of n
  rw [hk2, show decide (n < 0) = false by simpa using h3] at hs
  have hkk : k < 18446744073709551616 := by omega
  have F := F0.first w 47
  have HW := Lib.hid (fun w1 B (hr : Row w1 B (.slice (some ⟨w.heap.size + 1, 0, none⟩) 4 4) (four k)) => whole_any w1 false _ B (four k) hr (by simp [four]) (four_dig k hkk))
  rw [four_is, hs] at HW
  have HO := of_row (w.alloc (.cells #[.bool false, .slice none 0 0] 47)) k
  rw [World.size_alloc] at HO
  have HO := Lib.hid HO
  have h4 : ¬ n < 0 := by omega
  clear hk hk2 hs
  subst hkn
  go_enter Try.func27, Try.ntmps27
  go_wp2_with fail
  refine (HW.out _ _ HO.out).mono ?_
  rintro e w1 ⟨y, rfl, hy, hb⟩
  have Fa := (F.next ((Below.refl _ _).alloc (Nat.le_refl _) (.cells #[.int .i64 (k % 65536 : Int), .int .i64 (k / 65536 % 65536 : Int), .int .i64 (k / 4294967296 % 65536 : Int), .int .i64 (k / 281474976710656 : Int)] 3))).next hb
  obtain ⟨p', c', ds', rfl, -⟩ := id hy.form
  have Q := fun u v => num_done (a := w.heap.size) Fa.bel hy (by omega) (by simp; omega) u v
  generalize hd : decide ((k : Int) < 0) = b' at *
  generalize ds'.length = l' at *
  obtain ⟨-, hz, k3, k4, kf⟩ := Fa
  have Q := Lib.hid Q
  clear hb hy F hd
  go_wp2_with fail
  refine bodyPost_ret (v := .agg #[.bool b', .slice p' l' c']) (by simp [results, Try.results27, go_sem, k3, k4]) rfl (Q.out _ _)

theorem rof_any (w : World) (n : Int) (h1 : -9223372036854775808 ≤ n) (h2 : n ≤ 9223372036854775807) :
    Calls Try.prog 27 #[.int .i64 n] w (NumR n w) := by
  by_cases h : n < 0
  · exact rof_neg w n h1 h2 h
  · exact rof_pos w n h1 h2 (by omega)

end Go.Proofs.Ytnbloflgggndiaa
