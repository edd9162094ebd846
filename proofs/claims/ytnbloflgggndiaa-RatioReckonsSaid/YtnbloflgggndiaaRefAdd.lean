/- The contract of the reference's Plus. -/
import Derived.Test.YtnbloflgggndiaaRefOf
import Derived.Test.YtnbloflgggndiaaRatCmp
namespace Go.Proofs.Ytnbloflgggndiaa
open Go.RowKit Rf Rt

/-- What is known of a world within a call of two numbers: where they lie, and the result. -/
structure F2 (w : World) (u1 v1 u2 v2 : Value) (W : World) : Prop where
  bel : Below w.heap.size w W
  size : w.heap.size + 1 + 1 + 1 ≤ W.heap.size
  c1 : W.cell? ⟨w.heap.size, 0, none⟩ = some u1
  c2 : W.cell? ⟨w.heap.size, 1, none⟩ = some v1
  c3 : W.cell? ⟨w.heap.size + 1, 0, none⟩ = some u2
  c4 : W.cell? ⟨w.heap.size + 1, 1, none⟩ = some v2
  c5 : ∃ u, W.cell? ⟨w.heap.size + 1 + 1, 0, none⟩ = some u
  c6 : ∃ u, W.cell? ⟨w.heap.size + 1 + 1, 1, none⟩ = some u
  fz : ∀ o, W.frozen? ⟨w.heap.size + 1 + 1, o, none⟩ = false
theorem F2.next {w W W' : World} {u1 v1 u2 v2 : Value} (h : F2 w u1 v1 u2 v2 W) (hb : Below W.heap.size W W') : F2 w u1 v1 u2 v2 W' where
  bel := h.bel.trans (hb.mono h.bel.size)
  size := Nat.le_trans h.size hb.size
  c1 := by rw [hb.cell (by have := h.size; simp; omega)]; exact h.c1
  c2 := by rw [hb.cell (by have := h.size; simp; omega)]; exact h.c2
  c3 := by rw [hb.cell (by have := h.size; simp; omega)]; exact h.c3
  c4 := by rw [hb.cell (by have := h.size; simp; omega)]; exact h.c4
  c5 := by rw [hb.cell (by have := h.size; simp; omega)]; exact h.c5
  c6 := by rw [hb.cell (by have := h.size; simp; omega)]; exact h.c6
  fz := fun o => by rw [hb.frozen (by have := h.size; simp; omega)]; exact h.fz o
theorem F2.drew {w W : World} {u1 v1 u2 v2 : Value} (h : F2 w u1 v1 u2 v2 W) : F2 w u1 v1 u2 v2 W.drew := h.next (below_drewN (Below.refl _ _) 1)
theorem F2.first (w : World) (u1 v1 u2 v2 : Value) (T : TypeId) : F2 w u1 v1 u2 v2 (((w.alloc (.cells #[u1, v1] T)).alloc (.cells #[u2, v2] T)).alloc (.cells #[.bool false, .slice none 0 0] T)) where
  bel := (((Below.refl _ _).alloc (Nat.le_refl _) _).alloc (by simp) _).alloc (by simp; omega) _
  size := by simp
  c1 := by simp [go_sem]
  c2 := by simp [go_sem]
  c3 := by simp [go_sem]
  c4 := by simp [go_sem]
  c5 := ⟨_, by simp [go_sem]; rfl⟩
  c6 := ⟨_, by simp [go_sem]; rfl⟩
  fz := fun o => by simp [go_sem]

theorem F2.put {w W : World} {u1 v1 u2 v2 : Value} (h : F2 w u1 v1 u2 v2 W) (u v : Value) : F2 w u1 v1 u2 v2 ((W.setCell ⟨w.heap.size + 1 + 1, 0, none⟩ u).setCell ⟨w.heap.size + 1 + 1, 1, none⟩ v) := by
  obtain ⟨h0, h1, h2, h3, h4, h5, ⟨x, h6⟩, ⟨y, h7⟩, h8⟩ := h
  exact ⟨(h0.setCell (by simp; omega) _).setCell (by simp; omega) _, by simpa using h1, by simp [go_sem, h2], by simp [go_sem, h3], by simp [go_sem, h4], by simp [go_sem, h5], ⟨u, by simp [go_sem, h6]⟩, ⟨v, by simp [go_sem, h7]⟩, fun o => by simp [go_sem, h8]⟩

theorem keep4 {w W : World} {u1 v1 u2 v2 : Value} (h : F2 w u1 v1 u2 v2 W) : F2 w u1 v1 u2 v2 W ∧ W.cell? ⟨w.heap.size, 0, none⟩ = some u1 ∧ W.cell? ⟨w.heap.size, 1, none⟩ = some v1 ∧ W.cell? ⟨w.heap.size + 1, 0, none⟩ = some u2 ∧ W.cell? ⟨w.heap.size + 1, 1, none⟩ = some v2 :=
  ⟨h, h.c1, h.c2, h.c3, h.c4⟩

set_option maxHeartbeats 1000000 in
theorem rsum_same (w : World) (b : Bool) (r : Int) (N L l1 l2 c1 c2 : Nat) (p1 p2 : Option Addr)
    (HP : Hid (∀ w1, Below w.heap.size w w1 → Calls Try.prog 49 #[.slice p1 l1 c1, .slice p2 l2 c2] w1 (RowIs N L w1)))
    (HW : Hid (∀ w1 v B os, Row w1 B v os → Dig os → os.length = L → dv os = N → Calls Try.prog 44 #[.bool b, v] w1 (NumR r w1))) :
    Calls Try.prog 35 #[.agg #[.bool b, .slice p1 l1 c1], .agg #[.bool b, .slice p2 l2 c2]] w (NumR r w) := by
  have Fa := F2.first w (.bool b) (.slice p1 l1 c1) (.bool b) (.slice p2 l2 c2) 47
  go_enter Try.func35, Try.ntmps35
  go_wp2_with fail
  generalize (((w.alloc (.cells #[.bool b, .slice p1 l1 c1] 47)).alloc (.cells #[.bool b, .slice p2 l2 c2] 47)).alloc (.cells #[.bool false, .slice none 0 0] 47)) = w2 at *
  obtain ⟨-, hz, k1, k2, k3, k4, ⟨u5, k5⟩, ⟨u6, k6⟩, kf⟩ := id Fa
  go_region_held3 (fun w' => F2 w (.bool b) (.slice p1 l1 c1) (.bool b) (.slice p2 l2 c2) w' ∧ w'.cell? ⟨w.heap.size, 0, none⟩ = some (.bool b) ∧ w'.cell? ⟨w.heap.size, 1, none⟩ = some (.slice p1 l1 c1) ∧ w'.cell? ⟨w.heap.size + 1, 0, none⟩ = some (.bool b) ∧ w'.cell? ⟨w.heap.size + 1, 1, none⟩ = some (.slice p2 l2 c2))
    (first
      | exact keep4 (F2.drew (by assumption))
      | exact keep4 (F2.drew (And.left (by assumption)))
      | exact keep4 (F2.next (And.left (by assumption)) (by assumption))
      | exact keep4 (F2.put (And.left (by assumption)) _ _)
      | exact keep4 (F2.put (by assumption) _ _))
    (first
      | (go_at_call 49; refine (HP.out _ (F2.bel (And.left (by assumption)))).mono ?_; rintro e w3 ⟨v3, os, rfl, hr3, hd3, hl3, he3, hb3⟩; have F3 : F2 w (.bool b) (.slice p1 l1 c1) (.bool b) (.slice p2 l2 c2) w3 := F2.next (And.left (by assumption)) hb3)
      | (go_at_call 44; refine (HW.out _ v3 _ os (by first | exact hr3 | exact hr3.on (below_drewN (Below.refl _ _) 1) (Nat.le_refl _)) hd3 hl3 he3).mono ?_; rintro e w4 ⟨z, rfl, hz4, hb4⟩; have F4 : F2 w (.bool b) (.slice p1 l1 c1) (.bool b) (.slice p2 l2 c2) w4 := F2.next (And.left (by assumption)) hb4; have z4 := (F2.size (And.left (by assumption)) : _); obtain ⟨p', c', ds', rfl, -⟩ := id hz4.form; obtain ⟨-, hz', k1', k2', k3', k4', ⟨u5', k5'⟩, ⟨u6', k6'⟩, kf'⟩ := id F4))
  go_wp2_with fail
  have Q := num_done (a := w.heap.size + 1 + 1) F4.bel hz4 (by omega) (by have := F3.size; omega) (.bool (decide (r < 0))) (.slice p' ds'.length c')
  generalize decide (r < 0) = b' at *
  generalize ds'.length = l' at *
  refine bodyPost_ret (v := .agg #[.bool b', .slice p' l' c']) (by simp [results, Try.results35, go_sem, k5', k6']) rfl Q

set_option maxHeartbeats 1000000 in
theorem rsum_ge (w : World) (b : Bool) (r : Int) (N L l1 l2 c1 c2 : Nat) (p1 p2 : Option Addr)
    (HC : Hid (∀ w1, Below w.heap.size w w1 → Calls Try.prog 50 #[.slice p1 l1 c1, .slice p2 l2 c2] w1 fun e w' => (∃ c : Int, e = .returned (.int .i64 c) ∧ 0 ≤ c) ∧ w1 = w'))
    (HP : Hid (∀ w1, Below w.heap.size w w1 → Calls Try.prog 51 #[.slice p1 l1 c1, .slice p2 l2 c2] w1 (RowIs N L w1)))
    (HW : Hid (∀ w1 v B os, Row w1 B v os → Dig os → os.length = L → dv os = N → Calls Try.prog 44 #[.bool b, v] w1 (NumR r w1))) :
    Calls Try.prog 35 #[.agg #[.bool b, .slice p1 l1 c1], .agg #[.bool (!b), .slice p2 l2 c2]] w (NumR r w) := by
  have Fa := F2.first w (.bool b) (.slice p1 l1 c1) (.bool (!b)) (.slice p2 l2 c2) 47
  go_enter Try.func35, Try.ntmps35
  go_wp2_with fail
  generalize (((w.alloc (.cells #[.bool b, .slice p1 l1 c1] 47)).alloc (.cells #[.bool (!b), .slice p2 l2 c2] 47)).alloc (.cells #[.bool false, .slice none 0 0] 47)) = w2 at *
  obtain ⟨-, hz, k1, k2, k3, k4, ⟨u5, k5⟩, ⟨u6, k6⟩, kf⟩ := id Fa
  have hbb : (b == !b) = false := by cases b <;> rfl
  go_wp2_with fail
  refine (HC.out _ Fa.bel).mono ?_
  rintro e w1 ⟨⟨cc, rfl, hcc⟩, rfl⟩
  go_wp2_with fail
  go_region_held3 (fun w' => F2 w (.bool b) (.slice p1 l1 c1) (.bool (!b)) (.slice p2 l2 c2) w' ∧ w'.cell? ⟨w.heap.size, 0, none⟩ = some (.bool b) ∧ w'.cell? ⟨w.heap.size, 1, none⟩ = some (.slice p1 l1 c1) ∧ w'.cell? ⟨w.heap.size + 1, 0, none⟩ = some (.bool (!b)) ∧ w'.cell? ⟨w.heap.size + 1, 1, none⟩ = some (.slice p2 l2 c2))
    (first
      | exact keep4 (F2.drew (by assumption))
      | exact keep4 (F2.drew (And.left (by assumption)))
      | exact keep4 (F2.next (And.left (by assumption)) (by assumption))
      | exact keep4 (F2.put (And.left (by assumption)) _ _)
      | exact keep4 (F2.put (by assumption) _ _))
    (first
      | (go_at_call 51; refine (HP.out _ (F2.bel (And.left (by assumption)))).mono ?_; rintro e w3 ⟨v3, os, rfl, hr3, hd3, hl3, he3, hb3⟩; have F3 : F2 w (.bool b) (.slice p1 l1 c1) (.bool (!b)) (.slice p2 l2 c2) w3 := F2.next (And.left (by assumption)) hb3)
      | (go_at_call 44; refine (HW.out _ v3 _ os (by first | exact hr3 | exact hr3.on (below_drewN (Below.refl _ _) 1) (Nat.le_refl _)) hd3 hl3 he3).mono ?_; rintro e w4 ⟨z, rfl, hz4, hb4⟩; have F4 : F2 w (.bool b) (.slice p1 l1 c1) (.bool (!b)) (.slice p2 l2 c2) w4 := F2.next (And.left (by assumption)) hb4; have z4 := (F2.size (And.left (by assumption)) : _); obtain ⟨p', c', ds', rfl, -⟩ := id hz4.form; obtain ⟨-, hz', k1', k2', k3', k4', ⟨u5', k5'⟩, ⟨u6', k6'⟩, kf'⟩ := id F4))
  go_wp2_with fail
  have Q := num_done (a := w.heap.size + 1 + 1) F4.bel hz4 (by omega) (by have := F3.size; omega) (.bool (decide (r < 0))) (.slice p' ds'.length c')
  generalize decide (r < 0) = b' at *
  generalize ds'.length = l' at *
  refine bodyPost_ret (v := .agg #[.bool b', .slice p' l' c']) (by simp [results, Try.results35, go_sem, k5', k6']) rfl Q

set_option maxHeartbeats 1000000 in
theorem rsum_lt (w : World) (b : Bool) (r : Int) (N L l1 l2 c1 c2 : Nat) (p1 p2 : Option Addr)
    (HC : Hid (∀ w1, Below w.heap.size w w1 → Calls Try.prog 50 #[.slice p1 l1 c1, .slice p2 l2 c2] w1 fun e w' => (∃ c : Int, e = .returned (.int .i64 c) ∧ c < 0) ∧ w1 = w'))
    (HP : Hid (∀ w1, Below w.heap.size w w1 → Calls Try.prog 51 #[.slice p2 l2 c2, .slice p1 l1 c1] w1 (RowIs N L w1)))
    (HW : Hid (∀ w1 v B os, Row w1 B v os → Dig os → os.length = L → dv os = N → Calls Try.prog 44 #[.bool (!b), v] w1 (NumR r w1))) :
    Calls Try.prog 35 #[.agg #[.bool b, .slice p1 l1 c1], .agg #[.bool (!b), .slice p2 l2 c2]] w (NumR r w) := by
  have Fa := F2.first w (.bool b) (.slice p1 l1 c1) (.bool (!b)) (.slice p2 l2 c2) 47
  go_enter Try.func35, Try.ntmps35
  go_wp2_with fail
  generalize (((w.alloc (.cells #[.bool b, .slice p1 l1 c1] 47)).alloc (.cells #[.bool (!b), .slice p2 l2 c2] 47)).alloc (.cells #[.bool false, .slice none 0 0] 47)) = w2 at *
  obtain ⟨-, hz, k1, k2, k3, k4, ⟨u5, k5⟩, ⟨u6, k6⟩, kf⟩ := id Fa
  have hbb : (b == !b) = false := by cases b <;> rfl
  go_wp2_with fail
  refine (HC.out _ Fa.bel).mono ?_
  rintro e w1 ⟨⟨cc, rfl, hcc⟩, rfl⟩
  go_wp2_with fail
  go_region_held3 (fun w' => F2 w (.bool b) (.slice p1 l1 c1) (.bool (!b)) (.slice p2 l2 c2) w' ∧ w'.cell? ⟨w.heap.size, 0, none⟩ = some (.bool b) ∧ w'.cell? ⟨w.heap.size, 1, none⟩ = some (.slice p1 l1 c1) ∧ w'.cell? ⟨w.heap.size + 1, 0, none⟩ = some (.bool (!b)) ∧ w'.cell? ⟨w.heap.size + 1, 1, none⟩ = some (.slice p2 l2 c2))
    (first
      | exact keep4 (F2.drew (by assumption))
      | exact keep4 (F2.drew (And.left (by assumption)))
      | exact keep4 (F2.next (And.left (by assumption)) (by assumption))
      | exact keep4 (F2.put (And.left (by assumption)) _ _)
      | exact keep4 (F2.put (by assumption) _ _))
    (first
      | (go_at_call 51; refine (HP.out _ (F2.bel (And.left (by assumption)))).mono ?_; rintro e w3 ⟨v3, os, rfl, hr3, hd3, hl3, he3, hb3⟩; have F3 : F2 w (.bool b) (.slice p1 l1 c1) (.bool (!b)) (.slice p2 l2 c2) w3 := F2.next (And.left (by assumption)) hb3)
      | (go_at_call 44; refine (HW.out _ v3 _ os (by first | exact hr3 | exact hr3.on (below_drewN (Below.refl _ _) 1) (Nat.le_refl _)) hd3 hl3 he3).mono ?_; rintro e w4 ⟨z, rfl, hz4, hb4⟩; have F4 : F2 w (.bool b) (.slice p1 l1 c1) (.bool (!b)) (.slice p2 l2 c2) w4 := F2.next (And.left (by assumption)) hb4; have z4 := (F2.size (And.left (by assumption)) : _); obtain ⟨p', c', ds', rfl, -⟩ := id hz4.form; obtain ⟨-, hz', k1', k2', k3', k4', ⟨u5', k5'⟩, ⟨u6', k6'⟩, kf'⟩ := id F4))
  go_wp2_with fail
  have Q := num_done (a := w.heap.size + 1 + 1) F4.bel hz4 (by omega) (by have := F3.size; omega) (.bool (decide (r < 0))) (.slice p' ds'.length c')
  generalize decide (r < 0) = b' at *
  generalize ds'.length = l' at *
  refine bodyPost_ret (v := .agg #[.bool b', .slice p' l' c']) (by simp [results, Try.results35, go_sem, k5', k6']) rfl Q

theorem sg_same (n m : Int) (h : decide (n < 0) = decide (m < 0)) : sg (decide (n < 0)) ((n.natAbs + m.natAbs : Nat) : Int) = n + m := by
  by_cases a : n < 0 <;> by_cases b : m < 0 <;> simp [sg, a, b] at h ⊢ <;> omega
theorem sg_ge (n m : Int) (h : decide (m < 0) = !decide (n < 0)) (hle : m.natAbs ≤ n.natAbs) : sg (decide (n < 0)) ((n.natAbs - m.natAbs : Nat) : Int) = n + m := by
  by_cases a : n < 0 <;> by_cases b : m < 0 <;> simp [sg, a, b] at h ⊢ <;> omega

theorem rsum_any (w : World) (n m : Int) (x y : Value) (B1 B2 : Nat) (hx : NumIs n B1 w x) (hy : NumIs m B2 w y) (hn : n.natAbs < 65536 ^ 100) (hm : m.natAbs < 65536 ^ 100) :
    Calls Try.prog 35 #[x, y] w (NumR (n + m) w) := by
  obtain ⟨p1, c1, ds1, rfl, hr1, hm1, hd1⟩ := hx.form
  obtain ⟨p2, c2, ds2, rfl, hr2, hm2, hd2⟩ := hy.form
  have l1 := hm1.len (L := 100) (by rw [hd1]; exact hn)
  have l2 := hm2.len (L := 100) (by rw [hd2]; exact hm)
  by_cases hs : decide (n < 0) = decide (m < 0)
  · rw [← hs]
    refine rsum_same w _ _ (n.natAbs + m.natAbs) (max ds1.length ds2.length + 1) _ _ c1 c2 p1 p2 (Lib.hid fun w1 hb => ?_) (Lib.hid fun w1 v B os hr hd hl he => ?_)
    · rw [← hd1, ← hd2]
      exact rplus_any w1 _ _ _ _ ds1 ds2 (hr1.on hb (Nat.le_refl _)) (hr2.on hb (Nat.le_refl _)) ⟨by omega, by omega⟩ hm1.dig hm2.dig
    · rw [← sg_same n m hs, ← he]
      exact whole_any w1 _ v B os hr (by omega) hd
  · have hs2 : decide (m < 0) = !decide (n < 0) := by
      cases h1 : decide (n < 0) <;> cases h2 : decide (m < 0) <;> simp_all
    rw [hs2]
    by_cases hle : m.natAbs ≤ n.natAbs
    · refine rsum_ge w _ _ (n.natAbs - m.natAbs) ds1.length _ _ c1 c2 p1 p2 (Lib.hid fun w1 hb => ?_) (Lib.hid fun w1 hb => ?_) (Lib.hid fun w1 v B os hr hd hl he => ?_)
      · refine (compare_any w1 _ _ _ _ ds1 ds2 (hr1.on hb (Nat.le_refl _)) (hr2.on hb (Nat.le_refl _)) hm1.dig hm2.dig).mono ?_
        rintro e w2 ⟨⟨c, h1, h2⟩, h3⟩
        exact ⟨⟨c, h1, h2.2 (by omega)⟩, h3⟩
      · rw [← hd1, ← hd2]
        exact rless_any w1 _ _ _ _ ds1 ds2 (hr1.on hb (Nat.le_refl _)) (hr2.on hb (Nat.le_refl _)) ⟨by omega, by omega⟩ hm1.dig hm2.dig (by omega)
      · rw [← sg_ge n m hs2 hle, ← he]
        exact whole_any w1 _ v B os hr (by omega) hd
    · refine rsum_lt w _ _ (m.natAbs - n.natAbs) ds2.length _ _ c1 c2 p1 p2 (Lib.hid fun w1 hb => ?_) (Lib.hid fun w1 hb => ?_) (Lib.hid fun w1 v B os hr hd hl he => ?_)
      · refine (compare_any w1 _ _ _ _ ds1 ds2 (hr1.on hb (Nat.le_refl _)) (hr2.on hb (Nat.le_refl _)) hm1.dig hm2.dig).mono ?_
        rintro e w2 ⟨⟨c, h1, h2⟩, h3⟩
        exact ⟨⟨c, h1, by by_cases h : 0 ≤ c <;> omega⟩, h3⟩
      · rw [← hd1, ← hd2]
        exact rless_any w1 _ _ _ _ ds2 ds1 (hr2.on hb (Nat.le_refl _)) (hr1.on hb (Nat.le_refl _)) ⟨by omega, by omega⟩ hm2.dig hm1.dig (by omega)
      · rw [← hs2, Int.add_comm, ← sg_ge m n (by rw [hs2]; simp) (by omega), ← he]
        exact whole_any w1 _ v B os hr (by omega) hd

end Go.Proofs.Ytnbloflgggndiaa
