/- The contracts of the reference's Of, Neg, Plus. -/
import Derived.Test.YtnbloflgggndiaaRefWhole
namespace Go.Proofs.Ytnbloflgggndiaa
open Go.RowKit Rf Rt

/-- A number's value as a slice's. -/
theorem NumIs.form {n : Int} {B : Nat} {w : World} {x : Value} (h : NumIs n B w x) : ∃ p c ds, x = .agg #[.bool (decide (n < 0)), .slice p ds.length c] ∧ Row w B (.slice p ds.length c) ds ∧ Norm ds ∧ dv ds = n.natAbs := by
  obtain ⟨v, ds, h1, h2, h3, h4⟩ := h
  obtain ⟨p, c, rfl⟩ := h2.slice
  exact ⟨p, c, ds, h1, h2, h3, h4⟩

/-- What is known of a world within a call of one number: where it lies, and the result. -/
structure F1 (w : World) (u v : Value) (W : World) : Prop where
  bel : Below w.heap.size w W
  size : w.heap.size + 1 + 1 ≤ W.heap.size
  c1 : W.cell? ⟨w.heap.size, 0, none⟩ = some u
  c2 : W.cell? ⟨w.heap.size, 1, none⟩ = some v
  c5 : W.cell? ⟨w.heap.size + 1, 0, none⟩ = some (.bool false)
  c6 : W.cell? ⟨w.heap.size + 1, 1, none⟩ = some (.slice none 0 0)
  fz : ∀ o, W.frozen? ⟨w.heap.size + 1, o, none⟩ = false
theorem F1.next {w W W' : World} {u v : Value} (h : F1 w u v W) (hb : Below W.heap.size W W') : F1 w u v W' where
  bel := h.bel.trans (hb.mono h.bel.size)
  size := Nat.le_trans h.size hb.size
  c1 := by rw [hb.cell (by have := h.size; simp; omega)]; exact h.c1
  c2 := by rw [hb.cell (by have := h.size; simp; omega)]; exact h.c2
  c5 := by rw [hb.cell (by have := h.size; simp; omega)]; exact h.c5
  c6 := by rw [hb.cell (by have := h.size; simp; omega)]; exact h.c6
  fz := fun o => by rw [hb.frozen (by have := h.size; simp; omega)]; exact h.fz o
theorem F1.first (w : World) (u v : Value) (T : TypeId) : F1 w u v ((w.alloc (.cells #[u, v] T)).alloc (.cells #[.bool false, .slice none 0 0] T)) where
  bel := ((Below.refl _ _).alloc (Nat.le_refl _) _).alloc (by simp) _
  size := by simp
  c1 := by simp [go_sem]
  c2 := by simp [go_sem]
  c5 := by simp [go_sem]
  c6 := by simp [go_sem]
  fz := fun o => by simp [go_sem]
/-- The result is stored. -/
theorem num_done {n : Int} {w W : World} {a B : Nat} {x : Value} (hb : Below w.heap.size w W) (hx : NumIs n B W x) (ha : w.heap.size ≤ a) (hB : a < B) (u v : Value) :
    NumR n w (.returned x) ((W.setCell ⟨a, 0, none⟩ u).setCell ⟨a, 1, none⟩ v) :=
  ⟨x, rfl, ((hx.put (a := ⟨a, 0, none⟩) hB u).put (a := ⟨a, 1, none⟩) hB v).mono (by omega), (hb.setCell (p := ⟨a, 0, none⟩) ha u).setCell (p := ⟨a, 1, none⟩) ha v⟩

theorem sg_neg (n : Int) : sg (!decide (n < 0)) ((n.natAbs : Nat) : Int) = -n := by
  by_cases h : n < 0 <;> simp [sg, h] <;> omega

set_option maxHeartbeats 1000000 in
theorem rneg_any (w : World) (n : Int) (x : Value) (B : Nat) (hx : NumIs n B w x) (hn : n.natAbs < 65536 ^ 100) :
    Calls Try.prog 36 #[x] w (NumR (-n) w) := by
  obtain ⟨p, c, ds, rfl, hr, hm, hd⟩ := hx.form
  have hl : ds.length ≤ 1000 := Nat.le_trans (hm.len (L := 100) (by rw [hd]; exact hn)) (by decide)
  have hW := Lib.hid (fun w1 (h : Below w.heap.size w w1) => whole_any w1 (!decide (n < 0)) (.slice p ds.length c) B ds (hr.on h (Nat.le_refl _)) hl hm.dig)
  rw [hd, sg_neg] at hW
  clear hx hr hm hd hn hl
  generalize ds.length = l at *
  generalize decide (n < 0) = b at *
  have F0 := F1.first w (.bool b) (.slice p l c) 47
  go_enter Try.func36, Try.ntmps36
  go_wp2_with fail
  refine (hW.out _ F0.bel).mono ?_
  rintro e w1 ⟨y, rfl, hy, hb⟩
  have Fa := F0.next hb
  have hB : w.heap.size + 1 < ((w.alloc (.cells #[.bool b, .slice p l c] 47)).alloc (.cells #[.bool false, .slice none 0 0] 47)).heap.size := by simp
  generalize ((w.alloc (.cells #[.bool b, .slice p l c] 47)).alloc (.cells #[.bool false, .slice none 0 0] 47)).heap.size = BB at *
  obtain ⟨p', c', ds', rfl, -⟩ := id hy.form
  have Q := fun u v => num_done (a := w.heap.size + 1) Fa.bel hy (by omega) hB u v
  generalize decide (-n < 0) = b' at *
  generalize ds'.length = l' at *
  obtain ⟨-, hz, k1, k2, k3, k4, kf⟩ := Fa
  have Q := Lib.hid Q
  clear hb hy F0
  go_wp2_with fail
  refine bodyPost_ret (v := .agg #[.bool b', .slice p' l' c']) (by simp [results, Try.results36, go_sem, k3, k4]) rfl (Q.out _ _)

end Go.Proofs.Ytnbloflgggndiaa
