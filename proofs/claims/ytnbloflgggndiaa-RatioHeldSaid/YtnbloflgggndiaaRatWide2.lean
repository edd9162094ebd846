/- The contracts of times, plus, divide, told, tell. -/
import Derived.Test.YtnbloflgggndiaaRatWide
import Derived.Deep.QuietTactic
import Derived.BigQuiet
import Derived.RegionTactic
import Derived.Deep.RegionHeld3
import Derived.Deep.DrawnRows
namespace Go.Proofs.Ytnbloflgggndiaa
open Go.RowKit Rt

theorem bcell {W w1 : World} (hb : Below W.heap.size W w1) : (∀ b o, b < W.heap.size → w1.cell? ⟨b, o, none⟩ = W.cell? ⟨b, o, none⟩) ∧ (∀ b o, b < W.heap.size → w1.frozen? ⟨b, o, none⟩ = W.frozen? ⟨b, o, none⟩) :=
  ⟨fun b o h => hb.cell (p := ⟨b, o, none⟩) h, fun b o h => hb.frozen (p := ⟨b, o, none⟩) h⟩

/-- A call answers a number of two words with a sign beside it, of value v. -/
def SignedIs (v : Int) (p : Bool) (w : World) (e : Ending) (w' : World) : Prop :=
  ∃ H L x, IsW H L x ∧ sg p x = v ∧ e = .returned (.agg #[.int .u64 H, .int .u64 L, .bool p]) ∧ Below w.heap.size w w'
def SignedAny (v : Int) (w : World) (e : Ending) (w' : World) : Prop := ∃ p, SignedIs v p w e w'

theorem sg_mg (n by' : Int) : sg (decide (n < 0)) (mg n * by') = n * by' := by
  unfold sg mg
  by_cases h : n < 0
  · simp [h]
    rw [← Int.neg_mul, Int.neg_neg]
  · simp [h]

theorem times_any (n b : Int) (w : World) (h1 : -9223372036854775808 ≤ n) (h2 : n ≤ 9223372036854775807) (hb : 0 ≤ b) (hb2 : b ≤ 18446744073709551615) :
    Calls Try.prog 30 #[.int .i64 n, .int .u64 b] w (SignedIs (n * b) (decide (n < 0)) w) := by
  have hm := mg_bd n h1 h2
  have HS := Lib.hid (sg_mg n b)
  have HM := Lib.hid (mag_any n · h1 h2)
  generalize hg : mg n = m at *
  have HG := Lib.hid hg
  clear hg
  go_enter Try.func30, Try.ntmps30
  go_wp2_with fail
  refine (HM.out _).mono ?_
  rintro e w' ⟨rfl, rfl⟩
  go_wp2_with fail
  refine (product_any _ _ _ hm.1 (by omega) hb hb2).mono ?_
  rintro e w1 ⟨H, L, hW, rfl, hb1⟩
  have hz := hb1.size
  simp at hz
  obtain ⟨hc, hf⟩ := bcell hb1
  go_wp2_with fail
  refine bodyPost_ret (v := .agg #[.int .u64 H, .int .u64 L, .bool (decide (n < 0))]) (by simp [results, Try.results30, go_sem, hc]) rfl ⟨H, L, _, hW, HS.out, rfl, ?_⟩
  exact (((((Below.refl _ _).alloc (Nat.le_refl _) _).trans (hb1.mono (by simp))).setCell (by simp) _).setCell (by simp) _).setCell (by simp) _

/-- What stands in a world that is Below one which is Below an older one. -/
theorem below3 {w w1 : World} {o1 o2 o3 : Obj} (h : Below (((w.alloc o1).alloc o2).alloc o3).drew.heap.size (((w.alloc o1).alloc o2).alloc o3).drew w1) : Below w.heap.size w w1 :=
  (((((Below.refl _ _).alloc (Nat.le_refl _) _).alloc (by simp) _).alloc (by simp; omega) _).drew).trans (h.mono (by simp; omega))

theorem below3' {w w1 : World} {o1 o2 o3 : Obj} (h : Below (((w.alloc o1).alloc o2).alloc o3).heap.size (((w.alloc o1).alloc o2).alloc o3) w1) : Below w.heap.size w w1 :=
  ((((Below.refl _ _).alloc (Nat.le_refl _) _).alloc (by simp) _).alloc (by simp; omega) _).trans (h.mono (by simp; omega))
theorem below_step {W w0 w1 : World} (h0 : Below W.heap.size W w0) (h : Below w0.drew.heap.size w0.drew w1) : Below W.heap.size W w1 := h0.drew.trans (h.mono h0.size)

set_option maxHeartbeats 1000000 in
theorem plus_same (a b c d x y : Int) (p : Bool) (w : World) (h1 : IsW a b x) (h2 : IsW c d y) (hs : x + y < 340282366920938463463374607431768211456) :
    Calls Try.prog 29 #[.agg #[.int .u64 a, .int .u64 b, .bool p], .agg #[.int .u64 c, .int .u64 d, .bool p]] w (SignedIs (sg p x + sg p y) p w) := by
  have HV := Lib.hid (show sg p (x + y) = sg p x + sg p y by unfold sg; cases p <;> simp <;> omega)
  have HC := Lib.hid (sum_any a b c d x y · h1 h2 hs)
  clear h1 h2 hs
  have l0 : w.heap.size < w.heap.size + 1 + 1 + 1 := by omega
  have l1 : w.heap.size + 1 < w.heap.size + 1 + 1 + 1 := by omega
  have n0 : ¬ w.heap.size = w.heap.size + 1 + 1 := by omega
  have n1 : ¬ w.heap.size + 1 + 1 = w.heap.size := by omega
  go_enter Try.func29, Try.ntmps29
  go_wp2_with fail
  go_region_held3 (fun w' => w'.cell? ⟨w.heap.size, 0, none⟩ = some (.int .u64 a) ∧ w'.cell? ⟨w.heap.size, 1, none⟩ = some (.int .u64 b) ∧ w'.cell? ⟨w.heap.size, 2, none⟩ = some (.bool p) ∧ w'.cell? ⟨w.heap.size + 1, 0, none⟩ = some (.int .u64 c) ∧ w'.cell? ⟨w.heap.size + 1, 1, none⟩ = some (.int .u64 d) ∧ w'.cell? ⟨w.heap.size + 1, 2, none⟩ = some (.bool p)) (go_keep) ((go_at_call 45; refine (HC.out _).mono ?_; rintro e w1 ⟨H, L, hW, rfl, hb1⟩; obtain ⟨hc, hf⟩ := bcell hb1; have hz := hb1.size; simp at hz))
  go_wp2_with fail
  refine bodyPost_ret (v := .agg #[.int .u64 H, .int .u64 L, .bool p]) (by simp [results, Try.results29, go_sem, hc]) rfl ⟨H, L, _, hW, HV.out, rfl, ?_⟩
  exact (((below3 hb1).setCell (by simp; omega) _).setCell (by simp; omega) _).setCell (by simp; omega) _

set_option maxHeartbeats 1000000 in
theorem plus_lt (a b c d x y : Int) (p q : Bool) (hpq : (p == q) = false) (w : World) (h1 : IsW a b x) (h2 : IsW c d y) (hs : x < y) :
    Calls Try.prog 29 #[.agg #[.int .u64 a, .int .u64 b, .bool p], .agg #[.int .u64 c, .int .u64 d, .bool q]] w (SignedIs (sg p x + sg q y) q w) := by
  have HV := Lib.hid (show sg q (y - x) = sg p x + sg q y by unfold sg; revert hpq; cases p <;> cases q <;> simp <;> omega)
  have HC := Lib.hid (difference_any c d a b y x · h2 h1 (by omega))
  have HL := Lib.hid (less_any a b c d x y · h1 h2)
  clear h1 h2
  have l0 : w.heap.size < w.heap.size + 1 + 1 + 1 := by omega
  have l1 : w.heap.size + 1 < w.heap.size + 1 + 1 + 1 := by omega
  have n0 : ¬ w.heap.size = w.heap.size + 1 + 1 := by omega
  have n1 : ¬ w.heap.size + 1 + 1 = w.heap.size := by omega
  have ht : decide (x < y) = true := by simp [hs]
  rw [ht] at HL
  clear ht hs
  go_enter Try.func29, Try.ntmps29
  go_wp2_with fail
  refine (HL.out _).mono ?_
  rintro e w0 ⟨rfl, hb0⟩
  obtain ⟨hc0, hf0⟩ := bcell hb0
  have hz0 := hb0.size
  simp at hz0
  have m0 : w.heap.size < w0.heap.size := by omega
  have m1 : w.heap.size + 1 < w0.heap.size := by omega
  have m2 : w.heap.size + 1 + 1 < w0.heap.size := by omega
  go_wp2_with fail
  go_region_held3 (fun w' => w'.cell? ⟨w.heap.size, 0, none⟩ = some (.int .u64 a) ∧ w'.cell? ⟨w.heap.size, 1, none⟩ = some (.int .u64 b) ∧ w'.cell? ⟨w.heap.size, 2, none⟩ = some (.bool p) ∧ w'.cell? ⟨w.heap.size + 1, 0, none⟩ = some (.int .u64 c) ∧ w'.cell? ⟨w.heap.size + 1, 1, none⟩ = some (.int .u64 d) ∧ w'.cell? ⟨w.heap.size + 1, 2, none⟩ = some (.bool q)) (go_keep) ((go_at_call 47; refine (HC.out _).mono ?_; rintro e w1 ⟨H, L, hW, rfl, hb1'⟩; have hb1 := below_step hb0 hb1'; clear hb1'; obtain ⟨hc, hf⟩ := bcell hb1; have hz := hb1.size; simp at hz))
  go_wp2_with fail
  refine bodyPost_ret (v := .agg #[.int .u64 H, .int .u64 L, .bool q]) (by simp [results, Try.results29, go_sem, hc]) rfl ⟨H, L, _, hW, HV.out, rfl, ?_⟩
  exact (((below3' hb1).setCell (by simp; omega) _).setCell (by simp; omega) _).setCell (by simp; omega) _

set_option maxHeartbeats 1000000 in
theorem plus_ge (a b c d x y : Int) (p q : Bool) (hpq : (p == q) = false) (w : World) (h1 : IsW a b x) (h2 : IsW c d y) (hs : y ≤ x) :
    Calls Try.prog 29 #[.agg #[.int .u64 a, .int .u64 b, .bool p], .agg #[.int .u64 c, .int .u64 d, .bool q]] w (SignedIs (sg p x + sg q y) p w) := by
  have HV := Lib.hid (show sg p (x - y) = sg p x + sg q y by unfold sg; revert hpq; cases p <;> cases q <;> simp <;> omega)
  have HC := Lib.hid (difference_any a b c d x y · h1 h2 (by omega))
  have HL := Lib.hid (less_any a b c d x y · h1 h2)
  clear h1 h2
  have l0 : w.heap.size < w.heap.size + 1 + 1 + 1 := by omega
  have l1 : w.heap.size + 1 < w.heap.size + 1 + 1 + 1 := by omega
  have n0 : ¬ w.heap.size = w.heap.size + 1 + 1 := by omega
  have n1 : ¬ w.heap.size + 1 + 1 = w.heap.size := by omega
  have ht : decide (x < y) = false := by simp; omega
  rw [ht] at HL
  clear ht hs
  go_enter Try.func29, Try.ntmps29
  go_wp2_with fail
  refine (HL.out _).mono ?_
  rintro e w0 ⟨rfl, hb0⟩
  obtain ⟨hc0, hf0⟩ := bcell hb0
  have hz0 := hb0.size
  simp at hz0
  have m0 : w.heap.size < w0.heap.size := by omega
  have m1 : w.heap.size + 1 < w0.heap.size := by omega
  have m2 : w.heap.size + 1 + 1 < w0.heap.size := by omega
  go_wp2_with fail
  go_region_held3 (fun w' => w'.cell? ⟨w.heap.size, 0, none⟩ = some (.int .u64 a) ∧ w'.cell? ⟨w.heap.size, 1, none⟩ = some (.int .u64 b) ∧ w'.cell? ⟨w.heap.size, 2, none⟩ = some (.bool p) ∧ w'.cell? ⟨w.heap.size + 1, 0, none⟩ = some (.int .u64 c) ∧ w'.cell? ⟨w.heap.size + 1, 1, none⟩ = some (.int .u64 d) ∧ w'.cell? ⟨w.heap.size + 1, 2, none⟩ = some (.bool q)) (go_keep) ((go_at_call 47; refine (HC.out _).mono ?_; rintro e w1 ⟨H, L, hW, rfl, hb1'⟩; have hb1 := below_step hb0 hb1'; clear hb1'; obtain ⟨hc, hf⟩ := bcell hb1; have hz := hb1.size; simp at hz))
  go_wp2_with fail
  refine bodyPost_ret (v := .agg #[.int .u64 H, .int .u64 L, .bool p]) (by simp [results, Try.results29, go_sem, hc]) rfl ⟨H, L, _, hW, HV.out, rfl, ?_⟩
  exact (((below3' hb1).setCell (by simp; omega) _).setCell (by simp; omega) _).setCell (by simp; omega) _

/-- The sum of two numbers with their signs beside them. -/
theorem plus_any (a b c d x y : Int) (p q : Bool) (w : World) (h1 : IsW a b x) (h2 : IsW c d y) (hs : x + y < 340282366920938463463374607431768211456) :
    Calls Try.prog 29 #[.agg #[.int .u64 a, .int .u64 b, .bool p], .agg #[.int .u64 c, .int .u64 d, .bool q]] w (SignedAny (sg p x + sg q y) w) := by
  cases hpq : p == q
  · by_cases h : x < y
    · exact (plus_lt a b c d x y p q hpq w h1 h2 h).mono fun e w' k => ⟨_, k⟩
    · exact (plus_ge a b c d x y p q hpq w h1 h2 (by omega)).mono fun e w' k => ⟨_, k⟩
  · obtain rfl : p = q := by simpa using hpq
    exact (plus_same a b c d x y p w h1 h2 hs).mono fun e w' k => ⟨_, k⟩

end Go.Proofs.Ytnbloflgggndiaa
