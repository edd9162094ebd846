/- The contracts of the program's numbers of two words: magnitude, product, times, sum, difference, less, plus. -/
import Derived.Test.YtnbloflgggndiaaRows
import Derived.Test.YtnbloflgggndiaaRatPlain
import Derived.WalkKit
import Derived.WalkSpells
import Derived.WalkLawsBesides
import Derived.Outline
import Derived.Lib.Hide
import Derived.Below
namespace Go.Proofs.Ytnbloflgggndiaa
open Go.RowKit Rt

/-- A number without its sign. -/
def Rt.mg (n : Int) : Int := if n < 0 then -n else n
theorem Rt.mg_bd (n : Int) (h1 : -9223372036854775808 ≤ n) (h2 : n ≤ 9223372036854775807) : 0 ≤ mg n ∧ mg n ≤ 9223372036854775808 := by
  unfold mg
  split <;> omega
theorem Rt.mg_neg (n : Int) (h1 : -9223372036854775808 ≤ n) (h : n < 0) : IntKind.u64.wrap (-IntKind.u64.wrap n) = mg n := by
  unfold mg
  rw [wrapu, wrapu]
  split <;> omega
theorem Rt.mg_pos (n : Int) (h : 0 ≤ n) : n = mg n := by
  unfold mg
  split <;> omega

theorem ret_u64 {a b : Int} (h : a = b) : Ending.returned (.int .u64 a) = .returned (.int .u64 b) := by rw [h]
theorem ret_bool {a b : Bool} (h : a = b) : Ending.returned (.bool a) = .returned (.bool b) := by rw [h]

theorem mag_any (n : Int) (w : World) (h1 : -9223372036854775808 ≤ n) (h2 : n ≤ 9223372036854775807) :
    Calls Try.prog 23 #[.int .i64 n] w fun e w' => e = .returned (.int .u64 (mg n)) ∧ w = w' := by
  by_cases h : n < 0
  · go_enter Try.func23, Try.ntmps23
    go_wp2
    go_ret
    exact ⟨ret_u64 (mg_neg n h1 h), rfl⟩
  · have h' : 0 ≤ n := by omega
    go_enter Try.func23, Try.ntmps23
    go_wp2
    go_ret
    exact ⟨ret_u64 (mg_pos n h'), rfl⟩

/-- A call answers the two words of x, and makes memory at most. -/
def WideIs (x : Int) (w : World) (e : Ending) (w' : World) : Prop :=
  ∃ H L, IsW H L x ∧ e = .returned (.agg #[.int .u64 H, .int .u64 L]) ∧ Below w.heap.size w w'

theorem product_any (a b : Int) (w : World) (ha : 0 ≤ a) (ha2 : a ≤ 18446744073709551615) (hb : 0 ≤ b) (hb2 : b ≤ 18446744073709551615) :
    Calls Try.prog 32 #[.int .u64 a, .int .u64 b] w (WideIs (a * b) w) := by
  have HP := Lib.hid (product_is a b ha ha2 hb hb2)
  go_enter Try.func32, Try.ntmps32
  go_wp2
  refine bodyPost_ret (v := .agg #[.int .u64 (pHigh a b), .int .u64 (pEnd a b)]) (by simp [results, Try.results32, go_sem]; exact ⟨rfl, rfl⟩) rfl ⟨_, _, HP.out, rfl, ?_⟩
  exact (Below.refl _ _).alloc (Nat.le_refl _) _

theorem sum_any (a b c d x y : Int) (w : World) (h1 : IsW a b x) (h2 : IsW c d y) (hs : x + y < 340282366920938463463374607431768211456) :
    Calls Try.prog 45 #[.agg #[.int .u64 a, .int .u64 b], .agg #[.int .u64 c, .int .u64 d]] w (WideIs (x + y) w) := by
  have HS := Lib.hid hs
  have H1 := Lib.hid h1
  have H2 := Lib.hid h2
  obtain ⟨a1, a2, b1, b2, -⟩ := h1
  obtain ⟨c1, c2, d1, d2, -⟩ := h2
  clear hs
  go_enter Try.func45, Try.ntmps45
  go_wp2
  · have hlt : IntKind.u64.wrap (b + d) < b := by assumption
    refine bodyPost_ret (v := .agg #[.int .u64 (IntKind.u64.wrap (IntKind.u64.wrap (a + c) + 1)), .int .u64 (IntKind.u64.wrap (b + d))]) (by simp [results, Try.results45, go_sem]) rfl ⟨_, _, sum_over _ _ _ _ _ _ H1.out H2.out HS.out hlt, rfl, ?_⟩
    exact (((Below.refl _ _).alloc (Nat.le_refl _) _).alloc (by simp) _).alloc (by simp; omega) _
  · have hlt : b ≤ IntKind.u64.wrap (b + d) := by assumption
    refine bodyPost_ret (v := .agg #[.int .u64 (IntKind.u64.wrap (a + c)), .int .u64 (IntKind.u64.wrap (b + d))]) (by simp [results, Try.results45, go_sem]) rfl ⟨_, _, sum_fits _ _ _ _ _ _ H1.out H2.out HS.out hlt, rfl, ?_⟩
    exact (((Below.refl _ _).alloc (Nat.le_refl _) _).alloc (by simp) _).alloc (by simp; omega) _

theorem difference_any (a b c d x y : Int) (w : World) (h1 : IsW a b x) (h2 : IsW c d y) (hs : y ≤ x) :
    Calls Try.prog 47 #[.agg #[.int .u64 a, .int .u64 b], .agg #[.int .u64 c, .int .u64 d]] w (WideIs (x - y) w) := by
  have HS := Lib.hid hs
  have H1 := Lib.hid h1
  have H2 := Lib.hid h2
  obtain ⟨a1, a2, b1, b2, -⟩ := h1
  obtain ⟨c1, c2, d1, d2, -⟩ := h2
  clear hs
  go_enter Try.func47, Try.ntmps47
  go_wp2
  · have hlt : b < d := by assumption
    refine bodyPost_ret (v := .agg #[.int .u64 (IntKind.u64.wrap (IntKind.u64.wrap (a - c) - 1)), .int .u64 (IntKind.u64.wrap (b - d))]) (by simp [results, Try.results47, go_sem]) rfl ⟨_, _, diff_over _ _ _ _ _ _ H1.out H2.out HS.out hlt, rfl, ?_⟩
    exact (((Below.refl _ _).alloc (Nat.le_refl _) _).alloc (by simp) _).alloc (by simp; omega) _
  · have hlt : d ≤ b := by assumption
    refine bodyPost_ret (v := .agg #[.int .u64 (IntKind.u64.wrap (a - c)), .int .u64 (b - d)]) (by simp [results, Try.results47, go_sem]) rfl ⟨_, _, diff_fits _ _ _ _ _ _ H1.out H2.out HS.out hlt, rfl, ?_⟩
    exact (((Below.refl _ _).alloc (Nat.le_refl _) _).alloc (by simp) _).alloc (by simp; omega) _

theorem less_any (a b c d x y : Int) (w : World) (h1 : IsW a b x) (h2 : IsW c d y) :
    Calls Try.prog 46 #[.agg #[.int .u64 a, .int .u64 b], .agg #[.int .u64 c, .int .u64 d]] w fun e w' => e = .returned (.bool (decide (x < y))) ∧ Below w.heap.size w w' := by
  have HD := Lib.hid (ltB_is _ _ _ _ _ _ h1 h2)
  obtain ⟨a1, a2, b1, b2, -⟩ := h1
  obtain ⟨c1, c2, d1, d2, -⟩ := h2
  rw [← HD.out]
  go_enter Try.func46, Try.ntmps46
  go_wp2
  · have h3 : a = c := by assumption
    go_ret
    exact ⟨ret_bool (by rw [ltB]; simp [h3]), ((Below.refl _ _).alloc (Nat.le_refl _) _).alloc (by simp) _⟩
  · have h3 : ¬ a = c := by assumption
    go_ret
    exact ⟨ret_bool (by rw [ltB]; simp [h3]), ((Below.refl _ _).alloc (Nat.le_refl _) _).alloc (by simp) _⟩
  · have h3 : a < c := by assumption
    go_ret
    exact ⟨ret_bool (by rw [ltB]; simp [h3]), ((Below.refl _ _).alloc (Nat.le_refl _) _).alloc (by simp) _⟩
end Go.Proofs.Ytnbloflgggndiaa
