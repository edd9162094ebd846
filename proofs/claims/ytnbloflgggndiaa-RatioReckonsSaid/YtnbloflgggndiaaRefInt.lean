/- The contract of the reference's Int. -/
import Derived.Test.YtnbloflgggndiaaRefAdd
namespace Go.Proofs.Ytnbloflgggndiaa
open Go.RowKit Rf Rt

/-- What is so far of a number that is read from above. -/
structure Rf.Up (ds : List Nat) (k M : Nat) : Prop where
  sum : M * 65536 ^ k + ev (dd ds) k = dv ds
theorem Rf.Up.first (ds : List Nat) : Up ds ds.length 0 := ⟨by simp [dv]⟩
theorem Rf.Up.next {ds : List Nat} {k M : Nat} (h : Up ds (k + 1) M) : Up ds k (M * 65536 + dd ds k) := ⟨by
  have := h.sum
  rw [ev, Nat.pow_succ] at this
  rw [Nat.add_mul, ← this, Nat.mul_comm (65536 ^ k) (dd ds k), Nat.mul_comm (65536 ^ k) 65536, Nat.mul_assoc]
  omega⟩
theorem Rf.Up.le {ds : List Nat} {k M : Nat} (h : Up ds k M) : M ≤ dv ds := by
  have := h.sum
  have h1 : M * 1 ≤ M * 65536 ^ k := Nat.mul_le_mul_left _ (Nat.pow_pos (by omega))
  omega
theorem Rf.Up.last {ds : List Nat} {M : Nat} (h : Up ds 0 M) : M = dv ds := by
  have := h.sum
  simp [ev] at this
  exact this

theorem Rf.neg_wrap (M : Nat) (h2 : M ≤ 9223372036854775808) : wrap64 (IntKind.u64.wrap (-(M : Int))) = -(M : Int) := by
  rw [wrapu]
  unfold wrap64
  omega

/-- A call answers the int of a number, where it fits. -/
def IntR (n : Int) (w : World) (e : Ending) (w' : World) : Prop :=
  ∃ x : Int, e = .returned (.tuple #[.int .i64 x, .bool (decide (-9223372036854775808 ≤ n ∧ n ≤ 9223372036854775807))]) ∧ (-9223372036854775808 ≤ n ∧ n ≤ 9223372036854775807 → x = n) ∧ Below w.heap.size w w'

set_option maxHeartbeats 1000000 in
theorem rint_long (w : World) (n : Int) (b : Bool) (p : Option Addr) (l c : Nat) (hl : 4 < l) (hl2 : l ≤ 1000) (hn : 18446744073709551616 ≤ n.natAbs) :
    Calls Try.prog 40 #[.agg #[.bool b, .slice p l c]] w (IntR n w) := by
  go_enter Try.func40, Try.ntmps40
  go_wp2_with fail
  refine bodyPost_ret (v := .tuple #[.int .i64 0, .bool false]) (by simp [results, Try.results40, go_sem]) rfl ⟨0, ?_, by omega, (Below.refl _ _).alloc (Nat.le_refl _) _⟩
  rw [decide_eq_false (by omega)]

set_option maxHeartbeats 1000000 in
theorem rint_false (w : World) (n : Int) (p : Option Addr) (B c : Nat) (ds : List Nat) (hr : Row w B (.slice p ds.length c) ds) (hd : Dig ds) (hl : ds.length ≤ 4) (hv : dv ds = n.natAbs) (hv2 : dv ds < 18446744073709551616) (hb : 0 ≤ n) :
    Calls Try.prog 40 #[.agg #[.bool false, .slice p ds.length c]] w (IntR n w) := by
  have HC : Hid (∀ i, i < ds.length → ∃ g, p = some ⟨g, 0, none⟩ ∧ g < w.heap.size ∧ ds.length ≤ c ∧ w.cell? ⟨g, i, none⟩ = some (.int .i64 (dd ds i : Nat))) := Lib.hid fun i hi => by
    rcases hr.form with ⟨h1, rfl⟩ | ⟨g, c', h1, h2, h3, h4, h5, h6⟩
    · simp at hi
    · simp only [Value.slice.injEq, true_and] at h1
      obtain ⟨rfl, rfl⟩ := h1
      exact ⟨g, rfl, h3, h4, h6 i hi⟩
  have HD := Lib.hid hd
  have HV := Lib.hid hv
  have HV2 := Lib.hid hv2
  clear hr hd hv hv2
  go_enter Try.func40, Try.ntmps40
  go_wp2_with fail
  go_loop [4, 5] (fun m i => ∃ k M : Nat, k ≤ ds.length ∧ m = .int .u64 M ∧ i = .int .i64 ((k : Int) - 1) ∧ Hid (Up ds k M)) (fun _ i => (intOf i + 1).toNat)
  case atStart => exact ⟨ds.length, 0, Nat.le_refl _, rfl, by go_num, Lib.hid (Up.first ds)⟩
  case round =>
    obtain ⟨k, M, hk, rfl, rfl, hu⟩ := hrel
    cases k with
    | zero =>
      have hM : M = n.natAbs := by rw [hu.out.last, HV.out]
      have hM2 := HV2.out
      rw [HV.out, ← hM] at hM2
      have HM := Lib.hid hM
      clear hM
      by_cases hf : M ≤ 9223372036854775807
      · go_wp2_with fail
        refine bodyPost_ret (v := .tuple #[.int .i64 (M), .bool true]) (by simp [results, Try.results40, go_sem]; omega) rfl ⟨_, by rw [decide_eq_true (by have := HM.out; omega)], fun _ => by have := HM.out; omega, (Below.refl _ _).alloc (Nat.le_refl _) _⟩
      · go_wp2_with fail
        refine bodyPost_ret (v := .tuple #[.int .i64 (wrap64 M), .bool false]) (by simp [results, Try.results40, go_sem]; omega) rfl ⟨_, by rw [decide_eq_false (by have := HM.out; omega)], fun h => by have := HM.out; omega, (Below.refl _ _).alloc (Nat.le_refl _) _⟩
    | succ m =>
      obtain ⟨g, rfl, hg, hlc, hcell⟩ := HC.out m (by omega)
      have h1 := hu.out.next
      have h2 := h1.le
      have h3 := HV2.out
      have h4 := HD.out m
      have HU := Lib.hid h1
      have h5 : M * 65536 + dd ds m < 18446744073709551616 := by omega
      have e1 : ((m + 1 : Nat) : Int) - 1 = m := by omega
      rw [e1]
      clear e1 h1 h2 h3
      generalize dd ds m = d at *
      go_wp2_with fail
      go_round
      case rel => exact ⟨m, M * 65536 + d, by omega, by go_num, rfl, HU⟩
      case measure => simp [intOf]

set_option maxHeartbeats 1000000 in
theorem rint_true (w : World) (n : Int) (p : Option Addr) (B c : Nat) (ds : List Nat) (hr : Row w B (.slice p ds.length c) ds) (hd : Dig ds) (hl : ds.length ≤ 4) (hv : dv ds = n.natAbs) (hv2 : dv ds < 18446744073709551616) (hb : n < 0) :
    Calls Try.prog 40 #[.agg #[.bool true, .slice p ds.length c]] w (IntR n w) := by
  have HC : Hid (∀ i, i < ds.length → ∃ g, p = some ⟨g, 0, none⟩ ∧ g < w.heap.size ∧ ds.length ≤ c ∧ w.cell? ⟨g, i, none⟩ = some (.int .i64 (dd ds i : Nat))) := Lib.hid fun i hi => by
    rcases hr.form with ⟨h1, rfl⟩ | ⟨g, c', h1, h2, h3, h4, h5, h6⟩
    · simp at hi
    · simp only [Value.slice.injEq, true_and] at h1
      obtain ⟨rfl, rfl⟩ := h1
      exact ⟨g, rfl, h3, h4, h6 i hi⟩
  have HD := Lib.hid hd
  have HV := Lib.hid hv
  have HV2 := Lib.hid hv2
  clear hr hd hv hv2
  go_enter Try.func40, Try.ntmps40
  go_wp2_with fail
  go_loop [4, 5] (fun m i => ∃ k M : Nat, k ≤ ds.length ∧ m = .int .u64 M ∧ i = .int .i64 ((k : Int) - 1) ∧ Hid (Up ds k M)) (fun _ i => (intOf i + 1).toNat)
  case atStart => exact ⟨ds.length, 0, Nat.le_refl _, rfl, by go_num, Lib.hid (Up.first ds)⟩
  case round =>
    obtain ⟨k, M, hk, rfl, rfl, hu⟩ := hrel
    cases k with
    | zero =>
      have hM : M = n.natAbs := by rw [hu.out.last, HV.out]
      have hM2 := HV2.out
      rw [HV.out, ← hM] at hM2
      have HM := Lib.hid hM
      clear hM
      by_cases hf : M ≤ 9223372036854775808
      · go_wp2_with fail
        refine bodyPost_ret (v := .tuple #[.int .i64 (wrap64 (IntKind.u64.wrap (-M))), .bool true]) (by simp [results, Try.results40, go_sem]; omega) rfl ⟨_, by rw [decide_eq_true (by have := HM.out; omega)], fun _ => by rw [neg_wrap M hf]; have := HM.out; omega, (Below.refl _ _).alloc (Nat.le_refl _) _⟩
      · go_wp2_with fail
        refine bodyPost_ret (v := .tuple #[.int .i64 (wrap64 (IntKind.u64.wrap (-M))), .bool false]) (by simp [results, Try.results40, go_sem]; omega) rfl ⟨_, by rw [decide_eq_false (by have := HM.out; omega)], fun h => by have := HM.out; omega, (Below.refl _ _).alloc (Nat.le_refl _) _⟩
    | succ m =>
      obtain ⟨g, rfl, hg, hlc, hcell⟩ := HC.out m (by omega)
      have h1 := hu.out.next
      have h2 := h1.le
      have h3 := HV2.out
      have h4 := HD.out m
      have HU := Lib.hid h1
      have h5 : M * 65536 + dd ds m < 18446744073709551616 := by omega
      have e1 : ((m + 1 : Nat) : Int) - 1 = m := by omega
      rw [e1]
      clear e1 h1 h2 h3
      generalize dd ds m = d at *
      go_wp2_with fail
      go_round
      case rel => exact ⟨m, M * 65536 + d, by omega, by go_num, rfl, HU⟩
      case measure => simp [intOf]

theorem rint_any (w : World) (n : Int) (x : Value) (B : Nat) (hx : NumIs n B w x) (hn : n.natAbs < 65536 ^ 100) :
    Calls Try.prog 40 #[x] w (IntR n w) := by
  obtain ⟨p, c, ds, rfl, hr, hm, hd⟩ := hx.form
  have l1 := hm.len (L := 100) (by rw [hd]; exact hn)
  by_cases hl : ds.length ≤ 4
  · have hv : dv ds < 18446744073709551616 := by
      have := ev_lt hm.dig ds.length
      have h2 : 65536 ^ ds.length ≤ 65536 ^ 4 := Nat.pow_le_pow_right (by omega) hl
      unfold dv
      omega
    by_cases h : n < 0
    · rw [decide_eq_true h]
      exact rint_true w n p B c ds hr hm.dig hl hd hv h
    · rw [decide_eq_false h]
      exact rint_false w n p B c ds hr hm.dig hl hd hv (by omega)
  · refine rint_long w n _ p _ c (by omega) (by omega) ?_
    have h1 := hm.least (by intro h; rw [h] at hl; simp at hl)
    have h2 : 65536 ^ 4 ≤ 65536 ^ (ds.length - 1) := Nat.pow_le_pow_right (by omega) (by omega)
    omega

end Go.Proofs.Ytnbloflgggndiaa
