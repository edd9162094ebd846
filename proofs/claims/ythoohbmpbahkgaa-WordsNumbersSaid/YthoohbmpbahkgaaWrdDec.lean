/- The reference's Decimal. -/
import Derived.Test.YthoohbmpbahkgaaWrdDecP
import Derived.Test.YthoohbmpbahkgaaWrdLine1
namespace Go.Proofs.Ythoohbmpbahkgaa
open Go.RowKit

def decP (n : Int) : ByteArray := if n < 0 then oneB 45 ++ decD n.natAbs else decD n.natAbs
theorem decC_le (u : Nat) (h : u < 1000000000000) : (decC u).size ≤ 12 := decF_size 12 u 12 (by omega)
set_option maxHeartbeats 4000000 in
theorem dec_any (n : Int) (w : World) (h1 : -1000000000 < n) (h2 : n < 1000000000) : Calls Try.prog 25 #[.int .i64 n] w fun e w' => e = .returned (.string (decP n)) ∧ Below w.heap.size w w' := by
  obtain ⟨m, hm⟩ : ∃ m, n.natAbs = m := ⟨_, rfl⟩
  have hmb : m < 1000000000 := by omega
  obtain ⟨U, hU⟩ : ∃ U : Int, IntKind.u64.wrap n = U := ⟨_, rfl⟩
  obtain ⟨R, hR⟩ : ∃ R, decP n = R := ⟨_, rfl⟩
  rw [hR]
  obtain ⟨D, hD⟩ : ∃ D, decD m = D := ⟨_, rfl⟩
  have hDs := decD_size m 8 (by omega)
  rw [hD] at hDs
  obtain ⟨d0, hd0⟩ : ∃ d : Nat, m % 10 = d := ⟨_, rfl⟩
  obtain ⟨q0, hq0⟩ : ∃ q : Nat, m / 10 = q := ⟨_, rfl⟩
  have hDD : decC q0 ++ oneB (48 + (d0 : Int)) = D := by rw [← hD, ← hq0, ← hd0]; rfl
  have x1 : (m : Int) % 10 = (d0 : Int) := by omega
  have x2 : (m : Int) / 10 = (q0 : Int) := by omega
  have hcv := fun (c : Int) => conv_one c
  have y1 : ∀ d : Nat, d < 10 → IntKind.u8.wrap (d : Int) = (d : Int) := fun d hd => by rw [IntKind.wrap_u8]; omega
  have y2 : ∀ d : Nat, d < 10 → IntKind.u8.wrap (48 + (d : Int)) = 48 + (d : Int) := fun d hd => by rw [IntKind.wrap_u8]; omega
  have y1' := y1 d0 (by omega)
  have y2' := y2 d0 (by omega)
  have hd10 : d0 < 10 := by omega
  have hq10 : q0 < 100000000 := by omega
  have Y1 := Lib.hid y1
  have Y2 := Lib.hid y2
  replace hd0 := Lib.hid hd0
  replace hq0 := Lib.hid hq0
  replace hD := Lib.hid hD
  clear y1 y2
  by_cases hn : n < 0
  · have hRR : oneB 45 ++ D = R := by rw [← hR, ← hD.out, ← hm]; unfold decP; rw [if_pos hn]
    have hneg : IntKind.u64.wrap (-U) = (m : Int) := by rw [← hU, IntKind.wrap_u64, IntKind.wrap_u64]; omega
    have hU' := Lib.hid hU
    replace hRR := Lib.hid hRR
    replace hR := Lib.hid hR
    replace hm := Lib.hid hm
    replace hDD := Lib.hid hDD
    go_enter Try.func25, Try.ntmps25
    go_wp2_with fail
    go_loopw [4, 5] (fun uv ov wr => ∃ (u : Nat) (out : ByteArray), u < 1000000000 ∧ uv = .int .u64 u ∧ ov = .string out ∧ Hid (decC u ++ out = D) ∧ Below w.heap.size w wr) (fun uv _ _ => (intOf uv).toNat)
    case atStart => exact ⟨q0, oneB (48 + (d0 : Int)), by omega, rfl, rfl, hDD, balloc1 _ _⟩
    case round =>
      obtain ⟨u, out, hub, rfl, rfl, hrel, hB⟩ := hrel
      have hso : out.size ≤ 9 := by
        have h : (decC u ++ out).size = D.size := by rw [hrel.out]
        rw [ByteArray.size_append] at h
        omega
      clear x1 x2 y1' y2'
      by_cases hu0 : u = 0
      · subst hu0
        have hfin : out = D := by have h := hrel.out; rw [decC_zero, ByteArray.empty_append] at h; exact h
        replace hrel := Lib.hid hrel
        subst hfin
        have hct : ¬ (9223372036854775807 : Int) < ((⟨#[45]⟩ : ByteArray).size : Int) + (out.size : Int) := by
          have : (⟨#[45]⟩ : ByteArray).size = 1 := rfl
          rw [this]
          omega
        go_wp2_with fail
        go_ret
        exact ⟨by rw [← hRR.out]; rfl, hB⟩
      · have hst := decC_step u (by omega) hu0
        have hrel' := hrel.out
        rw [hst, ByteArray.append_assoc] at hrel'
        obtain ⟨d, hd⟩ : ∃ d : Nat, u % 10 = d := ⟨_, rfl⟩
        obtain ⟨q, hq⟩ : ∃ q : Nat, u / 10 = q := ⟨_, rfl⟩
        rw [hd, hq] at hrel'
        have x1 : (u : Int) % 10 = (d : Int) := by omega
        have x2 : (u : Int) / 10 = (q : Int) := by omega
        have hdl : d < 10 := by omega
        have hql : q < u := by omega
        have y1' := Y1.out d hdl
        have y2' := Y2.out d hdl
        have hct : ¬ (9223372036854775807 : Int) < ((oneB (48 + (d : Int))).size : Int) + (out.size : Int) := by rw [oneB_size]; omega
        have hu1 : 0 < u := by omega
        have hbb := hB.alloc hB.size (.cells #[.int .u8 (48 + (d : Int))] 5)
        replace hrel' := Lib.hid hrel'
        replace hd := Lib.hid hd
        replace hq := Lib.hid hq
        replace hst := Lib.hid hst
        go_wp2_with fail
        go_roundw
        case rel => exact ⟨q, _, by omega, rfl, rfl, hrel', hbb⟩
        case measure => simp [intOf]; omega
  · have hRR : D = R := by rw [← hR, ← hD.out, ← hm]; unfold decP; rw [if_neg hn]
    have hUm : U = (m : Int) := by rw [← hU, IntKind.wrap_u64]; omega
    subst hUm
    replace hRR := Lib.hid hRR
    replace hR := Lib.hid hR
    replace hm := Lib.hid hm
    replace hDD := Lib.hid hDD
    go_enter Try.func25, Try.ntmps25
    go_wp2_with fail
    go_loopw [4, 5] (fun uv ov wr => ∃ (u : Nat) (out : ByteArray), u < 1000000000 ∧ uv = .int .u64 u ∧ ov = .string out ∧ Hid (decC u ++ out = D) ∧ Below w.heap.size w wr) (fun uv _ _ => (intOf uv).toNat)
    case atStart => exact ⟨q0, oneB (48 + (d0 : Int)), by omega, rfl, rfl, hDD, balloc1 _ _⟩
    case round =>
      obtain ⟨u, out, hub, rfl, rfl, hrel, hB⟩ := hrel
      have hso : out.size ≤ 9 := by
        have h : (decC u ++ out).size = D.size := by rw [hrel.out]
        rw [ByteArray.size_append] at h
        omega
      clear x1 x2 y1' y2'
      by_cases hu0 : u = 0
      · subst hu0
        have hfin : out = D := by have h := hrel.out; rw [decC_zero, ByteArray.empty_append] at h; exact h
        replace hrel := Lib.hid hrel
        subst hfin
        have hct : ¬ (9223372036854775807 : Int) < ((⟨#[]⟩ : ByteArray).size : Int) + (out.size : Int) := by
          have : (⟨#[]⟩ : ByteArray).size = 0 := rfl
          rw [this]
          omega
        go_wp2_with fail
        go_ret
        exact ⟨by rw [← hRR.out]; exact congrArg (fun s => Ending.returned (Value.string s)) (ByteArray.empty_append), hB⟩
      · have hst := decC_step u (by omega) hu0
        have hrel' := hrel.out
        rw [hst, ByteArray.append_assoc] at hrel'
        obtain ⟨d, hd⟩ : ∃ d : Nat, u % 10 = d := ⟨_, rfl⟩
        obtain ⟨q, hq⟩ : ∃ q : Nat, u / 10 = q := ⟨_, rfl⟩
        rw [hd, hq] at hrel'
        have x1 : (u : Int) % 10 = (d : Int) := by omega
        have x2 : (u : Int) / 10 = (q : Int) := by omega
        have hdl : d < 10 := by omega
        have hql : q < u := by omega
        have y1' := Y1.out d hdl
        have y2' := Y2.out d hdl
        have hct : ¬ (9223372036854775807 : Int) < ((oneB (48 + (d : Int))).size : Int) + (out.size : Int) := by rw [oneB_size]; omega
        have hu1 : 0 < u := by omega
        have hbb := hB.alloc hB.size (.cells #[.int .u8 (48 + (d : Int))] 5)
        replace hrel' := Lib.hid hrel'
        replace hd := Lib.hid hd
        replace hq := Lib.hid hq
        replace hst := Lib.hid hst
        go_wp2_with fail
        go_roundw
        case rel => exact ⟨q, _, by omega, rfl, rfl, hrel', hbb⟩
        case measure => simp [intOf]; omega
end Go.Proofs.Ythoohbmpbahkgaa
