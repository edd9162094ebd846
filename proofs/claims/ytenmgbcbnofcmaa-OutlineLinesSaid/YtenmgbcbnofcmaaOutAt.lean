/- The contract of once's place in the ring (the closure at). -/
import Derived.Test.YtenmgbcbnofcmaaOutCurve
namespace Go.Proofs.Ytenmgbcbnofcmaa
open Go.RowKit

set_option maxHeartbeats 800000 in
theorem at_any (R S : Nat) (v : Value) (ps : List Pn) (s i : Nat) (w : World) (hp : PtsAt w v ps) (h0 : 0 < ps.length) (hl : ps.length ≤ 100000000) (hs : s ≤ 100000000) (hi : i ≤ 1000000000) (c1 : w.cell? ⟨R, 0, none⟩ = some v) (c2 : w.cell? ⟨S, 0, none⟩ = some (.int .i64 (s : Int))) :
    Calls Try.prog 50 #[.int .i64 (i : Int), .pointer (some ⟨R, 0, none⟩), .pointer (some ⟨S, 0, none⟩)] w fun e w' => e = .returned (.agg #[.int .i64 (ps[(s + i) % ps.length]?.getD default).x, .int .i64 (ps[(s + i) % ps.length]?.getD default).y, .bool (ps[(s + i) % ps.length]?.getD default).on]) ∧ Below w.heap.size w w' := by
  rcases hp with ⟨-, h⟩ | ⟨a, c, rfl, hg, hc1, hc2, hcell⟩
  · rw [h] at h0; exact absurd h0 (by simp)
  have lR := World.block_lt_of_cell? w _ c1
  have lS := World.block_lt_of_cell? w _ c2
  have hj : (s + i) % ps.length < ps.length := Nat.mod_lt _ h0
  obtain ⟨q1, q2, q3⟩ := hcell _ hj
  obtain ⟨K, hK⟩ : ∃ K, (s + i) % ps.length = K := ⟨_, rfl⟩
  rw [hK] at hj q1 q2 q3 ⊢
  have e1 : IntKind.i64.wrap ((s : Int) + (i : Int)) = ((s + i : Nat) : Int) := by rw [IntWalk.i64_in _ (by omega)]; rfl
  have e2 : ((s + i : Nat) : Int).tmod (ps.length : Int) = (K : Int) := by rw [← hK]; rfl
  have e3 : IntKind.i64.wrap (K : Int) = (K : Int) := IntWalk.i64_in _ (by omega)
  obtain ⟨M, hM⟩ : ∃ M, s + i = M := ⟨_, rfl⟩
  rw [hM] at e1 e2
  generalize ps[K]?.getD default = p at *
  obtain ⟨x, y, on⟩ := p
  simp only at q1 q2 q3
  have z0 : (0 : Int) ≤ (K : Int) := by omega
  have z1 : (K : Int) < (ps.length : Int) := by omega
  have z2 : ((ps.length : Int) == 0) = false := beq_false_of_ne (by omega)
  have z3 : (K : Int).toNat = K := rfl
  have z4 : ¬ ps.length = 0 := by omega
  have z5 : ¬ (ps.length : Int) = 0 := by omega
  have z6 : (1 : Int) ≤ (ps.length : Int) := by omega
  generalize hP : ps.length = P at *
  clear hcell hj hP hK hM hs hi
  go_enter Try.func50, Try.ntmps50
  go_wp2_with fail
  go_region_held3 (fun w' => w'.cell? ⟨R, 0, none⟩ = some (.slice (some a) P c) ∧ w'.cell? ⟨S, 0, none⟩ = some (.int .i64 (s : Int)) ∧ w'.cell? (a.add (K * 3)) = some (.int .i64 x) ∧ w'.cell? ⟨(a.add (K * 3)).block, (a.add (K * 3)).off + 1, none⟩ = some (.int .i64 y) ∧ w'.cell? ⟨(a.add (K * 3)).block, (a.add (K * 3)).off + 2, none⟩ = some (.bool on)) (go_keep) (fail)
  go_wp2_with fail
  refine bodyPost_ret (v := .agg #[.int .i64 x, .int .i64 y, .bool on]) (by simp [results, Try.results50, go_sem]) rfl ⟨rfl, ?_⟩
  repeat (first | exact Below.refl _ _ | with_reducible refine Below.drew ?_ | with_reducible refine Below.alloc ?_ (by simp) _ | with_reducible refine Below.setCell ?_ (by simp) _)
end Go.Proofs.Ytenmgbcbnofcmaa
