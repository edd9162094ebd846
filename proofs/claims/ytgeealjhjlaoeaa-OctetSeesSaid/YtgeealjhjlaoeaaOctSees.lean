/- The walk of OctetSees. -/
import Derived.Test.YtgeealjhjlaoeaaOctShown
namespace Go.Proofs.Ytgeealjhjlaoeaa
open Go.RowKit Oct

/-- A text as bytes: a new row, whose cells are the text's bytes. -/
theorem bytes_made (w : World) (s : ByteArray) : ∃ C w', (convert 9 50 (.string s)).run Try.prog w = .ok (.slice (some ⟨w.heap.size, 0, none⟩) s.size C) w' ∧
    (∀ j, j < s.size → w'.cell? ⟨w.heap.size, j, none⟩ = some (.int .u8 (bAt s.data.toList j))) ∧ (∀ j, j < s.size → w'.frozen? ⟨w.heap.size, j, none⟩ = false) ∧ Below w.heap.size w w' ∧ w.heap.size < w'.heap.size ∧ s.size ≤ C := by
  refine ⟨_, _, run_bytes_of_string w _ _ 5 s Try.underlying9 Try.underlying50 Try.underlying5, ?_, ?_, (Below.refl _ _).drew.alloc (Nat.le_refl _) _, ?_, grownCap_ge _ _ _ _⟩
  · intro j hj
    have := World.cell?_alloc_mark w.drew (bytesRow s (grownCap w s.size 0 5)) 5 ((bytesRow s (grownCap w s.size 0 5)).size, (bytesRow s (grownCap w s.size 0 5)).size + 1) j
    rw [show w.drew.heap.size = w.heap.size from rfl] at this
    rw [this, bytesRow_at s _ j hj]
    rw [← bAt_of s j hj]
    rfl
  · intro j hj
    have := World.frozen?_alloc_mark w.drew (bytesRow s (grownCap w s.size 0 5)) 5 (bytesRow s (grownCap w s.size 0 5)).size ((bytesRow s (grownCap w s.size 0 5)).size + 1) j
    rw [show w.drew.heap.size = w.heap.size from rfl] at this
    rw [this]
    have h2 : s.size ≤ (bytesRow s (grownCap w s.size 0 5)).size := by
      unfold bytesRow
      rw [Array.size_append, Array.size_map]
      exact Nat.le_add_right _ _
    simp
    omega
  · simp [World.alloc]

/-- Bytes as a text: the text of the cells' numbers. -/
theorem string_of (w : World) (b len cap : Nat) (l : List UInt8) (hlen : l.length = len) (hc : ∀ j, j < len → w.cell? ⟨b, j, none⟩ = some (.int .u8 (bAt l j))) :
    (convert 50 9 (.slice (some ⟨b, 0, none⟩) len cap)).run Try.prog w = .ok (.string ⟨l.toArray⟩) w := by
  subst hlen
  refine run_convert_bytes_back w _ _ 5 ⟨b, 0, none⟩ cap l Try.underlying50 Try.underlying5 Try.underlying9 ?_
  intro j hj
  have e : (⟨b, 0, none⟩ : Addr).add j = ⟨b, j, none⟩ := by unfold Addr.add; split <;> simp_all
  rw [e, hc j hj]
  unfold bAt
  rw [List.getElem?_eq_getElem hj]
  rfl

/-- The byte that stands there behind the turn. -/
def xorAt (l : List UInt8) (k q : Nat) : UInt8 := (l[k]?.getD 0) ^^^ UInt8.ofNat q
theorem xorAt_bits (l : List UInt8) (k q : Nat) (hq : q < 256) : bits .xor .u8 (bAt l k) (q : Int) = ((xorAt l k q).toNat : Int) := by
  unfold bAt xorAt
  rw [u8_xor_nat _ _ (l[k]?.getD 0).toNat_lt hq, UInt8.toNat_xor, UInt8.toNat_ofNat']
  rw [Nat.mod_eq_of_lt (by omega)]
theorem xorAt_same (l : List UInt8) (k q : Nat) (hq : q < 256) : ((xorAt l k q).toNat : Int) = bAt l k ↔ q = 0 := by
  unfold bAt xorAt
  rw [UInt8.toNat_xor, UInt8.toNat_ofNat', Nat.mod_eq_of_lt (by omega)]
  constructor
  · intro h
    have h2 : (l[k]?.getD 0).toNat ^^^ q = (l[k]?.getD 0).toNat := by omega
    have h3 := congrArg ((l[k]?.getD 0).toNat ^^^ ·) h2
    simpa [← Nat.xor_assoc] using h3
  · rintro rfl
    simp
theorem sees_eq (s : ByteArray) (k q : Nat) (hq : q < 256) (hk : k < s.size) :
    ((sumS ⟨(s.data.toList.set k (xorAt s.data.toList k q)).toArray⟩ == sumS s) == ((q : Int) == 0)) = true := by
  have h1 := sumS_set s k (xorAt s.data.toList k q) (by simpa using hk)
  rw [xorAt_same _ _ _ hq] at h1
  by_cases h : q = 0
  · have := h1.2 h
    subst h
    simp [this]
  · have h2 : ¬ (sumS ⟨(s.data.toList.set k (xorAt s.data.toList k q)).toArray⟩ = sumS s) := fun e => h (h1.1 e)
    have h3 : ¬ ((q : Int) = 0) := by omega
    rw [beq_eq_false_iff_ne.2 h2, beq_eq_false_iff_ne.2 h3]
    rfl

set_option maxHeartbeats 400000 in
theorem sees_walk (a : ByteArray) (p q : Nat) (w : World) (ha : a.size ≤ maxLen) (hp : p < 256) (hq : q < 256) :
    Calls Try.prog 10 #[.string a, .int .u8 p, .int .u8 q] w fun e w' => e = .returned (.bool true) ∧ Below w.heap.size w w' := by
  have f1 := fewS_size a
  generalize hx : fewS a = x at *
  have HX := Lib.hid hx
  clear hx
  by_cases h0 : x.size = 0
  · go_enter Try.func10, Try.ntmps10
    go_wp2_with fail
    refine (shown_any _).mono ?_
    rintro e w1 ⟨rfl, hb1⟩
    go_wp2_with fail
    refine (few_any _ _ ha).mono ?_
    rintro e w2 ⟨rfl, rfl⟩
    rw [HX.out]
    obtain ⟨C, w2, hcv, hcell, hfz, hb2, hsz, hC⟩ := bytes_made w1 x
    have HC := Lib.hid hcell
    clear hcell
    go_wp2_with fail
    go_ret
    exact ⟨rfl, hb1.trans (hb2.mono hb1.size)⟩
  · have h00 : ((x.size : Int) == 0) = false := beq_eq_false_iff_ne.2 (by omega)
    go_enter Try.func10, Try.ntmps10
    go_wp2_with fail
    refine (shown_any _).mono ?_
    rintro e w1 ⟨rfl, hb1⟩
    go_wp2_with fail
    refine (few_any _ _ ha).mono ?_
    rintro e w2 ⟨rfl, rfl⟩
    rw [HX.out]
    obtain ⟨C, w2, hcv, hcell, hfz, hb2, hsz, hC⟩ := bytes_made w1 x
    have hk : p % x.size < x.size := Nat.mod_lt _ (by omega)
    have hc1 := hcell _ hk
    have hf1 := hfz _ hk
    have hs1 := string_of w2 w1.heap.size x.size C x.data.toList (by simp) hcell
    rw [show (⟨x.data.toList.toArray⟩ : ByteArray) = x by simp] at hs1
    have hs2 := string_of (w2.setCell ⟨w1.heap.size, p % x.size, none⟩ (.int .u8 (bits .xor .u8 (bAt x.data.toList (p % x.size)) (q : Int)))) w1.heap.size x.size C (x.data.toList.set (p % x.size) (xorAt x.data.toList (p % x.size) q)) (by simp)
      (fun j hj => by
        by_cases e : p % x.size = j
        · subst e
          rw [World.cell?_setCell_same _ _ _ hc1, xorAt_bits _ _ _ hq]
          unfold bAt
          rw [List.getElem?_set_self (by simpa using hj)]
          rfl
        · rw [World.cell?_setCell_other _ _ _ _ (fun h => by simp at h), hcell j hj]
          unfold bAt
          rw [List.getElem?_set_ne e])
    have hyz : (⟨(x.data.toList.set (p % x.size) (xorAt x.data.toList (p % x.size) q)).toArray⟩ : ByteArray).size ≤ 200 := by show (List.toArray _).size ≤ 200; simpa using f1
    have hq := Lib.hid (sees_eq x (p % x.size) q hq hk)
    generalize (⟨(x.data.toList.set (p % x.size) (xorAt x.data.toList (p % x.size) q)).toArray⟩ : ByteArray) = y at *
    clear hcell hfz
    go_wp2_with fail
    refine (sum_any _ _ (by unfold maxLen; omega)).mono ?_
    rintro e w3 ⟨rfl, rfl⟩
    go_wp2_with fail
    refine (sum_any _ _ (by unfold maxLen; omega)).mono ?_
    rintro e w3 ⟨rfl, rfl⟩
    go_wp2_with fail
    go_ret
    exact ⟨congrArg (fun b => Ending.returned (.bool b)) hq.out, (hb1.trans (hb2.mono hb1.size)).setCell hb1.size _⟩

theorem seesV (a : ByteArray) (p q : Int) (w : World) (ha : a.size ≤ maxLen) (hp : 0 ≤ p ∧ p ≤ 255) (hq : 0 ≤ q ∧ q ≤ 255) :
    Calls Try.prog 10 #[.string a, .int .u8 p, .int .u8 q] w fun e w' => e = .returned (.bool true) ∧ Below w.heap.size w w' := by
  obtain ⟨n, rfl⟩ := Int.eq_ofNat_of_zero_le hp.1
  obtain ⟨m, rfl⟩ := Int.eq_ofNat_of_zero_le hq.1
  exact sees_walk a n m w ha (by omega) (by omega)
end Go.Proofs.Ytgeealjhjlaoeaa
