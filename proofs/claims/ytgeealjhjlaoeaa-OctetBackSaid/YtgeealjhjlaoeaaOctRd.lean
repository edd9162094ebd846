/- A Reader in memory; what its lowest calls do. -/
import Derived.Test.YtgeealjhjlaoeaaOctShown
import Derived.Deep.QuietTactic
import Derived.BigQuiet
namespace Go.Proofs.Ytgeealjhjlaoeaa
open Go.RowKit Oct

/-- Block b is a Reader of the bytes s, at place p, that has failed or not. -/
structure Rd (w : World) (b : Nat) (s : ByteArray) (p : Nat) (f : Bool) : Prop where
  c0 : w.cell? ⟨b, 0, none⟩ = some (.string s)
  c1 : w.cell? ⟨b, 1, none⟩ = some (.int .i64 p)
  c2 : w.cell? ⟨b, 2, none⟩ = some (.bool f)
  z1 : w.frozen? ⟨b, 1, none⟩ = false
  z2 : w.frozen? ⟨b, 2, none⟩ = false
  lt : b < w.heap.size

/-- What was there is as it was, but for block b. -/
def Other (B b : Nat) (w w' : World) : Prop := w'.os = w.os ∧ w'.tape = w.tape ∧ w'.output = w.output ∧ w.heap.size ≤ w'.heap.size ∧ ∀ k, k < B → k ≠ b → w'.heap[k]? = w.heap[k]?

theorem Other.refl (B b : Nat) (w : World) : Other B b w w := ⟨rfl, rfl, rfl, Nat.le_refl _, fun _ _ _ => rfl⟩
theorem Other.trans {B b : Nat} {u v w : World} (h : Other B b u v) (k : Other B b v w) : Other B b u w :=
  ⟨k.1.trans h.1, k.2.1.trans h.2.1, k.2.2.1.trans h.2.2.1, Nat.le_trans h.2.2.2.1 k.2.2.2.1, fun i hi hb => (k.2.2.2.2 i hi hb).trans (h.2.2.2.2 i hi hb)⟩
theorem Other.mono {B C b : Nat} {u v : World} (h : Other B b u v) (hC : C ≤ B) : Other C b u v :=
  ⟨h.1, h.2.1, h.2.2.1, h.2.2.2.1, fun i hi hb => h.2.2.2.2 i (Nat.lt_of_lt_of_le hi hC) hb⟩
theorem Other.set {B b : Nat} {u v : World} (h : Other B b u v) (o : Nat) (x : Value) : Other B b u (v.setCell ⟨b, o, none⟩ x) :=
  ⟨h.1, h.2.1, h.2.2.1, by simpa using h.2.2.2.1, fun i hi hb => (Below.heap_setCell v ⟨b, o, none⟩ x i hb).trans (h.2.2.2.2 i hi hb)⟩
theorem Other.drewN {B b : Nat} {u v : World} (h : Other B b u v) (n : Nat) : Other B b u (v.drewN n) := h
theorem Other.size {B b : Nat} {u v : World} (h : Other B b u v) : u.heap.size ≤ v.heap.size := h.2.2.2.1
theorem Other.alloc {B b : Nat} {u v : World} (h : Other B b u v) (hB : B ≤ v.heap.size) (o : Obj) : Other B b u (v.alloc o) :=
  ⟨h.1, h.2.1, h.2.2.1, by have := h.2.2.2.1; show u.heap.size ≤ (v.heap.push o).size; simp; omega, fun i hi hb => (Below.heap_alloc v o i (Nat.lt_of_lt_of_le hi hB)).trans (h.2.2.2.2 i hi hb)⟩
theorem Other.block {B b c : Nat} {u v : World} (h : Other B b u v) (hc : c < B) (hcb : c ≠ b) : v.heap[c]? = u.heap[c]? := h.2.2.2.2 c hc hcb
theorem Below.other {B : Nat} {u v : World} (h : Below B u v) (b : Nat) : Other B b u v := ⟨h.os, h.tape, h.output, h.size, fun i hi _ => h.block i hi⟩
theorem Other.below {B b : Nat} {u v : World} (h : Other B b u v) (hb : B ≤ b) : Below B u v := ⟨h.1, h.2.1, h.2.2.1, h.2.2.2.1, fun i hi => h.2.2.2.2 i hi (by omega)⟩

theorem Rd.keep {w w' : World} {b : Nat} {s : ByteArray} {p : Nat} {f : Bool} (h : Rd w b s p f) (hh : w'.heap[b]? = w.heap[b]?) (hs : w.heap.size ≤ w'.heap.size) : Rd w' b s p f :=
  ⟨by rw [World.cell?_of_block (w := w) hh]; exact h.c0, by rw [World.cell?_of_block (w := w) hh]; exact h.c1, by rw [World.cell?_of_block (w := w) hh]; exact h.c2,
   by rw [World.frozen?_of_block (w := w) hh]; exact h.z1, by rw [World.frozen?_of_block (w := w) hh]; exact h.z2, Nat.lt_of_lt_of_le h.lt hs⟩
theorem Rd.below {w w' : World} {b B : Nat} {s : ByteArray} {p : Nat} {f : Bool} (h : Rd w b s p f) (hb : Below B w w') (hB : b < B) : Rd w' b s p f := h.keep (hb.block b hB) hb.size
theorem Rd.alloc {w : World} {b : Nat} {s : ByteArray} {p : Nat} {f : Bool} (h : Rd w b s p f) (o : Obj) : Rd (w.alloc o) b s p f := h.keep (Below.heap_alloc w o b h.lt) (by show w.heap.size ≤ (w.heap.push o).size; simp)
theorem Rd.drewN {w : World} {b : Nat} {s : ByteArray} {p : Nat} {f : Bool} (h : Rd w b s p f) (n : Nat) : Rd (w.drewN n) b s p f := h.keep rfl (Nat.le_refl _)
theorem Rd.set1 {w : World} {b : Nat} {s : ByteArray} {p : Nat} {f : Bool} (h : Rd w b s p f) (q : Nat) : Rd (w.setCell ⟨b, 1, none⟩ (.int .i64 q)) b s q f :=
  ⟨by rw [World.cell?_setCell_other _ _ _ _ (by simp)]; exact h.c0, World.cell?_setCell_same _ _ _ h.c1, by rw [World.cell?_setCell_other _ _ _ _ (by simp)]; exact h.c2,
   by rw [World.frozen?_setCell]; exact h.z1, by rw [World.frozen?_setCell]; exact h.z2, by simpa using h.lt⟩
theorem Rd.set2 {w : World} {b : Nat} {s : ByteArray} {p : Nat} {f : Bool} (h : Rd w b s p f) (g : Bool) : Rd (w.setCell ⟨b, 2, none⟩ (.bool g)) b s p g :=
  ⟨by rw [World.cell?_setCell_other _ _ _ _ (by simp)]; exact h.c0, by rw [World.cell?_setCell_other _ _ _ _ (by simp)]; exact h.c1, World.cell?_setCell_same _ _ _ h.c2,
   by rw [World.frozen?_setCell]; exact h.z1, by rw [World.frozen?_setCell]; exact h.z2, by simpa using h.lt⟩

set_option maxHeartbeats 400000 in
theorem failed_rd {w : World} {b : Nat} {s : ByteArray} {p : Nat} {f : Bool} (h : Rd w b s p f) :
    Calls Try.prog 26 #[.pointer (some ⟨b, 0, none⟩)] w fun e w' => e = .returned (.bool f) ∧ w = w' := by
  obtain ⟨c0, c1, c2, z1, z2, lt⟩ := h
  go_enter Try.func26, Try.ntmps26
  go_wp2
  go_ret
  exact ⟨rfl, rfl⟩
theorem failed_nil (w : World) :
    Calls Try.prog 26 #[.pointer none] w fun e w' => e = .returned (.bool true) ∧ w = w' := by
  go_enter Try.func26, Try.ntmps26
  go_wp2
  go_ret
  exact ⟨rfl, rfl⟩
theorem at_rd {w : World} {b : Nat} {s : ByteArray} {p : Nat} {f : Bool} (h : Rd w b s p f) :
    Calls Try.prog 23 #[.pointer (some ⟨b, 0, none⟩)] w fun e w' => e = .returned (.int .i64 p) ∧ w = w' := by
  obtain ⟨c0, c1, c2, z1, z2, lt⟩ := h
  go_enter Try.func23, Try.ntmps23
  go_wp2
  go_ret
  exact ⟨rfl, rfl⟩
theorem at_nil (w : World) :
    Calls Try.prog 23 #[.pointer none] w fun e w' => e = .returned (.int .i64 0) ∧ w = w' := by
  go_enter Try.func23, Try.ntmps23
  go_wp2
  go_ret
  exact ⟨rfl, rfl⟩
set_option maxHeartbeats 400000 in
theorem left_rd {w : World} {b : Nat} {s : ByteArray} {p : Nat} {f : Bool} (h : Rd w b s p f) (hp : p ≤ s.size) (hs : s.size ≤ 9223372036854775807) :
    Calls Try.prog 24 #[.pointer (some ⟨b, 0, none⟩)] w fun e w' => e = .returned (.int .i64 (s.size - p)) ∧ ∃ n, w' = w.drewN n := by
  obtain ⟨c0, c1, c2, z1, z2, lt⟩ := h
  go_enter Try.func24, Try.ntmps24
  go_wp2
  go_quiet (fail)
  go_wp2
  go_ret
  exact ⟨rfl, _, rfl⟩
theorem left_nil (w : World) :
    Calls Try.prog 24 #[.pointer none] w fun e w' => e = .returned (.int .i64 0) ∧ w = w' := by
  go_enter Try.func24, Try.ntmps24
  go_wp2
  go_ret
  exact ⟨rfl, rfl⟩

/-- A function that makes nothing that was there another thing, but block b, which stays a Reader. -/
def After (b : Nat) (w w' : World) (s : ByteArray) (p : Nat) (f : Bool) : Prop := Rd w' b s p f ∧ Other w.heap.size b w w'

set_option maxHeartbeats 400000 in
theorem next_no {w : World} {b : Nat} {s : ByteArray} {p : Nat} {f : Bool} (h : Rd w b s p f) (hp : p ≤ s.size) (hs : s.size ≤ 9223372036854775807) (n : Int) (hn : n < 0 ∨ (s.size : Int) - p < n) :
    Calls Try.prog 42 #[.pointer (some ⟨b, 0, none⟩), .int .i64 n] w fun e w' => e = .returned (.tuple #[.string ByteArray.empty, .bool false]) ∧ After b w w' s p f := by
  by_cases h0 : n < 0
  · clear hn
    go_enter Try.func42, Try.ntmps42
    go_wp2
    go_ret2
    exact ⟨rfl, h, Other.refl _ _ _⟩
  · have h1 : (s.size : Int) - p < n := by omega
    clear hn
    go_enter Try.func42, Try.ntmps42
    go_wp2_with fail
    refine (left_rd h hp hs).mono ?_
    rintro e w' ⟨rfl, k, rfl⟩
    go_wp2_with fail
    go_ret2
    exact ⟨rfl, h.drewN k, (Other.refl _ _ _).drewN k⟩

set_option maxHeartbeats 400000 in
theorem next_yes {w : World} {b : Nat} {s : ByteArray} {p : Nat} {f : Bool} (h : Rd w b s p f) (hp : p ≤ s.size) (hs : s.size ≤ 9223372036854775807) (n : Nat) (hn : p + n ≤ s.size) :
    Calls Try.prog 42 #[.pointer (some ⟨b, 0, none⟩), .int .i64 n] w fun e w' => e = .returned (.tuple #[.string (s.extract p (p + n)), .bool true]) ∧ After b w w' s (p + n) f := by
  have h1 : ¬ (s.size : Int) - p < n := by omega
  go_enter Try.func42, Try.ntmps42
  go_wp2_with fail
  refine (left_rd h hp hs).mono ?_
  rintro e w' ⟨rfl, k, rfl⟩
  have H := h.drewN k
  have O := (Other.refl w.heap.size b w).drewN k
  generalize w.drewN k = w1 at *
  have HR := Lib.hid H
  obtain ⟨c0, c1, c2, z1, z2, lt⟩ := H
  go_wp2_with fail
  go_quiet (fail)
  go_wp2_with fail
  go_ret2
  exact ⟨rfl, (HR.out.set1 (p + n)).drewN _, (O.set _ _).drewN _⟩
end Go.Proofs.Ytgeealjhjlaoeaa
