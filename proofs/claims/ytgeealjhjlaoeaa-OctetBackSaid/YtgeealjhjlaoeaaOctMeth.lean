/- The methods of a Reader: what each tells, and where the Reader stands then. -/
import Derived.Test.YtgeealjhjlaoeaaOctWhole
import Derived.Test.YtgeealjhjlaoeaaOctPlain2
namespace Go.Proofs.Ytgeealjhjlaoeaa
open Go.RowKit Oct

theorem After.up {b : Nat} {w v w' : World} {s : ByteArray} {p : Nat} {f : Bool} (h : After b v w' s p f) (o : Other w.heap.size b w v) : After b w w' s p f :=
  ⟨h.1, o.trans (h.2.mono o.size)⟩
theorem After.refl {b : Nat} {w : World} {s : ByteArray} {p : Nat} {f : Bool} (h : Rd w b s p f) : After b w w s p f := ⟨h, Other.refl _ _ _⟩

set_option maxHeartbeats 400000 in
theorem numC {w : World} {b x y : Nat} {s : ByteArray} {q : Nat} {f g : Bool} {n v : Int}
    (hc : Calls Try.prog 38 #[.pointer (some ⟨b, 0, none⟩), .int .i64 n] w fun e w' => e = .returned (.tuple #[.int .i64 v, .bool g]) ∧ After b w w' s q f)
    (hx : w.cell? ⟨x, 0, none⟩ = some (.pointer (some ⟨b, 0, none⟩))) (hy : w.cell? ⟨y, 0, none⟩ = some (.int .i64 n)) :
    Calls Try.prog 39 #[.pointer (some ⟨x, 0, none⟩), .pointer (some ⟨y, 0, none⟩)] w fun e w' => e = .returned (.tuple #[.int .i64 v, .bool g]) ∧ After b w w' s q f := by
  have HC := Lib.hid hc
  clear hc
  go_enter Try.func39, Try.ntmps39
  go_wp2_with fail
  refine HC.out.mono ?_
  rintro e w' ⟨rfl, H⟩
  go_wp2_with fail
  go_ret2
  exact ⟨rfl, H⟩

set_option maxHeartbeats 400000 in
theorem takeC {w : World} {b x y : Nat} {s : ByteArray} {q : Nat} {f g : Bool} {n : Int} {v : ByteArray}
    (hc : Calls Try.prog 42 #[.pointer (some ⟨b, 0, none⟩), .int .i64 n] w fun e w' => e = .returned (.tuple #[.string v, .bool g]) ∧ After b w w' s q f)
    (hx : w.cell? ⟨x, 0, none⟩ = some (.pointer (some ⟨b, 0, none⟩))) (hy : w.cell? ⟨y, 0, none⟩ = some (.int .i64 n)) :
    Calls Try.prog 41 #[.pointer (some ⟨x, 0, none⟩), .pointer (some ⟨y, 0, none⟩)] w fun e w' => e = .returned (.tuple #[.string v, .bool g]) ∧ After b w w' s q f := by
  have HC := Lib.hid hc
  clear hc
  go_enter Try.func41, Try.ntmps41
  go_wp2_with fail
  refine HC.out.mono ?_
  rintro e w' ⟨rfl, H⟩
  go_wp2_with fail
  go_ret2
  exact ⟨rfl, H⟩

set_option maxHeartbeats 400000 in
theorem intC_no {w : World} {b x y : Nat} {s : ByteArray} {q : Nat} {f : Bool} {n v : Int}
    (hc : Calls Try.prog 38 #[.pointer (some ⟨b, 0, none⟩), .int .i64 n] w fun e w' => e = .returned (.tuple #[.int .i64 v, .bool false]) ∧ After b w w' s q f)
    (hx : w.cell? ⟨x, 0, none⟩ = some (.pointer (some ⟨b, 0, none⟩))) (hy : w.cell? ⟨y, 0, none⟩ = some (.int .i64 n)) :
    Calls Try.prog 37 #[.pointer (some ⟨x, 0, none⟩), .pointer (some ⟨y, 0, none⟩)] w fun e w' => e = .returned (.tuple #[.int .i64 0, .bool false]) ∧ After b w w' s q f := by
  have HC := Lib.hid hc
  clear hc
  go_enter Try.func37, Try.ntmps37
  go_wp2_with fail
  refine HC.out.mono ?_
  rintro e w' ⟨rfl, H⟩
  go_wp2_with fail
  go_ret2
  exact ⟨rfl, H⟩

set_option maxHeartbeats 400000 in
theorem intC_yes {w : World} {b x y : Nat} {s : ByteArray} {q k : Nat} {f : Bool} {v : Int} (hk : k ≤ 8) (hyb : y < w.heap.size) (hyn : y ≠ b)
    (hc : Calls Try.prog 38 #[.pointer (some ⟨b, 0, none⟩), .int .i64 k] w fun e w' => e = .returned (.tuple #[.int .i64 v, .bool true]) ∧ After b w w' s q f)
    (hx : w.cell? ⟨x, 0, none⟩ = some (.pointer (some ⟨b, 0, none⟩))) (hy : w.cell? ⟨y, 0, none⟩ = some (.int .i64 k)) :
    Calls Try.prog 37 #[.pointer (some ⟨x, 0, none⟩), .pointer (some ⟨y, 0, none⟩)] w fun e w' => e = .returned (.tuple #[.int .i64 (sgn v k), .bool true]) ∧ After b w w' s q f := by
  have HC := Lib.hid hc
  clear hc
  go_enter Try.func37, Try.ntmps37
  go_wp2_with fail
  refine HC.out.mono ?_
  rintro e w' ⟨rfl, H⟩
  have hy2 : w'.cell? ⟨y, 0, none⟩ = some (.int .i64 k) := by
    rw [World.cell?_of_block (w := w) (H.2.block hyb hyn)]
    exact hy
  go_wp2_with fail
  go_ret2
  exact ⟨rfl, H⟩

theorem two_boxes {w : World} {b : Nat} {s : ByteArray} {p : Nat} {f : Bool} (h : Rd w b s p f) (n : Int) :
    Rd ((w.alloc (.cells #[.pointer (some ⟨b, 0, none⟩)] 29)).alloc (.cells #[.int .i64 n] 3)) b s p f ∧
    Other w.heap.size b w ((w.alloc (.cells #[.pointer (some ⟨b, 0, none⟩)] 29)).alloc (.cells #[.int .i64 n] 3)) ∧
    ((w.alloc (.cells #[.pointer (some ⟨b, 0, none⟩)] 29)).alloc (.cells #[.int .i64 n] 3)).cell? ⟨w.heap.size, 0, none⟩ = some (.pointer (some ⟨b, 0, none⟩)) ∧
    ((w.alloc (.cells #[.pointer (some ⟨b, 0, none⟩)] 29)).alloc (.cells #[.int .i64 n] 3)).cell? ⟨w.heap.size + 1, 0, none⟩ = some (.int .i64 n) := by
  refine ⟨(h.alloc _).alloc _, ((Other.refl _ _ _).alloc (Nat.le_refl _) _).alloc (by show _ ≤ (w.heap.push _).size; simp) _, ?_, ?_⟩
  · rw [World.cell?_alloc_lt _ _ _ (by show _ < (w.heap.push _).size; simp), World.cell?_alloc_new]
    rfl
  · have := World.cell?_alloc_new (w.alloc (.cells #[.pointer (some ⟨b, 0, none⟩)] 29)) #[.int .i64 n] 3 0
    rw [show (w.alloc (.cells #[.pointer (some ⟨b, 0, none⟩)] 29)).heap.size = w.heap.size + 1 from by show (w.heap.push _).size = _; simp] at this
    rw [this]
    rfl

set_option maxHeartbeats 400000 in
theorem num_rd {w : World} {b : Nat} {s : ByteArray} {p : Nat} {f : Bool} (h : Rd w b s p f) (hp : p ≤ s.size) (hs : s.size ≤ 9223372036854775807) (n : Int) :
    Calls Try.prog 28 #[.pointer (some ⟨b, 0, none⟩), .int .i64 n] w fun e w' => e = .returned (.int .i64 (numM s p f n).1) ∧ After b w w' s (numM s p f n).2.1 (numM s p f n).2.2 := by
  obtain ⟨h2, o2, hx, hy⟩ := two_boxes h n
  have hc : Calls Try.prog 36 #[.pointer (some ⟨b, 0, none⟩), .func (.func 39) #[] #[.pointer (some ⟨w.heap.size, 0, none⟩), .pointer (some ⟨w.heap.size + 1, 0, none⟩)]]
      ((w.alloc (.cells #[.pointer (some ⟨b, 0, none⟩)] 29)).alloc (.cells #[.int .i64 n] 3)) fun e w' => e = .returned (.int .i64 (numM s p f n).1) ∧ After b w w' s (numM s p f n).2.1 (numM s p f n).2.2 := by
    generalize (w.alloc (.cells #[.pointer (some ⟨b, 0, none⟩)] 29)).alloc (.cells #[.int .i64 n] 3) = v at *
    cases f with
    | true =>
      rw [show numM s p true n = (0, p, true) from by simp [numM]]
      exact (whole64_stop h2).mono fun e w' ⟨he, hA⟩ => ⟨he, hA.up o2⟩
    | false =>
      by_cases hn : n ≤ 8 ∧ fitsN s p n = true
      · rw [show numM s p false n = (numI (s.extract p (p + n.toNat)).data.toList n.toNat, p + n.toNat, false) from by unfold numM; rw [if_pos ⟨rfl, hn.1, hn.2⟩]]
        obtain ⟨h8, hf⟩ := hn
        rw [fitsN_iff] at hf
        obtain ⟨k, rfl⟩ := Int.eq_ofNat_of_zero_le hf.1
        exact (whole_num_yes h2 (numC (number_yes h2 hp hs k (by omega) (by omega)) hx hy)).mono fun e w' ⟨he, hA⟩ => ⟨he, hA.up o2⟩
      · rw [show numM s p false n = (0, p, true) from by unfold numM; rw [if_neg (fun c => hn ⟨c.2.1, c.2.2⟩)]]
        rw [fitsN_iff] at hn
        exact (whole_num_no h2 (numC (number_no h2 hp hs n (by omega)) hx hy)).mono fun e w' ⟨he, hA⟩ => ⟨he, hA.up o2⟩
  have HC := Lib.hid hc
  clear hc h2 o2 hx hy
  go_enter Try.func28, Try.ntmps28
  go_wp2_with fail
  refine HC.out.mono ?_
  rintro e w' ⟨rfl, H⟩
  go_wp2_with fail
  go_ret
  exact ⟨rfl, H⟩
theorem num_nil (w : World) (n : Int) :
    Calls Try.prog 28 #[.pointer none, .int .i64 n] w fun e w' => e = .returned (.int .i64 0) ∧ Below w.heap.size w w' := by
  go_enter Try.func28, Try.ntmps28
  go_wp2_with fail
  refine whole64_nil.mono ?_
  rintro e w' ⟨rfl, rfl⟩
  go_wp2_with fail
  go_ret
  exact ⟨rfl, ((Below.refl _ _).alloc (Nat.le_refl _) _).alloc (by show _ ≤ (w.heap.push _).size; simp) _⟩

set_option maxHeartbeats 400000 in
theorem int_rd {w : World} {b : Nat} {s : ByteArray} {p : Nat} {f : Bool} (h : Rd w b s p f) (hp : p ≤ s.size) (hs : s.size ≤ 9223372036854775807) (n : Int) :
    Calls Try.prog 27 #[.pointer (some ⟨b, 0, none⟩), .int .i64 n] w fun e w' => e = .returned (.int .i64 (intM s p f n).1) ∧ After b w w' s (intM s p f n).2.1 (intM s p f n).2.2 := by
  obtain ⟨h2, o2, hx, hy⟩ := two_boxes h n
  have hsz : w.heap.size + 1 < ((w.alloc (.cells #[.pointer (some ⟨b, 0, none⟩)] 29)).alloc (.cells #[.int .i64 n] 3)).heap.size := by show _ < ((w.heap.push _).push _).size; simp
  have hne : w.heap.size + 1 ≠ b := by have := h.lt; omega
  have hc : Calls Try.prog 36 #[.pointer (some ⟨b, 0, none⟩), .func (.func 37) #[] #[.pointer (some ⟨w.heap.size, 0, none⟩), .pointer (some ⟨w.heap.size + 1, 0, none⟩)]]
      ((w.alloc (.cells #[.pointer (some ⟨b, 0, none⟩)] 29)).alloc (.cells #[.int .i64 n] 3)) fun e w' => e = .returned (.int .i64 (intM s p f n).1) ∧ After b w w' s (intM s p f n).2.1 (intM s p f n).2.2 := by
    generalize (w.alloc (.cells #[.pointer (some ⟨b, 0, none⟩)] 29)).alloc (.cells #[.int .i64 n] 3) = v at *
    cases f with
    | true =>
      rw [show intM s p true n = (0, p, true) from by simp [intM]]
      exact (whole64_stop h2).mono fun e w' ⟨he, hA⟩ => ⟨he, hA.up o2⟩
    | false =>
      by_cases hn : n ≤ 8 ∧ fitsN s p n = true
      · rw [show intM s p false n = (sgn (numI (s.extract p (p + n.toNat)).data.toList n.toNat) n.toNat, p + n.toNat, false) from by unfold intM; rw [if_pos ⟨rfl, hn.1, hn.2⟩]]
        obtain ⟨h8, hf⟩ := hn
        rw [fitsN_iff] at hf
        obtain ⟨k, rfl⟩ := Int.eq_ofNat_of_zero_le hf.1
        exact (whole_int_yes h2 (intC_yes (by omega) hsz hne (number_yes h2 hp hs k (by omega) (by omega)) hx hy)).mono fun e w' ⟨he, hA⟩ => ⟨he, hA.up o2⟩
      · rw [show intM s p false n = (0, p, true) from by unfold intM; rw [if_neg (fun c => hn ⟨c.2.1, c.2.2⟩)]]
        rw [fitsN_iff] at hn
        exact (whole_int_no h2 (intC_no (number_no h2 hp hs n (by omega)) hx hy)).mono fun e w' ⟨he, hA⟩ => ⟨he, hA.up o2⟩
  have HC := Lib.hid hc
  clear hc h2 o2 hx hy hsz hne
  go_enter Try.func27, Try.ntmps27
  go_wp2_with fail
  refine HC.out.mono ?_
  rintro e w' ⟨rfl, H⟩
  go_wp2_with fail
  go_ret
  exact ⟨rfl, H⟩
theorem int_nil (w : World) (n : Int) :
    Calls Try.prog 27 #[.pointer none, .int .i64 n] w fun e w' => e = .returned (.int .i64 0) ∧ Below w.heap.size w w' := by
  go_enter Try.func27, Try.ntmps27
  go_wp2_with fail
  refine whole64_nil.mono ?_
  rintro e w' ⟨rfl, rfl⟩
  go_wp2_with fail
  go_ret
  exact ⟨rfl, ((Below.refl _ _).alloc (Nat.le_refl _) _).alloc (by show _ ≤ (w.heap.push _).size; simp) _⟩

set_option maxHeartbeats 400000 in
theorem take_rd {w : World} {b : Nat} {s : ByteArray} {p : Nat} {f : Bool} (h : Rd w b s p f) (hp : p ≤ s.size) (hs : s.size ≤ 9223372036854775807) (n : Int) :
    Calls Try.prog 29 #[.pointer (some ⟨b, 0, none⟩), .int .i64 n] w fun e w' => e = .returned (.string (takeM s p f n).1) ∧ After b w w' s (takeM s p f n).2.1 (takeM s p f n).2.2 := by
  obtain ⟨h2, o2, hx, hy⟩ := two_boxes h n
  have hc : Calls Try.prog 40 #[.pointer (some ⟨b, 0, none⟩), .func (.func 41) #[] #[.pointer (some ⟨w.heap.size, 0, none⟩), .pointer (some ⟨w.heap.size + 1, 0, none⟩)]]
      ((w.alloc (.cells #[.pointer (some ⟨b, 0, none⟩)] 29)).alloc (.cells #[.int .i64 n] 3)) fun e w' => e = .returned (.string (takeM s p f n).1) ∧ After b w w' s (takeM s p f n).2.1 (takeM s p f n).2.2 := by
    generalize (w.alloc (.cells #[.pointer (some ⟨b, 0, none⟩)] 29)).alloc (.cells #[.int .i64 n] 3) = v at *
    cases f with
    | true =>
      rw [show takeM s p true n = (ByteArray.empty, p, true) from by simp [takeM]]
      exact (wholeS_stop h2).mono fun e w' ⟨he, hA⟩ => ⟨he, hA.up o2⟩
    | false =>
      by_cases hn : fitsN s p n = true
      · rw [show takeM s p false n = (s.extract p (p + n.toNat), p + n.toNat, false) from by unfold takeM; rw [if_pos ⟨rfl, hn⟩]]
        have hf := hn
        rw [fitsN_iff] at hf
        obtain ⟨k, rfl⟩ := Int.eq_ofNat_of_zero_le hf.1
        exact (whole_take_yes h2 (takeC (next_yes h2 hp hs k (by omega)) hx hy)).mono fun e w' ⟨he, hA⟩ => ⟨he, hA.up o2⟩
      · rw [show takeM s p false n = (ByteArray.empty, p, true) from by unfold takeM; rw [if_neg (fun c => hn c.2)]]
        rw [fitsN_iff] at hn
        exact (whole_take_no h2 (takeC (next_no h2 hp hs n (by omega)) hx hy)).mono fun e w' ⟨he, hA⟩ => ⟨he, hA.up o2⟩
  have HC := Lib.hid hc
  clear hc h2 o2 hx hy
  go_enter Try.func29, Try.ntmps29
  go_wp2_with fail
  refine HC.out.mono ?_
  rintro e w' ⟨rfl, H⟩
  go_wp2_with fail
  go_ret
  exact ⟨rfl, H⟩
theorem take_nil (w : World) (n : Int) :
    Calls Try.prog 29 #[.pointer none, .int .i64 n] w fun e w' => e = .returned (.string ByteArray.empty) ∧ Below w.heap.size w w' := by
  go_enter Try.func29, Try.ntmps29
  go_wp2_with fail
  refine wholeS_nil.mono ?_
  rintro e w' ⟨rfl, rfl⟩
  go_wp2_with fail
  go_ret
  exact ⟨rfl, ((Below.refl _ _).alloc (Nat.le_refl _) _).alloc (by show _ ≤ (w.heap.push _).size; simp) _⟩
end Go.Proofs.Ytgeealjhjlaoeaa
