/- One call of a reader, the program's or the reference's: the same. -/
import Derived.Test.YtgeealjhjlaoeaaOctRRd2
namespace Go.Proofs.Ytgeealjhjlaoeaa
open Go.RowKit Oct

/-- What one call (m: which) tells as a number, as a text, and where the reader stands then. -/
def oneM (s : ByteArray) (p : Nat) (f : Bool) (m n : Int) : Int × ByteArray × Nat × Bool :=
  if m = 0 then ((numM s p f n).1, ByteArray.empty, (numM s p f n).2) else
  if m = 1 then ((intM s p f n).1, ByteArray.empty, (intM s p f n).2) else
  if m = 2 then (0, (textM s p f).1, (textM s p f).2) else (0, (takeM s p f n).1, (takeM s p f n).2)

set_option maxHeartbeats 1000000 in
theorem one_rd {w : World} {b : Nat} {s : ByteArray} {p : Nat} {f : Bool} (h : Rd w b s p f) (hp : p ≤ s.size) (hs : s.size ≤ 9223372036854775807) (d n : Int) :
    Calls Try.prog 21 #[.pointer (some ⟨b, 0, none⟩), .agg #[.int .i64 d, .int .i64 n]] w
      fun e w' => e = .returned (.tuple #[.int .i64 (oneM s p f (bits .and .i64 d 3) n).1, .string (oneM s p f (bits .and .i64 d 3) n).2.1]) ∧ After b w w' s (oneM s p f (bits .and .i64 d 3) n).2.2.1 (oneM s p f (bits .and .i64 d 3) n).2.2.2 := by
  have h2 := h.alloc (.cells #[.int .i64 d, .int .i64 n] 37)
  have o2 : Other w.heap.size b w (w.alloc (.cells #[.int .i64 d, .int .i64 n] 37)) := (Other.refl _ _ _).alloc (Nat.le_refl _) _
  have k0 := num_rd h2 hp hs n
  have k1 := int_rd h2 hp hs n
  have k2 := text_rd h2 hp hs
  have k3 := take_rd h2 hp hs n
  unfold oneM
  have hm : ∃ m, m = bits .and .i64 d 3 := ⟨_, rfl⟩
  obtain ⟨m, hm⟩ := hm
  rw [← hm]
  have HM := Lib.hid hm
  clear hm
  by_cases e0 : m = 0
  · rw [if_pos e0]
    generalize (numM s p f n).1 = v at *
    generalize (numM s p f n).2 = q at *
    have b0 : (bits .and .i64 d 3 == 0) = true := by rw [← HM.out]; simpa using e0
    have HK := Lib.hid k0
    have HO := Lib.hid o2
    clear k0 k1 k2 k3 e0 o2 h2
    go_enter Try.func21, Try.ntmps21
    go_wp2_with fail
    refine HK.out.mono ?_
    rintro e w' ⟨rfl, H⟩
    go_wp2_with fail
    go_ret2
    exact ⟨rfl, H.up HO.out⟩
  · rw [if_neg e0]
    have b0 : (bits .and .i64 d 3 == 0) = false := by rw [← HM.out]; simpa using e0
    by_cases e1 : m = 1
    · rw [if_pos e1]
      generalize (intM s p f n).1 = v at *
      generalize (intM s p f n).2 = q at *
      have b1 : (bits .and .i64 d 3 == 1) = true := by rw [← HM.out]; simpa using e1
      have HK := Lib.hid k1
      have HO := Lib.hid o2
      clear k0 k1 k2 k3 e0 e1 o2 h2
      go_enter Try.func21, Try.ntmps21
      go_wp2_with fail
      refine HK.out.mono ?_
      rintro e w' ⟨rfl, H⟩
      go_wp2_with fail
      go_ret2
      exact ⟨rfl, H.up HO.out⟩
    · rw [if_neg e1]
      have b1 : (bits .and .i64 d 3 == 1) = false := by rw [← HM.out]; simpa using e1
      by_cases e2 : m = 2
      · rw [if_pos e2]
        generalize (textM s p f).1 = v at *
        generalize (textM s p f).2 = q at *
        have b2 : (bits .and .i64 d 3 == 2) = true := by rw [← HM.out]; simpa using e2
        have HK := Lib.hid k2
        have HO := Lib.hid o2
        clear k0 k1 k2 k3 e0 e1 e2 o2 h2
        go_enter Try.func21, Try.ntmps21
        go_wp2_with fail
        refine HK.out.mono ?_
        rintro e w' ⟨rfl, H⟩
        go_wp2_with fail
        go_ret2
        exact ⟨rfl, H.up HO.out⟩
      · rw [if_neg e2]
        generalize (takeM s p f n).1 = v at *
        generalize (takeM s p f n).2 = q at *
        have b2 : (bits .and .i64 d 3 == 2) = false := by rw [← HM.out]; simpa using e2
        have HK := Lib.hid k3
        have HO := Lib.hid o2
        clear k0 k1 k2 k3 e0 e1 e2 o2 h2
        go_enter Try.func21, Try.ntmps21
        go_wp2_with fail
        refine HK.out.mono ?_
        rintro e w' ⟨rfl, H⟩
        go_wp2_with fail
        go_ret2
        exact ⟨rfl, H.up HO.out⟩

set_option maxHeartbeats 1000000 in
theorem two_rd {w : World} {b : Nat} {s : ByteArray} {p : Nat} {f : Bool} (h : Rd w b s p f) (hp : p ≤ s.size) (hs : s.size ≤ 9223372036854775807) (d n : Int) :
    Calls Try.prog 22 #[.pointer (some ⟨b, 0, none⟩), .agg #[.int .i64 d, .int .i64 n]] w
      fun e w' => e = .returned (.tuple #[.int .i64 (oneM s p f (bits .and .i64 d 3) n).1, .string (oneM s p f (bits .and .i64 d 3) n).2.1]) ∧ After b w w' s (oneM s p f (bits .and .i64 d 3) n).2.2.1 (oneM s p f (bits .and .i64 d 3) n).2.2.2 := by
  have h2 := h.alloc (.cells #[.int .i64 d, .int .i64 n] 37)
  have o2 : Other w.heap.size b w (w.alloc (.cells #[.int .i64 d, .int .i64 n] 37)) := (Other.refl _ _ _).alloc (Nat.le_refl _) _
  have k0 := rnum_rd h2 hp hs n
  have k1 := rint_rd h2 hp hs n
  have k2 := rtext_rd h2 hp hs
  have k3 := rtake_rd h2 hp hs n
  unfold oneM
  have hm : ∃ m, m = bits .and .i64 d 3 := ⟨_, rfl⟩
  obtain ⟨m, hm⟩ := hm
  rw [← hm]
  have HM := Lib.hid hm
  clear hm
  by_cases e0 : m = 0
  · rw [if_pos e0]
    generalize (numM s p f n).1 = v at *
    generalize (numM s p f n).2 = q at *
    have b0 : (bits .and .i64 d 3 == 0) = true := by rw [← HM.out]; simpa using e0
    have HK := Lib.hid k0
    have HO := Lib.hid o2
    clear k0 k1 k2 k3 e0 o2 h2
    go_enter Try.func22, Try.ntmps22
    go_wp2_with fail
    refine HK.out.mono ?_
    rintro e w' ⟨rfl, H⟩
    go_wp2_with fail
    go_ret2
    exact ⟨rfl, H.up HO.out⟩
  · rw [if_neg e0]
    have b0 : (bits .and .i64 d 3 == 0) = false := by rw [← HM.out]; simpa using e0
    by_cases e1 : m = 1
    · rw [if_pos e1]
      generalize (intM s p f n).1 = v at *
      generalize (intM s p f n).2 = q at *
      have b1 : (bits .and .i64 d 3 == 1) = true := by rw [← HM.out]; simpa using e1
      have HK := Lib.hid k1
      have HO := Lib.hid o2
      clear k0 k1 k2 k3 e0 e1 o2 h2
      go_enter Try.func22, Try.ntmps22
      go_wp2_with fail
      refine HK.out.mono ?_
      rintro e w' ⟨rfl, H⟩
      go_wp2_with fail
      go_ret2
      exact ⟨rfl, H.up HO.out⟩
    · rw [if_neg e1]
      have b1 : (bits .and .i64 d 3 == 1) = false := by rw [← HM.out]; simpa using e1
      by_cases e2 : m = 2
      · rw [if_pos e2]
        generalize (textM s p f).1 = v at *
        generalize (textM s p f).2 = q at *
        have b2 : (bits .and .i64 d 3 == 2) = true := by rw [← HM.out]; simpa using e2
        have HK := Lib.hid k2
        have HO := Lib.hid o2
        clear k0 k1 k2 k3 e0 e1 e2 o2 h2
        go_enter Try.func22, Try.ntmps22
        go_wp2_with fail
        refine HK.out.mono ?_
        rintro e w' ⟨rfl, H⟩
        go_wp2_with fail
        go_ret2
        exact ⟨rfl, H.up HO.out⟩
      · rw [if_neg e2]
        generalize (takeM s p f n).1 = v at *
        generalize (takeM s p f n).2 = q at *
        have b2 : (bits .and .i64 d 3 == 2) = false := by rw [← HM.out]; simpa using e2
        have HK := Lib.hid k3
        have HO := Lib.hid o2
        clear k0 k1 k2 k3 e0 e1 e2 o2 h2
        go_enter Try.func22, Try.ntmps22
        go_wp2_with fail
        refine HK.out.mono ?_
        rintro e w' ⟨rfl, H⟩
        go_wp2_with fail
        go_ret2
        exact ⟨rfl, H.up HO.out⟩

set_option maxHeartbeats 1000000 in
theorem one_nil (w : World) (d n : Int) :
    Calls Try.prog 21 #[.pointer none, .agg #[.int .i64 d, .int .i64 n]] w
      fun e w' => e = .returned (.tuple #[.int .i64 0, .string ByteArray.empty]) ∧ Below w.heap.size w w' := by
  have o2 : Below w.heap.size w (w.alloc (.cells #[.int .i64 d, .int .i64 n] 37)) := (Below.refl _ _).alloc (Nat.le_refl _) _
  have HO := Lib.hid o2
  clear o2
  go_enter Try.func21, Try.ntmps21
  go_wp2_with (first
    | (go_at_call 28; refine (num_nil _ _).mono ?_; rintro e w' ⟨rfl, hb⟩)
    | (go_at_call 27; refine (int_nil _ _).mono ?_; rintro e w' ⟨rfl, hb⟩)
    | (go_at_call 30; refine (text_nil _).mono ?_; rintro e w' ⟨rfl, hb⟩)
    | (go_at_call 29; refine (take_nil _ _).mono ?_; rintro e w' ⟨rfl, hb⟩))
  all_goals
    go_ret2
    exact ⟨rfl, HO.out.trans (hb.mono HO.out.size)⟩
end Go.Proofs.Ytgeealjhjlaoeaa
