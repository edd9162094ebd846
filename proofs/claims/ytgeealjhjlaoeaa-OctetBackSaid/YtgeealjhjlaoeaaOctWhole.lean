/- The contracts of 'whole', at both of its types, over whatever function value it is handed. -/
import Derived.Test.YtgeealjhjlaoeaaOctNum
namespace Go.Proofs.Ytgeealjhjlaoeaa
open Go.RowKit Oct

set_option maxHeartbeats 400000 in
theorem whole_num_yes {w : World} {b : Nat} {s : ByteArray} {p q : Nat} {v : Int} {x y : Value} (h : Rd w b s p false)
    (hc : Calls Try.prog 39 #[x, y] w fun e w' => e = .returned (.tuple #[.int .i64 v, .bool true]) ∧ After b w w' s q false) :
    Calls Try.prog 36 #[.pointer (some ⟨b, 0, none⟩), .func (.func 39) #[] #[x, y]] w fun e w' => e = .returned (.int .i64 v) ∧ After b w w' s q false := by
  have HC := Lib.hid hc
  clear hc
  have hf := failed_rd h
  have HF := Lib.hid hf
  clear hf
  obtain ⟨c0, c1, c2, z1, z2, lt⟩ := h
  go_enter Try.func36, Try.ntmps36
  go_wp2_with fail
  refine HF.out.mono ?_
  rintro e w' ⟨rfl, rfl⟩
  go_wp2_with fail
  refine HC.out.mono ?_
  rintro e w' ⟨rfl, H⟩
  go_wp2_with fail
  go_ret
  exact ⟨rfl, H⟩

set_option maxHeartbeats 400000 in
theorem whole_num_no {w : World} {b : Nat} {s : ByteArray} {p q : Nat} {v : Int} {x y : Value} (h : Rd w b s p false)
    (hc : Calls Try.prog 39 #[x, y] w fun e w' => e = .returned (.tuple #[.int .i64 v, .bool false]) ∧ After b w w' s q false) :
    Calls Try.prog 36 #[.pointer (some ⟨b, 0, none⟩), .func (.func 39) #[] #[x, y]] w fun e w' => e = .returned (.int .i64 0) ∧ After b w w' s p true := by
  have HC := Lib.hid hc
  clear hc
  have hf := failed_rd h
  have HF := Lib.hid hf
  clear hf
  obtain ⟨c0, c1, c2, z1, z2, lt⟩ := h
  go_enter Try.func36, Try.ntmps36
  go_wp2_with fail
  refine HF.out.mono ?_
  rintro e w' ⟨rfl, rfl⟩
  go_wp2_with fail
  refine HC.out.mono ?_
  rintro e w1 ⟨rfl, H⟩
  have HH := Lib.hid H
  obtain ⟨⟨d0, d1, d2, y1, y2, lt2⟩, O⟩ := H
  clear c0 c1 c2 z1 z2 lt
  go_wp2_with fail
  go_ret
  exact ⟨rfl, (HH.out.1.set1 p).set2 true, (O.set _ _).set _ _⟩

set_option maxHeartbeats 400000 in
theorem whole_int_yes {w : World} {b : Nat} {s : ByteArray} {p q : Nat} {v : Int} {x y : Value} (h : Rd w b s p false)
    (hc : Calls Try.prog 37 #[x, y] w fun e w' => e = .returned (.tuple #[.int .i64 v, .bool true]) ∧ After b w w' s q false) :
    Calls Try.prog 36 #[.pointer (some ⟨b, 0, none⟩), .func (.func 37) #[] #[x, y]] w fun e w' => e = .returned (.int .i64 v) ∧ After b w w' s q false := by
  have HC := Lib.hid hc
  clear hc
  have hf := failed_rd h
  have HF := Lib.hid hf
  clear hf
  obtain ⟨c0, c1, c2, z1, z2, lt⟩ := h
  go_enter Try.func36, Try.ntmps36
  go_wp2_with fail
  refine HF.out.mono ?_
  rintro e w' ⟨rfl, rfl⟩
  go_wp2_with fail
  refine HC.out.mono ?_
  rintro e w' ⟨rfl, H⟩
  go_wp2_with fail
  go_ret
  exact ⟨rfl, H⟩

set_option maxHeartbeats 400000 in
theorem whole_int_no {w : World} {b : Nat} {s : ByteArray} {p q : Nat} {v : Int} {x y : Value} (h : Rd w b s p false)
    (hc : Calls Try.prog 37 #[x, y] w fun e w' => e = .returned (.tuple #[.int .i64 v, .bool false]) ∧ After b w w' s q false) :
    Calls Try.prog 36 #[.pointer (some ⟨b, 0, none⟩), .func (.func 37) #[] #[x, y]] w fun e w' => e = .returned (.int .i64 0) ∧ After b w w' s p true := by
  have HC := Lib.hid hc
  clear hc
  have hf := failed_rd h
  have HF := Lib.hid hf
  clear hf
  obtain ⟨c0, c1, c2, z1, z2, lt⟩ := h
  go_enter Try.func36, Try.ntmps36
  go_wp2_with fail
  refine HF.out.mono ?_
  rintro e w' ⟨rfl, rfl⟩
  go_wp2_with fail
  refine HC.out.mono ?_
  rintro e w1 ⟨rfl, H⟩
  have HH := Lib.hid H
  obtain ⟨⟨d0, d1, d2, y1, y2, lt2⟩, O⟩ := H
  clear c0 c1 c2 z1 z2 lt
  go_wp2_with fail
  go_ret
  exact ⟨rfl, (HH.out.1.set1 p).set2 true, (O.set _ _).set _ _⟩

set_option maxHeartbeats 400000 in
theorem whole_take_yes {w : World} {b : Nat} {s : ByteArray} {p q : Nat} {v : ByteArray} {x y : Value} (h : Rd w b s p false)
    (hc : Calls Try.prog 41 #[x, y] w fun e w' => e = .returned (.tuple #[.string v, .bool true]) ∧ After b w w' s q false) :
    Calls Try.prog 40 #[.pointer (some ⟨b, 0, none⟩), .func (.func 41) #[] #[x, y]] w fun e w' => e = .returned (.string v) ∧ After b w w' s q false := by
  have HC := Lib.hid hc
  clear hc
  have hf := failed_rd h
  have HF := Lib.hid hf
  clear hf
  obtain ⟨c0, c1, c2, z1, z2, lt⟩ := h
  go_enter Try.func40, Try.ntmps40
  go_wp2_with fail
  refine HF.out.mono ?_
  rintro e w' ⟨rfl, rfl⟩
  go_wp2_with fail
  refine HC.out.mono ?_
  rintro e w' ⟨rfl, H⟩
  go_wp2_with fail
  go_ret
  exact ⟨rfl, H⟩

set_option maxHeartbeats 400000 in
theorem whole_take_no {w : World} {b : Nat} {s : ByteArray} {p q : Nat} {v : ByteArray} {x y : Value} (h : Rd w b s p false)
    (hc : Calls Try.prog 41 #[x, y] w fun e w' => e = .returned (.tuple #[.string v, .bool false]) ∧ After b w w' s q false) :
    Calls Try.prog 40 #[.pointer (some ⟨b, 0, none⟩), .func (.func 41) #[] #[x, y]] w fun e w' => e = .returned (.string ByteArray.empty) ∧ After b w w' s p true := by
  have HC := Lib.hid hc
  clear hc
  have hf := failed_rd h
  have HF := Lib.hid hf
  clear hf
  obtain ⟨c0, c1, c2, z1, z2, lt⟩ := h
  go_enter Try.func40, Try.ntmps40
  go_wp2_with fail
  refine HF.out.mono ?_
  rintro e w' ⟨rfl, rfl⟩
  go_wp2_with fail
  refine HC.out.mono ?_
  rintro e w1 ⟨rfl, H⟩
  have HH := Lib.hid H
  obtain ⟨⟨d0, d1, d2, y1, y2, lt2⟩, O⟩ := H
  clear c0 c1 c2 z1 z2 lt
  go_wp2_with fail
  go_ret
  exact ⟨rfl, (HH.out.1.set1 p).set2 true, (O.set _ _).set _ _⟩

set_option maxHeartbeats 400000 in
theorem whole_text_yes {w : World} {b : Nat} {s : ByteArray} {p q : Nat} {v : ByteArray} {x : Value} (h : Rd w b s p false)
    (hc : Calls Try.prog 43 #[x] w fun e w' => e = .returned (.tuple #[.string v, .bool true]) ∧ After b w w' s q false) :
    Calls Try.prog 40 #[.pointer (some ⟨b, 0, none⟩), .func (.func 43) #[x] #[]] w fun e w' => e = .returned (.string v) ∧ After b w w' s q false := by
  have HC := Lib.hid hc
  clear hc
  have hf := failed_rd h
  have HF := Lib.hid hf
  clear hf
  obtain ⟨c0, c1, c2, z1, z2, lt⟩ := h
  go_enter Try.func40, Try.ntmps40
  go_wp2_with fail
  refine HF.out.mono ?_
  rintro e w' ⟨rfl, rfl⟩
  go_wp2_with fail
  refine HC.out.mono ?_
  rintro e w' ⟨rfl, H⟩
  go_wp2_with fail
  go_ret
  exact ⟨rfl, H⟩

set_option maxHeartbeats 400000 in
theorem whole_text_no {w : World} {b : Nat} {s : ByteArray} {p q : Nat} {v : ByteArray} {x : Value} (h : Rd w b s p false)
    (hc : Calls Try.prog 43 #[x] w fun e w' => e = .returned (.tuple #[.string v, .bool false]) ∧ After b w w' s q false) :
    Calls Try.prog 40 #[.pointer (some ⟨b, 0, none⟩), .func (.func 43) #[x] #[]] w fun e w' => e = .returned (.string ByteArray.empty) ∧ After b w w' s p true := by
  have HC := Lib.hid hc
  clear hc
  have hf := failed_rd h
  have HF := Lib.hid hf
  clear hf
  obtain ⟨c0, c1, c2, z1, z2, lt⟩ := h
  go_enter Try.func40, Try.ntmps40
  go_wp2_with fail
  refine HF.out.mono ?_
  rintro e w' ⟨rfl, rfl⟩
  go_wp2_with fail
  refine HC.out.mono ?_
  rintro e w1 ⟨rfl, H⟩
  have HH := Lib.hid H
  obtain ⟨⟨d0, d1, d2, y1, y2, lt2⟩, O⟩ := H
  clear c0 c1 c2 z1 z2 lt
  go_wp2_with fail
  go_ret
  exact ⟨rfl, (HH.out.1.set1 p).set2 true, (O.set _ _).set _ _⟩

theorem whole64_stop {w : World} {b : Nat} {s : ByteArray} {p : Nat} {g : Value} (h : Rd w b s p true) :
    Calls Try.prog 36 #[.pointer (some ⟨b, 0, none⟩), g] w fun e w' => e = .returned (.int .i64 0) ∧ After b w w' s p true := by
  have hf := failed_rd h
  have HF := Lib.hid hf
  clear hf
  go_enter Try.func36, Try.ntmps36
  go_wp2_with fail
  refine HF.out.mono ?_
  rintro e w' ⟨rfl, rfl⟩
  go_wp2_with fail
  go_ret
  exact ⟨rfl, h, Other.refl _ _ _⟩
theorem whole64_nil {w : World} {g : Value} :
    Calls Try.prog 36 #[.pointer none, g] w fun e w' => e = .returned (.int .i64 0) ∧ w = w' := by
  go_enter Try.func36, Try.ntmps36
  go_wp2_with fail
  refine (failed_nil _).mono ?_
  rintro e w' ⟨rfl, rfl⟩
  go_wp2_with fail
  go_ret
  exact ⟨rfl, rfl⟩
theorem wholeS_stop {w : World} {b : Nat} {s : ByteArray} {p : Nat} {g : Value} (h : Rd w b s p true) :
    Calls Try.prog 40 #[.pointer (some ⟨b, 0, none⟩), g] w fun e w' => e = .returned (.string ByteArray.empty) ∧ After b w w' s p true := by
  have hf := failed_rd h
  have HF := Lib.hid hf
  clear hf
  go_enter Try.func40, Try.ntmps40
  go_wp2_with fail
  refine HF.out.mono ?_
  rintro e w' ⟨rfl, rfl⟩
  go_wp2_with fail
  go_ret
  exact ⟨rfl, h, Other.refl _ _ _⟩
theorem wholeS_nil {w : World} {g : Value} :
    Calls Try.prog 40 #[.pointer none, g] w fun e w' => e = .returned (.string ByteArray.empty) ∧ w = w' := by
  go_enter Try.func40, Try.ntmps40
  go_wp2_with fail
  refine (failed_nil _).mono ?_
  rintro e w' ⟨rfl, rfl⟩
  go_wp2_with fail
  go_ret
  exact ⟨rfl, rfl⟩
end Go.Proofs.Ytgeealjhjlaoeaa
