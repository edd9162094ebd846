/- OctetPlays. -/
import Derived.Test.YtgeealjhjlaoeaaOctB
import Derived.Deep.QuietTactic
import Derived.BigQuiet
import Derived.Deep.Slices
import Derived.ProofKit
namespace Go.Proofs.Ytgeealjhjlaoeaa
open Go.RowKit Oct

theorem oneM_ok (s : ByteArray) (p : Nat) (f : Bool) (m n : Int) (hp : p ≤ s.size) : (oneM s p f m n).2.2.1 ≤ s.size := by
  unfold oneM
  split
  · exact (numM_ok s p f n hp).1
  · split
    · show (intM s p f n).2.1 ≤ s.size
      unfold intM
      split
      · rename_i h
        have := h.2.2
        rw [fitsN_iff] at this
        show p + n.toNat ≤ s.size
        omega
      · exact hp
    · split
      · show (textM s p f).2.1 ≤ s.size
        unfold textM
        split
        · rename_i h
          have := h.2.2
          rw [fitsN_iff] at this
          show p + 2 + (textN s p).toNat ≤ s.size
          omega
        · exact hp
      · show (takeM s p f n).2.1 ≤ s.size
        unfold takeM
        split
        · rename_i h
          have := h.2
          rw [fitsN_iff] at this
          show p + n.toNat ≤ s.size
          omega
        · exact hp

section
variable {W0 w : World} {b : Nat} {s : ByteArray} {p : Nat} {f : Bool}
theorem at_q (h : Own W0 w b s p f) (n : Nat) :
    Calls Try.prog 23 #[.pointer (some ⟨b, 0, none⟩)] (w.drewN n) fun e w' => e = .returned (.int .i64 p) ∧ ∃ m, w' = w.drewN m :=
  (at_own (h.drewN n)).mono fun _ _ ⟨he, hw⟩ => ⟨he, n, hw.symm⟩
theorem failed_q (h : Own W0 w b s p f) (n : Nat) :
    Calls Try.prog 26 #[.pointer (some ⟨b, 0, none⟩)] (w.drewN n) fun e w' => e = .returned (.bool f) ∧ ∃ m, w' = w.drewN m :=
  (failed_own (h.drewN n)).mono fun _ _ ⟨he, hw⟩ => ⟨he, n, hw.symm⟩
theorem left_q (h : Own W0 w b s p f) (n : Nat) :
    Calls Try.prog 24 #[.pointer (some ⟨b, 0, none⟩)] (w.drewN n) fun e w' => e = .returned (.int .i64 (s.size - p)) ∧ ∃ m, w' = w.drewN m :=
  (left_rd (h.drewN n).rd h.hp h.hs).mono fun _ _ ⟨he, m, hw⟩ => ⟨he, n + m, by rw [hw, World.drewN_drewN]⟩
theorem rleft_q (h : Own W0 w b s p f) (n : Nat) :
    Calls Try.prog 25 #[.pointer (some ⟨b, 0, none⟩)] (w.drewN n) fun e w' => e = .returned (.int .i64 (s.size - p)) ∧ ∃ m, w' = w.drewN m :=
  (rleft_rd (h.drewN n).rd h.hp h.hs).mono fun _ _ ⟨he, m, hw⟩ => ⟨he, n + m, by rw [hw, World.drewN_drewN]⟩
end

/-- A slice of calls that came in: each with its two numbers. -/
def IsCalls (w : World) (ao : Option Addr) (len : Nat) : Prop :=
  len = 0 ∨ ∃ b off, ao = some ⟨b, off, none⟩ ∧ len ≤ maxLen ∧ b < w.heap.size ∧ ∀ i, i < len → ∃ d n : Int, w.cell? ⟨b, off + i * 2, none⟩ = some (.int .i64 d) ∧ w.cell? ⟨b, off + i * 2 + 1, none⟩ = some (.int .i64 n)

theorem lt_of_cell {w : World} {b o : Nat} {v : Value} (h : w.cell? ⟨b, o, none⟩ = some v) : b < w.heap.size := by
  rcases Nat.lt_or_ge b w.heap.size with h1 | h1
  · exact h1
  · unfold World.cell? at h
    rw [show w.heap[(⟨b, o, none⟩ : Addr).block]? = none from Array.getElem?_eq_none h1] at h
    simp at h

theorem add_plain (b o j : Nat) : (⟨b, o, none⟩ : Addr).add j = ⟨b, o + j, none⟩ := by
  unfold Addr.add
  split <;> simp_all

theorem open_calls {H : Type} {enc : TypeId × Value → H} {w : World} {base : Nat} {spare : Nat → Bool} {held : Bool} {fuel : Nat} {ao : Option Addr} {l c : Nat} {x : DataW H × List MemPlace}
    (h : DataW.trod enc Try.prog w base spare held fuel 28 [.slice ao l c] = some x) : IsCalls w ao l := by
  rcases Go.Deep.open_slice Try.underlying28 h with ⟨hcs, _⟩ | ⟨a, len, cap, m, n, D, Pl, hcs, _, hl, hm, hmm, _, hel⟩
  · simp at hcs
    exact Or.inl hcs.2.1
  · simp at hcs
    obtain ⟨rfl, rfl, rfl⟩ := hcs
    rcases Nat.eq_zero_or_pos l with h0 | h0
    · exact Or.inl h0
    · right
      have c37 : Try.prog.cellsOf 37 = 2 := by kernel_rfl
      have c3 : Try.prog.cellsOf 3 = 1 := by kernel_rfl
      have hlm : l ≤ m := by rw [hmm]; split <;> omega
      have key : ∀ i, i < l → ∃ d n : Int, w.cell? (a.add (i * 2)) = some (.int .i64 d) ∧ w.cell? ((a.add (i * 2)).add 1) = some (.int .i64 n) := by
        intro i hi
        obtain ⟨cs, h1, h2⟩ := hel i (by omega)
        rw [c37] at h1
        obtain ⟨_, hlen, hat⟩ := World.cells?_some h1
        obtain ⟨y0, y1, k, _, _, g0, g1⟩ := Go.ChangeShapes.trod_struct2 Try.underlying37 h2
        match cs, hlen with
        | [u, v], _ =>
          have a0 := hat 0 (by omega)
          have a1 := hat 1 (by omega)
          simp only [c3, List.drop_zero, List.drop_succ_cons, List.take_succ_cons, List.take_zero] at g0 g1
          obtain ⟨d, e0, _, _⟩ := DataW.trod_int Try.underlying3 g0
          obtain ⟨n, e1, _, _⟩ := DataW.trod_int Try.underlying3 g1
          simp at e0 e1
          subst e0 e1
          exact ⟨d, n, by simpa [Addr.add] using a0, by simpa using a1⟩
      obtain ⟨b, off, spot⟩ := a
      obtain ⟨d0, n0, k0, _⟩ := key 0 h0
      have hspot : spot = none := by simpa [Addr.add] using World.cell?_spot k0
      subst hspot
      rw [add_plain] at k0
      refine ⟨b, off, rfl, by omega, lt_of_cell k0, ?_⟩
      intro i hi
      obtain ⟨d, n, g0, g1⟩ := key i hi
      rw [add_plain] at g0 g1
      rw [add_plain] at g1
      exact ⟨d, n, g0, g1⟩

set_option maxRecDepth 100000 in
set_option maxHeartbeats 4000000 in
theorem plays_walk (s : ByteArray) (b off len cap : Nat) (w : World) (hs : s.size ≤ maxLen) (hl : len ≤ maxLen) (hb : b < w.heap.size)
    (hc : ∀ i, i < len → ∃ d n : Int, w.cell? ⟨b, off + i * 2, none⟩ = some (.int .i64 d) ∧ w.cell? ⟨b, off + i * 2 + 1, none⟩ = some (.int .i64 n)) :
    Calls Try.prog 4 #[.string s, .slice (some ⟨b, off, none⟩) len cap] w fun e w' => e = .returned (.bool true) ∧ Below w.heap.size w w' := by
  have f1 := fewS_size s
  generalize hx : fewS s = x at *
  have HX := Lib.hid hx
  clear hx
  have HC := Lib.hid hc
  clear hc
  unfold maxLen at hl
  go_enter Try.func4, Try.ntmps4
  go_wp2_with fail
  refine (shown_any _).mono ?_
  rintro e w1 ⟨rfl, hb1⟩
  go_wp2_with fail
  refine (few_any _ _ hs).mono ?_
  rintro e w2 ⟨rfl, rfl⟩
  rw [HX.out]
  go_wp2_with fail
  refine (read_own x (by omega) hb1).mono ?_
  rintro e w2 ⟨rfl, hx2, hn2⟩
  go_wp2_with fail
  refine (few_any _ _ hs).mono ?_
  rintro e w3 ⟨rfl, rfl⟩
  rw [HX.out]
  have hx3 := hx2.below (w' := w2.alloc (.cells #[.string x, .int .i64 0, .bool false] 33)) ((Below.refl _ _).alloc (Nat.le_refl _) _)
  have hlt : w1.heap.size < w2.heap.size := hx2.rd.lt
  have hy3 : Own w (w2.alloc (.cells #[.string x, .int .i64 0, .bool false] 33)) w2.heap.size x 0 false := by
    refine ⟨⟨?_, ?_, ?_, ?_, ?_, ?_⟩, hx3.bel, hx2.bel.size, Nat.zero_le _, by omega⟩
    all_goals simp
  clear hx2 hn2 hb1
  go_wp2_with fail
  go_loopw [8] (fun i wr => ∃ (j p : Nat) (f : Bool), j ≤ len ∧ j ≤ 30 ∧ i = .int .i64 j ∧ Own w wr w1.heap.size x p f ∧ Own w wr w2.heap.size x p f) (fun i _ => 30 - (intOf i).toNat)
  case atStart => exact ⟨0, 0, false, by omega, by omega, rfl, hx3, hy3⟩
  case round =>
    obtain ⟨j, p, f, hj1, hj2, rfl, hx, hy⟩ := hrel
    clear hx3 hy3
    by_cases hlt1 : j < len
    · by_cases hlt2 : j < 30
      · obtain ⟨d, n, hd, hn⟩ := HC.out j hlt1
        have hd2 : wr.cell? ⟨b, off + j * 2, none⟩ = some (.int .i64 d) := (hx.bel.cell hb).trans hd
        have hn2 : wr.cell? ⟨b, off + j * 2 + 1, none⟩ = some (.int .i64 n) := (hx.bel.cell hb).trans hn
        clear hd hn
        go_wp2_with fail
        refine (one_rd hx.rd hx.hp hx.hs d n).mono ?_
        have hok := oneM_ok x p f (bits .and .i64 d 3) n hx.hp
        have htwo := fun (wz : World) (hr : Rd wz w2.heap.size x p f) => two_rd hr hx.hp hx.hs d n
        generalize (oneM x p f (bits .and .i64 d 3) n).1 = A at *
        generalize (oneM x p f (bits .and .i64 d 3) n).2.1 = T at *
        generalize (oneM x p f (bits .and .i64 d 3) n).2.2.1 = q at *
        generalize (oneM x p f (bits .and .i64 d 3) n).2.2.2 = g at *
        rintro e w4 ⟨rfl, ha⟩
        have hx4 := hx.after ha hok
        have hy4 := hy.other hx.new (by omega) ha.2
        have hd3 : w4.cell? ⟨b, off + j * 2, none⟩ = some (.int .i64 d) := (World.cell?_of_block (w := wr) (ha.2.block (c := b) (by have := hx.bel.size; omega) (by have := hx.new; omega))).trans hd2
        have hn3 : w4.cell? ⟨b, off + j * 2 + 1, none⟩ = some (.int .i64 n) := (World.cell?_of_block (w := wr) (ha.2.block (c := b) (by have := hx.bel.size; omega) (by have := hx.new; omega))).trans hn2
        have HT := Lib.hid htwo
        have HOK := Lib.hid hok
        clear hd2 hn2 hx hy ha htwo hok
        go_wp2_with fail
        refine (HT.out w4 hy4.rd).mono ?_
        rintro e w5 ⟨rfl, ha⟩
        have hy5 := hy4.after ha HOK.out
        have hx5 := hx4.other hy4.new (by omega) ha.2
        clear hx4 hy4 hd3 hn3 ha
        have HXX := Lib.hid hx5
        have HYY := Lib.hid hy5
        obtain ⟨c0, c1, c2, z1, z2, lt⟩ := hy5.rd
        clear hx5 hy5 z1 z2 lt
        go_wp2_with fail
        go_quiet ((first
          | (go_at_call 23; exact at_q HXX.out _)
          | (go_at_call 24; exact left_q HXX.out _)
          | (go_at_call 25; exact rleft_q HYY.out _)
          | (go_at_call 26; exact failed_q HXX.out _)))
        go_wp2_with fail
        go_roundw
        case rel => exact ⟨j + 1, q, g, by omega, by omega, by go_num, HXX.out.drewN _, HYY.out.drewN _⟩
        case measure => simp [intOf]; omega
      · obtain rfl : j = 30 := by omega
        have HXX := Lib.hid hx
        have HYY := Lib.hid hy
        obtain ⟨c0, c1, c2, z1, z2, lt⟩ := hy.rd
        clear hx hy z1 z2 lt
        go_wp2_with fail
        go_quiet ((first
          | (go_at_call 23; exact at_q HXX.out _)
          | (go_at_call 24; exact left_q HXX.out _)
          | (go_at_call 25; exact rleft_q HYY.out _)
          | (go_at_call 26; exact failed_q HXX.out _)))
        go_wp2_with fail
        go_ret
        exact ⟨rfl, (HXX.out.drewN _).bel⟩
    · obtain rfl : j = len := by omega
      have HXX := Lib.hid hx
      have HYY := Lib.hid hy
      obtain ⟨c0, c1, c2, z1, z2, lt⟩ := hy.rd
      clear hx hy z1 z2 lt
      go_wp2_with fail
      go_quiet ((first
        | (go_at_call 23; exact at_q HXX.out _)
        | (go_at_call 24; exact left_q HXX.out _)
        | (go_at_call 25; exact rleft_q HYY.out _)
        | (go_at_call 26; exact failed_q HXX.out _)))
      go_wp2_with fail
      go_ret
      exact ⟨rfl, (HXX.out.drewN _).bel⟩

set_option maxRecDepth 100000 in
set_option maxHeartbeats 4000000 in
theorem plays_nil (s : ByteArray) (ao : Option Addr) (cap : Nat) (w : World) (hs : s.size ≤ maxLen) :
    Calls Try.prog 4 #[.string s, .slice ao 0 cap] w fun e w' => e = .returned (.bool true) ∧ Below w.heap.size w w' := by
  have f1 := fewS_size s
  generalize hx : fewS s = x at *
  have HX := Lib.hid hx
  clear hx
  go_enter Try.func4, Try.ntmps4
  go_wp2_with fail
  refine (shown_any _).mono ?_
  rintro e w1 ⟨rfl, hb1⟩
  go_wp2_with fail
  refine (few_any _ _ hs).mono ?_
  rintro e w2 ⟨rfl, rfl⟩
  rw [HX.out]
  go_wp2_with fail
  refine (read_own x (by omega) hb1).mono ?_
  rintro e w2 ⟨rfl, hx2, hn2⟩
  go_wp2_with fail
  refine (few_any _ _ hs).mono ?_
  rintro e w3 ⟨rfl, rfl⟩
  rw [HX.out]
  have hx3 := hx2.below (w' := w2.alloc (.cells #[.string x, .int .i64 0, .bool false] 33)) ((Below.refl _ _).alloc (Nat.le_refl _) _)
  have hlt : w1.heap.size < w2.heap.size := hx2.rd.lt
  have hy3 : Own w (w2.alloc (.cells #[.string x, .int .i64 0, .bool false] 33)) w2.heap.size x 0 false := by
    refine ⟨⟨?_, ?_, ?_, ?_, ?_, ?_⟩, hx3.bel, hx2.bel.size, Nat.zero_le _, by omega⟩
    all_goals simp
  clear hx2 hn2 hb1
  go_wp2_with fail
  have HXX := Lib.hid hx3
  have HYY := Lib.hid hy3
  obtain ⟨c0, c1, c2, z1, z2, lt⟩ := hy3.rd
  clear hx3 hy3 z1 z2 lt
  go_wp2_with fail
  refine wp_loop_rounds 1 ?_
  rw [rounds_succ]
  go_wp2_with fail
  generalize (w2.alloc (.cells #[.string x, .int .i64 0, .bool false] 33)) = wq at *
  go_quiet ((first
    | (go_at_call 23; exact at_q HXX.out _)
    | (go_at_call 24; exact left_q HXX.out _)
    | (go_at_call 25; exact rleft_q HYY.out _)
    | (go_at_call 26; exact failed_q HXX.out _)))
  go_wp2_with fail
  go_ret
  exact ⟨rfl, (HXX.out.drewN _).bel⟩

theorem playsV (s : ByteArray) (ao : Option Addr) (l c : Nat) (w : World) (hs : s.size ≤ maxLen) (h : IsCalls w ao l) :
    Calls Try.prog 4 #[.string s, .slice ao l c] w fun e w' => e = .returned (.bool true) ∧ Below w.heap.size w w' := by
  rcases h with rfl | ⟨b, off, rfl, hl, hb, hc⟩
  · exact plays_nil s ao c w hs
  · exact plays_walk s b off l c w hs hl hb hc
end Go.Proofs.Ytgeealjhjlaoeaa
