/- The contracts of the reference's plus and less. -/
import Derived.Test.YtnbloflgggndiaaRefDig
namespace Go.Proofs.Ytnbloflgggndiaa
open Go.RowKit Rf

theorem infoInt : (Try.prog.info? 3).map (fun i => (i.zero, i.size, i.bytes)) = some (some (.int .i64 0), 1, 8) := by kernel_rfl

/-- A call answers a slice of its own with these digits. -/
def RowIs (n L : Nat) (w : World) (e : Ending) (w' : World) : Prop :=
  ∃ v os, e = .returned v ∧ Row w' w.heap.size v os ∧ Dig os ∧ os.length = L ∧ dv os = n ∧ Below w.heap.size w w'

/-- One digit more on a row of the call's own. -/
theorem Row.snoc {w1 : World} {B : Nat} {v : Value} {os : List Nat} {x : Nat} (h : w1.ownsRow B 3 1 v (os.length + 1) ((os.map fun d : Nat => Value.int .i64 d) ++ [.int .i64 (x : Nat)])) : Row w1 B v (os ++ [x]) := by
  unfold Row
  rw [List.length_append, List.length_singleton, List.map_append]
  exact h

namespace Rf
/-- What is so far of a sum. -/
structure Sum (xs ys : List Nat) (k : Nat) (os : List Nat) (C : Nat) : Prop where
  dig : Dig os
  len : os.length = k
  one : C ≤ 1
  sum : dv os + 65536 ^ k * C = ev (dd xs) k + ev (dd ys) k
theorem Sum.first (xs ys : List Nat) : Sum xs ys 0 [] 0 := ⟨dig_nil, rfl, by omega, by simp [dv, ev]⟩
theorem Sum.next {xs ys : List Nat} (d1 : Dig xs) (d2 : Dig ys) {k : Nat} {os : List Nat} {C x : Nat} (h : Sum xs ys k os C) (hx : x = dd xs k + dd ys k + C) : Sum xs ys (k + 1) (os ++ [x % 65536]) (x / 65536) where
  dig := dig_snoc h.dig (by omega)
  len := by rw [List.length_append, h.len, List.length_singleton]
  one := by have := d1 k; have := d2 k; have := h.one; omega
  sum := by
    have h1 := h.sum
    have h2 := Nat.div_add_mod x 65536
    rw [dv_snoc, h.len, ev, ev, Nat.pow_succ]
    generalize 65536 ^ k = P at *
    generalize x % 65536 = r at *
    generalize x / 65536 = q at *
    have h3 : P * x = P * (65536 * q) + P * r := by rw [← h2, Nat.mul_add]
    have h4 : P * x = P * dd xs k + P * dd ys k + P * C := by rw [hx, Nat.mul_add, Nat.mul_add]
    rw [Nat.mul_assoc]
    omega
theorem Sum.last {xs ys : List Nat} (d1 : Dig xs) (d2 : Dig ys) {M : Nat} {os : List Nat} {C : Nat} (h : Sum xs ys (M + 1) os C) (h1 : xs.length ≤ M) (h2 : ys.length ≤ M) : dv os = dv xs + dv ys := by
  have e := h.sum
  rw [ev_far xs (M + 1) (by omega), ev_far ys (M + 1) (by omega)] at e
  have b1 := ev_lt d1 M
  have b2 := ev_lt d2 M
  rw [ev_far xs M h1] at b1
  rw [ev_far ys M h2] at b2
  have : C = 0 := by
    by_cases c : C = 0
    · exact c
    · have : C = 1 := by have := h.one; omega
      subst this
      rw [Nat.pow_succ] at e
      omega
  subst this
  omega

/-- What is so far of a difference. -/
structure Dif (xs ys : List Nat) (k : Nat) (os : List Nat) (C : Nat) : Prop where
  dig : Dig os
  len : os.length = k
  one : C ≤ 1
  dif : dv os + ev (dd ys) k = ev (dd xs) k + 65536 ^ k * C
theorem Dif.first (xs ys : List Nat) : Dif xs ys 0 [] 0 := ⟨dig_nil, rfl, by omega, by simp [dv, ev]⟩
theorem Dif.next {xs ys : List Nat} {k : Nat} {os : List Nat} {C C' x : Nat} (h : Dif xs ys k os C) (hC : C' ≤ 1) (hx : x + dd ys k + C = dd xs k + 65536 * C') (hx2 : x < 65536) : Dif xs ys (k + 1) (os ++ [x]) C' where
  dig := dig_snoc h.dig hx2
  len := by rw [List.length_append, h.len, List.length_singleton]
  one := hC
  dif := by
    have h1 := h.dif
    rw [dv_snoc, h.len, ev, ev, Nat.pow_succ]
    generalize 65536 ^ k = P at *
    have h3 : P * (x + dd ys k + C) = P * (dd xs k + 65536 * C') := by rw [hx]
    rw [Nat.mul_add, Nat.mul_add, Nat.mul_add] at h3
    rw [Nat.mul_assoc]
    omega
theorem ev_least (f : Nat → Nat) (L j : Nat) (h : ev f (L + j) < 65536 ^ L) : ev f (L + j) = ev f L := by
  induction j with
  | zero => rfl
  | succ j ih =>
    rw [← Nat.add_assoc, ev] at h ⊢
    have h0 : f (L + j) = 0 := by
      by_cases c : f (L + j) = 0
      · exact c
      · exfalso
        have h1 : 65536 ^ L ≤ 65536 ^ (L + j) := Nat.pow_le_pow_right (by omega) (by omega)
        have h2 : 65536 ^ (L + j) * 1 ≤ 65536 ^ (L + j) * f (L + j) := Nat.mul_le_mul_left _ (by omega)
        omega
    rw [h0] at h ⊢
    have := ih (by omega)
    omega
theorem Dif.last {xs ys : List Nat} (d1 : Dig xs) {os : List Nat} {C : Nat} (h : Dif xs ys xs.length os C) (hle : dv ys ≤ dv xs) : dv os = dv xs - dv ys := by
  have e := h.dif
  have b1 := ev_lt d1 xs.length
  rw [ev_far xs xs.length (Nat.le_refl _)] at e b1
  have hy : ev (dd ys) xs.length = dv ys := by
    have := ev_least (dd ys) xs.length ys.length (by rw [ev_far ys _ (by omega)]; omega)
    rw [← this, ev_far ys _ (by omega)]
  have b2 := ev_lt h.dig os.length
  rw [ev_far os os.length (Nat.le_refl _), h.len] at b2
  have : C = 0 := by
    by_cases c : C = 0
    · exact c
    · have : C = 1 := by have := h.one; omega
      subst this
      omega
  subst this
  omega
end Rf

set_option maxHeartbeats 1000000 in
theorem rplus_lt (w : World) (B1 B2 : Nat) (v1 v2 : Value) (xs ys : List Nat) (h1 : Row w B1 v1 xs) (h2 : Row w B2 v2 ys) (hle : xs.length < ys.length) (hl : xs.length ≤ 1000 ∧ ys.length ≤ 1000) (d1 : Dig xs) (d2 : Dig ys) :
    Calls Try.prog 49 #[v1, v2] w (RowIs (dv xs + dv ys) (ys.length + 1) w) := by
  have HA := Lib.hid (fun (wr : World) (hb : Below w.heap.size w wr) i => digit_at wr B1 v1 xs (h1.on hb (Nat.le_refl _)) i)
  have HB := Lib.hid (fun (wr : World) (hb : Below w.heap.size w wr) i => digit_at wr B2 v2 ys (h2.on hb (Nat.le_refl _)) i)
  obtain ⟨i0, hi, hz0, hz1, hz2⟩ := info_parts infoInt
  obtain ⟨p1, c1, rfl⟩ := h1.slice
  obtain ⟨p2, c2, rfl⟩ := h2.slice
  have HN := Lib.hid (fun (k : Nat) (os : List Nat) (C x : Nat) (h : Sum xs ys k os C) (hx : x = dd xs k + dd ys k + C) => h.next d1 d2 hx)
  have HL := Lib.hid (fun (os : List Nat) (C : Nat) (h : Sum xs ys (ys.length + 1) os C) => h.last d1 d2 (by omega) (by omega))
  have HD1 := Lib.hid d1
  have HD2 := Lib.hid d2
  obtain ⟨hl1, hl2⟩ := hl
  clear h1 h2 d1 d2
  go_enter Try.func49, Try.ntmps49
  go_wp2_with fail
  go_loopw [5, 6, 7] (fun o c i wr => ∃ (k C : Nat) (os : List Nat), k ≤ ys.length + 1 ∧ C ≤ 1 ∧ i = .int .i64 k ∧ c = .int .i64 C ∧ Row wr w.heap.size o os ∧ Hid (Sum xs ys k os C) ∧ Below w.heap.size w wr) (fun _ _ i _ => (ys.length + 1 - intOf i).toNat)
  case atStart =>
    refine ⟨0, 0, [], by omega, by omega, rfl, rfl, ?_, Lib.hid (Sum.first xs ys), (Below.refl _ _).alloc (Nat.le_refl _) _⟩
    exact World.ownsRow_lit w #[] 0 (Nat.le_refl _) (by unfold maxLen; omega) rfl
  case round =>
    obtain ⟨k, C, os, hk, hC, rfl, rfl, hown, hs, hbel⟩ := hrel
    by_cases hlt : k ≤ ys.length
    · have l3 := HD1.out k
      have l4 := HD2.out k
      have HA1 := Lib.hid (HA.out wr hbel k)
      have HB1 := Lib.hid (HB.out wr hbel k)
      have hls := hs.out.len
      have HN1 := Lib.hid (HN.out k os C _ hs.out rfl)
      generalize dd xs k = a at *
      generalize dd ys k = b at *
      go_wp2_with fail
      refine HA1.out.mono ?_
      rintro e w1 ⟨rfl, rfl⟩
      go_wp2_with fail
      refine HB1.out.mono ?_
      rintro e w1 ⟨rfl, rfl⟩
      go_wp2_with (at_builtin; refine wpList_append_own _ rfl _ _ 45 rfl w.heap.size 3 i0 (.int .i64 0) 1 8 Try.underlying45 hi hz0 hz1 hz2 rfl (by decide) _ _ _ rfl (World.ownsRow.alloc hown _) ⟨wr.heap.size, 0, none⟩ 1 1 [.int .i64 (((a + b + C) % 65536 : Nat) : Int)] rfl rfl ?c1 ?c2 ?c3 ?c4 ?c5 ?_)
      case c1 => exact cell_one_new _ _ _
      case c2 => intro u hu; simp at hu; subst hu; rfl
      case c3 => unfold maxLen; omega
      case c4 => omega
      case c5 => have := hbel.size; simp; omega
      · intro v' w1 hown' hgrow hnil
        have hbel2 : Below w.heap.size w w1 := (hbel.alloc hbel.size _).grown hgrow (by have := hbel.size; simp; omega) (fun x hx => (World.ownsRow.lt hown x hx).1)
        have hrow : Row w1 w.heap.size v' (os ++ [(a + b + C) % 65536]) := Row.snoc (by rw [hls, show (((a + b + C) % 65536 : Nat) : Int) = ((a : Int) + b + C) % 65536 by omega]; exact hown')
        clear hown hgrow hnil hbel hown'
        have l5 : (a + b + C) / 65536 ≤ 1 := by omega
        go_wp2_with fail
        go_roundw
        case rel => exact ⟨k + 1, (a + b + C) / 65536, _, by omega, l5, by go_num, by go_num, hrow, HN1, hbel2⟩
        case measure => simp [intOf]; omega
    · obtain rfl : k = ys.length + 1 := by omega
      go_wp2_with fail
      go_ret
      exact ⟨_, _, rfl, hown, hs.out.dig, hs.out.len, HL.out os C hs.out, hbel⟩

set_option maxHeartbeats 1000000 in
theorem rplus_ge (w : World) (B1 B2 : Nat) (v1 v2 : Value) (xs ys : List Nat) (h1 : Row w B1 v1 xs) (h2 : Row w B2 v2 ys) (hle : ys.length ≤ xs.length) (hl : xs.length ≤ 1000 ∧ ys.length ≤ 1000) (d1 : Dig xs) (d2 : Dig ys) :
    Calls Try.prog 49 #[v1, v2] w (RowIs (dv xs + dv ys) (xs.length + 1) w) := by
  have HA := Lib.hid (fun (wr : World) (hb : Below w.heap.size w wr) i => digit_at wr B1 v1 xs (h1.on hb (Nat.le_refl _)) i)
  have HB := Lib.hid (fun (wr : World) (hb : Below w.heap.size w wr) i => digit_at wr B2 v2 ys (h2.on hb (Nat.le_refl _)) i)
  obtain ⟨i0, hi, hz0, hz1, hz2⟩ := info_parts infoInt
  obtain ⟨p1, c1, rfl⟩ := h1.slice
  obtain ⟨p2, c2, rfl⟩ := h2.slice
  have HN := Lib.hid (fun (k : Nat) (os : List Nat) (C x : Nat) (h : Sum xs ys k os C) (hx : x = dd xs k + dd ys k + C) => h.next d1 d2 hx)
  have HL := Lib.hid (fun (os : List Nat) (C : Nat) (h : Sum xs ys (xs.length + 1) os C) => h.last d1 d2 (by omega) (by omega))
  have HD1 := Lib.hid d1
  have HD2 := Lib.hid d2
  obtain ⟨hl1, hl2⟩ := hl
  clear h1 h2 d1 d2
  go_enter Try.func49, Try.ntmps49
  go_wp2_with fail
  go_loopw [5, 6, 7] (fun o c i wr => ∃ (k C : Nat) (os : List Nat), k ≤ xs.length + 1 ∧ C ≤ 1 ∧ i = .int .i64 k ∧ c = .int .i64 C ∧ Row wr w.heap.size o os ∧ Hid (Sum xs ys k os C) ∧ Below w.heap.size w wr) (fun _ _ i _ => (xs.length + 1 - intOf i).toNat)
  case atStart =>
    refine ⟨0, 0, [], by omega, by omega, rfl, rfl, ?_, Lib.hid (Sum.first xs ys), (Below.refl _ _).alloc (Nat.le_refl _) _⟩
    exact World.ownsRow_lit w #[] 0 (Nat.le_refl _) (by unfold maxLen; omega) rfl
  case round =>
    obtain ⟨k, C, os, hk, hC, rfl, rfl, hown, hs, hbel⟩ := hrel
    by_cases hlt : k ≤ xs.length
    · have l3 := HD1.out k
      have l4 := HD2.out k
      have HA1 := Lib.hid (HA.out wr hbel k)
      have HB1 := Lib.hid (HB.out wr hbel k)
      have hls := hs.out.len
      have HN1 := Lib.hid (HN.out k os C _ hs.out rfl)
      generalize dd xs k = a at *
      generalize dd ys k = b at *
      go_wp2_with fail
      refine HA1.out.mono ?_
      rintro e w1 ⟨rfl, rfl⟩
      go_wp2_with fail
      refine HB1.out.mono ?_
      rintro e w1 ⟨rfl, rfl⟩
      go_wp2_with (at_builtin; refine wpList_append_own _ rfl _ _ 45 rfl w.heap.size 3 i0 (.int .i64 0) 1 8 Try.underlying45 hi hz0 hz1 hz2 rfl (by decide) _ _ _ rfl (World.ownsRow.alloc hown _) ⟨wr.heap.size, 0, none⟩ 1 1 [.int .i64 (((a + b + C) % 65536 : Nat) : Int)] rfl rfl ?c1 ?c2 ?c3 ?c4 ?c5 ?_)
      case c1 => exact cell_one_new _ _ _
      case c2 => intro u hu; simp at hu; subst hu; rfl
      case c3 => unfold maxLen; omega
      case c4 => omega
      case c5 => have := hbel.size; simp; omega
      · intro v' w1 hown' hgrow hnil
        have hbel2 : Below w.heap.size w w1 := (hbel.alloc hbel.size _).grown hgrow (by have := hbel.size; simp; omega) (fun x hx => (World.ownsRow.lt hown x hx).1)
        have hrow : Row w1 w.heap.size v' (os ++ [(a + b + C) % 65536]) := Row.snoc (by rw [hls, show (((a + b + C) % 65536 : Nat) : Int) = ((a : Int) + b + C) % 65536 by omega]; exact hown')
        clear hown hgrow hnil hbel hown'
        have l5 : (a + b + C) / 65536 ≤ 1 := by omega
        go_wp2_with fail
        go_roundw
        case rel => exact ⟨k + 1, (a + b + C) / 65536, _, by omega, l5, by go_num, by go_num, hrow, HN1, hbel2⟩
        case measure => simp [intOf]; omega
    · obtain rfl : k = xs.length + 1 := by omega
      go_wp2_with fail
      go_ret
      exact ⟨_, _, rfl, hown, hs.out.dig, hs.out.len, HL.out os C hs.out, hbel⟩

theorem rplus_any (w : World) (B1 B2 : Nat) (v1 v2 : Value) (xs ys : List Nat) (h1 : Row w B1 v1 xs) (h2 : Row w B2 v2 ys) (hl : xs.length ≤ 1000 ∧ ys.length ≤ 1000) (d1 : Dig xs) (d2 : Dig ys) :
    Calls Try.prog 49 #[v1, v2] w (RowIs (dv xs + dv ys) (max xs.length ys.length + 1) w) := by
  by_cases h : xs.length < ys.length
  · rw [Nat.max_eq_right (by omega)]
    exact rplus_lt w B1 B2 v1 v2 xs ys h1 h2 h hl d1 d2
  · rw [Nat.max_eq_left (by omega)]
    exact rplus_ge w B1 B2 v1 v2 xs ys h1 h2 (by omega) hl d1 d2

end Go.Proofs.Ytnbloflgggndiaa
