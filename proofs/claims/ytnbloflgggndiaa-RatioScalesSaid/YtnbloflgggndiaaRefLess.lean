/- The contract of the reference's less. -/
import Derived.Test.YtnbloflgggndiaaRefSum
namespace Go.Proofs.Ytnbloflgggndiaa
open Go.RowKit Rf

set_option maxHeartbeats 1000000 in
theorem rless_any (w : World) (B1 B2 : Nat) (v1 v2 : Value) (xs ys : List Nat) (h1 : Row w B1 v1 xs) (h2 : Row w B2 v2 ys) (hl : xs.length ≤ 1000 ∧ ys.length ≤ 1000) (d1 : Dig xs) (d2 : Dig ys) (hle : dv ys ≤ dv xs) :
    Calls Try.prog 51 #[v1, v2] w (RowIs (dv xs - dv ys) xs.length w) := by
  have HA := Lib.hid (fun (wr : World) (hb : Below w.heap.size w wr) i => digit_at wr B1 v1 xs (h1.on hb (Nat.le_refl _)) i)
  have HB := Lib.hid (fun (wr : World) (hb : Below w.heap.size w wr) i => digit_at wr B2 v2 ys (h2.on hb (Nat.le_refl _)) i)
  obtain ⟨i0, hi, hz0, hz1, hz2⟩ := info_parts infoInt
  obtain ⟨p1, c1, rfl⟩ := h1.slice
  obtain ⟨p2, c2, rfl⟩ := h2.slice
  have HN := Lib.hid (fun (k : Nat) (os : List Nat) (C C' x : Nat) (h : Dif xs ys k os C) => h.next (C' := C') (x := x))
  have HL := Lib.hid (fun (os : List Nat) (C : Nat) (h : Dif xs ys xs.length os C) => h.last d1 hle)
  have HD1 := Lib.hid d1
  have HD2 := Lib.hid d2
  obtain ⟨hl1, hl2⟩ := hl
  clear h1 h2 d1 d2 hle
  go_enter Try.func51, Try.ntmps51
  go_wp2_with fail
  go_loopw [5, 6, 7] (fun o c i wr => ∃ (k C : Nat) (os : List Nat), k ≤ xs.length ∧ C ≤ 1 ∧ i = .int .i64 k ∧ c = .int .i64 C ∧ Row wr w.heap.size o os ∧ Hid (Dif xs ys k os C) ∧ Below w.heap.size w wr) (fun _ _ i _ => (xs.length - intOf i).toNat)
  case atStart =>
    refine ⟨0, 0, [], by omega, by omega, rfl, rfl, ?_, Lib.hid (Dif.first xs ys), (Below.refl _ _).alloc (Nat.le_refl _) _⟩
    exact World.ownsRow_lit w #[] 0 (Nat.le_refl _) (by unfold maxLen; omega) rfl
  case round =>
    obtain ⟨k, C, os, hk, hC, rfl, rfl, hown, hs, hbel⟩ := hrel
    by_cases hlt : k < xs.length
    · have l3 := HD1.out k
      have l4 := HD2.out k
      have HA1 := Lib.hid (HA.out wr hbel k)
      have HB1 := Lib.hid (HB.out wr hbel k)
      have hls := hs.out.len
      have HN1 := Lib.hid (fun C' x => HN.out k os C C' x hs.out)
      generalize dd xs k = a at *
      generalize dd ys k = b at *
      by_cases hlow : a < b + C
      · obtain ⟨x, hx⟩ : ∃ x : Nat, (a : Int) - b - C + 65536 = x := ⟨a + 65536 - b - C, by omega⟩
        have HN2 := Lib.hid (HN1.out 1 x (by omega) (by omega) (by omega))
        clear HN1
        go_wp2_with fail
        refine HA1.out.mono ?_
        rintro e w1 ⟨rfl, rfl⟩
        go_wp2_with fail
        refine HB1.out.mono ?_
        rintro e w1 ⟨rfl, rfl⟩
        go_wp2_with (at_builtin; refine wpList_append_own _ rfl _ _ 45 rfl w.heap.size 3 i0 (.int .i64 0) 1 8 Try.underlying45 hi hz0 hz1 hz2 rfl (by decide) _ _ _ rfl (World.ownsRow.alloc hown _) ⟨wr.heap.size, 0, none⟩ 1 1 [.int .i64 x] rfl rfl ?c1 ?c2 ?c3 ?c4 ?c5 ?_)
        case c1 => exact cell_one_new _ _ _
        case c2 => intro u hu; simp at hu; subst hu; rfl
        case c3 => unfold maxLen; omega
        case c4 => omega
        case c5 => have := hbel.size; simp; omega
        · intro v' w1 hown' hgrow hnil
          have hbel2 : Below w.heap.size w w1 := (hbel.alloc hbel.size _).grown hgrow (by have := hbel.size; simp; omega) (fun x hx => (World.ownsRow.lt hown x hx).1)
          have hrow : Row w1 w.heap.size v' (os ++ [x]) := Row.snoc (by rw [hls]; exact hown')
          clear hown hgrow hnil hbel hown'
          go_wp2_with fail
          go_roundw
          case rel => exact ⟨k + 1, 1, _, by omega, by omega, by go_num, by go_num, hrow, HN2, hbel2⟩
          case measure => simp [intOf]; omega
      · obtain ⟨x, hx⟩ : ∃ x : Nat, (a : Int) - b - C = x := ⟨a - b - C, by omega⟩
        have HN2 := Lib.hid (HN1.out 0 x (by omega) (by omega) (by omega))
        clear HN1
        go_wp2_with fail
        refine HA1.out.mono ?_
        rintro e w1 ⟨rfl, rfl⟩
        go_wp2_with fail
        refine HB1.out.mono ?_
        rintro e w1 ⟨rfl, rfl⟩
        go_wp2_with (at_builtin; refine wpList_append_own _ rfl _ _ 45 rfl w.heap.size 3 i0 (.int .i64 0) 1 8 Try.underlying45 hi hz0 hz1 hz2 rfl (by decide) _ _ _ rfl (World.ownsRow.alloc hown _) ⟨wr.heap.size, 0, none⟩ 1 1 [.int .i64 x] rfl rfl ?c1 ?c2 ?c3 ?c4 ?c5 ?_)
        case c1 => exact cell_one_new _ _ _
        case c2 => intro u hu; simp at hu; subst hu; rfl
        case c3 => unfold maxLen; omega
        case c4 => omega
        case c5 => have := hbel.size; simp; omega
        · intro v' w1 hown' hgrow hnil
          have hbel2 : Below w.heap.size w w1 := (hbel.alloc hbel.size _).grown hgrow (by have := hbel.size; simp; omega) (fun x hx => (World.ownsRow.lt hown x hx).1)
          have hrow : Row w1 w.heap.size v' (os ++ [x]) := Row.snoc (by rw [hls]; exact hown')
          clear hown hgrow hnil hbel hown'
          go_wp2_with fail
          go_roundw
          case rel => exact ⟨k + 1, 0, _, by omega, by omega, by go_num, by go_num, hrow, HN2, hbel2⟩
          case measure => simp [intOf]; omega
    · obtain rfl : k = xs.length := by omega
      go_wp2_with fail
      go_ret
      exact ⟨_, _, rfl, hown, hs.out.dig, hs.out.len, HL.out os C hs.out, hbel⟩

end Go.Proofs.Ytnbloflgggndiaa
