/- The law on comments, walked. -/
import Derived.Test.YthoohbmpbahkgaaWrdNt
import Derived.Test.YthoohbmpbahkgaaWrdAllW
import Derived.Test.YthoohbmpbahkgaaWrdTexts
import Derived.Test.YthoohbmpbahkgaaWrdShown
import Derived.BigQuiet
import Derived.Laws.BitsLemmas
import Derived.Deep.DeepCutAuto
namespace Go.Proofs.Ythoohbmpbahkgaa
open Go.RowKit

theorem wraps_u16 (n : Int) (h₀ : 0 ≤ n) (h₁ : n < 2 ^ 16) : IntKind.u16.wrap n = n := by rw [IntKind.wrap_u16]; omega
theorem and3 (x : Int) (h : 0 ≤ x ∧ x ≤ 65535) : bits .and .u16 x 3 = x % 4 := bits_mask .u16 16 (by decide) wraps_u16 2 (by decide) x h.1 (by omega)
theorem and1 (x : Int) (h : 0 ≤ x ∧ x ≤ 65535) : bits .and .u16 x 1 = x % 2 := bits_mask .u16 16 (by decide) wraps_u16 1 (by decide) x h.1 (by omega)
theorem shr_bd (x : Int) (k : Nat) (h : 0 ≤ x ∧ x ≤ 65535) : 0 ≤ x / 2 ^ k ∧ x / 2 ^ k ≤ 65535 := by
  have hp : (0 : Int) < 2 ^ k := Int.pow_pos (by decide)
  refine ⟨Int.ediv_nonneg h.1 (Int.le_of_lt hp), Int.le_trans (Int.ediv_le_self _ h.1) h.2⟩
theorem bits3 (x : Int) (k : Nat) (h : 0 ≤ x ∧ x ≤ 65535) : ∃ m : Nat, m ≤ 3 ∧ bits .and .u16 (x / 2 ^ k) 3 = (m : Int) := by
  refine ⟨(x / 2 ^ k % 4).toNat, by omega, ?_⟩
  rw [and3 _ (shr_bd x k h)]
  omega
theorem bits1 (x : Int) (k : Nat) (h : 0 ≤ x ∧ x ≤ 65535) : ∃ m : Nat, m ≤ 1 ∧ bits .and .u16 (x / 2 ^ k) 1 = (m : Int) := by
  refine ⟨(x / 2 ^ k % 2).toNat, by omega, ?_⟩
  rw [and1 _ (shr_bd x k h)]
  omega

set_option maxRecDepth 100000 in
set_option maxHeartbeats 8000000 in
theorem notes_any (s note : ByteArray) (x y : Int) (w : World) (hs : s.size ≤ maxLen) (hn : note.size ≤ maxLen) (hx : 0 ≤ x ∧ x ≤ 65535) (hy : 0 ≤ y ∧ y ≤ 65535) :
    Calls Try.prog 8 #[.string s, .string note, .agg #[.int .u16 x, .int .u16 y]] w fun e w' => e = .returned (.bool true) ∧ Below w.heap.size w w' := by
  have cs := shown_any (w.alloc (.cells #[.int .u16 x, .int .u16 y] 48))
  have hf := fewB_size s
  have hfn := fewB_size note
  have hfl : (fewB note).size ≤ note.size := by unfold fewB; rw [ByteArray.size_extract]; omega
  have cf := fun w => few_any s w hs
  have cn := fun w => few_any note w hn
  obtain ⟨f, hfd⟩ : ∃ f, fewB s = f := ⟨_, rfl⟩
  obtain ⟨g, hgd⟩ : ∃ g, fewB note = g := ⟨_, rfl⟩
  simp only [hfd] at cf
  simp only [hgd] at cn
  rw [hfd] at hf
  rw [hgd] at hfn hfl
  replace hfd := Lib.hid hfd
  replace hgd := Lib.hid hgd
  go_enter Try.func8, Try.ntmps8
  go_wp2_with fail
  refine cs.mono ?_
  rintro e w1 ⟨rfl, hB1⟩
  go_wp2_with fail
  refine (cf _).mono ?_
  rintro e w2 ⟨rfl, rfl⟩
  clear cs cf
  go_wp2_with fail
  go_loopw [9, 10] (fun cv iv wr => ∃ (c : ByteArray) (i : Nat), i ≤ g.size ∧ c.size ≤ i ∧ NoNl c ∧ cv = .string c ∧ iv = .int .i64 i ∧ w1 = wr) (fun _ iv _ => (g.size - intOf iv).toNat)
  case atStart => exact ⟨⟨#[]⟩, 0, Nat.zero_le _, Nat.le_refl _, NoNl.nil, rfl, rfl, rfl⟩
  case round =>
    obtain ⟨c, i, hi, hc, hnl, rfl, rfl, rfl⟩ := hrel
    go_wp2_with fail
    refine (cn _).mono ?_
    rintro e w2 ⟨rfl, rfl⟩
    by_cases hlt : i < g.size
    · have hb := bt_get note i (by omega)
      have zi0 : (0 : Int) ≤ (i : Int) := by omega
      have zi1 : (i : Int) < (note.size : Int) := by omega
      have zi2 : i < note.size := by omega
      have q1 : ¬ (9223372036854775807 : Int) < (c.size : Int) + ((note.extract i (i + 1)).size : Int) := by rw [ByteArray.size_extract]; omega
      by_cases h10 : bt note i = 10
      · have e10 : (((bt note i : Nat) : Int) != 10) = false := by simp; omega
        go_wp2_with fail
        go_roundw
        case rel => exact ⟨c, i + 1, by omega, by omega, hnl, rfl, by go_num, trivial⟩
        case measure => simp [intOf]; omega
      · have e10 : (((bt note i : Nat) : Int) != 10) = true := by simp; omega
        have hnl2 := hnl.more zi2 h10
        have hc2 : (c ++ note.extract i (i + 1)).size ≤ i + 1 := by rw [ByteArray.size_append, ByteArray.size_extract]; omega
        go_wp2_with fail
        go_roundw
        case rel => exact ⟨_, i + 1, by omega, hc2, hnl2, rfl, by go_num, trivial⟩
        case measure => simp [intOf]; omega
    · obtain rfl : i = g.size := by omega
      clear cn hfl
      have hlw0 : w.heap.size < (w.alloc (.cells #[.int .u16 x, .int .u16 y] 48)).heap.size := by simp
      have HX : Hid (w1.cell? ⟨w.heap.size, 0, none⟩ = some (.int .u16 x) ∧ w1.cell? ⟨w.heap.size, 1, none⟩ = some (.int .u16 y)) := Lib.hid ⟨(hB1.cell (p := ⟨w.heap.size, 0, none⟩) hlw0).trans (by go_simp), (hB1.cell (p := ⟨w.heap.size, 1, none⟩) hlw0).trans (by go_simp)⟩
      have hlw : w.heap.size < w1.heap.size := Nat.lt_of_lt_of_le hlw0 hB1.size
      have HB1 := Lib.hid ((balloc1 w (.cells #[.int .u16 x, .int .u16 y] 48)).trans (hB1.mono (by simp)))
      clear hB1 hlw0
      go_wp2_with fail
      go_loopw [11, 12, 13, 14] (fun ov lv fv iv wr => ∃ (o : ByteArray) (l fr i : Nat), l ≤ i ∧ o.size ≤ 1000 * i ∧ i ≤ f.size + 1 ∧ fr ≤ i ∧ Nt f o fr i ∧ ov = .string o ∧ lv = .int .i64 l ∧ fv = .int .i64 fr ∧ iv = .int .i64 i ∧ Below w1.heap.size w1 wr) (fun _ _ _ iv _ => (f.size + 1 - intOf iv).toNat)
      case atStart => exact ⟨⟨#[]⟩, 0, 0, 0, Nat.le_refl _, Nat.zero_le _, by omega, Nat.le_refl _, Nt.start f, rfl, rfl, rfl, rfl, Below.refl _ _⟩
      case round =>
        obtain ⟨o, l, fr, i, hl, ho, hi2, hfr, hN, rfl, rfl, rfl, rfl, hBo⟩ := hrel
        have kx : wr.cell? ⟨w.heap.size, 0, none⟩ = some (.int .u16 x) := (hBo.cell (p := ⟨w.heap.size, 0, none⟩) hlw).trans HX.out.1
        have ky : wr.cell? ⟨w.heap.size, 1, none⟩ = some (.int .u16 y) := (hBo.cell (p := ⟨w.heap.size, 1, none⟩) hlw).trans HX.out.2
        by_cases hle : i ≤ f.size
        · obtain ⟨hcl1, hcl2⟩ := hN.clean hle
          obtain ⟨kk, hkk, hk16⟩ : ∃ kk : Nat, (l : Int).tmod 16 = (kk : Int) ∧ kk < 16 := ⟨l % 16, by rw [Int.tmod_eq_emod_of_nonneg (by omega)]; omega, by omega⟩
          obtain ⟨m, hm3, hm⟩ := bits3 y kk hy
          obtain ⟨m1, hm1, hmx⟩ := bits1 x kk hx
          obtain ⟨L, hL⟩ : ∃ L, f.extract fr i = L := ⟨_, rfl⟩
          have hLs : L.size ≤ 300 := by rw [← hL, ByteArray.size_extract]; omega
          obtain ⟨Bk, hBk⟩ : ∃ B, blanks.extract 0 m = B := ⟨_, rfl⟩
          have hBs : Bk.size ≤ 3 := by rw [← hBk, ByteArray.size_extract]; omega
          have hp1 := bl_plain o f fr i m hm3
          have hp2 := bl_note o f c fr i m hm3
          have ha1 := Adds.plain (w := f) (fr := fr) (i := i) m hcl2
          have ha2 := Adds.note (w := f) (fr := fr) (i := i) m hcl2 hnl
          rw [hL, hBk] at hp1 hp2
          rw [hL] at ha1 ha2
          have hos : o.size ≤ 1000000 := by omega
          have s3 : (⟨#[32, 9, 35]⟩ : ByteArray).size = 3 := rfl
          have s5 : (⟨#[10, 10, 32, 32, 35]⟩ : ByteArray).size = 5 := rfl
          have s1 : (⟨#[10]⟩ : ByteArray).size = 1 := rfl
          have z1 : (o ++ Bk).size = o.size + Bk.size := ByteArray.size_append
          have z2 : (o ++ Bk ++ L).size = o.size + Bk.size + L.size := by rw [ByteArray.size_append, z1]
          have z3 : (o ++ Bk ++ L ++ ⟨#[32, 9, 35]⟩).size = o.size + Bk.size + L.size + 3 := by rw [ByteArray.size_append, z2, s3]
          have z4 : (o ++ Bk ++ L ++ ⟨#[32, 9, 35]⟩ ++ c).size = o.size + Bk.size + L.size + 3 + c.size := by rw [ByteArray.size_append, z3]
          have z5 : (o ++ Bk ++ L ++ ⟨#[32, 9, 35]⟩ ++ c ++ ⟨#[10, 10, 32, 32, 35]⟩).size = o.size + Bk.size + L.size + 3 + c.size + 5 := by rw [ByteArray.size_append, z4, s5]
          have z6 : (o ++ Bk ++ L ++ ⟨#[32, 9, 35]⟩ ++ c ++ ⟨#[10, 10, 32, 32, 35]⟩ ++ ⟨#[10]⟩).size = o.size + Bk.size + L.size + 3 + c.size + 5 + 1 := by rw [ByteArray.size_append, z5, s1]
          have z7 : (o ++ Bk ++ L ++ ⟨#[10]⟩).size = o.size + Bk.size + L.size + 1 := by rw [ByteArray.size_append, z2, s1]
          have q1 : ¬ (9223372036854775807 : Int) < (o.size : Int) + (Bk.size : Int) := by omega
          have q2 : ¬ (9223372036854775807 : Int) < ((o ++ Bk).size : Int) + (L.size : Int) := by omega
          have q3 : ¬ (9223372036854775807 : Int) < ((o ++ Bk ++ L).size : Int) + ((⟨#[32, 9, 35]⟩ : ByteArray).size : Int) := by omega
          have q4 : ¬ (9223372036854775807 : Int) < ((o ++ Bk ++ L ++ ⟨#[32, 9, 35]⟩).size : Int) + (c.size : Int) := by omega
          have q5 : ¬ (9223372036854775807 : Int) < ((o ++ Bk ++ L ++ ⟨#[32, 9, 35]⟩ ++ c).size : Int) + ((⟨#[10, 10, 32, 32, 35]⟩ : ByteArray).size : Int) := by omega
          have q6 : ¬ (9223372036854775807 : Int) < ((o ++ Bk ++ L ++ ⟨#[32, 9, 35]⟩ ++ c ++ ⟨#[10, 10, 32, 32, 35]⟩).size : Int) + ((⟨#[10]⟩ : ByteArray).size : Int) := by omega
          have q7 : ¬ (9223372036854775807 : Int) < ((o ++ Bk ++ L).size : Int) + ((⟨#[10]⟩ : ByteArray).size : Int) := by omega
          have b6 : (o ++ Bk ++ L ++ ⟨#[32, 9, 35]⟩ ++ c ++ ⟨#[10, 10, 32, 32, 35]⟩ ++ ⟨#[10]⟩).size ≤ 1000 * (i + 1) := by omega
          have b7 : (o ++ Bk ++ L ++ ⟨#[10]⟩).size ≤ 1000 * (i + 1) := by omega
          have hBx : (⟨#[32, 32, 32, 32, 32, 32, 32]⟩ : ByteArray).extract 0 m = Bk := hBk
          have e0 : (0 : Int) ≤ (kk : Int) := by omega
          have e16 : (kk : Int) ≤ 16 := by omega
          have em0 : (0 : Int) ≤ (m : Int) := by omega
          have em7 : (m : Int) ≤ 7 := by omega
          have zi0 : (0 : Int) ≤ (i : Int) := by omega
          have zfr : (fr : Int) ≤ (i : Int) := by omega
          have zfs : (i : Int) ≤ (f.size : Int) := by omega
          clear z1 z2 z3 z4 z5 z6 z7 s1 s3 s5 hBk hBs hLs hm3
          replace ha1 := Lib.hid ha1
          replace ha2 := Lib.hid ha2
          replace hp1 := Lib.hid hp1
          replace hp2 := Lib.hid hp2
          replace b6 := Lib.hid b6
          replace b7 := Lib.hid b7
          by_cases hsk : i < f.size ∧ bt f i ≠ 10
          · obtain ⟨hlt, h10⟩ := hsk
            have hb := bt_get f i hlt
            have zi1 : (i : Int) < (f.size : Int) := by omega
            have e10 : (((bt f i : Nat) : Int) != 10) = true := by simp; omega
            have hN2 := Lib.hid (hN.skip hlt h10)
            go_wp2_with fail
            go_roundw
            case rel => exact ⟨o, l, fr, i + 1, by omega, by omega, by omega, by omega, hN2.out, rfl, rfl, rfl, by go_num, hBo⟩
            case measure => simp [intOf]; omega
          · have hNx : Hid (∀ o' a, bl o' = bl o ++ a → Adds f fr i a → Nt f o' (i + 1) (i + 1)) := Lib.hid (fun o' a h1 h2 => by
              by_cases hlt : i < f.size
              · exact hN.line hlt (Decidable.byContradiction fun h => hsk ⟨hlt, h⟩) h1 h2
              · obtain rfl : i = f.size := by omega
                exact hN.last h1 h2)
            replace hN := Lib.hid hN
            by_cases h1 : m1 = 1
            · subst h1
              by_cases hlt : i < f.size
              · have hb := bt_get f i hlt
                have zi1 : (i : Int) < (f.size : Int) := by omega
                have h10 : bt f i = 10 := Decidable.byContradiction fun h => hsk ⟨hlt, h⟩
                have e10 : (((bt f i : Nat) : Int) != 10) = false := by simp; omega
                clear hsk h10
                go_wp2_with fail
                go_quiet (fail)
                go_wp2_with fail
                go_roundw
                case rel => exact ⟨_, l + 1, i + 1, i + 1, by omega, b6.out, by omega, by omega, hNx.out _ _ hp2.out ha2.out, rfl, by go_num, by go_num, by go_num, below_drewN hBo _⟩
                case measure => simp [intOf]; omega
              · have zi1 : ¬ (i : Int) < (f.size : Int) := by omega
                clear hsk
                go_wp2_with fail
                go_quiet (fail)
                go_wp2_with fail
                go_roundw
                case rel => exact ⟨_, l + 1, i + 1, i + 1, by omega, b6.out, by omega, by omega, hNx.out _ _ hp2.out ha2.out, rfl, by go_num, by go_num, by go_num, below_drewN hBo _⟩
                case measure => simp [intOf]; omega
            · obtain rfl : m1 = 0 := by omega
              by_cases hlt : i < f.size
              · have hb := bt_get f i hlt
                have zi1 : (i : Int) < (f.size : Int) := by omega
                have h10 : bt f i = 10 := Decidable.byContradiction fun h => hsk ⟨hlt, h⟩
                have e10 : (((bt f i : Nat) : Int) != 10) = false := by simp; omega
                clear hsk h10
                go_wp2_with fail
                go_quiet (fail)
                go_wp2_with fail
                go_roundw
                case rel => exact ⟨_, l + 1, i + 1, i + 1, by omega, b7.out, by omega, by omega, hNx.out _ _ hp1.out ha1.out, rfl, by go_num, by go_num, by go_num, below_drewN hBo _⟩
                case measure => simp [intOf]; omega
              · have zi1 : ¬ (i : Int) < (f.size : Int) := by omega
                clear hsk
                go_wp2_with fail
                go_quiet (fail)
                go_wp2_with fail
                go_roundw
                case rel => exact ⟨_, l + 1, i + 1, i + 1, by omega, b7.out, by omega, by omega, hNx.out _ _ hp1.out ha1.out, rfl, by go_num, by go_num, by go_num, below_drewN hBo _⟩
                case measure => simp [intOf]; omega
        · obtain rfl : i = f.size + 1 := by omega
          have hD := (hN.done rfl).symm
          have c1 := fun w => lines_any f w (by omega)
          have c2 := fun w => lines_any o w (by omega)
          obtain ⟨hT1, hT2⟩ := same_tx hD
          have g1 := linesP_len f
          have g2 := getD_each (P := fun x => x.length ≤ 10000000) (fun x hx => by have := linesP_each f x hx; omega) (by simp)
          obtain ⟨rs, hrs⟩ : ∃ rs, linesP f = rs := ⟨_, rfl⟩
          obtain ⟨ts, hts⟩ : ∃ ts, linesP o = ts := ⟨_, rfl⟩
          simp only [hrs] at c1
          simp only [hts] at c2
          rw [hrs] at hT1 hT2 g1 g2
          rw [hts] at hT1 hT2
          replace g2 := Lib.hid g2
          replace hT1 := Lib.hid hT1
          replace hT2 := Lib.hid hT2
          replace hrs := Lib.hid hrs
          replace hts := Lib.hid hts
          replace hN := Lib.hid hN
          clear hD kx ky
          go_wp2_with fail
          refine (c1 _).mono ?_
          rintro e w2 ⟨va, rfl, hA, hB2⟩
          go_wp2_with fail
          refine (c2 _).mono ?_
          rintro e w3 ⟨vb, rfl, hB, hB3⟩
          have cT := texts_any va vb rs ts w3 (hA.at.on hB3) hB.at (by omega) g2.out hT1.out hT2.out
          replace hA := Lib.hid hA
          replace hB := Lib.hid hB
          go_wp2_with fail
          refine cT.mono ?_
          rintro e w4 ⟨rfl, hB4⟩
          go_wp2_with fail
          go_ret
          exact ⟨rfl, sames (sames (sames (HB1.out.trans (hBo.mono HB1.out.size)) hB2) hB3) hB4⟩
end Go.Proofs.Ythoohbmpbahkgaa
