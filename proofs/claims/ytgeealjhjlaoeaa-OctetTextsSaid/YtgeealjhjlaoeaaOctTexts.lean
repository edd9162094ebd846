/- OctetTexts. -/
import Derived.Test.YtgeealjhjlaoeaaOctB
import Derived.Test.YtgeealjhjlaoeaaOctRef
import Derived.Test.YtgeealjhjlaoeaaOctCat
import Derived.Deep.RegionHeld3
import Derived.ProofKit
import Derived.SliceStrings
import Derived.Deep.DeepCutAuto
namespace Go.Proofs.Ytgeealjhjlaoeaa
open Go.RowKit Oct

section
variable {W0 w : World} {b : Nat} {s : ByteArray} {p : Nat} {f : Bool}
theorem text_is {x : ByteArray} {q : Nat} {g : Bool} (h : Own W0 w b s p f) (ht : textM s p f = (x, q, g)) (hq : q ≤ s.size) :
    Calls Try.prog 30 #[.pointer (some ⟨b, 0, none⟩)] w fun e w' => e = .returned (.string x) ∧ Own W0 w' b s q g := by
  have := text_rd h.rd h.hp h.hs
  rw [ht] at this
  exact this.mono fun _ _ ⟨he, ha⟩ => ⟨he, h.after ha hq⟩
end

/-- A slice of texts that came in. -/
def IsTexts (w : World) (ao : Option Addr) (len : Nat) : Prop :=
  len = 0 ∨ ∃ (b off : Nat) (ss : Nat → ByteArray), ao = some ⟨b, off, none⟩ ∧ len ≤ maxLen ∧ b < w.heap.size ∧ (∀ i, i < len → w.cell? ⟨b, off + i, none⟩ = some (.string (ss i))) ∧ (∀ i, i < len → (ss i).size ≤ maxLen)

theorem lt_of_cell' {w : World} {b o : Nat} {v : Value} (h : w.cell? ⟨b, o, none⟩ = some v) : b < w.heap.size := by
  rcases Nat.lt_or_ge b w.heap.size with h1 | h1
  · exact h1
  · unfold World.cell? at h
    rw [show w.heap[(⟨b, o, none⟩ : Addr).block]? = none from Array.getElem?_eq_none h1] at h
    simp at h
theorem add_plain' (b o j : Nat) : (⟨b, o, none⟩ : Addr).add j = ⟨b, o + j, none⟩ := by
  unfold Addr.add
  split <;> simp_all

theorem open_texts {H : Type} {enc : TypeId × Value → H} {w : World} {base : Nat} {spare : Nat → Bool} {held : Bool} {fuel : Nat} {ao : Option Addr} {l c : Nat} {x : DataW H × List MemPlace}
    (h : DataW.trod enc Try.prog w base spare held fuel 44 [.slice ao l c] = some x) : IsTexts w ao l := by
  rcases Go.ChangeShapes.open_strings Try.underlying44 Try.underlying9 (by kernel_rfl) h with ⟨hcs, _⟩ | ⟨a, len, cap, zs, hcs, _, hl, hm, hz, _, hcell, hwz⟩
  · simp at hcs
    exact Or.inl hcs.2.1
  · simp at hcs
    obtain ⟨rfl, rfl, rfl⟩ := hcs
    rcases Nat.eq_zero_or_pos l with h0 | h0
    · exact Or.inl h0
    · right
      have hlz : l ≤ zs.length := by rw [hz]; split <;> omega
      obtain ⟨b, off, spot⟩ := a
      have k0 := hcell 0 (by omega)
      have hspot : spot = none := by simpa [Addr.add] using World.cell?_spot k0
      subst hspot
      rw [add_plain'] at k0
      refine ⟨b, off, fun i => zs.getD i ByteArray.empty, rfl, by omega, lt_of_cell' k0, ?_, ?_⟩
      · intro i hi
        have := hcell i (by omega)
        rw [add_plain'] at this
        exact this
      · intro i hi
        have hi2 : i < zs.length := by omega
        have : zs.getD i ByteArray.empty = zs[i] := by simp [List.getD, hi2]
        show (zs.getD i ByteArray.empty).size ≤ maxLen
        rw [this]
        exact hwz _ (List.getElem_mem hi2)

set_option maxRecDepth 100000 in
set_option maxHeartbeats 4000000 in
theorem texts_walk (b off len cap : Nat) (ss : Nat → ByteArray) (w : World) (hl : len ≤ maxLen) (hb : b < w.heap.size) (hl0 : 0 < len)
    (hc : ∀ i, i < len → w.cell? ⟨b, off + i, none⟩ = some (.string (ss i))) (hs : ∀ i, i < len → (ss i).size ≤ maxLen) :
    Calls Try.prog 6 #[.slice (some ⟨b, off, none⟩) len cap] w fun e w' => e = .returned (.bool true) ∧ Below w.heap.size w w' := by
  unfold maxLen at hl
  obtain ⟨n, hn⟩ : ∃ n, n = min len 10 := ⟨_, rfl⟩
  have hn1 : 1 ≤ n ∧ n ≤ len ∧ n ≤ 10 := by omega
  have HN := Lib.hid (show min (len : Int) 10 = n by omega)
  clear hn
  obtain ⟨hn0, hnl, hn10⟩ := hn1
  have HC := Lib.hid hc
  have HS := Lib.hid hs
  clear hc hs
  have hx2 : ∀ i, (fewS (ss i)).size ≤ 200 := fun i => fewS_size _
  have HX := Lib.hid hx2
  have HCL := Lib.hid (cat_le (fun i => fewS (ss i)) hx2)
  clear hx2
  go_enter Try.func6, Try.ntmps6
  go_wp2_with fail
  refine (shown_any _).mono ?_
  rintro e w1 ⟨rfl, hb1⟩
  go_upto_region 3 with fail
  go_cut [5] (fun s5 wx => s5 = .int .i64 n ∧ wx = w1)
  case first =>
    have hm := HN.out
    go_wp2_with fail
    all_goals go_meet
    all_goals exact ⟨by go_num, rfl⟩
  case rest =>
  obtain ⟨h5, hw⟩ := hcut
  subst h5 hw
  go_wp2_with fail
  go_loopw [4, 6] (fun t i wr => ∃ k : Nat, k ≤ n ∧ i = .int .i64 k ∧ t = .string (cat (fun i => fewS (ss i)) k) ∧ Below w.heap.size w wr) (fun _ i _ => n - (intOf i).toNat)
  case atStart => exact ⟨0, Nat.zero_le _, rfl, rfl, hb1⟩
  case round =>
    obtain ⟨k, hk, rfl, rfl, hbel⟩ := hrel
    have hck := HCL.out k
    by_cases hlt : k < n
    · have hlen : k < len := by omega
      have hcell : wr.cell? ⟨b, off + k, none⟩ = some (.string (ss k)) := (hbel.cell hb).trans (HC.out k hlen)
      have HCAT := Lib.hid (show cat (fun i => fewS (ss i)) (k + 1) = cat (fun i => fewS (ss i)) k ++ textV (fewS (ss k)) by
        rw [cat]
        unfold textV
        rw [if_neg (by have := HX.out k; omega)])
      have hts : (textV (fewS (ss k))).size ≤ 65537 := textV_size _
      have HY := Lib.hid (HX.out k)
      generalize hce : cat (fun i => fewS (ss i)) k = t at *
      have hfew := fun wz => few_any (ss k) wz (HS.out k hlen)
      have htext := fun wz => text_any (fewS (ss k)) wz (by have := HX.out k; unfold maxLen; omega)
      generalize fewS (ss k) = y at *
      generalize textV y = u at *
      generalize ss k = sk at *
      have HF := Lib.hid hfew
      have HT := Lib.hid htext
      clear hfew htext hce
      go_wp2_with fail
      refine (HF.out _).mono ?_
      rintro e w2 ⟨rfl, rfl⟩
      go_wp2_with fail
      refine (HT.out _).mono ?_
      rintro e w2 ⟨rfl, hb2⟩
      have hbel2 := hbel.trans (hb2.mono hbel.size)
      clear hcell hb2
      go_wp2_with fail
      go_roundw
      case rel => exact ⟨k + 1, by omega, by go_num, by rw [HCAT.out], hbel2⟩
      case measure => simp [intOf]; omega
    · obtain rfl : k = n := by omega
      obtain ⟨m, rfl⟩ : ∃ m, k = m + 1 := ⟨k - 1, by omega⟩
      have hcs := cat_size (fun i => fewS (ss i)) m
      have hSz : (cat (fun i => fewS (ss i)) (m + 1)).size ≤ 9223372036854775807 := by omega
      have hrd : ∀ j, j < m + 1 → textM (cat (fun i => fewS (ss i)) (m + 1)) (cat (fun i => fewS (ss i)) j).size false = (fewS (ss j), (cat (fun i => fewS (ss i)) (j + 1)).size, false) := fun j hj => cat_read (fun i => fewS (ss i)) HX.out j (m + 1) hj
      have hle : ∀ j, j < m + 1 → (cat (fun i => fewS (ss i)) (j + 1)).size ≤ (cat (fun i => fewS (ss i)) (m + 1)).size := fun j hj => by
        obtain ⟨c, hc⟩ := cat_more (fun i => fewS (ss i)) j (m + 1) hj
        rw [hc, cat_size, ByteArray.size_append, ByteArray.size_append, ByteArray.size_append, putS_size]
        omega
      have hpos : 2 ≤ (cat (fun i => fewS (ss i)) (m + 1)).size := by omega
      have hcut := cat_cut (fun i => fewS (ss i)) m
      have hcutr := fun j (hj : j < m) => cut_read (fun i => fewS (ss i)) HX.out j m hj ((putS (fewS (ss m)).size 2 ++ fewS (ss m)).extract 0 (1 + (fewS (ss m)).size))
      have hcutl := textM_cut (cat (fun i => fewS (ss i)) m) (fewS (ss m)) (by have := HX.out m; omega)
      rw [← hcut] at hcutl
      simp only [← hcut] at hcutr
      have hcle : ∀ j, j < m → (cat (fun i => fewS (ss i)) (j + 1)).size ≤ (cat (fun i => fewS (ss i)) m).size := fun j hj => by
        obtain ⟨c, hc⟩ := cat_more (fun i => fewS (ss i)) j m hj
        rw [hc, cat_size, ByteArray.size_append, ByteArray.size_append, ByteArray.size_append, putS_size]
        omega
      have hcz : ((cat (fun i => fewS (ss i)) (m + 1)).extract 0 ((cat (fun i => fewS (ss i)) (m + 1)).size - 1)).size = (cat (fun i => fewS (ss i)) (m + 1)).size - 1 := by rw [ByteArray.size_extract]; omega
      obtain ⟨P, hP⟩ : ∃ P : Nat → Nat, ∀ j, (cat (fun i => fewS (ss i)) j).size = P j := ⟨_, fun _ => rfl⟩
      have hz0 : P 0 = 0 := by rw [← hP]; rfl
      have hPS := hP (m + 1)
      simp only [hP] at hrd hle hcutr hcutl hcle
      rw [← hPS] at hcutl hle
      simp only [← hPS] at hcutr
      rw [hP m] at hcs
      have hxs := HX.out m
      generalize cat (fun i => fewS (ss i)) (m + 1) = S at *
      have hSC : (S.extract 0 (S.size - 1)).size ≤ 9223372036854775807 := by omega
      clear hcut hck HCL
      have F1 := Lib.hid hrd
      have L1 := Lib.hid hle
      have F2 := Lib.hid hcutr
      have F3 := Lib.hid hcutl
      have L2 := Lib.hid hcle
      have HCS := Lib.hid hcs
      have HCZ := Lib.hid hcz
      have HZ0 := Lib.hid hz0
      have HSC := Lib.hid hSC
      clear hSC
      have HPS := Lib.hid hPS
      clear hrd hle hcutr hcutl hcle hcs hcz hz0 hP hPS hlt hk
      obtain ⟨wo, rfl⟩ : ∃ wo : World, wo = wr := ⟨_, rfl⟩
      go_wp2_with fail
      refine (read_own S hSz hbel).mono ?_
      rintro e w2 ⟨rfl, hx2, hnb⟩
      have hlt2 : wo.heap.size < w2.heap.size := hx2.rd.lt
      clear hnb
      go_wp2_with fail
      go_loopw [8] (fun i wq => ∃ j : Nat, j ≤ m + 1 ∧ i = .int .i64 j ∧ Own w wq wo.heap.size S (P j) false) (fun i _ => m + 1 - (intOf i).toNat)
      case atStart => exact ⟨0, Nat.zero_le _, rfl, by rw [HZ0.out]; exact hx2⟩
      case round =>
        obtain ⟨j, hj, rfl, hx⟩ := hrel
        clear hx2
        by_cases hjl : j < m + 1
        · have hcW := HC.out j (by omega)
          have hcell : wr.cell? ⟨b, off + j, none⟩ = some (.string (ss j)) := (hx.bel.cell hb).trans hcW
          have hfew := fun wz => few_any (ss j) wz (HS.out j (by omega))
          have htx := F1.out j hjl
          have hle := L1.out j hjl
          generalize fewS (ss j) = y at *
          generalize ss j = sj at *
          obtain ⟨q, hq⟩ : ∃ q, q = P (j + 1) := ⟨_, rfl⟩
          rw [← hq] at htx hle
          have HQ := Lib.hid hq
          clear hq
          have HF := Lib.hid hfew
          have HT := Lib.hid htx
          have HCW := Lib.hid hcW
          have HXO := Lib.hid hx
          clear hfew htx hcW hx
          have hi0 : (0 : Int) ≤ (j : Int) := by omega
          have hi1 : (j : Int) < (len : Int) := by omega
          go_wp2_with fail
          go_region_held3 (fun w' => w'.cell? ⟨b, off + j, none⟩ = some (.string sj)) (first | assumption | exact (Below.cell (Own.bel (by assumption)) hb).trans HCW.out) (first | (go_at_call 16; refine (HF.out _).mono ?_; rintro e w6 ⟨rfl, rfl⟩) | (go_at_call 30; refine (text_is (by first | exact HXO.out | exact HXO.out.drewN 1) HT.out hle).mono ?_; rintro e w5 ⟨rfl, hx5⟩) | (go_at_call 26; refine (failed_own (by assumption)).mono ?_; rintro e w7 ⟨rfl, rfl⟩))
          go_wp2_with fail
          go_roundw
          case rel => exact ⟨j + 1, by omega, by go_num, by rw [← HQ.out]; assumption⟩
          case measure => simp [intOf]; omega
        · obtain rfl : j = m + 1 := by omega
          rw [← HPS.out] at hx
          have hl0 : ((S.size : Int) - (S.size : Int)) = 0 := by omega
          have hn00 : (((m : Int) + 1) == 0) = false := beq_eq_false_iff_ne.2 (by omega)
          have hlf := left_own hx
          rw [hl0] at hlf
          have HLF := Lib.hid hlf
          clear hlf hl0 hlt2
          go_wp2_with fail
          refine HLF.out.mono ?_
          rintro e w3 ⟨rfl, hx3, _⟩
          clear hx
          go_wp2_with fail
          refine (at_own hx3).mono ?_
          rintro e w4 ⟨rfl, rfl⟩
          have hp1 : 1 ≤ S.size := by omega
          go_wp2_with fail
          generalize S.extract 0 (S.size - 1) = C at *
          refine (read_own C HSC.out hx3.bel).mono ?_
          rintro e w4 ⟨rfl, hy4, _⟩
          have HCZ2 := HCZ.out
          have HCS2 := HCS.out
          clear hx3
          go_wp2_with fail
          obtain ⟨w3o, rfl⟩ : ∃ w3o : World, w3o = w3 := ⟨_, rfl⟩
          go_loopw [10] (fun i wq => ∃ j : Nat, j ≤ m ∧ i = .int .i64 j ∧ Own w wq w3o.heap.size C (P j) false) (fun i _ => m - (intOf i).toNat)
          case atStart => exact ⟨0, Nat.zero_le _, rfl, by rw [HZ0.out]; exact hy4⟩
          case round =>
            obtain ⟨j, hj, rfl, hy⟩ := hrel
            clear hy4
            by_cases hjm : j < m
            · have htx := text_is hy (F2.out j hjm) (by have := L2.out j hjm; omega)
              have HT := Lib.hid htx
              clear htx
              go_wp2_with fail
              refine HT.out.mono ?_
              rintro e w5 ⟨rfl, hy5⟩
              clear hy
              go_wp2_with fail
              go_roundw
              case rel => exact ⟨j + 1, by omega, by go_num, hy5⟩
              case measure => simp [intOf]; omega
            · obtain rfl : j = m := by omega
              have htx := text_is hy F3.out (by omega)
              have hat := at_own hy
              have hcl := HC.out j (by omega)
              have hfew := fun wz => few_any (ss j) wz (HS.out j (by omega))
              have hsz := HCS.out
              have hlast : ((P j : Int) == (S.size : Int) - ((fewS (ss j)).size : Int) - 2) = true := by
                rw [hsz]
                simp
                omega
              generalize fewS (ss j) = y at *
              generalize ss j = sj at *
              generalize P j = q at *
              have HT := Lib.hid htx
              have HA := Lib.hid hat
              have HF := Lib.hid hfew
              have HCL2 := Lib.hid hcl
              have HSZ := Lib.hid hsz
              clear htx hat hfew hcl hsz HCS2 HCZ2
              go_wp2_with fail
              refine HA.out.mono ?_
              rintro e w5 ⟨rfl, rfl⟩
              go_wp2_with fail
              refine HT.out.mono ?_
              rintro e w5 ⟨rfl, hy5⟩
              have hcell : w5.cell? ⟨b, off + j, none⟩ = some (.string sj) := (hy5.bel.cell hb).trans HCL2.out
              clear hy
              go_wp2_with fail
              refine (failed_own hy5).mono ?_
              rintro e w6 ⟨rfl, rfl⟩
              go_wp2_with fail
              refine (at_own hy5).mono ?_
              rintro e w6 ⟨rfl, rfl⟩
              go_wp2_with fail
              refine (HF.out _).mono ?_
              rintro e w6 ⟨rfl, rfl⟩
              go_wp2_with fail
              go_ret
              exact ⟨rfl, hy5.bel⟩

set_option maxHeartbeats 1000000 in
theorem texts_nil (ao : Option Addr) (cap : Nat) (w : World) :
    Calls Try.prog 6 #[.slice ao 0 cap] w fun e w' => e = .returned (.bool true) ∧ Below w.heap.size w w' := by
  go_enter Try.func6, Try.ntmps6
  go_wp2_with fail
  refine (shown_any _).mono ?_
  rintro e w1 ⟨rfl, hb1⟩
  go_wp2_with fail
  refine wp_loop_rounds 1 ?_
  rw [rounds_succ]
  go_wp2_with fail
  refine (read_own ByteArray.empty (by decide) hb1).mono ?_
  rintro e w2 ⟨rfl, hx2, _⟩
  have hlf := left_own hx2
  rw [show ((ByteArray.empty.size : Int) - (0 : Nat)) = 0 from rfl] at hlf
  have HLF := Lib.hid hlf
  clear hlf
  go_wp2_with fail
  refine wp_loop_rounds 1 ?_
  rw [rounds_succ]
  go_wp2_with fail
  refine HLF.out.mono ?_
  rintro e w3 ⟨rfl, hx3, _⟩
  clear hx2
  have hlf := left_own hx3
  rw [show ((ByteArray.empty.size : Int) - (0 : Nat)) = 0 from rfl] at hlf
  have HLF := Lib.hid hlf
  clear hlf
  go_wp2_with fail
  refine (at_own hx3).mono ?_
  rintro e w4 ⟨rfl, rfl⟩
  go_wp2_with fail
  refine HLF.out.mono ?_
  rintro e w4 ⟨rfl, hx4, _⟩
  go_wp2_with fail
  refine (at_own hx4).mono ?_
  rintro e w5 ⟨rfl, rfl⟩
  go_wp2_with fail
  go_ret
  exact ⟨rfl, hx4.bel⟩

theorem textsV (ao : Option Addr) (l c : Nat) (w : World) (h : IsTexts w ao l) :
    Calls Try.prog 6 #[.slice ao l c] w fun e w' => e = .returned (.bool true) ∧ Below w.heap.size w w' := by
  rcases Nat.eq_zero_or_pos l with h0 | h0
  · subst h0
    exact texts_nil ao c w
  · rcases h with rfl | ⟨b, off, ss, rfl, hl, hb, hc, hs⟩
    · exact absurd h0 (by omega)
    · exact texts_walk b off l c ss w hl hb h0 hc hs
end Go.Proofs.Ytgeealjhjlaoeaa
