/- The reference's Reversed. -/
import Derived.Test.YtenmgbcbnofcmaaOutRefCuts
import Derived.Test.YtenmgbcbnofcmaaOutRefMoved
import Derived.Test.YtenmgbcbnofcmaaOutTurn
namespace Go.Proofs.Ytenmgbcbnofcmaa
open Go.RowKit

theorem sigL_app {n : Nat} (l : List (Cut n)) (c : Cut n) (j : Nat) : sigL (l ++ [c]) j = sigL l (sig c.1.2.1 c.1.2.2 j) := by
  induction l with
  | nil => rfl
  | cons d l ih => show sig _ _ (sigL (l ++ [c]) j) = sig _ _ (sigL l _); rw [ih]
theorem sigL_fix {n : Nat} (es : List Int) : ∀ (k b i : Nat) (c : Cut n), (cutsO n k b es)[i]? = some c → ∀ j, c.1.2.1 ≤ j → sigL ((cutsO n k b es).take i) j = j := by
  induction es with
  | nil => intro k b i c hc; simp [cutsO] at hc
  | cons e es ih =>
    intro k b i c hc j hj
    unfold cutsO at hc ⊢
    split at hc
    · rename_i h
      rw [dif_pos h]
      cases i with
      | zero => rfl
      | succ i =>
        rw [List.getElem?_cons_succ] at hc
        rw [List.take_succ_cons]
        show sig b (e.toNat + 1) (sigL ((cutsO n (k + 1) (e.toNat + 1) es).take i) j) = j
        have h1 := cuts_low _ _ _ c (List.mem_of_getElem? hc)
        rw [ih _ _ i c hc j hj]
        exact sig_out (by omega)
    · simp at hc
theorem sigL_next {n : Nat} (es : List Int) (i : Nat) (c : Cut n) (hc : (cutsO n 0 0 es)[i]? = some c) (j : Nat) : sigL ((cutsO n 0 0 es).take (i + 1)) j = if c.1.2.1 < j ∧ j < c.1.2.2 then c.1.2.1 + c.1.2.2 - j else sigL ((cutsO n 0 0 es).take i) j := by
  have e : (cutsO n 0 0 es).take (i + 1) = (cutsO n 0 0 es).take i ++ [c] := by rw [List.take_add_one, hc]; rfl
  rw [e, sigL_app]
  by_cases h : c.1.2.1 < j ∧ j < c.1.2.2
  · rw [if_pos h]
    have h2 : sig c.1.2.1 c.1.2.2 j = c.1.2.1 + c.1.2.2 - j := by unfold sig; rw [if_pos h]
    rw [h2, sigL_fix _ _ _ _ c hc _ (by omega)]
  · rw [if_neg h, sig_out h]
theorem cutsO_le (n : Nat) (es : List Int) : ∀ k b, (cutsO n k b es).length ≤ es.length := by
  induction es with
  | nil => intro k b; simp [cutsO]
  | cons e es ih =>
    intro k b
    unfold cutsO
    split
    · simp only [List.length_cons]
      have := ih (k + 1) (e.toNat + 1)
      omega
    · simp
/-- What is known of a world within the reference's Reversed. -/
structure RR (w : World) (G : Nat) (v1 p1 p2 cv : Value) (cs : List (Nat × Nat)) (qs : List Pn) (es : List Int) (W : World) : Prop where
  bel : Below w.heap.size w W
  o0 : W.cell? ⟨w.heap.size, 0, none⟩ = some v1
  g0 : W.cell? ⟨G, 0, none⟩ = some p1
  g1 : W.cell? ⟨G, 1, none⟩ = some p2
  r0 : ∃ u, W.cell? ⟨w.heap.size + 1, 0, none⟩ = some u
  r1 : ∃ u, W.cell? ⟨w.heap.size + 1, 1, none⟩ = some u
  rf : ∀ o, W.frozen? ⟨w.heap.size + 1, o, none⟩ = false
  row : PRow W (w.heap.size + 1 + 1) p1 qs
  ends : ERow W (w.heap.size + 1 + 1) p2 es
  cuts : CRow W (w.heap.size + 1 + 1) cv cs
  gG : ∀ g, p1.ownBlock = some g → g ≠ G
  gr : w.heap.size + 1 + 1 ≤ G
  gs : G < W.heap.size
theorem RR.set {w W : World} {G g n c : Nat} {v1 p2 cv : Value} {cs : List (Nat × Nat)} {ps qs : List Pn} {es : List Int} (h : RR w G v1 (.slice (some ⟨g, 0, none⟩) n c) p2 cv cs ps es W) (o : Nat) (u : Value) (hr : PRow (W.setCell ⟨g, o, none⟩ u) (w.heap.size + 1 + 1) (.slice (some ⟨g, 0, none⟩) n c) qs) : RR w G v1 (.slice (some ⟨g, 0, none⟩) n c) p2 cv cs qs es (W.setCell ⟨g, o, none⟩ u) := by
  have hg := h.row
  have hlt := World.ownsRow.lt hg g rfl
  have hn : p2.ownBlock ≠ some g := own_type hg h.ends (by decide) g rfl
  have hc : cv.ownBlock ≠ some g := own_type hg h.cuts (by decide) g rfl
  have e : w.heap.size + 1 ≠ g := by omega
  have e0 : w.heap.size ≠ g := by omega
  have eG : g ≠ G := h.gG g rfl
  obtain ⟨u0, r0⟩ := h.r0
  obtain ⟨u1, r1⟩ := h.r1
  exact ⟨h.bel.setCell (by simp; omega) u, (World.cell?_setCell_far _ _ _ _ e0.symm).trans h.o0, (World.cell?_setCell_far _ _ _ _ eG).trans h.g0, (World.cell?_setCell_far _ _ _ _ eG).trans h.g1, ⟨u0, (World.cell?_setCell_far _ _ _ _ e.symm).trans r0⟩, ⟨u1, (World.cell?_setCell_far _ _ _ _ e.symm).trans r1⟩, fun o => (World.frozen?_setCell _ _ _ _).trans (h.rf o), hr, ownsRow_setCell_other h.ends (by simpa using hn) u, ownsRow_setCell_other h.cuts (by simpa using hc) u, h.gG, h.gr, by simpa using h.gs⟩
/-- Any row of the block will do that is right behind. -/
theorem RR.put {w W : World} {G : Nat} {v1 p1 p2 cv : Value} {cs : List (Nat × Nat)} {ps qs : List Pn} {es : List Int} (h : RR w G v1 p1 p2 cv cs ps es W) (hr : PRow W (w.heap.size + 1 + 1) p1 qs) : RR w G v1 p1 p2 cv cs qs es W :=
  ⟨h.bel, h.o0, h.g0, h.g1, h.r0, h.r1, h.rf, hr, h.ends, h.cuts, h.gG, h.gr, h.gs⟩
theorem RR.drew {w W : World} {G : Nat} {v1 p1 p2 cv : Value} {cs : List (Nat × Nat)} {ps : List Pn} {es : List Int} (h : RR w G v1 p1 p2 cv cs ps es W) : RR w G v1 p1 p2 cv cs ps es W.drew := by
  have hb : Below W.heap.size W W.drew := (Below.refl _ _).drew
  exact ⟨h.bel.drew, h.o0, h.g0, h.g1, h.r0, h.r1, h.rf, h.row.on hb (Nat.le_refl _), h.ends.on hb (Nat.le_refl _), ring_own_on h.cuts hb, h.gG, h.gr, h.gs⟩
theorem CRow.cells {W : World} {B : Nat} {v : Value} {cs : List (Nat × Nat)} (h : CRow W B v cs) (i : Nat) (hi : i < cs.length) : ∃ g c, v = .slice (some ⟨g, 0, none⟩) cs.length c ∧ W.cell? ⟨g, i * 2, none⟩ = some (.int .i64 ((cs[i]?.getD default).1 : Int)) ∧ W.cell? ⟨g, i * 2 + 1, none⟩ = some (.int .i64 (((cs[i]?.getD default).2 : Int) - 1)) := by
  rcases own_form h with ⟨-, hh⟩ | ⟨g, c, rfl, -, -, -, -⟩
  · omega
  · obtain ⟨e1, e2⟩ := encC_get cs i hi
    have c1 := World.ownsRow.cells h (g := g) rfl _ _ e1
    have c2 := World.ownsRow.cells h (g := g) rfl _ _ e2
    simp only [Addr.add_lit, Nat.zero_add] at c1 c2
    exact ⟨g, c, rfl, c1, c2⟩
theorem CRow.slice {W : World} {B : Nat} {v : Value} {cs : List (Nat × Nat)} (h : CRow W B v cs) : ∃ p c, v = .slice p cs.length c := by
  rcases own_form h with ⟨h1, h2⟩ | ⟨g, c, h1, -⟩
  · exact ⟨none, 0, by rw [h1, h2]⟩
  · exact ⟨_, _, h1⟩
set_option maxHeartbeats 2000000 in
theorem refreversed_any (v1 v2 : Value) (ps : List Pn) (es : List Int) (w : World) (h1 : PtsAt w v1 ps) (h2 : EndsAt w v2 es) (hl1 : ps.length ≤ 100000) (hl2 : es.length ≤ 100000) :
    Calls Try.prog 27 #[.agg #[v1, v2]] w fun e w' => ∃ z, e = .returned z ∧ OAt w' z (revO ps es) es ∧ Below w.heap.size w w' := by
  have hC := Lib.hid (refcopied_any v1 v2 ps es ((w.alloc (.cells #[v1, v2] 25)).alloc (.cells #[.slice none 0 0, .slice none 0 0] 25)) (h1.on (balloc2 _ _ _)) (h2.on (balloc2 _ _ _)) hl1 hl2)
  have C0 := (Cs.nil w).box2 v1 v2 25 |>.box2 (.slice none 0 0) (.slice none 0 0) 25
  have H2 := Lib.hid h2
  obtain ⟨p0, c0, rfl⟩ := h1.len
  have HO := Lib.hid (fun (W : World) (hb : Below w.heap.size w W) i (hi : i < ps.length) => show ∃ a, p0 = some a ∧ W.cell? (a.add (i * 3)) = some (.int .i64 (ps[i]?.getD default).x) ∧ W.cell? ⟨(a.add (i * 3)).block, (a.add (i * 3)).off + 1, none⟩ = some (.int .i64 (ps[i]?.getD default).y) ∧ W.cell? ⟨(a.add (i * 3)).block, (a.add (i * 3)).off + 2, none⟩ = some (.bool (ps[i]?.getD default).on) ∧ a.block < w.heap.size from by
    rcases h1 with ⟨h, hh⟩ | ⟨a, c, h, hg, hlc, hc, hcell⟩
    · rw [hh] at hi; simp at hi
    · simp only [Value.slice.injEq, true_and] at h
      obtain ⟨rfl, rfl⟩ := h
      obtain ⟨q1, q2, q3⟩ := PtsAt.cells_on hcell hg hb i hi
      exact ⟨a, rfl, q1, q2, q3, hg⟩)
  obtain ⟨p00, c00, rfl⟩ := h2.len
  clear h1 h2
  go_enter Try.func27, Try.ntmps27
  go_wp2_with fail
  refine hC.out.mono ?_
  rintro e w1 ⟨z, rfl, ⟨u1, u2, rfl, hp, he⟩, hb1⟩
  have hb1 : Below (w.heap.size + 1 + 1) _ w1 := below_at hb1 (by simp) |> fun h => by simpa using h
  have hp : PRow w1 (w.heap.size + 1 + 1) u1 ps := by simpa using hp
  have he : ERow w1 (w.heap.size + 1 + 1) u2 es := by simpa using he
  have hB1 : Below w.heap.size w w1 := (balloc2 w _ _).trans (hb1.mono (by omega))
  have hz1 := hb1.size
  simp only [World.size_alloc] at hz1
  have C1 := C0.next (below_at hb1 (by simp))
  obtain ⟨p1, c1, rfl⟩ := hp.slice
  obtain ⟨p2, c2, rfl⟩ := he.slice
  have q0 : w1.cell? ⟨w.heap.size + 1, 0, none⟩ = some (.slice none 0 0) := by simpa using C1.get 0 rfl
  have q1 : w1.cell? ⟨w.heap.size + 1, 1, none⟩ = some (.slice none 0 0) := by simpa using C1.get 1 rfl
  have t0 : w1.cell? ⟨w.heap.size, 0, none⟩ = some (.slice p0 ps.length c0) := C1.get 2 rfl
  have t1 : w1.cell? ⟨w.heap.size, 1, none⟩ = some (.slice p00 es.length c00) := C1.get 3 rfl
  have qf : ∀ o, w1.frozen? ⟨w.heap.size + 1, o, none⟩ = false := fun o => (hb1.frozen (by simp)).trans (by simp [go_sem])
  have n1 := cell_lt q0
  have n0 := cell_lt t0
  simp only at n1 n0
  have hCu := cuts_any (.slice p00 es.length c00) es ps.length (w1.alloc (.cells #[.slice p1 ps.length c1, .slice p2 es.length c2] 25)) (H2.out.on (hB1.alloc hB1.size _)) (by omega) hl2
  clear C0 C1 hC hb1
  go_wp2_with fail
  refine hCu.mono ?_
  rintro e w2 ⟨cv, rfl, hcr, hb2⟩
  clear hCu
  have hba : Below w1.heap.size w1 w2 := sames (balloc w1 _) hb2
  have hz2 := hb2.size
  simp only [World.size_alloc] at hz2
  have R0 : RR w w1.heap.size (.slice p0 ps.length c0) (.slice p1 ps.length c1) (.slice p2 es.length c2) cv (cutsP ps.length 0 0 es) ps es w2 :=
    ⟨sames hB1 hba, (hba.cell (p := ⟨w.heap.size, 0, none⟩) n0).trans t0, (hb2.cell (by simp)).trans (by simp [go_sem]), (hb2.cell (by simp)).trans (by simp [go_sem]), ⟨_, (hba.cell (p := ⟨w.heap.size + 1, 0, none⟩) n1).trans q0⟩, ⟨_, (hba.cell (p := ⟨w.heap.size + 1, 1, none⟩) n1).trans q1⟩, fun o => (hba.frozen (p := ⟨w.heap.size + 1, o, none⟩) n1).trans (qf o), hp.on hba (Nat.le_refl _), he.on hba (Nat.le_refl _), own_mono hcr (by simp; omega), fun g hg => by have := (World.ownsRow.lt hp g hg).2; omega, by omega, by omega⟩
  obtain ⟨pc, cc, rfl⟩ := hcr.slice
  have hcl : (cutsP ps.length 0 0 es).length = (cutsO ps.length 0 0 es).length := by simp [cutsP]
  have hcb : (cutsO ps.length 0 0 es).length ≤ 100000 := Nat.le_trans (cutsO_le _ es _ _) hl2
  have hcg := Lib.hid (fun i (hi : i < (cutsP ps.length 0 0 es).length) => show ∃ c : Cut ps.length, (cutsO ps.length 0 0 es)[i]? = some c ∧ (cutsP ps.length 0 0 es)[i]?.getD default = c.1.2 from by
    rw [hcl] at hi
    exact ⟨_, List.getElem?_eq_getElem hi, by simp [cutsP, hi]⟩)
  clear t0 t1 q0 q1 qf hp he hcr hba hb2 n0 n1
  go_wp2_with fail
  go_loopw [5] (fun i wr => ∃ (k : Nat) (qs : List Pn), k ≤ (cutsP ps.length 0 0 es).length ∧ i = .int .i64 k ∧ RR w w1.heap.size (.slice p0 ps.length c0) (.slice p1 ps.length c1) (.slice p2 es.length c2) (.slice pc (cutsP ps.length 0 0 es).length cc) (cutsP ps.length 0 0 es) qs es wr ∧ qs.length = ps.length ∧ Hid (∀ j, j < ps.length → qs[j]?.getD default = ps[sigL ((cutsO ps.length 0 0 es).take k) j]?.getD default)) (fun i _ => ((cutsP ps.length 0 0 es).length - intOf i).toNat)
  case atStart => exact ⟨0, ps, by omega, rfl, R0, rfl, Lib.hid (fun j hj => rfl)⟩
  case round =>
    clear R0
    obtain ⟨i, qs, hk, rfl, F, hql, hqs⟩ := hrel
    by_cases hlt : i < (cutsP ps.length 0 0 es).length
    · obtain ⟨c, hc1, hc2⟩ := hcg.out i hlt
      obtain ⟨hB, o0, g0, g1, -, -, -, hrow, hends, hcuts, hgG, gr, gs⟩ := id F
      obtain ⟨gc, cc', hcv, b1, b2⟩ := hcuts.cells i hlt
      simp only [Value.slice.injEq] at hcv
      obtain ⟨rfl, -, rfl⟩ := hcv
      rw [hc2] at b1 b2
      have hcc := c.2
      have hnx := Lib.hid (sigL_next es i c hc1)
      obtain ⟨⟨nb, b, e⟩, hc3, hc4⟩ := c
      simp only at b1 b2 hnx hcc hc3 hc4
      generalize hCP : cutsP ps.length 0 0 es = CP at *
      have hcp := Lib.hid hc2
      clear hCP hc1 hc2
      have i1 : IntKind.i64.wrap ((b : Int) + 1) = ((b + 1 : Nat) : Int) := by rw [IntWalk.i64_in _ (by omega)]; rfl
      go_wp2_with fail
      go_loopw [6] (fun i6 wr2 => ∃ (k : Nat) (qs2 : List Pn), b + 1 ≤ k ∧ k ≤ e ∧ i6 = .int .i64 k ∧ RR w w1.heap.size (.slice p0 ps.length c0) (.slice p1 ps.length c1) (.slice p2 es.length c2) (.slice (some ⟨gc, 0, none⟩) CP.length cc) CP qs2 es wr2 ∧ qs2.length = ps.length ∧ Hid (∀ j, j < ps.length → qs2[j]?.getD default = ps[if b < j ∧ j < k then b + e - j else sigL ((cutsO ps.length 0 0 es).take i) j]?.getD default)) (fun i6 _ => (e - intOf i6).toNat)
      case atStart => exact ⟨b + 1, qs, by omega, by omega, by go_num, F, hql, Lib.hid (fun j hj => by rw [if_neg (by omega)]; exact hqs.out j hj)⟩
      case round =>
        clear F hB o0 g0 g1 hrow hends hcuts hgG gr gs b1 b2
        obtain ⟨k, qs2, hk1, hk2, rfl, F, hql2, hqs2⟩ := hrel
        obtain ⟨hB, o0, g0, g1, -, -, -, hrow, hends, hcuts, hgG, gr, gs⟩ := id F
        obtain ⟨gc', cc', hcv, b1, b2⟩ := hcuts.cells i hlt
        simp only [Value.slice.injEq, Option.some.injEq, Addr.mk.injEq, and_true] at hcv
        obtain ⟨rfl, -, -⟩ := hcv
        have hpr := hcp.out
        rw [hpr] at b1 b2
        simp only at b1 b2
        by_cases hke : k < e
        · obtain ⟨J, hJ⟩ : ∃ J, b + e - k = J := ⟨_, rfl⟩
          obtain ⟨a, rfl, t1, t2, t3, alt⟩ := HO.out wr hB J (by omega)
          rcases own_form hrow with ⟨-, hh⟩ | ⟨g, c', hv, hg1, hg2, hg3, -⟩
          · omega
          · simp only [Value.slice.injEq] at hv
            obtain ⟨rfl, -, rfl⟩ := hv
            have hfr : ∀ o, wr.frozen? ⟨g, o, none⟩ = false := fun o => by
              have h := hrow
              unfold PRow at h
              rw [hql2] at h
              exact World.ownsRow.frozenAt h o
            have f0 := hfr (k * 3)
            have f1 := hfr (k * 3 + 1)
            have f2 := hfr (k * 3 + 2)
            obtain ⟨e1, e2, e3⟩ := encs_get qs2 k (by omega)
            have qx := World.ownsRow.cells hrow (g := g) rfl _ _ e1
            have qy := World.ownsRow.cells hrow (g := g) rfl _ _ e2
            have qo := World.ownsRow.cells hrow (g := g) rfl _ _ e3
            simp only [Addr.add_lit, Nat.zero_add] at qx qy qo
            obtain ⟨p, hp⟩ : ∃ p, ps[J]?.getD default = p := ⟨_, rfl⟩
            rw [hp] at t1 t2 t3
            have hs3 := encs_set qs2 k p (by omega)
            obtain ⟨X, Y, on⟩ := p
            simp only at t1 t2 t3 hs3
            have HJ := Lib.hid (And.intro hJ hp)
            have R1 : PRow (((wr.setCell ⟨g, k * 3, none⟩ (.int .i64 X)).setCell ⟨g, k * 3 + 1, none⟩ (.int .i64 Y)).setCell ⟨g, k * 3 + 2, none⟩ (.bool on)) (w.heap.size + 1 + 1) (.slice (some ⟨g, 0, none⟩) ps.length c1) (qs2.set k ⟨X, Y, on⟩) := by
              have h := hrow
              unfold PRow at h ⊢
              rw [List.length_set, hql2]
              rw [hql2] at h
              rw [hs3]
              exact (World.ownsRow.stored (World.ownsRow.stored (World.ownsRow.stored h (k * 3) _).1 (k * 3 + 1) _).1 (k * 3 + 2) _).1
            have F1 : RR w w1.heap.size (.slice (some a) ps.length c0) (.slice (some ⟨g, 0, none⟩) ps.length c1) (.slice p2 es.length c2) (.slice (some ⟨gc, 0, none⟩) CP.length cc) CP (qs2.set k ⟨X, Y, on⟩) es (((wr.setCell ⟨g, k * 3, none⟩ (.int .i64 X)).setCell ⟨g, k * 3 + 1, none⟩ (.int .i64 Y)).setCell ⟨g, k * 3 + 2, none⟩ (.bool on)).drew := by
              have R2 : PRow (wr.setCell ⟨g, k * 3, none⟩ (.int .i64 X)) (w.heap.size + 1 + 1) (.slice (some ⟨g, 0, none⟩) ps.length c1) (qs2.set k ⟨X, (qs2[k]?.getD default).y, (qs2[k]?.getD default).on⟩) := by
                have h := hrow
                unfold PRow at h ⊢
                rw [List.length_set, hql2]
                rw [hql2] at h
                rw [encs_setx _ _ _ (by omega)]
                exact (World.ownsRow.stored h (k * 3) _).1
              have F2 := F.set (k * 3) (.int .i64 X) R2
              have R3 : PRow ((wr.setCell ⟨g, k * 3, none⟩ (.int .i64 X)).setCell ⟨g, k * 3 + 1, none⟩ (.int .i64 Y)) (w.heap.size + 1 + 1) (.slice (some ⟨g, 0, none⟩) ps.length c1) (qs2.set k ⟨X, Y, (qs2[k]?.getD default).on⟩) := by
                have h := hrow
                unfold PRow at h ⊢
                rw [List.length_set, hql2]
                rw [hql2] at h
                rw [encs_set2 _ _ _ _ (by omega)]
                exact (World.ownsRow.stored (World.ownsRow.stored h (k * 3) _).1 (k * 3 + 1) _).1
              have F3 := F2.set (k * 3 + 1) (.int .i64 Y) R3
              exact (F3.set (k * 3 + 2) (.bool on) R1).drew
            have hN := Lib.hid (show ∀ j, j < ps.length → (qs2.set k ⟨X, Y, on⟩)[j]?.getD default = ps[if b < j ∧ j < k + 1 then b + e - j else sigL ((cutsO ps.length 0 0 es).take i) j]?.getD default from fun j hj => by
              by_cases ej : j = k
              · subst ej
                rw [List.getElem?_set_self (by omega), if_pos (by omega), HJ.out.1, HJ.out.2]
                rfl
              · rw [List.getElem?_set_ne (by omega), hqs2.out j hj]
                by_cases cj : b < j ∧ j < k
                · rw [if_pos cj, if_pos (by omega)]
                · rw [if_neg cj, if_neg (by omega)])
            have x1 : IntKind.i64.wrap ((e : Int) - 1 + (b : Int)) = ((b + e - 1 : Nat) : Int) := by rw [IntWalk.i64_in _ (by omega)]; omega
            have x2 : IntKind.i64.wrap (((b + e - 1 : Nat) : Int) + 1) = ((b + e : Nat) : Int) := by rw [IntWalk.i64_in _ (by omega)]; omega
            have x3 : IntKind.i64.wrap (((b + e : Nat) : Int) - (k : Int)) = (J : Int) := by rw [IntWalk.i64_in _ (by omega)]; omega
            have y1 : (J : Int) < (ps.length : Int) := by omega
            have y2 : (0 : Int) ≤ (J : Int) := by omega
            have y3 : (k : Int) < (ps.length : Int) := by omega
            have y4 : (k : Int) ≤ (e : Int) - 1 := by omega
            generalize hM1 : b + e - 1 = M1 at *
            generalize hM2 : b + e = M2 at *
            have na : a.block ≠ g := by have := (World.ownsRow.lt hrow g rfl).1; omega
            have na3 : g ≠ (a.add (J * 3)).block := by rw [add_block]; exact na.symm
            have nc : gc ≠ g := fun ee => own_type hrow hcuts (by decide) g rfl (by rw [ee]; rfl)
            have nG : g ≠ w1.heap.size := hgG g rfl
            have n0 : g ≠ w.heap.size := by have := (World.ownsRow.lt hrow g rfl).1; omega
            clear hrow hends hcuts hgG hfr R1 hp hJ hM1 hM2 hs3 e1 e2 e3
            have far : ∀ (c : Addr) (u : Value), g ≠ c.block → wr.cell? c = some u → ((((wr.setCell ⟨g, k * 3, none⟩ (.int .i64 X)).setCell ⟨g, k * 3 + 1, none⟩ (.int .i64 Y)).setCell ⟨g, k * 3 + 2, none⟩ (.bool on)).drew).cell? c = some u := fun c u hn hc => by
              rw [cell_drew_own, World.cell?_setCell_far _ _ _ _ hn, World.cell?_setCell_far _ _ _ _ hn, World.cell?_setCell_far _ _ _ _ hn]
              exact hc
            have s1 := far ⟨w1.heap.size, 0, none⟩ _ nG g0
            have s2 := far ⟨w.heap.size, 0, none⟩ _ n0 o0
            have s3 := far ⟨gc, i * 2, none⟩ _ nc.symm b1
            have s4 := far ⟨gc, i * 2 + 1, none⟩ _ nc.symm b2
            have s5 := far _ _ na3 t1
            have s6 := far ⟨(a.add (J * 3)).block, (a.add (J * 3)).off + 1, none⟩ _ na3 t2
            have s7 := far ⟨(a.add (J * 3)).block, (a.add (J * 3)).off + 2, none⟩ _ na3 t3
            clear far
            go_wp2_with fail
            go_region_held3 (fun w' => w'.cell? ⟨w1.heap.size, 0, none⟩ = some (.slice (some ⟨g, 0, none⟩) ps.length c1) ∧ w'.cell? ⟨w.heap.size, 0, none⟩ = some (.slice (some a) ps.length c0) ∧ w'.cell? ⟨gc, i * 2, none⟩ = some (.int .i64 (b : Int)) ∧ w'.cell? ⟨gc, i * 2 + 1, none⟩ = some (.int .i64 ((e : Int) - 1)) ∧ w'.cell? (a.add (J * 3)) = some (.int .i64 X) ∧ w'.cell? ⟨(a.add (J * 3)).block, (a.add (J * 3)).off + 1, none⟩ = some (.int .i64 Y) ∧ w'.cell? ⟨(a.add (J * 3)).block, (a.add (J * 3)).off + 2, none⟩ = some (.bool on)) (first | exact ⟨s1, s2, s3, s4, s5, s6, s7⟩ | go_keep) (fail)
            go_wp2_with fail
            go_roundw
            case rel => exact ⟨k + 1, qs2.set k ⟨X, Y, on⟩, by omega, by omega, by go_num, F1, by rw [List.length_set]; exact hql2, hN.out⟩
            case measure => simp [intOf]; omega
        · obtain rfl : k = e := by omega
          have y4 : ¬ ((k : Int) ≤ (k : Int) - 1) := by omega
          have hN := Lib.hid (show ∀ j, j < ps.length → qs2[j]?.getD default = ps[sigL ((cutsO ps.length 0 0 es).take (i + 1)) j]?.getD default from fun j hj => by rw [hnx.out j]; exact hqs2.out j hj)
          clear hrow hends hcuts
          go_wp2_with fail
          go_roundw
          case rel => exact ⟨i + 1, qs2, by omega, by go_num, F, hql2, hN⟩
          case measure => simp [intOf]; omega
    · obtain rfl : i = (cutsP ps.length 0 0 es).length := by omega
      have hqz : qs = revO ps es := list_ext_d (by rw [hql, revO_len']) (fun j hj => by
        rw [hql] at hj
        rw [hqs.out j hj, revO_get _ _ _ hj, List.take_of_length_le (by omega)])
      obtain ⟨hB, o0, g0, g1, ⟨x0, r0⟩, ⟨x1, r1⟩, rf, hrow, hends, -, -, gr, gs⟩ := id F
      have hrow : PRow wr (w.heap.size + 1 + 1) (.slice p1 ps.length c1) (revO ps es) := by rw [← hqz]; exact hrow
      have Q : OAt ((wr.setCell ⟨w.heap.size + 1, 0, none⟩ (.slice p1 ps.length c1)).setCell ⟨w.heap.size + 1, 1, none⟩ (.slice p2 es.length c2)) (.agg #[.slice p1 ps.length c1, .slice p2 es.length c2]) (revO ps es) es :=
        ⟨_, _, rfl, PRow.at (ownsRow_setCell_below (ownsRow_setCell_below hrow (by simp) _) (by simp) _), ERow.at (ownsRow_setCell_below (ownsRow_setCell_below hends (by simp) _) (by simp) _)⟩
      have Qb : Below w.heap.size w ((wr.setCell ⟨w.heap.size + 1, 0, none⟩ (.slice p1 ps.length c1)).setCell ⟨w.heap.size + 1, 1, none⟩ (.slice p2 es.length c2)) := (hB.setCell (by simp) _).setCell (by simp) _
      have Q := Lib.hid (And.intro Q Qb)
      have f0 := rf 0
      have f1 := rf 1
      clear hrow hends Qb F
      go_wp2_with fail
      refine bodyPost_ret (v := .agg #[.slice p1 ps.length c1, .slice p2 es.length c2]) (by simp [results, Try.results27, go_sem, r0, r1]) rfl ⟨_, rfl, Q.out.1, Q.out.2⟩
end Go.Proofs.Ytenmgbcbnofcmaa
