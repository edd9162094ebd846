/- Lines move with their points, over plain lists. -/
import Derived.Test.YtenmgbcbnofcmaaOutLines
import Derived.Test.YtenmgbcbnofcmaaOutTurn
import Derived.Test.YtenmgbcbnofcmaaOutGrid
namespace Go.Proofs.Ytenmgbcbnofcmaa
open Go.RowKit

def shP (x y : Int) (p : Pn) : Pn := ⟨p.x + x, p.y + y, p.on⟩
def shT (x y : Int) (t : Int × Int) : Int × Int := (t.1 + x, t.2 + y)
/-- Not too far. -/
structure Lim (x y : Int) : Prop where
  x0 : -1000000 ≤ x
  x1 : x ≤ 1000000
  y0 : -1000000 ≤ y
  y1 : y ≤ 1000000
theorem mv_sh {x y : Int} (h : Lim x y) {ps : List Pn} (hn : NearP ps) : movedO x y ps = ps.map (shP x y) :=
  List.map_congr_left fun p hp => mv_near ⟨h.x0, h.x1⟩ ⟨h.y0, h.y1⟩ (hn p hp)
theorem sh_get (x y : Int) (ps : List Pn) (i : Nat) (h : i < ps.length) : (ps.map (shP x y))[i]?.getD default = shP x y (ps[i]?.getD default) := by
  rw [List.getElem?_map, List.getElem?_eq_getElem h]
  rfl
theorem get_mem (ps : List Pn) (i : Nat) (h : i < ps.length) : ps[i]?.getD default ∈ ps := by
  rw [List.getElem?_eq_getElem h]
  exact List.getElem_mem h
abbrev NearQ (p : Pn) : Prop := (-16384 ≤ p.x ∧ p.x ≤ 16384) ∧ (-16384 ≤ p.y ∧ p.y ≤ 16384)
theorem between_near {p q : Pn} (hp : NearQ p) (hq : NearQ q) : NearQ (betweenO p q) := by
  unfold betweenO
  show (_ ∧ _) ∧ (_ ∧ _)
  simp only
  rw [wrap_small (by omega) (by omega), wrap_small (by omega) (by omega)]
  omega
theorem between_sh {x y : Int} (h : Lim x y) {p q : Pn} (hp : NearQ p) (hq : NearQ q) : betweenO (shP x y p) (shP x y q) = shP x y (betweenO p q) := by
  obtain ⟨a, b, c, d⟩ := h
  unfold betweenO shP
  simp only [Pn.mk.injEq, and_true]
  rw [wrap_small (n := p.x + x + (q.x + x)) (by omega) (by omega), wrap_small (n := p.y + y + (q.y + y)) (by omega) (by omega), wrap_small (n := p.x + q.x) (by omega) (by omega), wrap_small (n := p.y + q.y) (by omega) (by omega)]
  omega
theorem ringAt_sh {x y : Int} (h : Lim x y) {q : List Pn} (hn : NearP q) (i : Nat) (hi : i < q.length) : ringAt (q.map (shP x y)) i = (ringAt q i).map (shP x y) := by
  have hj : (i + 1) % q.length < q.length := Nat.mod_lt _ (by omega)
  unfold ringAt
  simp only [List.length_map]
  rw [sh_get _ _ _ _ hi, sh_get _ _ _ _ hj]
  have h1 := hn _ (get_mem q i hi)
  have h2 := hn _ (get_mem q _ hj)
  generalize q[i]?.getD default = a at *
  generalize q[(i + 1) % q.length]?.getD default = b at *
  by_cases c : (!a.on && !b.on) = true
  · rw [if_pos (show (!(shP x y a).on && !(shP x y b).on) = true from c), if_pos c, between_sh h h1 h2]
    rfl
  · rw [if_neg (show ¬ (!(shP x y a).on && !(shP x y b).on) = true from c), if_neg c]
    rfl
theorem ringL_sh {x y : Int} (h : Lim x y) {q : List Pn} (hn : NearP q) : ∀ k, k ≤ q.length → ringL (q.map (shP x y)) k = (ringL q k).map (shP x y) := by
  intro k
  induction k with
  | zero => intro _; rfl
  | succ k ih =>
    intro hk
    rw [ringL_succ, ringL_succ, List.map_append, ih (by omega), ringAt_sh h hn k (by omega)]
theorem ringL_near {q : List Pn} (hn : NearP q) : ∀ k, k ≤ q.length → NearP (ringL q k) := by
  intro k
  induction k with
  | zero => intro _ p hp; cases hp
  | succ k ih =>
    intro hk p hp
    rw [ringL_succ] at hp
    rcases List.mem_append.1 hp with hp | hp
    · exact ih (by omega) p hp
    · have h1 := hn _ (get_mem q k (by omega))
      have h2 := hn _ (get_mem q ((k + 1) % q.length) (Nat.mod_lt _ (by omega)))
      unfold ringAt at hp
      simp only at hp
      split at hp
      · simp only [List.mem_cons, List.not_mem_nil, or_false] at hp
        rcases hp with rfl | rfl
        · exact h1
        · exact between_near h1 h2
      · simp only [List.mem_cons, List.not_mem_nil, or_false] at hp
        rw [hp]
        exact h1
theorem startK_sh {x y : Int} (h : Lim x y) {q : List Pn} (hn : NearP q) : ∀ k, k ≤ q.length → startK (q.map (shP x y)) k = startK q k := by
  intro k
  induction k with
  | zero => intro _; rfl
  | succ k ih =>
    intro hk
    unfold startK
    rw [ih (by omega), ringL_sh h hn k (by omega), sh_get _ _ _ _ (by omega), List.length_map]
    rfl
theorem atO_sh (x y : Int) (r : List Pn) (s i : Nat) (h : 0 < r.length) : atO (r.map (shP x y)) s i = shP x y (atO r s i) := by
  unfold atO
  rw [List.length_map, sh_get _ _ _ _ (Nat.mod_lt _ h)]
theorem atO_near {r : List Pn} (hn : NearP r) (s i : Nat) (h : 0 < r.length) : NearQ (atO r s i) := hn _ (get_mem r _ (Nat.mod_lt _ h))
theorem weigh_sh {a b c x : Int} (n : Nat) (hn : n < 8) (ha : -16384 ≤ a ∧ a ≤ 16384) (hb : -16384 ≤ b ∧ b ≤ 16384) (hc : -16384 ≤ c ∧ c ≤ 16384) (hx : -1000000 ≤ x ∧ x ≤ 1000000) : weighO ((n : Int) + 1) (a + x) (c + x) (b + x) = weighO ((n : Int) + 1) a c b + x := by
  have h8 : n = 0 ∨ n = 1 ∨ n = 2 ∨ n = 3 ∨ n = 4 ∨ n = 5 ∨ n = 6 ∨ n = 7 := by omega
  unfold weighO
  rcases h8 with rfl | rfl | rfl | rfl | rfl | rfl | rfl | rfl <;> (rw [wrap_small (by omega) (by omega), wrap_small (by omega) (by omega)]; omega)
theorem lines_sh {x y : Int} (h : Lim x y) {a c b : Pn} (ha : NearQ a) (hc : NearQ c) (hb : NearQ b) : linesO (shP x y a) (shP x y c) (shP x y b) 8 = (linesO a c b 8).map (shT x y) := by
  unfold linesO
  rw [List.map_map]
  refine List.map_congr_left fun i hi => ?_
  have hi := List.mem_range.1 hi
  show (_, _) = (_, _)
  simp only [Prod.mk.injEq]
  exact ⟨weigh_sh i hi ha.1 hb.1 hc.1 ⟨h.x0, h.x1⟩, weigh_sh i hi ha.2 hb.2 hc.2 ⟨h.y0, h.y1⟩⟩
theorem goO_sh {x y : Int} (h : Lim x y) {r : List Pn} (hn : NearP r) (s : Nat) (h0 : 0 < r.length) : ∀ f i a, NearQ a → goO (r.map (shP x y)) s f i (shP x y a) = (goO r s f i a).map (shT x y) := by
  intro f
  induction f with
  | zero => intro i a _; rfl
  | succ f ih =>
    intro i a ha
    by_cases hi : i ≤ r.length
    · have hi' : i ≤ (r.map (shP x y)).length := by rw [List.length_map]; exact hi
      have h1 := atO_sh x y r s i h0
      have h2 := atO_sh x y r s (i + 1) h0
      have n1 := atO_near hn s i h0
      have n2 := atO_near hn s (i + 1) h0
      cases ho : (atO r s i).on with
      | true =>
        rw [goO_on hi ho, goO_on hi' (by rw [h1]; exact ho), h1, List.map_cons, ih _ _ n1]
        rfl
      | false =>
        rw [goO_off hi ho, goO_off hi' (by rw [h1]; exact ho), h1, h2, List.map_append, ih _ _ n2, lines_sh h ha n1 n2]
    · rw [goO_end (qs := r) (by omega), goO_end (qs := r.map (shP x y)) (by rw [List.length_map]; omega)]
      rfl
theorem onceO_sh {x y : Int} (h : Lim x y) {r : List Pn} (hn : NearP r) (s : Nat) (h0 : 0 < r.length) : onceO (r.map (shP x y)) s = (onceO r s).map (shT x y) := by
  unfold onceO roundO
  rw [List.length_map, atO_sh x y r s 0 h0, goO_sh h hn s h0 _ _ _ (atO_near hn s 0 h0)]
  rw [show ((shP x y (atO r s 0)).x, (shP x y (atO r s 0)).y) = shT x y ((atO r s 0).x, (atO r s 0).y) from rfl, ← List.map_cons]
  first | exact List.dropLast_map .. | exact (List.map_dropLast ..).symm | (rw [List.map_dropLast])
theorem rowO_sh {x y : Int} (h : Lim x y) {q : List Pn} (hn : NearP q) (h0 : 0 < q.length) : rowO (q.map (shP x y)) = (rowO q).map (shT x y) := by
  have e : startN (q.map (shP x y)) = startN q := by
    unfold startN
    rw [List.length_map, startK_sh h hn _ (Nat.le_refl _), ringL_sh h hn _ (Nat.le_refl _), List.length_map]
  unfold rowO
  rw [e, List.length_map, ringL_sh h hn _ (Nat.le_refl _)]
  exact onceO_sh h (ringL_near hn _ (Nat.le_refl _)) _ (Nat.lt_of_lt_of_le h0 (ringL_ge q q.length))
theorem piece_near {n : Nat} {ps : List Pn} (hn : NearP ps) (c : Cut n) : NearP (pieceO ps c) := fun p hp => hn p (List.mem_of_mem_drop (List.mem_of_mem_take hp))
theorem rows_sh {n : Nat} {x y : Int} (h : Lim x y) {ps : List Pn} (hn : NearP ps) (hl : ps.length = n) (cs : List (Cut n)) : rowsL (movedO x y ps) cs = (rowsL ps cs).map (List.map (shT x y)) := by
  unfold rowsL
  rw [List.map_map]
  refine List.map_congr_left fun c _ => ?_
  have hp := piece_near hn c
  have h0 : 0 < (pieceO ps c).length := List.length_pos_iff.2 (piece_ne ps c hl)
  show rowO (pieceO (movedO x y ps) c) = (rowO (pieceO ps c)).map (shT x y)
  rw [piece_mv, ← rowO_sh h hp h0]
  congr 1
  exact mv_sh h hp
theorem zip_grid (x y : Int) (ps : List Pn) : zipO (gridT x y ps) (gridB ps) = movedO x y ps := by
  apply list_ext_d
  · rw [zipO_len]; simp [gridT, movedO]
  · intro j hj
    rw [zipO_len] at hj
    rw [zipO_get _ _ _ hj]
    have hj : j < ps.length := by simpa [gridT] using hj
    unfold zipAt gridT gridB movedO
    rw [List.getElem?_map, List.getElem?_map, List.getElem?_map, List.getElem?_eq_getElem hj]
    rfl
theorem lines_grid (x y : Int) (ps : List Pn) (es : List Int) : linesR (gridT x y ps) (gridB ps) es = rowsL (movedO x y ps) (cutsO ps.length 0 0 es) := by
  unfold linesR
  rw [if_pos (by simp [gridT, gridB]), zip_grid]
  have : (movedO x y ps).length = ps.length := by simp [movedO]
  rw [this]
theorem right_cuts (n : Nat) (es : List Int) : ∀ k b : Nat, rightE ((n : Int) - 1) ((b : Int) - 1) es = true → (cutsO n k b es).length = es.length := by
  induction es with
  | nil => intro k b _; rfl
  | cons e es ih =>
    intro k b h
    unfold rightE at h
    simp only [Bool.and_eq_true, Bool.not_eq_true', Bool.or_eq_false_iff, decide_eq_false_iff_not] at h
    obtain ⟨⟨h1, h2⟩, h3⟩ := h
    unfold cutsO
    rw [dif_pos (by omega)]
    simp only [List.length_cons]
    rw [ih (k + 1) (e.toNat + 1) (by rw [show ((e.toNat + 1 : Nat) : Int) - 1 = e by omega]; exact h3)]
theorem moved_zero {ps : List Pn} (hn : NearP ps) : movedO 0 0 ps = ps := by
  rw [mv_sh ⟨by omega, by omega, by omega, by omega⟩ hn]
  conv => rhs; rw [← List.map_id ps]
  exact List.map_congr_left fun p _ => by simp [shP]
theorem weigh_bd (n a c b : Int) : -144115188075855872 ≤ weighO n a c b ∧ weighO n a c b ≤ 144115188075855872 := by
  unfold weighO
  generalize (8 - n) * (8 - n) * a + 2 * n * (8 - n) * c + n * n * b + 32 = z
  unfold wrap64
  omega
def BdT (t : Int × Int) : Prop := (-144115188075855872 ≤ t.1 ∧ t.1 ≤ 144115188075855872) ∧ (-144115188075855872 ≤ t.2 ∧ t.2 ≤ 144115188075855872)
theorem goO_bd {r : List Pn} (hn : NearP r) (s : Nat) (h0 : 0 < r.length) : ∀ f i a, ∀ t ∈ goO r s f i a, BdT t := by
  intro f
  induction f with
  | zero => intro i a t ht; cases ht
  | succ f ih =>
    intro i a t ht
    by_cases hi : i ≤ r.length
    · have n1 := atO_near hn s i h0
      cases ho : (atO r s i).on with
      | true =>
        rw [goO_on hi ho] at ht
        rcases List.mem_cons.1 ht with rfl | ht
        · exact ⟨⟨by simp only; omega, by simp only; omega⟩, by simp only; omega, by simp only; omega⟩
        · exact ih _ _ t ht
      | false =>
        rw [goO_off hi ho] at ht
        rcases List.mem_append.1 ht with ht | ht
        · unfold linesO at ht
          obtain ⟨i, -, rfl⟩ := List.mem_map.1 ht
          exact ⟨weigh_bd _ _ _ _, weigh_bd _ _ _ _⟩
        · exact ih _ _ t ht
    · rw [goO_end (by omega)] at ht
      cases ht
theorem rowO_bd {q : List Pn} (hn : NearP q) (h0 : 0 < q.length) : ∀ t ∈ rowO q, BdT t := by
  intro t ht
  have hr := ringL_near hn _ (Nat.le_refl q.length)
  have h1 : 0 < (ringL q q.length).length := Nat.lt_of_lt_of_le h0 (ringL_ge q q.length)
  unfold rowO onceO roundO at ht
  rcases List.mem_cons.1 ((List.dropLast_prefix _).subset ht) with rfl | ht
  · have := atO_near hr (startN q) 0 h1
    exact ⟨⟨by simp only; omega, by simp only; omega⟩, by simp only; omega, by simp only; omega⟩
  · exact goO_bd hr _ h1 _ _ _ t ht
/-- What the law holds of its lines. -/
theorem shifts_rows {x y : Int} (h : Lim x y) {ps : List Pn} {es : List Int} (hr : rightO ps es = true) :
    (linesR (gridT 0 0 ps) (gridB ps) es).length = es.length ∧ (linesR (gridT x y ps) (gridB ps) es).length = (linesR (gridT 0 0 ps) (gridB ps) es).length ∧
    ∀ i, i < (linesR (gridT 0 0 ps) (gridB ps) es).length → ((linesR (gridT x y ps) (gridB ps) es)[i]?.getD []).length = ((linesR (gridT 0 0 ps) (gridB ps) es)[i]?.getD []).length ∧
      ∀ k, k < ((linesR (gridT 0 0 ps) (gridB ps) es)[i]?.getD []).length → (((linesR (gridT x y ps) (gridB ps) es)[i]?.getD [])[k]?.getD default) = (wrap64 ((((linesR (gridT 0 0 ps) (gridB ps) es)[i]?.getD [])[k]?.getD default).1 + x), wrap64 ((((linesR (gridT 0 0 ps) (gridB ps) es)[i]?.getD [])[k]?.getD default).2 + y)) := by
  obtain ⟨-, -, hn, he⟩ := right_near hr
  have hc := right_cuts ps.length es 0 0 he
  rw [lines_grid, lines_grid, moved_zero hn, rows_sh h hn rfl]
  have hl : (rowsL ps (cutsO ps.length 0 0 es)).length = (cutsO ps.length 0 0 es).length := by simp [rowsL]
  refine ⟨by rw [hl, hc], by rw [List.length_map], fun i hi => ?_⟩
  have hi2 : i < (cutsO ps.length 0 0 es).length := by rw [← hl]; exact hi
  rw [List.getElem?_map, List.getElem?_eq_getElem hi]
  simp only [Option.map_some, Option.getD_some]
  refine ⟨by rw [List.length_map], fun k hk => ?_⟩
  rw [List.getElem?_map, List.getElem?_eq_getElem hk]
  simp only [Option.map_some, Option.getD_some]
  have hm : ((rowsL ps (cutsO ps.length 0 0 es))[i])[k] ∈ (rowsL ps (cutsO ps.length 0 0 es))[i] := List.getElem_mem hk
  have hi3 : (rowsL ps (cutsO ps.length 0 0 es))[i] = rowO (pieceO ps ((cutsO ps.length 0 0 es)[i])) := by simp [rowsL]
  have hba : ∀ t ∈ (rowsL ps (cutsO ps.length 0 0 es))[i], BdT t := by
    rw [hi3]
    exact rowO_bd (piece_near hn _) (List.length_pos_iff.2 (piece_ne ps _ rfl))
  have hb := hba _ hm
  generalize ((rowsL ps (cutsO ps.length 0 0 es))[i])[k] = t at hb
  obtain ⟨⟨b1, b2⟩, b3, b4⟩ := hb
  obtain ⟨c1, c2, c3, c4⟩ := h
  unfold shT
  have e1 : wrap64 (t.1 + x) = t.1 + x := by unfold wrap64; omega
  have e2 : wrap64 (t.2 + y) = t.2 + y := by unfold wrap64; omega
  rw [e1, e2]
end Go.Proofs.Ytenmgbcbnofcmaa
