/- Reversing and moving, over plain lists. -/
import Derived.Test.YtenmgbcbnofcmaaOutReversed
import Derived.Test.YtenmgbcbnofcmaaOutMoved
import Derived.Test.YtenmgbcbnofcmaaOutCurve
namespace Go.Proofs.Ytenmgbcbnofcmaa
open Go.RowKit

/-! What is reversed stands where. -/
def sig (b e j : Nat) : Nat := if b < j ∧ j < e then b + e - j else j
theorem sig_out {b e j : Nat} (h : ¬ (b < j ∧ j < e)) : sig b e j = j := by unfold sig; rw [if_neg h]
theorem sig_twice (b e j : Nat) : sig b e (sig b e j) = j := by
  by_cases c : b < j ∧ j < e
  · have h : sig b e j = b + e - j := by unfold sig; rw [if_pos c]
    rw [h]
    unfold sig
    rw [if_pos (by omega)]
    omega
  · rw [sig_out c, sig_out c]
theorem revStep_get {n : Nat} (ps : List Pn) (x : Cut n) (j : Nat) (hj : j < ps.length) : (revStep ps x)[j]?.getD default = ps[sig x.1.2.1 x.1.2.2 j]?.getD default := by
  have h1 := x.2
  unfold revStep
  rw [revK_get _ _ _ _ _ hj]
  unfold sig
  by_cases c : x.1.2.1 < j ∧ j < x.1.2.2
  · rw [if_pos c]
    by_cases d : x.1.2.1 + 1 ≤ j ∧ j < x.1.2.1 + 1 + (x.1.2.2 - x.1.2.1 - 1) ∧ (j < x.1.2.1 + 1 + (x.1.2.2 - x.1.2.1 - 1) / 2 ∨ x.1.2.1 + 1 + (x.1.2.2 - x.1.2.1 - 1) ≤ j + (x.1.2.2 - x.1.2.1 - 1) / 2)
    · rw [if_pos d]
      congr 2
      omega
    · rw [if_neg d]
      congr 2
      omega
  · rw [if_neg c, if_neg (by omega)]
def sigL {n : Nat} : List (Cut n) → Nat → Nat
  | [], j => j
  | c :: cs, j => sig c.1.2.1 c.1.2.2 (sigL cs j)
theorem sig_lt {n b e j : Nat} (he : e ≤ n) (hj : j < n) : sig b e j < n := by unfold sig; split <;> omega
theorem sigL_lt {n : Nat} (cs : List (Cut n)) (j : Nat) (hj : j < n) : sigL cs j < n := by
  induction cs with
  | nil => exact hj
  | cons c cs ih => exact sig_lt c.2.2 ih
theorem revL_get {n : Nat} (cs : List (Cut n)) (ps : List Pn) (hn : ps.length = n) (j : Nat) (hj : j < n) : (revL ps cs)[j]?.getD default = ps[sigL cs j]?.getD default := by
  induction cs generalizing ps with
  | nil => rfl
  | cons c cs ih =>
    have h1 : (revStep ps c).length = n := by unfold revStep; rw [revK_len]; exact hn
    show (revL (revStep ps c) cs)[j]?.getD default = _
    rw [ih _ h1]
    exact revStep_get ps c _ (by rw [hn]; exact sigL_lt cs j hj)
theorem cuts_low {n : Nat} (es : List Int) : ∀ (k b : Nat) (c : Cut n), c ∈ cutsO n k b es → b ≤ c.1.2.1 := by
  induction es with
  | nil => intro k b c hc; cases hc
  | cons e es ih =>
    intro k b c hc
    unfold cutsO at hc
    split at hc
    · rcases List.mem_cons.1 hc with rfl | hc
      · exact Nat.le_refl _
      · have := ih _ _ c hc
        omega
    · cases hc
theorem sigL_low {n : Nat} (es : List Int) : ∀ (k b j : Nat), j < b → sigL (cutsO n k b es) j = j := by
  induction es with
  | nil => intro k b j _; rfl
  | cons e es ih =>
    intro k b j hj
    unfold cutsO
    split
    · rename_i h
      show sig b (e.toNat + 1) (sigL (cutsO n (k + 1) (e.toNat + 1) es) j) = j
      rw [ih _ _ j (by omega)]
      unfold sig
      rw [if_neg (by omega)]
    · rfl
theorem sigL_high {n : Nat} (es : List Int) : ∀ (k b j : Nat), b ≤ j → b ≤ sigL (cutsO n k b es) j := by
  induction es with
  | nil => intro k b j hj; exact hj
  | cons e es ih =>
    intro k b j hj
    unfold cutsO
    split
    · rename_i h
      show b ≤ sig b (e.toNat + 1) (sigL (cutsO n (k + 1) (e.toNat + 1) es) j)
      by_cases c : j < e.toNat + 1
      · rw [sigL_low _ _ _ _ c]
        unfold sig
        split <;> omega
      · have := ih (k + 1) (e.toNat + 1) j (by omega)
        unfold sig
        rw [if_neg (by omega)]
        omega
    · exact hj
theorem sigL_twice {n : Nat} (es : List Int) : ∀ (k b j : Nat), sigL (cutsO n k b es) (sigL (cutsO n k b es) j) = j := by
  induction es with
  | nil => intro k b j; rfl
  | cons e es ih =>
    intro k b j
    unfold cutsO
    split
    · rename_i h
      show sig b (e.toNat + 1) (sigL (cutsO n (k + 1) (e.toNat + 1) es) (sig b (e.toNat + 1) (sigL (cutsO n (k + 1) (e.toNat + 1) es) j))) = j
      by_cases c : j < e.toNat + 1
      · rw [sigL_low _ _ _ j c]
        have h1 : sig b (e.toNat + 1) j < e.toNat + 1 := by unfold sig; split <;> omega
        rw [sigL_low _ _ _ _ h1]
        exact sig_twice _ _ _
      · have h1 := sigL_high (n := n) es (k + 1) (e.toNat + 1) j (by omega)
        have h2 : sig b (e.toNat + 1) (sigL (cutsO n (k + 1) (e.toNat + 1) es) j) = sigL (cutsO n (k + 1) (e.toNat + 1) es) j := by unfold sig; rw [if_neg (by omega)]
        rw [h2, ih]
        exact sig_out (by omega)
    · rfl
theorem sigL_in {n : Nat} (es : List Int) : ∀ (k b : Nat) (c : Cut n), c ∈ cutsO n k b es → ∀ j, c.1.2.1 ≤ j → j < c.1.2.2 → sigL (cutsO n k b es) j = sig c.1.2.1 c.1.2.2 j := by
  induction es with
  | nil => intro k b c hc; cases hc
  | cons e es ih =>
    intro k b c hc j h1 h2
    unfold cutsO at hc ⊢
    split at hc
    · rename_i h
      rw [dif_pos h]
      show sig b (e.toNat + 1) (sigL (cutsO n (k + 1) (e.toNat + 1) es) j) = _
      rcases List.mem_cons.1 hc with rfl | hc
      · rw [sigL_low _ _ _ _ h2]
      · have h3 := cuts_low _ _ _ c hc
        rw [ih _ _ c hc j h1 h2]
        have h4 : e.toNat + 1 ≤ sig c.1.2.1 c.1.2.2 j := by unfold sig; split <;> omega
        exact sig_out (by omega)
    · cases hc
theorem revO_n {ps : List Pn} {n : Nat} (h : ps.length = n) (es : List Int) : revO ps es = revL ps (cutsO n 0 0 es) := by subst h; rfl
theorem areaO_n {ps : List Pn} {n : Nat} (h : ps.length = n) (es : List Int) : areaO ps es = areaL ps (cutsO n 0 0 es) := by subst h; rfl
theorem revO_len' (ps : List Pn) (es : List Int) : (revO ps es).length = ps.length := revL_len _ _
theorem revO_get (ps : List Pn) (es : List Int) (j : Nat) (hj : j < ps.length) : (revO ps es)[j]?.getD default = ps[sigL (cutsO ps.length 0 0 es) j]?.getD default := revL_get _ _ rfl j hj
/-- What is reversed twice is as it was. -/
theorem rev_twice (ps : List Pn) (es : List Int) : revO (revO ps es) es = ps := by
  apply list_ext_d
  · rw [revO_len', revO_len']
  · intro j hj
    rw [revO_len', revO_len'] at hj
    rw [revO_n (revO_len' ps es), revL_get _ _ (revO_len' ps es) j hj, revO_get _ _ _ (sigL_lt _ _ hj), sigL_twice]
theorem rev_all (ps : List Pn) (es : List Int) (f : Pn → Bool) (h : ps.all f = true) : (revO ps es).all f = true := by
  rw [List.all_eq_true] at h ⊢
  intro p hp
  obtain ⟨j, hj⟩ := List.getElem?_of_mem hp
  have hl : j < ps.length := by have := (List.getElem?_eq_some_iff.1 hj).1; rwa [revO_len'] at this
  have h1 := revO_get ps es j hl
  rw [hj] at h1
  simp only [Option.getD_some] at h1
  have h2 := sigL_lt (cutsO ps.length 0 0 es) j hl
  rw [List.getElem?_eq_getElem h2] at h1
  simp only [Option.getD_some] at h1
  rw [h1]
  exact h _ (List.getElem_mem h2)
theorem rev_right (ps : List Pn) (es : List Int) : rightO (revO ps es) es = rightO ps es := by
  have h : (revO ps es).all (fun p => nearB p.x && nearB p.y) = ps.all (fun p => nearB p.x && nearB p.y) := by
    cases c : ps.all (fun p => nearB p.x && nearB p.y) with
    | true => exact rev_all ps es _ c
    | false =>
      cases d : (revO ps es).all (fun p => nearB p.x && nearB p.y) with
      | false => rfl
      | true =>
        have := rev_all (revO ps es) es _ d
        rw [rev_twice, c] at this
        cases this
  unfold rightO
  rw [revO_len', h]

/-! The area, without wraps. -/
def cr (p q : Pn) : Int := p.x * q.y - q.x * p.y
def pathS : List Pn → Int
  | a :: b :: l => cr a b + pathS (b :: l)
  | _ => 0
theorem wrap_idem (x : Int) : wrap64 (wrap64 x) = wrap64 x := by
  obtain ⟨k, hk⟩ := wrap64_mod x
  exact wrap64_eq k hk
theorem stepA_eq (a : Int) (p q : Pn) : ∃ k, stepA a p q = a + cr p q + 18446744073709551616 * k := by
  unfold stepA cr
  obtain ⟨k1, h1⟩ := wrap64_mod (p.x * q.y)
  obtain ⟨k2, h2⟩ := wrap64_mod (q.x * p.y)
  obtain ⟨k3, h3⟩ := wrap64_mod (wrap64 (p.x * q.y) - wrap64 (q.x * p.y))
  obtain ⟨k4, h4⟩ := wrap64_mod (a + wrap64 (wrap64 (p.x * q.y) - wrap64 (q.x * p.y)))
  generalize p.x * q.y = u at *
  generalize q.x * p.y = v at *
  exact ⟨k1 - k2 + k3 + k4, by omega⟩
theorem stepA_wrap (a : Int) (p q : Pn) : wrap64 (stepA a p q) = stepA a p q := wrap_idem _
theorem areaC_eq (a : Int) (p : Pn) (qs : List Pn) (ha : wrap64 a = a) : areaC a p qs = wrap64 (a + pathS (p :: qs)) := by
  induction qs generalizing a p with
  | nil => simp [areaC, pathS, ha]
  | cons q qs ih =>
    show areaC (stepA a p q) q qs = wrap64 (a + (cr p q + pathS (q :: qs)))
    rw [ih _ _ (stepA_wrap a p q)]
    obtain ⟨k, hk⟩ := stepA_eq a p q
    exact wrap64_eq k (by rw [hk]; omega)
theorem pathS_last (l : List Pn) (x : Pn) (hl : l ≠ []) : pathS (l ++ [x]) = pathS l + cr (l[l.length - 1]?.getD default) x := by
  induction l with
  | nil => exact absurd rfl hl
  | cons a l ih =>
    cases l with
    | nil => simp [pathS]
    | cons b l =>
      have h := ih (by simp)
      simp only [List.cons_append, pathS] at h ⊢
      rw [h]
      simp only [List.length_cons, Nat.add_sub_cancel, List.getElem?_cons_succ]
      omega
/-- Twice the area of a contour. -/
def zArea (l : List Pn) : Int := pathS (l ++ [l[0]?.getD default])
theorem areaP_eq (a : Int) (l : List Pn) (ha : wrap64 a = a) (hl : l ≠ []) : areaP a l = wrap64 (a + zArea l) := by
  unfold areaP zArea
  rw [areaC_eq _ _ _ ha, pathS_last _ _ hl]
  cases l with
  | nil => exact absurd rfl hl
  | cons h t =>
    simp only [pathS, List.getElem?_cons_zero, Option.getD_some]
    congr 1
    omega
def sumZ {n : Nat} (ps : List Pn) : List (Cut n) → Int
  | [] => 0
  | c :: cs => zArea (pieceO ps c) + sumZ ps cs
theorem piece_ne {n : Nat} (ps : List Pn) (c : Cut n) (hn : ps.length = n) : pieceO ps c ≠ [] := by
  subst hn
  intro h
  have := pieceO_len ps c
  rw [h] at this
  have := c.2
  simp at *
  omega
theorem areaL_eq {n : Nat} (ps : List Pn) (cs : List (Cut n)) (hn : ps.length = n) : areaL ps cs = wrap64 (sumZ ps cs) := by
  have key : ∀ (cs : List (Cut n)) (a : Int), wrap64 a = a → cs.foldl (fun a c => areaP a (pieceO ps c)) a = wrap64 (a + sumZ ps cs) := by
    intro cs
    induction cs with
    | nil => intro a ha; simp [sumZ, ha]
    | cons c cs ih =>
      intro a ha
      rw [List.foldl_cons, areaP_eq _ _ ha (piece_ne ps c hn), ih _ (wrap_idem _)]
      obtain ⟨k, hk⟩ := wrap64_mod (a + zArea (pieceO ps c))
      exact wrap64_eq k (by rw [hk]; simp only [sumZ]; omega)
  unfold areaL
  rw [key cs 0 (by decide +kernel), Int.zero_add]
/-! Reversed. -/
theorem cr_anti (p q : Pn) : cr q p = -cr p q := by unfold cr; omega
theorem pathS_reverse (l : List Pn) : pathS l.reverse = -pathS l := by
  induction l with
  | nil => rfl
  | cons a l ih =>
    cases l with
    | nil => rfl
    | cons b l =>
      rw [List.reverse_cons, pathS_last _ _ (by simp), ih]
      have : ((b :: l).reverse)[(b :: l).reverse.length - 1]?.getD default = b := by
        rw [List.reverse_cons, List.length_append, List.length_singleton, Nat.add_sub_cancel, List.getElem?_append_right (Nat.le_refl _), Nat.sub_self]
        rfl
      rw [this, cr_anti]
      simp only [pathS]
      omega
def revTail : List Pn → List Pn
  | [] => []
  | h :: t => h :: t.reverse
theorem zArea_rev (l : List Pn) : zArea (revTail l) = -zArea l := by
  cases l with
  | nil => rfl
  | cons h t =>
    unfold zArea revTail
    simp only [List.getElem?_cons_zero, Option.getD_some]
    rw [← pathS_reverse]
    simp
theorem pieceO_get {n : Nat} (ps : List Pn) (c : Cut n) (i : Nat) (hi : i < c.1.2.2 - c.1.2.1) : (pieceO ps c)[i]?.getD default = ps[c.1.2.1 + i]?.getD default := by
  unfold pieceO
  rw [List.getElem?_take, if_pos hi, List.getElem?_drop]
theorem pieceO_len' {n : Nat} (ps : List Pn) (c : Cut n) (hn : ps.length = n) : (pieceO ps c).length = c.1.2.2 - c.1.2.1 := by subst hn; exact pieceO_len ps c
theorem revTail_get (l : List Pn) (i : Nat) (hi : i < l.length) : (revTail l)[i]?.getD default = if i = 0 then l[0]?.getD default else l[l.length - i]?.getD default := by
  cases l with
  | nil => simp at hi
  | cons h t =>
    cases i with
    | zero => rfl
    | succ i =>
      simp only [List.length_cons] at hi
      rw [if_neg (by omega)]
      simp only [revTail, List.getElem?_cons_succ, List.length_cons]
      rw [List.getElem?_reverse (by omega), show t.length + 1 - (i + 1) = (t.length - 1 - i) + 1 by omega, List.getElem?_cons_succ]
theorem revTail_len (l : List Pn) : (revTail l).length = l.length := by cases l <;> simp [revTail]
theorem piece_rev (ps : List Pn) (es : List Int) (c : Cut ps.length) (hc : c ∈ cutsO ps.length 0 0 es) : pieceO (revO ps es) c = revTail (pieceO ps c) := by
  have h1 := c.2
  apply list_ext_d
  · rw [revTail_len, pieceO_len' _ _ (revO_len' ps es), pieceO_len]
  · intro i hi
    rw [pieceO_len' _ _ (revO_len' ps es)] at hi
    rw [pieceO_get _ _ _ hi, revO_get _ _ _ (by omega), sigL_in _ _ _ c hc _ (by omega) (by omega), revTail_get _ _ (by rw [pieceO_len]; exact hi), pieceO_len]
    by_cases h0 : i = 0
    · subst h0
      rw [if_pos rfl, pieceO_get _ _ _ (by omega)]
      unfold sig
      rw [if_neg (by omega)]
    · rw [if_neg h0, pieceO_get _ _ _ (by omega)]
      unfold sig
      rw [if_pos (by omega)]
      congr 2
      omega
theorem sumZ_rev (ps : List Pn) (es : List Int) : ∀ cs : List (Cut ps.length), (∀ c ∈ cs, c ∈ cutsO ps.length 0 0 es) → sumZ (revO ps es) cs = -sumZ ps cs := by
  intro cs
  induction cs with
  | nil => intro _; rfl
  | cons c cs ih =>
    intro h
    simp only [sumZ]
    rw [piece_rev ps es c (h c List.mem_cons_self), zArea_rev, ih (fun d hd => h d (List.mem_cons_of_mem _ hd))]
    omega
theorem area_turned (ps : List Pn) (es : List Int) : areaO (revO ps es) es = wrap64 (-areaO ps es) := by
  rw [areaO_n (revO_len' ps es), areaL_eq _ _ (revO_len' ps es), areaO_n (rfl : ps.length = ps.length), areaL_eq _ _ rfl, sumZ_rev ps es _ (fun c hc => hc)]
  obtain ⟨k, hk⟩ := wrap64_mod (sumZ ps (cutsO ps.length 0 0 es))
  exact wrap64_eq k (by rw [hk]; omega)
/-! Moved. -/
theorem mv_back (x y nx ny : Int) (hx : wrap64 (-x) = nx) (hy : wrap64 (-y) = ny) (p : Pn) (h : (-9223372036854775808 ≤ p.x ∧ p.x ≤ 9223372036854775807) ∧ (-9223372036854775808 ≤ p.y ∧ p.y ≤ 9223372036854775807)) : mvP nx ny (mvP x y p) = p := by
  obtain ⟨px, py, on⟩ := p
  simp only at h
  unfold mvP
  simp only [Pn.mk.injEq, and_true]
  unfold wrap64 at *
  omega
theorem moved_back (x y nx ny : Int) (hx : wrap64 (-x) = nx) (hy : wrap64 (-y) = ny) (ps : List Pn) (h : ∀ p ∈ ps, (-9223372036854775808 ≤ p.x ∧ p.x ≤ 9223372036854775807) ∧ (-9223372036854775808 ≤ p.y ∧ p.y ≤ 9223372036854775807)) : movedO nx ny (movedO x y ps) = ps := by
  unfold movedO
  rw [List.map_map]
  conv => rhs; rw [← List.map_id ps]
  exact List.map_congr_left (fun p hp => mv_back x y nx ny hx hy p (h p hp))
theorem cr_mv (x y : Int) (p q : Pn) : ∃ k, cr (mvP x y p) (mvP x y q) = cr p q + y * (p.x - q.x) + x * (q.y - p.y) + 18446744073709551616 * k := by
  obtain ⟨a, ha⟩ := wrap64_mod (p.x + x)
  obtain ⟨b, hb⟩ := wrap64_mod (p.y + y)
  obtain ⟨c, hc⟩ := wrap64_mod (q.x + x)
  obtain ⟨d, hd⟩ := wrap64_mod (q.y + y)
  unfold cr mvP
  simp only [ha, hb, hc, hd]
  exact ⟨(p.x + x) * d + a * (q.y + y) + 18446744073709551616 * (a * d) - (q.x + x) * b - c * (p.y + y) - 18446744073709551616 * (c * b), by grind⟩
theorem pathS_mv (x y : Int) (l : List Pn) : ∀ a : Pn, ∃ k, pathS ((a :: l).map (mvP x y)) = pathS (a :: l) + y * (a.x - ((a :: l)[l.length]?.getD default).x) + x * (((a :: l)[l.length]?.getD default).y - a.y) + 18446744073709551616 * k := by
  induction l with
  | nil => intro a; exact ⟨0, by simp [pathS]⟩
  | cons b l ih =>
    intro a
    obtain ⟨k, hk⟩ := ih b
    obtain ⟨m, hm⟩ := cr_mv x y a b
    refine ⟨k + m, ?_⟩
    simp only [List.map_cons, pathS, List.length_cons, List.getElem?_cons_succ] at hk hm ⊢
    rw [hk, hm]
    generalize (b :: l)[l.length]?.getD default = z
    grind
theorem zArea_mv (x y : Int) (l : List Pn) (hl : l ≠ []) : ∃ k, zArea (l.map (mvP x y)) = zArea l + 18446744073709551616 * k := by
  cases l with
  | nil => exact absurd rfl hl
  | cons h t =>
    obtain ⟨k, hk⟩ := pathS_mv x y (t ++ [h]) h
    refine ⟨k, ?_⟩
    unfold zArea
    have e : (h :: (t ++ [h]))[(t ++ [h]).length]?.getD default = h := by simp
    rw [e] at hk
    simp only [List.map_cons, List.map_append, List.map_nil, List.cons_append, List.getElem?_cons_zero, Option.getD_some] at hk ⊢
    rw [hk]
    grind
theorem piece_mv {n : Nat} (x y : Int) (ps : List Pn) (c : Cut n) : pieceO (movedO x y ps) c = (pieceO ps c).map (mvP x y) := by
  unfold pieceO movedO
  rw [List.map_take, List.map_drop]
theorem sumZ_mv {n : Nat} (x y : Int) (ps : List Pn) (hn : ps.length = n) (cs : List (Cut n)) : ∃ k, sumZ (movedO x y ps) cs = sumZ ps cs + 18446744073709551616 * k := by
  induction cs with
  | nil => exact ⟨0, by simp [sumZ]⟩
  | cons c cs ih =>
    obtain ⟨k, hk⟩ := ih
    obtain ⟨m, hm⟩ := zArea_mv x y (pieceO ps c) (piece_ne ps c hn)
    refine ⟨k + m, ?_⟩
    simp only [sumZ]
    rw [piece_mv, hk, hm]
    omega
theorem area_moved (x y : Int) (ps : List Pn) (es : List Int) : areaO (movedO x y ps) es = areaO ps es := by
  have hl : (movedO x y ps).length = ps.length := by simp [movedO]
  rw [areaO_n hl, areaL_eq _ _ hl, areaO_n (rfl : ps.length = ps.length), areaL_eq _ _ rfl]
  obtain ⟨k, hk⟩ := sumZ_mv x y ps rfl (cutsO ps.length 0 0 es)
  exact wrap64_eq k hk
end Go.Proofs.Ytenmgbcbnofcmaa
