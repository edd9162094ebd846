/- The box of points, over plain lists. -/
import Derived.Test.YtenmgbcbnofcmaaOutBox
import Derived.Test.YtenmgbcbnofcmaaOutMoved
namespace Go.Proofs.Ytenmgbcbnofcmaa
open Go.RowKit

theorem lowI_le (f : Pn → Int) (ps : List Pn) : ∀ a, lowI f a ps ≤ a ∧ ∀ p ∈ ps, lowI f a ps ≤ f p := by
  induction ps with
  | nil => intro a; exact ⟨Int.le_refl _, fun p hp => by cases hp⟩
  | cons q ps ih =>
    intro a
    obtain ⟨h1, h2⟩ := ih (min a (f q))
    have e : lowI f a (q :: ps) = lowI f (min a (f q)) ps := rfl
    rw [e]
    refine ⟨by omega, fun p hp => ?_⟩
    rcases List.mem_cons.1 hp with rfl | hp
    · omega
    · exact h2 p hp
theorem highI_ge (f : Pn → Int) (ps : List Pn) : ∀ a, a ≤ highI f a ps ∧ ∀ p ∈ ps, f p ≤ highI f a ps := by
  induction ps with
  | nil => intro a; exact ⟨Int.le_refl _, fun p hp => by cases hp⟩
  | cons q ps ih =>
    intro a
    obtain ⟨h1, h2⟩ := ih (max a (f q))
    have e : highI f a (q :: ps) = highI f (max a (f q)) ps := rfl
    rw [e]
    refine ⟨by omega, fun p hp => ?_⟩
    rcases List.mem_cons.1 hp with rfl | hp
    · omega
    · exact h2 p hp
theorem lowI_at (f : Pn → Int) (ps : List Pn) : ∀ a, lowI f a ps = a ∨ ∃ p ∈ ps, lowI f a ps = f p := by
  induction ps with
  | nil => intro a; exact .inl rfl
  | cons q ps ih =>
    intro a
    have e : lowI f a (q :: ps) = lowI f (min a (f q)) ps := rfl
    rw [e]
    rcases ih (min a (f q)) with h | ⟨p, hp, h⟩
    · by_cases c : a ≤ f q
      · left; rw [h]; omega
      · right; exact ⟨q, List.mem_cons_self, by rw [h]; omega⟩
    · exact .inr ⟨p, List.mem_cons_of_mem _ hp, h⟩
theorem highI_at (f : Pn → Int) (ps : List Pn) : ∀ a, highI f a ps = a ∨ ∃ p ∈ ps, highI f a ps = f p := by
  induction ps with
  | nil => intro a; exact .inl rfl
  | cons q ps ih =>
    intro a
    have e : highI f a (q :: ps) = highI f (max a (f q)) ps := rfl
    rw [e]
    rcases ih (max a (f q)) with h | ⟨p, hp, h⟩
    · by_cases c : f q ≤ a
      · left; rw [h]; omega
      · right; exact ⟨q, List.mem_cons_self, by rw [h]; omega⟩
    · exact .inr ⟨p, List.mem_cons_of_mem _ hp, h⟩
theorem head_mem (ps : List Pn) (h : 0 < ps.length) : ps[0]?.getD default ∈ ps := by
  rw [List.getElem?_eq_getElem h]
  exact List.getElem_mem h
theorem low_mem (f : Pn → Int) (ps : List Pn) (h : 0 < ps.length) : ∃ p ∈ ps, lowI f (f (ps[0]?.getD default)) ps = f p := by
  rcases lowI_at f ps (f (ps[0]?.getD default)) with h1 | h1
  · exact ⟨_, head_mem ps h, h1⟩
  · exact h1
theorem high_mem (f : Pn → Int) (ps : List Pn) (h : 0 < ps.length) : ∃ p ∈ ps, highI f (f (ps[0]?.getD default)) ps = f p := by
  rcases highI_at f ps (f (ps[0]?.getD default)) with h1 | h1
  · exact ⟨_, head_mem ps h, h1⟩
  · exact h1
/-- Points that may be. -/
def NearP (ps : List Pn) : Prop := ∀ p ∈ ps, (-16384 ≤ p.x ∧ p.x ≤ 16384) ∧ (-16384 ≤ p.y ∧ p.y ≤ 16384)
theorem right_near {ps : List Pn} {es : List Int} (h : rightO ps es = true) : ps.length ≤ 200 ∧ es.length ≤ 40 ∧ NearP ps ∧ rightE (ps.length - 1 : Int) (-1) es = true := by
  unfold rightO at h
  simp only [Bool.and_eq_true, decide_eq_true_eq, List.all_eq_true] at h
  obtain ⟨⟨⟨h1, h2⟩, h3⟩, h4⟩ := h
  refine ⟨h1, h2, fun p hp => ?_, h4⟩
  have := h3 p hp
  unfold nearB at this
  simp only [decide_eq_true_eq] at this
  exact this
theorem wrap_small {n : Int} (h1 : -1000000000 ≤ n) (h2 : n ≤ 1000000000) : wrap64 n = n := by unfold wrap64; omega
theorem mv_near {x y : Int} {p : Pn} (hx : -1000000 ≤ x ∧ x ≤ 1000000) (hy : -1000000 ≤ y ∧ y ≤ 1000000) (h : (-16384 ≤ p.x ∧ p.x ≤ 16384) ∧ (-16384 ≤ p.y ∧ p.y ≤ 16384)) : mvP x y p = ⟨p.x + x, p.y + y, p.on⟩ := by
  unfold mvP
  rw [wrap_small (by omega) (by omega), wrap_small (by omega) (by omega)]
theorem lowI_mv (f : Pn → Int) (d : Int) (g : Pn → Pn) (ps : List Pn) (h : ∀ p ∈ ps, f (g p) = f p + d) : ∀ a, lowI f (a + d) (ps.map g) = lowI f a ps + d := by
  induction ps with
  | nil => intro a; rfl
  | cons q ps ih =>
    intro a
    show lowI f (min (a + d) (f (g q))) (ps.map g) = lowI f (min a (f q)) ps + d
    rw [h q List.mem_cons_self, ← ih (fun p hp => h p (List.mem_cons_of_mem _ hp))]
    congr 1
    omega
theorem highI_mv (f : Pn → Int) (d : Int) (g : Pn → Pn) (ps : List Pn) (h : ∀ p ∈ ps, f (g p) = f p + d) : ∀ a, highI f (a + d) (ps.map g) = highI f a ps + d := by
  induction ps with
  | nil => intro a; rfl
  | cons q ps ih =>
    intro a
    show highI f (max (a + d) (f (g q))) (ps.map g) = highI f (max a (f q)) ps + d
    rw [h q List.mem_cons_self, ← ih (fun p hp => h p (List.mem_cons_of_mem _ hp))]
    congr 1
    omega
theorem head_mv (x y : Int) (ps : List Pn) (h : 0 < ps.length) : (movedO x y ps)[0]?.getD default = mvP x y (ps[0]?.getD default) := by
  unfold movedO
  rw [List.getElem?_map, List.getElem?_eq_getElem h]
  rfl
theorem box_moved {x y : Int} {ps : List Pn} (hx : -1000000 ≤ x ∧ x ≤ 1000000) (hy : -1000000 ≤ y ∧ y ≤ 1000000) (hn : NearP ps) (h : 0 < ps.length) :
    lowX (movedO x y ps) = lowX ps + x ∧ lowY (movedO x y ps) = lowY ps + y ∧ highX (movedO x y ps) = highX ps + x ∧ highY (movedO x y ps) = highY ps + y := by
  have hh := hn _ (head_mem ps h)
  have h1 := mv_near hx hy hh
  have hX : ∀ p ∈ ps, (mvP x y p).x = p.x + x := fun p hp => by rw [mv_near hx hy (hn p hp)]
  have hY : ∀ p ∈ ps, (mvP x y p).y = p.y + y := fun p hp => by rw [mv_near hx hy (hn p hp)]
  unfold lowX lowY highX highY
  rw [head_mv x y ps h, h1]
  exact ⟨lowI_mv Pn.x x _ ps hX _, lowI_mv Pn.y y _ ps hY _, highI_mv Pn.x x _ ps hX _, highI_mv Pn.y y _ ps hY _⟩
theorem box_near {ps : List Pn} (hn : NearP ps) (h : 0 < ps.length) : (-16384 ≤ lowX ps ∧ lowX ps ≤ 16384) ∧ (-16384 ≤ lowY ps ∧ lowY ps ≤ 16384) ∧ (-16384 ≤ highX ps ∧ highX ps ≤ 16384) ∧ (-16384 ≤ highY ps ∧ highY ps ≤ 16384) := by
  obtain ⟨p1, q1, e1⟩ := low_mem Pn.x ps h
  obtain ⟨p2, q2, e2⟩ := low_mem Pn.y ps h
  obtain ⟨p3, q3, e3⟩ := high_mem Pn.x ps h
  obtain ⟨p4, q4, e4⟩ := high_mem Pn.y ps h
  unfold lowX lowY highX highY
  rw [e1, e2, e3, e4]
  exact ⟨(hn p1 q1).1, (hn p2 q2).2, (hn p3 q3).1, (hn p4 q4).2⟩
/-- Whether one of the first k points has that number. -/
def sdK (f : Pn → Int) (v : Int) (ps : List Pn) (k : Nat) : Bool := (ps.take k).any fun p => f p == v
theorem sdK_zero (f : Pn → Int) (v : Int) (ps : List Pn) : sdK f v ps 0 = false := rfl
theorem sdK_next (f : Pn → Int) (v : Int) (ps : List Pn) (k : Nat) (h : k < ps.length) : sdK f v ps (k + 1) = (sdK f v ps k || (f (ps[k]?.getD default) == v)) := by
  unfold sdK
  rw [List.take_add_one, List.any_append, List.getElem?_eq_getElem h]
  simp
theorem sdK_all (f : Pn → Int) (v : Int) (ps : List Pn) (h : ∃ p ∈ ps, v = f p) : sdK f v ps ps.length = true := by
  unfold sdK
  rw [List.take_length, List.any_eq_true]
  obtain ⟨p, hp, e⟩ := h
  exact ⟨p, hp, by rw [e]; simp⟩
end Go.Proofs.Ytenmgbcbnofcmaa
