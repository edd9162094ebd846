/- Rows of things in memory, of whatever kind: a thing is so many cells. -/
import Derived.Test.YthoohbmpbahkgaaWrdPlain
import Derived.Deep.AppendLies
namespace Go.Proofs.Ythoohbmpbahkgaa
open Go.RowKit

theorem add_blk (a : Addr) (n : Nat) : (a.add n).block = a.block := by unfold Addr.add; split <;> rfl
theorem add_of (a : Addr) (n : Nat) : (a.add n).off = a.off + n := by unfold Addr.add; split <;> simp_all
theorem add_more (a : Addr) (n m : Nat) : (⟨(a.add n).block, (a.add n).off + (m + 1), none⟩ : Addr) = a.add (n + (m + 1)) := by
  rw [add_blk, add_of]
  unfold Addr.add
  rw [if_neg (by omega)]
  simp

section
variable {α : Type} (en : α → List Value) (sz : Nat)
/-- The cells of things. -/
def flat (xs : List α) : List Value := xs.flatMap en
variable (hsz : ∀ a, (en a).length = sz)
include hsz
theorem flat_len (xs : List α) : (flat en xs).length = xs.length * sz := by
  unfold flat
  induction xs with
  | nil => simp
  | cons x xs ih => rw [List.flatMap_cons, List.length_append, hsz, ih, List.length_cons, Nat.add_mul]; omega
theorem flat_get [Inhabited α] (xs : List α) (i j : Nat) (h : i < xs.length) (hj : j < sz) : (flat en xs)[i * sz + j]? = (en (xs[i]?.getD default))[j]? := by
  induction xs generalizing i with
  | nil => simp at h
  | cons x xs ih =>
    unfold flat
    rw [List.flatMap_cons]
    cases i with
    | zero => rw [Nat.zero_mul, Nat.zero_add, List.getElem?_append_left (by rw [hsz]; exact hj)]; simp
    | succ i =>
      rw [List.getElem?_append_right (by rw [hsz, Nat.add_mul]; omega), hsz, show (i + 1) * sz + j - sz = i * sz + j by rw [Nat.add_mul]; omega]
      exact (ih i (by simpa using h)).trans (by simp)
omit hsz
theorem flat_app (xs ys : List α) : flat en (xs ++ ys) = flat en xs ++ flat en ys := List.flatMap_append
theorem flat_one (x : α) : flat en [x] = en x := by simp [flat]
theorem flat_cells (h1 : ∀ a, ∀ u ∈ en a, u.oneCell' = true) (xs : List α) : ∀ u ∈ flat en xs, u.oneCell' = true := by
  intro u hu
  obtain ⟨x, -, hx⟩ := List.mem_flatMap.1 hu
  exact h1 x u hx

/-- A row of things, wherever it lies. -/
def RowAt (W : World) (v : Value) (xs : List α) : Prop :=
  (v = .slice none 0 0 ∧ xs = []) ∨ ∃ a c, v = .slice (some a) xs.length c ∧ a.block < W.heap.size ∧ xs.length ≤ c ∧ c ≤ maxLen ∧ ∀ j u, (flat en xs)[j]? = some u → W.cell? (a.add j) = some u
variable {en sz}
theorem RowAt.on {W W' : World} {v : Value} {xs : List α} (h : RowAt en W v xs) (hb : Below W.heap.size W W') : RowAt en W' v xs := by
  rcases h with h | ⟨a, c, h1, h2, h3, h4, h5⟩
  · exact .inl h
  · exact .inr ⟨a, c, h1, Nat.lt_of_lt_of_le h2 hb.size, h3, h4, fun i u hi => (hb.cell (p := a.add i) (by rw [add_blk]; exact h2)).trans (h5 i u hi)⟩
theorem RowAt.grown {W W' : World} {r : Option Nat} {v : Value} {xs : List α} (h : RowAt en W v xs) (hg : W.grownBy W' r) (hu : ∀ a l c, v = .slice (some a) l c → r ≠ some a.block) : RowAt en W' v xs := by
  rcases h with h | ⟨a, c, h1, h2, h3, h4, h5⟩
  · exact .inl h
  · have hne := hu a _ _ h1
    exact .inr ⟨a, c, h1, Nat.lt_of_lt_of_le h2 hg.size, h3, h4, fun i u hi => (hg.cell_far (a.add i) (by rw [add_blk]; exact h2) (by rw [add_blk]; exact fun e => hne e.symm)).trans (h5 i u hi)⟩
theorem RowAt.len {W : World} {v : Value} {xs : List α} (h : RowAt en W v xs) : ∃ p c, v = .slice p xs.length c ∧ xs.length ≤ c ∧ c ≤ maxLen := by
  rcases h with ⟨rfl, rfl⟩ | ⟨a, c, rfl, _, h3, h4, _⟩
  · exact ⟨_, _, rfl, Nat.le_refl _, by unfold maxLen; omega⟩
  · exact ⟨_, _, rfl, h3, h4⟩
theorem RowAt.lt {W : World} {v : Value} {xs : List α} (h : RowAt en W v xs) : ∀ a l c, v = .slice (some a) l c → a.block < W.heap.size := by
  intro a l c hu
  rcases h with ⟨h, -⟩ | ⟨a', c', h, h2, -⟩
  · rw [h] at hu; simp at hu
  · rw [h] at hu; simp only [Value.slice.injEq, Option.some.injEq] at hu; rw [← hu.1]; exact h2

/-- A row of things of a call's own. -/
def OwnR (en : α → List Value) (T : TypeId) (sz : Nat) (W : World) (B : Nat) (v : Value) (xs : List α) : Prop := W.ownsRow B T sz v xs.length (flat en xs)
end
theorem own_form {W : World} {B : Nat} {T : TypeId} {sz n : Nat} {v : Value} {xs : List Value} (h : W.ownsRow B T sz v n xs) : (v = .slice none 0 0 ∧ n = 0) ∨ ∃ g c, v = .slice (some ⟨g, 0, none⟩) n c ∧ B ≤ g ∧ g < W.heap.size ∧ n ≤ c ∧ c ≤ maxLen := by
  rcases h.2 with h1 | ⟨g, cap, cur, hv, hg, hh, hn, hc, _⟩
  · exact .inl h1
  · exact .inr ⟨g, cap, hv, hg, (Array.getElem?_eq_some_iff.1 hh).1, hn, hc⟩
theorem own_on {W W' : World} {B C : Nat} {T : TypeId} {sz n : Nat} {v : Value} {xs : List Value} (h : W.ownsRow B T sz v n xs) (hb : Below C W W') (hC : W.heap.size ≤ C) : W'.ownsRow B T sz v n xs := by
  obtain ⟨h1, h2⟩ := h
  refine ⟨h1, ?_⟩
  rcases h2 with h2 | ⟨g, cap, cur, hv, hg, hh, r⟩
  · exact .inl h2
  · refine .inr ⟨g, cap, cur, hv, hg, ?_, r⟩
    rw [hb.block g (by have := (Array.getElem?_eq_some_iff.1 hh).1; omega)]
    exact hh
theorem own_mono {W : World} {B C : Nat} {T : TypeId} {sz n : Nat} {v : Value} {xs : List Value} (h : W.ownsRow B T sz v n xs) (hC : C ≤ B) : W.ownsRow C T sz v n xs := by
  obtain ⟨h1, h2⟩ := h
  refine ⟨h1, ?_⟩
  rcases h2 with h2 | ⟨g, cap, cur, hv, hg, r⟩
  · exact .inl h2
  · exact .inr ⟨g, cap, cur, hv, Nat.le_trans hC hg, r⟩
/-- A row of the call's own in a block that stands as it stood. -/
theorem own_same {W W' : World} {B : Nat} {T : TypeId} {sz n : Nat} {v : Value} {xs : List Value} (h : W.ownsRow B T sz v n xs) (hb : ∀ g, v.ownBlock = some g → W'.heap[g]? = W.heap[g]?) : W'.ownsRow B T sz v n xs := by
  obtain ⟨h1, h2⟩ := h
  refine ⟨h1, ?_⟩
  rcases h2 with h2 | ⟨g, cap, cur, hv, hg, hh, r⟩
  · exact .inl h2
  · refine .inr ⟨g, cap, cur, hv, hg, ?_, r⟩
    subst hv
    rw [hb g rfl]
    exact hh
theorem own_lt {W : World} {B : Nat} {T : TypeId} {sz n : Nat} {v : Value} {xs : List Value} (h : W.ownsRow B T sz v n xs) (g : Nat) (hg : v.ownBlock = some g) : B ≤ g ∧ g < W.heap.size := World.ownsRow.lt h g hg
section
variable {α : Type} {en : α → List Value} {sz : Nat}
theorem OwnR.at {T : TypeId} {W : World} {B : Nat} {v : Value} {xs : List α} (h : OwnR en T sz W B v xs) : RowAt en W v xs := by
  rcases own_form h with ⟨h1, h2⟩ | ⟨g, c, rfl, -, hg, hn, hc⟩
  · exact .inl ⟨h1, List.length_eq_zero_iff.1 h2⟩
  · exact .inr ⟨_, c, rfl, hg, hn, hc, fun i u hu => World.ownsRow.cells h (g := g) rfl _ _ hu⟩
end

/-- Rows of rows: the outer one the call's own; the inner ones lie where no block is the outer one's. -/
def RowsR {α : Type} (en : α → List Value) (TS : TypeId) (W : World) (B : Nat) (v : Value) (rs : List (List α)) : Prop :=
  ∃ vs : List Value, W.ownsRow B TS 1 v vs.length vs ∧ vs.length = rs.length ∧ ∀ i, i < vs.length → ∃ u, vs[i]? = some u ∧ RowAt en W u (rs[i]?.getD []) ∧ (∀ a l c, u = .slice (some a) l c → B ≤ a.block ∧ v.ownBlock ≠ some a.block)
section
variable {α : Type} {en : α → List Value} {TS : TypeId}
theorem RowsR.on {W W' : World} {B : Nat} {v : Value} {rs : List (List α)} (h : RowsR en TS W B v rs) (hb : Below W.heap.size W W') : RowsR en TS W' B v rs := by
  obtain ⟨vs, h1, h2, h3⟩ := h
  exact ⟨vs, own_on h1 hb (Nat.le_refl _), h2, fun i hi => by obtain ⟨u, u1, u2, u3⟩ := h3 i hi; exact ⟨u, u1, u2.on hb, u3⟩⟩
theorem RowsR.nil (W : World) (B : Nat) : RowsR en TS W B (.slice none 0 0) [] := ⟨[], World.ownsRow_nil _ _ _ _, rfl, fun i hi => by simp at hi⟩
theorem RowsR.mono {W : World} {B C : Nat} {v : Value} {rs : List (List α)} (h : RowsR en TS W B v rs) (hC : C ≤ B) : RowsR en TS W C v rs := by
  obtain ⟨vs, h1, h2, h3⟩ := h
  exact ⟨vs, own_mono h1 hC, h2, fun i hi => by obtain ⟨u, u1, u2, u3⟩ := h3 i hi; exact ⟨u, u1, u2, fun a l c e => ⟨Nat.le_trans hC (u3 a l c e).1, (u3 a l c e).2⟩⟩⟩
/-- A row more. -/
theorem RowsR.snoc {W W' : World} {B g c : Nat} {v u : Value} {rs : List (List α)} {ts : List α} {vs : List Value} (hvs : vs.length = rs.length)
    (h3 : ∀ i, i < vs.length → ∃ u, vs[i]? = some u ∧ RowAt en W u (rs[i]?.getD []) ∧ (∀ a l c, u = .slice (some a) l c → B ≤ a.block ∧ v.ownBlock ≠ some a.block)) (ht : RowAt en W u ts) (hu : ∀ a l c, u = .slice (some a) l c → B ≤ a.block ∧ v.ownBlock ≠ some a.block)
    (hown : W'.ownsRow B TS 1 (.slice (some ⟨g, 0, none⟩) (vs.length + 1) c) (vs.length + 1) (vs ++ [u])) (hg : W.grownBy W' v.ownBlock) (hat : v.ownBlock = some g ∨ W.heap.size ≤ g) : RowsR en TS W' B (.slice (some ⟨g, 0, none⟩) (rs.length + 1) c) (rs ++ [ts]) := by
  have key : ∀ x tx, RowAt en W x tx → (∀ a l c, x = .slice (some a) l c → B ≤ a.block ∧ v.ownBlock ≠ some a.block) → RowAt en W' x tx ∧ (∀ a l c', x = .slice (some a) l c' → B ≤ a.block ∧ (Value.slice (some ⟨g, 0, none⟩) (rs.length + 1) c).ownBlock ≠ some a.block) := fun x tx hx hn =>
    ⟨hx.grown hg (fun a l c h => (hn a l c h).2), fun a l c' hxa => ⟨(hn a l c' hxa).1, fun e => by
      simp only [Value.ownBlock, Option.some.injEq] at e
      rcases hat with h | h
      · exact (hn a l c' hxa).2 (by rw [h, e])
      · have := hx.lt a l c' hxa
        omega⟩⟩
  refine ⟨vs ++ [u], by rw [← hvs]; simpa using hown, by simp [hvs], fun i hi => ?_⟩
  rw [List.length_append, List.length_singleton] at hi
  by_cases hlt : i < vs.length
  · obtain ⟨x, x1, x2, x3⟩ := h3 i hlt
    obtain ⟨k1, k2⟩ := key x _ x2 x3
    exact ⟨x, by rw [List.getElem?_append_left hlt]; exact x1, by rw [List.getElem?_append_left (by omega)]; exact k1, k2⟩
  · obtain rfl : i = vs.length := by omega
    obtain ⟨k1, k2⟩ := key u _ ht hu
    exact ⟨u, by simp, by rw [hvs, List.getElem?_append_right (Nat.le_refl _), Nat.sub_self]; exact k1, k2⟩
theorem RowsR.len {W : World} {B : Nat} {v : Value} {rs : List (List α)} (h : RowsR en TS W B v rs) : ∃ p c, v = .slice p rs.length c := by
  obtain ⟨vs, h1, h2, -⟩ := h
  rcases own_form h1 with ⟨e1, e2⟩ | ⟨g, c, rfl, -⟩
  · exact ⟨none, 0, by rw [e1, ← h2, e2]⟩
  · exact ⟨_, c, by rw [h2]⟩
end

/-! Words. -/
def enW (x : Wd) : List Value := [.int .i64 x.line, .int .i64 x.pos, .string x.text]
theorem enW_len (x : Wd) : (enW x).length = 3 := rfl
theorem enW_one (x : Wd) : ∀ u ∈ enW x, u.oneCell' = true := by
  intro u hu
  simp only [enW, List.mem_cons, List.not_mem_nil, or_false] at hu
  rcases hu with rfl | rfl | rfl <;> rfl
/-- The three cells of a word. -/
theorem word_cells {W : World} {a : Addr} {ws : List Wd} (h : ∀ j u, (flat enW ws)[j]? = some u → W.cell? (a.add j) = some u) (i : Nat) (hi : i < ws.length) :
    W.cell? (a.add (i * 3)) = some (.int .i64 (ws[i]?.getD default).line) ∧ W.cell? ⟨(a.add (i * 3)).block, (a.add (i * 3)).off + 1, none⟩ = some (.int .i64 (ws[i]?.getD default).pos) ∧ W.cell? ⟨(a.add (i * 3)).block, (a.add (i * 3)).off + 2, none⟩ = some (.string (ws[i]?.getD default).text) := by
  have e := fun j hj => flat_get enW 3 enW_len ws i j hi hj
  refine ⟨h _ _ ((e 0 (by omega)).trans rfl), ?_, ?_⟩
  · rw [add_more _ _ 0]; exact h _ _ ((e 1 (by omega)).trans rfl)
  · rw [add_more _ _ 1]; exact h _ _ ((e 2 (by omega)).trans rfl)
theorem infoWord : (Try.prog.info? 37).map (fun i => (i.zero, i.size, i.bytes)) = some (some (.agg #[.int .i64 0, .int .i64 0, .string ⟨#[]⟩]), 3, 32) := by kernel_rfl
theorem infoWords : (Try.prog.info? 34).map (fun i => (i.zero, i.size, i.bytes)) = some (some (.slice none 0 0), 1, 24) := by kernel_rfl
end Go.Proofs.Ythoohbmpbahkgaa
