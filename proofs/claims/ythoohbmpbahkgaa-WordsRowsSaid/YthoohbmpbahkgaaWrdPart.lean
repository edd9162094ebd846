/- An append of a part of a row, or of nothing, at a step of a region that draws. -/
import Derived.Test.YthoohbmpbahkgaaWrdRow
import Derived.Test.YthoohbmpbahkgaaWrdDraw
import Derived.Deep.AppendLies
import Derived.Deep.Upon
namespace Go.Proofs.Ythoohbmpbahkgaa
open Go.RowKit

theorem step_append_part {P : Program} (w : World) {ops : Array Oper} {o : Oper} {a : Act} {K : Act → World → Prop} {Q : Exit → Act → World → Prop} {E : Prop} (hgd : o.guard = none) (s x : Operand) (t : TypeId)
    (ho : o.op = .call { callee := .builtin .append, args := #[s, x], argTypes := #[t, t] })
    (base : Nat) (e : TypeId) (i : TypeInfo) (z : Value) (size bytes : Nat) (ht : P.underlying t = some (.slice e)) (hi : P.info? e = some i) (hz : i.zero = some z)
    (hsize : i.size = size) (hby : i.bytes = bytes) (hzs : z.cells.size = size) (hsz : 0 < size)
    (b cb n : Nat) (xs : List Value) (hs : a.eval s = .slice (some ⟨b, 0, none⟩) n cb) (hown : w.ownsRow base e size (.slice (some ⟨b, 0, none⟩) n cb) n xs)
    (ad : Addr) (m c : Nat) (news : List Value) (hx : a.eval x = .slice (some ad) m c) (hl : news.length = m * size) (hnews : ∀ j u, news[j]? = some u → w.cell? (ad.add j) = some u) (h1 : ∀ u ∈ news, u.oneCell' = true)
    (h63 : n + m ≤ maxLen) (hbytes : (n + m) * bytes ≤ 140737488355328) (hbase : base ≤ w.heap.size) (H : Nat) (hH : w.heap.size = H)
    (h : ∀ g cap w', w'.ownsRow base e size (.slice (some ⟨g, 0, none⟩) (n + m) cap) (n + m) (xs ++ news) → w.grownBy w' (some b) → (b = g ∨ g = H) → g < w'.heap.size → K (a.put o.dst (.slice (some ⟨g, 0, none⟩) (n + m) cap)) w') :
    if Region.wanted o (yielded ops a.tmps) = true then Oper.wp P o a w K Q else E := by
  rcases Nat.eq_zero_or_pos m with rfl | hm
  · obtain rfl : news = [] := List.length_eq_zero_iff.1 (by omega)
    have hw : Region.wanted o (yielded ops a.tmps) = true := by simp [Region.wanted, hgd]
    rw [if_pos hw]
    have hb := own_lt hown b rfl
    have hle : n ≤ cb := by
      rcases own_form hown with ⟨e1, -⟩ | ⟨g, c', e1, -, -, e2, -⟩
      · simp at e1
      · simp only [Value.slice.injEq] at e1
        omega
    have hr := run_append_nothing (P := P) w t t o.type e i ht hi (some ⟨b, 0, none⟩) n cb hle (.slice (some ad) 0 c) (by rw [hsize]; exact Src.ofSlice w ht ad 0 c [] (by simp) (fun j u hj => by simp at hj) (fun u hu => by cases hu))
    unfold Oper.wp execOp
    simp only [ho, resolve, invoke, builtin, Sem.run_bind, Sem.run_pure, Result.andThen_ok, List.map_toArray, List.map_cons, List.map_nil, hs, hx, hr]
    exact h b cb w (by simpa using hown) (World.grownBy.refl w _) (.inl rfl) hb.2
  · exact step_append_lies w hgd s x t ho base e i z size bytes ht hi hz hsize hby hzs hsz _ n xs hs hown ad m c news hx hl hnews h1 hm h63 hbytes hbase H hH (fun g cap w' k1 k2 k3 k4 => h g cap w' k1 k2 (k3.imp_left (fun e => by simpa [Value.ownBlock] using e)) k4)
section
variable {P : Program} {ops : Array Oper} {Q : Exit → Act → World → Prop} {md : Region.Mode} {S : World → Prop} {L : List Nat}
/-- Two operations may come up. -/
theorem wpAnyD_two {i j : Nat} {oi oj : Oper} {fuel : Nat} {listed : Array Bool} {a : Act} {w : World} (hr : Region.ready md ops listed = [i, j]) (hoi : ops[i]? = some oi) (hoj : ops[j]? = some oj)
    (h1 : ∀ K' : Act → World → Prop, Shut (∀ a w, (waitsAll md L oi = false → S w) → wpAnyD P md ops Q S L fuel (listed.setIfInBounds i true) a w → K' a w) → if Region.wanted oi (yielded ops a.tmps) = true then Oper.wp P oi a w K' Q else K' (a.put oi.dst undef) w)
    (h2 : ∀ K' : Act → World → Prop, Shut (∀ a w, (waitsAll md L oj = false → S w) → wpAnyD P md ops Q S L fuel (listed.setIfInBounds j true) a w → K' a w) → if Region.wanted oj (yielded ops a.tmps) = true then Oper.wp P oj a w K' Q else K' (a.put oj.dst undef) w) :
    wpAnyD P md ops Q S L (fuel + 1) listed a w := by
  refine ⟨fun h0 => (by rw [hr] at h0; cases h0), fun k hk ok hok => ?_⟩
  rw [hr] at hk
  simp only [List.mem_cons, List.not_mem_nil, or_false] at hk
  rcases hk with rfl | rfl
  · obtain rfl : oi = ok := Option.some.inj (hoi.symm.trans hok)
    exact wpOp_step hoi (fun K' hK => h1 K' (fun a w h1 h2 => hK a w ⟨h1, h2⟩))
  · obtain rfl : oj = ok := Option.some.inj (hoj.symm.trans hok)
    exact wpOp_step hoj (fun K' hK => h2 K' (fun a w h1 h2 => hK a w ⟨h1, h2⟩))
end
theorem part_take {W : World} {B G n c : Nat} {T : TypeId} {X : List Wd} (h : OwnR enW T 3 W B (.slice (some ⟨G, 0, none⟩) n c) X) (m : Nat) : ∀ j u, (flat enW (X.take m))[j]? = some u → W.cell? ((⟨G, 0, none⟩ : Addr).add j) = some u := by
  intro j u hu
  refine World.ownsRow.cells h (g := G) rfl j u ?_
  rw [← List.take_append_drop m X, flat_app, List.getElem?_append_left (List.getElem?_eq_some_iff.1 hu).1]
  exact hu
theorem part_drop {W : World} {B G n c : Nat} {T : TypeId} {X : List Wd} (h : OwnR enW T 3 W B (.slice (some ⟨G, 0, none⟩) n c) X) (m : Nat) (hm : m ≤ X.length) : ∀ j u, (flat enW (X.drop m))[j]? = some u → W.cell? ((⟨G, 0, none⟩ : Addr).add (m * 3 + j)) = some u := by
  intro j u hu
  refine World.ownsRow.cells h (g := G) rfl _ u ?_
  have hl : (flat enW (X.take m)).length = m * 3 := by rw [flat_len enW 3 enW_len, List.length_take, Nat.min_eq_left hm]
  rw [← List.take_append_drop m X, flat_app, List.getElem?_append_right (by omega), hl, show m * 3 + j - m * 3 = j by omega]
  exact hu
theorem add_two (G f j : Nat) : (⟨G, f, none⟩ : Addr).add j = (⟨G, 0, none⟩ : Addr).add (f + j) := by
  unfold Addr.add
  split <;> split <;> simp_all
/-- Where the model lets the rest of a row begin. -/
theorem part_drop2 {W : World} {B G n c m f cr : Nat} {T : TypeId} {X : List Wd} (h : OwnR enW T 3 W B (.slice (some ⟨G, 0, none⟩) n c) X) (hm : m ≤ X.length) (hc : X.length ≤ cr) (hf : (if cr = m then 0 else m * 3) = f) : ∀ j u, (flat enW (X.drop m))[j]? = some u → W.cell? ((⟨G, f, none⟩ : Addr).add j) = some u := by
  intro j u hu
  have hlt : m < X.length := by
    have h1 := (List.getElem?_eq_some_iff.1 hu).1
    rw [flat_len enW 3 enW_len, List.length_drop] at h1
    omega
  rw [if_neg (by omega)] at hf
  rw [add_two, ← hf]
  exact part_drop h m hm j u hu
theorem enW_cells (X : List Wd) : ∀ u ∈ flat enW X, u.oneCell' = true := flat_cells enW enW_one X
end Go.Proofs.Ythoohbmpbahkgaa
