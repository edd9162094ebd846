/- The contract of Lines. -/
import Derived.Test.YtenmgbcbnofcmaaOutOnce
import Derived.Test.YtenmgbcbnofcmaaOutRound
import Derived.Test.YtenmgbcbnofcmaaOutReversed
namespace Go.Proofs.Ytenmgbcbnofcmaa
open Go.RowKit Go.Shelf
attribute [local go_sem] Oper.semAt_some

theorem wpListIn_make_full {F : Fence} {nn : Nat} {P : Program} (w : World) {ops : Array Oper} {rest : List Oper} {o : Oper} {a : Act} {Q : Exit → Act → World → Prop}
    (hg : o.guard = none) (l c : Operand) (t : TypeId) (hop : o.op = Op.makeSlice t l c)
    (base : Nat) (e : TypeId) (i : TypeInfo) (z : Value) (size : Nat) (h1 : P.underlying t = some (.slice e)) (h2 : P.info? e = some i) (h3 : i.zero = some z) (h4 : i.size = size)
    (kl kc : IntKind) (L C : Int) (n : Nat) (hl : a.eval l = .int kl L) (hc : a.eval c = .int kc C) (hL : L = (n : Int)) (hC : C = (n : Int)) (b2 : i.bytes * n ≤ 281474976710656) (b3 : n ≤ maxLen) (b4 : base ≤ w.heap.size)
    (hK : ∀ w', w'.ownsRow base e size (.slice (some ⟨w.heap.size, 0, none⟩) n n) n (madeCells z.cells (n * size)).toList → w.grownBy w' none → wpListIn F nn P ops Q rest (a.put o.dst (.slice (some ⟨w.heap.size, 0, none⟩) n n)) w') :
    wpListIn F nn P ops Q (o :: rest) a w := by
  refine wpListIn_plain hg fun K hK' => ?_
  obtain ⟨w', hrun, r1, r2⟩ := run_make_full (P := P) w base t e i z size h1 h2 h3 h4 kl kc n b2 b3 b4
  subst hL
  subst hC
  unfold Oper.wpIn
  refine ⟨?_, ?_⟩
  · simp [Oper.about, hop]
  · rw [Oper.semAt_plain F _ _ (by rw [hop]; intro c hc'; cases hc')]
    simp [execOp, hop, hl, hc, hrun, Result.andThen]
    exact hK' _ _ (hK w' r1 r2)

/-- A row of bools, wherever it lies. -/
def BsAt (W : World) (v : Value) (bs : List Bool) : Prop :=
  (v = .slice none 0 0 ∧ bs = []) ∨ ∃ a c, v = .slice (some a) bs.length c ∧ a.block < W.heap.size ∧ bs.length ≤ c ∧ c ≤ maxLen ∧ ∀ i, i < bs.length → W.cell? (a.add i) = some (.bool (bs[i]?.getD default))
theorem BsAt.on {W W' : World} {v : Value} {bs : List Bool} (h : BsAt W v bs) (hb : Below W.heap.size W W') : BsAt W' v bs := by
  rcases h with h | ⟨a, c, h1, h2, h3, h4, h5⟩
  · exact .inl h
  · exact .inr ⟨a, c, h1, Nat.lt_of_lt_of_le h2 hb.size, h3, h4, fun i hi => (hb.cell (p := a.add i) (by rw [add_block]; exact h2)).trans (h5 i hi)⟩
theorem BsAt.len {W : World} {v : Value} {bs : List Bool} (h : BsAt W v bs) : ∃ p c, v = .slice p bs.length c := by
  rcases h with ⟨rfl, rfl⟩ | ⟨a, c, rfl, _⟩
  · exact ⟨_, _, rfl⟩
  · exact ⟨_, _, rfl⟩
/-- Points, with their kinds. -/
def zipAt (ts : List (Int × Int)) (bs : List Bool) (i : Nat) : Pn := ⟨(ts[i]?.getD default).1, (ts[i]?.getD default).2, bs[i]?.getD default⟩
def zipO (ts : List (Int × Int)) (bs : List Bool) : List Pn := (List.range ts.length).map (zipAt ts bs)
theorem zipO_len (ts : List (Int × Int)) (bs : List Bool) : (zipO ts bs).length = ts.length := by simp [zipO]
theorem zipO_get (ts : List (Int × Int)) (bs : List Bool) (i : Nat) (h : i < ts.length) : (zipO ts bs)[i]?.getD default = zipAt ts bs i := by simp [zipO, h]
/-- The place where a contour's row begins. -/
def startN (ps : List Pn) : Nat := (if startK ps ps.length < 0 then ((ringL ps ps.length).length : Int) - 1 else startK ps ps.length).toNat
theorem startK_ge (ps : List Pn) (k : Nat) : -1 ≤ startK ps k := by
  induction k with
  | zero => simp [startK]
  | succ k ih => rw [startK]; split <;> omega
theorem startK_le (ps : List Pn) (k : Nat) : startK ps k ≤ (ringL ps k).length := by
  induction k with
  | zero => simp [startK]
  | succ k ih => rw [startK, ringL_succ, List.length_append]; split <;> omega
theorem ringL_ge (ps : List Pn) (k : Nat) : k ≤ (ringL ps k).length := by
  induction k with
  | zero => simp
  | succ k ih =>
    rw [ringL_succ, List.length_append]
    have : 1 ≤ (ringAt ps k).length := by unfold ringAt; simp only; split <;> simp
    omega
theorem startN_eq (ps : List Pn) (h : 0 < ps.length) : (if startK ps ps.length < 0 then ((ringL ps ps.length).length : Int) - 1 else startK ps ps.length) = (startN ps : Int) := by
  have h1 := startK_ge ps ps.length
  have h2 := ringL_ge ps ps.length
  unfold startN
  split <;> omega
theorem startN_le (ps : List Pn) : startN ps ≤ 2 * ps.length := by
  have h1 := startK_le ps ps.length
  have h2 := ringL_len ps ps.length
  unfold startN
  split <;> omega
/-- A contour's row. -/
def rowO (ps : List Pn) : List (Int × Int) := onceO (ringL ps ps.length) (startN ps)
def rowsL {n : Nat} (ps : List Pn) (cs : List (Cut n)) : List (List (Int × Int)) := cs.map fun c => rowO (pieceO ps c)
def linesR (ts : List (Int × Int)) (bs : List Bool) (es : List Int) : List (List (Int × Int)) := if bs.length = ts.length then rowsL (zipO ts bs) (cutsO (zipO ts bs).length 0 0 es) else []

/-- A row of such rows, of a call's own. -/
def RRow (W : World) (B : Nat) (v : Value) (rs : List (List (Int × Int))) : Prop :=
  ∃ vs : List Value, W.ownsRow B 42 1 v vs.length vs ∧ vs.length = rs.length ∧ ∀ i, i < vs.length → ∃ u, vs[i]? = some u ∧ TsAt W u (rs[i]?.getD []) ∧ (∀ a l c, u = .slice (some a) l c → B ≤ a.block ∧ v.ownBlock ≠ some a.block)
theorem RRow.nil (W : World) (B : Nat) : RRow W B (.slice none 0 0) [] := ⟨[], World.ownsRow_nil _ _ _ _, rfl, fun i hi => by simp at hi⟩
theorem RRow.on {W W' : World} {B : Nat} {v : Value} {rs : List (List (Int × Int))} (h : RRow W B v rs) (hb : Below W.heap.size W W') : RRow W' B v rs := by
  obtain ⟨vs, h1, h2, h3⟩ := h
  exact ⟨vs, ring_own_on h1 hb, h2, fun i hi => by obtain ⟨u, u1, u2, u3⟩ := h3 i hi; exact ⟨u, u1, u2.on hb, u3⟩⟩
theorem TsAt.grown {W W' : World} {r : Option Nat} {u : Value} {ts : List (Int × Int)} (h : TsAt W u ts) (hg : W.grownBy W' r) (hu : ∀ a l c, u = .slice (some a) l c → r ≠ some a.block) : TsAt W' u ts := by
  rcases h with h | ⟨a, c, h1, h2, h3, h4, h5⟩
  · exact .inl h
  · refine .inr ⟨a, c, h1, Nat.lt_of_lt_of_le h2 hg.size, h3, h4, fun i hi => ?_⟩
    have := hu a _ _ h1
    exact ⟨(hg.cell_far (a.add (i * 2)) (by rw [add_block]; exact h2) (by rw [add_block]; exact fun e => this e.symm)).trans (h5 i hi).1, (hg.cell_far ⟨(a.add (i * 2)).block, (a.add (i * 2)).off + 1, none⟩ (by simp only; rw [add_block]; exact h2) (by simp only; rw [add_block]; exact fun e => this e.symm)).trans (h5 i hi).2⟩
theorem TsAt.lt {W : World} {u : Value} {ts : List (Int × Int)} (h : TsAt W u ts) : ∀ a l c, u = .slice (some a) l c → a.block < W.heap.size := by
  intro a l c hu
  rcases h with ⟨h, -⟩ | ⟨a', c', h, h2, -⟩
  · rw [h] at hu; simp at hu
  · rw [h] at hu; simp only [Value.slice.injEq, Option.some.injEq] at hu; rw [← hu.1]; exact h2
/-- A row more. -/
theorem RRow.snoc {W W' : World} {B g c : Nat} {v u : Value} {rs : List (List (Int × Int))} {ts : List (Int × Int)} {vs : List Value} (hvs : vs.length = rs.length)
    (h3 : ∀ i, i < vs.length → ∃ u, vs[i]? = some u ∧ TsAt W u (rs[i]?.getD []) ∧ (∀ a l c, u = .slice (some a) l c → B ≤ a.block ∧ v.ownBlock ≠ some a.block)) (ht : TsAt W u ts) (hu : ∀ a l c, u = .slice (some a) l c → B ≤ a.block ∧ v.ownBlock ≠ some a.block)
    (hown : W'.ownsRow B 42 1 (.slice (some ⟨g, 0, none⟩) (vs.length + 1) c) (vs.length + 1) (vs ++ [u])) (hg : W.grownBy W' v.ownBlock) (hat : v.ownBlock = some g ∨ W.heap.size ≤ g) : RRow W' B (.slice (some ⟨g, 0, none⟩) (rs.length + 1) c) (rs ++ [ts]) := by
  have key : ∀ x tx, TsAt W x tx → (∀ a l c, x = .slice (some a) l c → B ≤ a.block ∧ v.ownBlock ≠ some a.block) → TsAt W' x tx ∧ (∀ a l c', x = .slice (some a) l c' → B ≤ a.block ∧ (Value.slice (some ⟨g, 0, none⟩) (rs.length + 1) c).ownBlock ≠ some a.block) := fun x tx hx hn =>
    ⟨hx.grown hg (fun a l c h => (hn a l c h).2), fun a l c' hxa => ⟨(hn a l c' hxa).1, fun e => by
      simp only [Value.ownBlock, Option.some.injEq] at e
      rcases hat with h | h
      · exact (hn a l c' hxa).2 (by rw [h, e])
      · have := hx.lt a l c' hxa
        omega⟩⟩
  refine ⟨vs ++ [u], by rw [← hvs]; simpa using hown, by simp [hvs], fun i hi => ?_⟩
  rw [List.length_append, List.length_singleton] at hi
  by_cases hlt : i < vs.length
  · obtain ⟨x, x1, x2, x3⟩ := h3 i hlt
    obtain ⟨k1, k2⟩ := key x _ x2 x3
    exact ⟨x, by rw [List.getElem?_append_left hlt]; exact x1, by rw [List.getElem?_append_left (by omega)]; exact k1, k2⟩
  · obtain rfl : i = vs.length := by omega
    obtain ⟨k1, k2⟩ := key u _ ht hu
    exact ⟨u, by simp, by rw [hvs, List.getElem?_append_right (Nat.le_refl _), Nat.sub_self]; exact k1, k2⟩

theorem KeepsOthers.of_below {W W' : World} (h : Below W.heap.size W W') : KeepsOthers W W' := ⟨h.size, fun k _ hk _ => (h.block k (Array.getElem?_eq_some_iff.1 hk).1).trans hk⟩
theorem KeepsOthers.of_grown {W W' : World} {B : Nat} {T : TypeId} {sz n : Nat} {v : Value} {xs : List Value} (h : W.ownsRow B T sz v n xs) (hg : W.grownBy W' v.ownBlock) : KeepsOthers W W' := ⟨hg.size, fun k o hk ho => (hg.block k (Array.getElem?_eq_some_iff.1 hk).1 (fun e => by
  rcases h.2 with ⟨rfl, _⟩ | ⟨g, cap, cur, rfl, _, hh, _⟩
  · simp [Value.ownBlock] at e
  · simp only [Value.ownBlock, Option.some.injEq] at e
    subst e
    rw [hk] at hh
    cases hh
    cases ho)).trans hk⟩
theorem TsAt.kept {W W' : World} {r : Option Nat} {u : Value} {ts : List (Int × Int)} (h : TsAt W u ts) (hg : W.grownBy W' r) (hr : ∀ k, r = some k → ∃ o : Obj, W.heap[k]? = some o ∧ o.isCells = false) : TsAt W' u ts := by
  rcases h with h | ⟨a, c, h1, h2, h3, h4, h5⟩
  · exact .inl h
  · exact .inr ⟨a, c, h1, Nat.lt_of_lt_of_le h2 hg.size, h3, h4, fun i hi => ⟨cell_kept (h5 i hi).1 hg hr, cell_kept (h5 i hi).2 hg hr⟩⟩
theorem RRow.mono {W : World} {B C : Nat} {v : Value} {rs : List (List (Int × Int))} (h : RRow W B v rs) (hC : C ≤ B) : RRow W C v rs := by
  obtain ⟨vs, h1, h2, h3⟩ := h
  exact ⟨vs, own_mono h1 hC, h2, fun i hi => by obtain ⟨u, u1, u2, u3⟩ := h3 i hi; exact ⟨u, u1, u2, fun a l c h => ⟨Nat.le_trans hC (u3 a l c h).1, (u3 a l c h).2⟩⟩⟩
theorem RRow.kept {W W' : World} {r : Option Nat} {B : Nat} {v : Value} {rs : List (List (Int × Int))} (h : RRow W B v rs) (hg : W.grownBy W' r) (hr : ∀ k, r = some k → ∃ o : Obj, W.heap[k]? = some o ∧ o.isCells = false) : RRow W' B v rs := by
  obtain ⟨vs, h1, h2, h3⟩ := h
  exact ⟨vs, own_kept h1 hg hr, h2, fun i hi => by obtain ⟨u, u1, u2, u3⟩ := h3 i hi; exact ⟨u, u1, u2.kept hg hr, u3⟩⟩
theorem TsAt.set {W : World} {u : Value} {ts : List (Int × Int)} (h : TsAt W u ts) (p : Addr) (hp : ∀ a l c, u = .slice (some a) l c → a.block ≠ p.block) (x : Value) : TsAt (W.setCell p x) u ts := by
  rcases h with h | ⟨a, c, h1, h2, h3, h4, h5⟩
  · exact .inl h
  · have := hp _ _ _ h1
    exact .inr ⟨a, c, h1, by simpa using h2, h3, h4, fun i hi => ⟨(World.cell?_setCell_far _ _ _ _ (by rw [add_block]; exact this.symm)).trans (h5 i hi).1, (World.cell?_setCell_far _ _ _ _ (by simp only; rw [add_block]; exact this.symm)).trans (h5 i hi).2⟩⟩
theorem infoPts : (Try.prog.info? 42).map (fun i => (i.zero, i.size, i.bytes)) = some (some (.slice none 0 0), 1, 24) := by kernel_rfl
theorem pieceO_at {W : World} {p : Option Addr} {c : Nat} {ps : List Pn} (h : PtsAt W (.slice p ps.length c) ps) (x : Cut ps.length) (hl : ps.length ≤ 100000) : PtsAt W (pieceV p x) (pieceO ps x) := by
  obtain ⟨a, hv, h0, hg, hcell⟩ := piece_at h x
  rw [hv]
  exact .inr ⟨a, _, rfl, hg, Nat.le_refl _, by have := x.2; rw [pieceO_len]; unfold maxLen; omega, hcell⟩
theorem made_encs (n : Nat) : (madeCells #[.int .i64 0, .int .i64 0, .bool false] (n * 3)).toList = encs (List.replicate n ⟨0, 0, false⟩) := by
  induction n with
  | zero => simp [madeCells, encs]
  | succ n ih =>
    have e : ∀ m, (madeCells #[.int .i64 0, .int .i64 0, .bool false] (m * 3)).toList = (List.range (m * 3)).map (fun j => (#[Value.int .i64 0, .int .i64 0, .bool false] : Array Value)[j % 3]!) := fun m => by simp [madeCells]
    rw [List.replicate_succ', encs_app, ← ih, e, e, show (n + 1) * 3 = n * 3 + 1 + 1 + 1 by omega, List.range_succ, List.range_succ, List.range_succ]
    simp only [List.map_append, List.map_cons, List.map_nil, List.append_assoc]
    rw [show n * 3 % 3 = 0 by omega, show (n * 3 + 1) % 3 = 1 by omega, show (n * 3 + 1 + 1) % 3 = 2 by omega]
    rfl
set_option maxRecDepth 100000 in
set_option maxHeartbeats 2000000 in
theorem lines_any (v1 v2 v3 : Value) (ts : List (Int × Int)) (bs : List Bool) (es : List Int) (w : World) (h1 : TsAt w v1 ts) (h2 : BsAt w v2 bs) (h3 : EndsAt w v3 es) (hl1 : ts.length ≤ 100000) (hl2 : es.length ≤ 100000) :
    Calls Try.prog 29 #[v1, v2, v3] w fun e w' => ∃ v, e = .returned v ∧ RRow w' w.heap.size v (linesR ts bs es) ∧ Below w.heap.size w w' := by
  obtain ⟨p1, c1, rfl⟩ := h1.len
  obtain ⟨p2, c2, rfl⟩ := h2.len
  obtain ⟨p3, c3, rfl⟩ := h3.len
  refine (callsIn_wide (n := 8)).1 ?_
  refine callsIn_of_wp_marks Try.func29 rfl trivial ?_ rfl
  simp only [Try.ntmps29, List.size_toArray, List.length_cons, List.length_nil, Nat.reduceAdd, Nat.reduceSub, Array.replicate_succ, Array.replicate_zero, List.push_toArray, List.append_toArray, List.nil_append, List.cons_append]
  by_cases hlen : bs.length = ts.length
  · obtain ⟨i0, hi, hz0, hz1, hz2⟩ := info_parts infoPoint
    have hR : linesR ts bs es = rowsL (zipO ts bs) (cutsO (zipO ts bs).length 0 0 es) := by unfold linesR; rw [if_pos hlen]
    have HR := Lib.hid hR
    clear hR
    rw [hlen]
    gi_wp2_with (gi_at_make; refine wpListIn_make_full _ rfl _ _ 22 rfl w.heap.size 33 i0 (.agg #[.int .i64 0, .int .i64 0, .bool false]) 3 Try.underlying22 hi hz0 hz1 .i64 .i64 _ _ ts.length rfl rfl rfl rfl (by rw [hz2]; omega) (by unfold maxLen; omega) (Nat.le_refl _) ?_; intro w1 hown hgrow)
    have hown : PRow w1 w.heap.size (.slice (some ⟨w.heap.size, 0, none⟩) ts.length ts.length) (List.replicate ts.length ⟨0, 0, false⟩) := by
      unfold PRow
      rw [List.length_replicate, ← made_encs]
      exact hown
    have hB1 : Below w.heap.size w w1 := (Below.refl _ _).grown hgrow (Nat.le_refl _) (by simp)
    have hg1 : w.heap.size < w1.heap.size := by
      rcases own_form hown with ⟨h, -⟩ | ⟨g, c, h, -, h2, -⟩
      · simp at h
      · simp only [Value.slice.injEq, Option.some.injEq, Addr.mk.injEq] at h
        rw [h.1.1]; exact h2
    have HT := Lib.hid (fun (W : World) (hb : Below w.heap.size w W) i (hi : i < ts.length) => show ∃ a, p1 = some a ∧ W.cell? (a.add (i * 2)) = some (.int .i64 (ts[i]?.getD default).1) ∧ W.cell? ⟨(a.add (i * 2)).block, (a.add (i * 2)).off + 1, none⟩ = some (.int .i64 (ts[i]?.getD default).2) from by
      rcases h1.on hb with ⟨h, hh⟩ | ⟨a, c, h, hg, hlc, hc, hcell⟩
      · rw [hh] at hi; simp at hi
      · simp only [Value.slice.injEq, true_and] at h
        obtain ⟨rfl, rfl⟩ := h
        exact ⟨a, rfl, hcell i hi⟩)
    have HBs := Lib.hid (fun (W : World) (hb : Below w.heap.size w W) i (hi : i < ts.length) => show ∃ a, p2 = some a ∧ W.cell? (a.add i) = some (.bool (bs[i]?.getD default)) from by
      rw [← hlen] at hi
      rcases h2.on hb with ⟨h, hh⟩ | ⟨a, c, h, hg, hlc, hc, hcell⟩
      · rw [hh] at hi; simp at hi
      · simp only [Value.slice.injEq, true_and] at h
        obtain ⟨rfl, rfl⟩ := h
        exact ⟨a, rfl, hcell i hi⟩)
    have hbw := Lib.hid (show ∀ b, p2 = some b → b.block ≠ w.heap.size from fun b hb => by
      rcases h2 with ⟨h, hh⟩ | ⟨a, c, h, hg, -⟩
      · simp only [Value.slice.injEq] at h; rw [h.1] at hb; cases hb
      · simp only [Value.slice.injEq] at h; rw [h.1] at hb; cases hb; omega)
    clear h1 h2 hgrow hlen
    gi_loopw [23] (fun i wr => ∃ (k : Nat) (qs : List Pn), k ≤ ts.length ∧ i = .int .i64 k ∧ qs.length = ts.length ∧ (∀ j, j < k → qs[j]?.getD default = zipAt ts bs j) ∧ PRow wr w.heap.size (.slice (some ⟨w.heap.size, 0, none⟩) ts.length ts.length) qs ∧ Below w.heap.size w wr ∧ w.heap.size < wr.heap.size) (fun i _ => ts.length - (intOf i).toNat)
    case atStart => exact ⟨0, _, by omega, rfl, by simp, fun j hj => by omega, hown, hB1, hg1⟩
    case round =>
      clear hown hB1 hg1
      obtain ⟨k, qs, hk, rfl, hql, hqs, hown, hB, hgs⟩ := hrel
      by_cases hlt : k < ts.length
      · obtain ⟨a, rfl, t1, t2⟩ := HT.out wr hB k hlt
        obtain ⟨b, rfl, b1⟩ := HBs.out wr hB k hlt
        have hza : zipAt ts bs k = ⟨(ts[k]?.getD default).1, (ts[k]?.getD default).2, bs[k]?.getD default⟩ := rfl
        generalize (ts[k]?.getD default).1 = x at *
        generalize (ts[k]?.getD default).2 = y at *
        generalize bs[k]?.getD default = o at *
        have hfr : ∀ j, wr.frozen? ⟨w.heap.size, j, none⟩ = false := fun j => by
          have h := hown
          unfold PRow at h
          rw [hql] at h
          exact World.ownsRow.frozenAt h j
        have f0 := hfr (k * 3)
        have f1 := hfr (k * 3 + 1)
        have f2 := hfr (k * 3 + 2)
        obtain ⟨q1, q2, q3⟩ := encs_get qs k (by omega)
        have qx := World.ownsRow.cells hown (g := w.heap.size) rfl _ _ q1
        have qy := World.ownsRow.cells hown (g := w.heap.size) rfl _ _ q2
        have qo := World.ownsRow.cells hown (g := w.heap.size) rfl _ _ q3
        simp only [Addr.add_lit, Nat.zero_add] at qx qy qo
        have R2 : PRow (((((wr.setCell ⟨w.heap.size, k * 3, none⟩ (.int .i64 x)).setCell ⟨w.heap.size, k * 3 + 1, none⟩ (.int .i64 y)).setCell ⟨w.heap.size, k * 3 + 2, none⟩ (.bool o)).alloc (.cells #[.int .i64 x, .int .i64 y] 52)).drew) w.heap.size (.slice (some ⟨w.heap.size, 0, none⟩) ts.length ts.length) (qs.set k ⟨x, y, o⟩) := by
          have h := hown
          unfold PRow at h ⊢
          rw [hql] at h
          rw [List.length_set, hql, encs_set _ _ _ (by omega)]
          exact World.ownsRow.drew (World.ownsRow.alloc (World.ownsRow.stored (World.ownsRow.stored (World.ownsRow.stored h (k * 3) _).1 (k * 3 + 1) _).1 (k * 3 + 2) _).1 _)
        have hN : ∀ j, j < k + 1 → (qs.set k ⟨x, y, o⟩)[j]?.getD default = zipAt ts bs j := fun j hj => by
          by_cases e : j = k
          · subst e
            rw [List.getElem?_set_self (by omega), hza]
            rfl
          · rw [List.getElem?_set_ne (by omega)]
            exact hqs j (by omega)
        have hN := Lib.hid hN
        have R2 := Lib.hid R2
        have nb1 : a.block < wr.heap.size := by have := World.block_lt_of_cell? wr _ t1; rwa [add_block] at this
        have nb2 : (b.add k).block < wr.heap.size := World.block_lt_of_cell? wr _ b1
        clear hqs hown hfr q1 q2 q3 hza
        gi_wp2
        have nb3 : b.block ≠ w.heap.size := hbw.out b rfl
        refine wpIn_wide.2 ?_
        have nb4 : (b.add k).block ≠ w.heap.size := by rw [add_block]; exact nb3
        have s1 : (((((wr.setCell ⟨w.heap.size, k * 3, none⟩ (.int .i64 x)).setCell ⟨w.heap.size, k * 3 + 1, none⟩ (.int .i64 y)).setCell ⟨w.heap.size, k * 3 + 2, none⟩ (.bool o)).alloc (.cells #[.int .i64 x, .int .i64 y] 52)).drew).cell? ⟨wr.heap.size, 0, none⟩ = some (.int .i64 x) := by simp [go_sem]
        have s2 : (((((wr.setCell ⟨w.heap.size, k * 3, none⟩ (.int .i64 x)).setCell ⟨w.heap.size, k * 3 + 1, none⟩ (.int .i64 y)).setCell ⟨w.heap.size, k * 3 + 2, none⟩ (.bool o)).alloc (.cells #[.int .i64 x, .int .i64 y] 52)).drew).cell? ⟨wr.heap.size, 1, none⟩ = some (.int .i64 y) := by simp [go_sem]
        have s3 : (((((wr.setCell ⟨w.heap.size, k * 3, none⟩ (.int .i64 x)).setCell ⟨w.heap.size, k * 3 + 1, none⟩ (.int .i64 y)).setCell ⟨w.heap.size, k * 3 + 2, none⟩ (.bool o)).alloc (.cells #[.int .i64 x, .int .i64 y] 52)).drew).cell? (b.add k) = some (.bool o) := by
          rw [cell_drew_own, World.cell?_alloc_lt _ _ _ (by simpa using nb2), World.cell?_setCell_far _ _ _ _ nb4.symm, World.cell?_setCell_far _ _ _ _ nb4.symm, World.cell?_setCell_far _ _ _ _ nb4.symm]
          exact b1
        go_region_held3 (fun w' => w'.cell? ⟨wr.heap.size, 0, none⟩ = some (.int .i64 x) ∧ w'.cell? ⟨wr.heap.size, 1, none⟩ = some (.int .i64 y) ∧ w'.cell? (b.add k) = some (.bool o)) (first | go_keep | exact ⟨s1, s2, s3⟩) (fail)
        gi_wp2
        go_roundw
        case rel => exact ⟨k + 1, qs.set k ⟨x, y, o⟩, by omega, by go_num, by rw [List.length_set]; exact hql, hN.out, R2.out, ((((hB.setCell (by simp) _).setCell (by simp) _).setCell (by simp) _).alloc (by simpa using hB.size) _).drew, by simp; omega⟩
        case measure => simp [intOf]; omega
      · obtain rfl : k = ts.length := by omega
        have hqz : qs = zipO ts bs := list_ext_d (by rw [hql, zipO_len]) (fun j hj => by rw [hql] at hj; rw [hqs j hj, zipO_get _ _ _ hj])
        subst hqz
        clear hqs HT HBs
        have hzl := zipO_len ts bs
        obtain ⟨ps, hps⟩ : ∃ ps, zipO ts bs = ps := ⟨_, rfl⟩
        rw [hps] at hown hzl HR
        clear hps
        rw [← hzl] at hown ⊢
        have hpl : ps.length ≤ 100000 := by omega
        clear hzl
        gi_wp2
        refine ⟨trivial, ?_⟩
        refine (cut_in Fence.wide 7 trivial rfl (some ⟨w.heap.size, 0, none⟩) p3 _ _ _ c3 _).mono ?_
        rintro e w' ⟨rfl, rfl⟩
        gi_wp2
        obtain ⟨W0, hW0⟩ : ∃ W0, (((wr.alloc (.cells #[.slice none 0 0] 45)).alloc (.cells #[.slice (some ⟨w.heap.size, 0, none⟩) ps.length ps.length] 22)).alloc (.cells #[.slice p3 es.length c3] 23)) = W0 := ⟨_, rfl⟩
        have hsz : W0.heap.size = wr.heap.size + 1 + 1 + 1 := by rw [← hW0]; simp
        have hb0 : Below wr.heap.size wr W0 := by rw [← hW0]; exact (((Below.refl _ _).alloc (Nat.le_refl _) _).alloc (by simp) _).alloc (by simp; omega) _
        have hB0 : Below w.heap.size w W0 := hB.trans (hb0.mono hB.size)
        have hBwr := hB.size
        have hG0 : W0.cell? ⟨wr.heap.size, 0, none⟩ = some (.slice none 0 0) := by rw [← hW0]; simp [go_sem]
        have hF0 : W0.frozen? ⟨wr.heap.size, 0, none⟩ = false := by rw [← hW0]; simp [go_sem]
        have hP : W0.cell? ⟨wr.heap.size + 1, 0, none⟩ = some (.slice (some ⟨w.heap.size, 0, none⟩) ps.length ps.length) := by rw [← hW0]; simp [go_sem]
        have hE : W0.cell? ⟨wr.heap.size + 1 + 1, 0, none⟩ = some (.slice p3 es.length c3) := by rw [← hW0]; simp [go_sem]
        have hR0 : PRow W0 w.heap.size (.slice (some ⟨w.heap.size, 0, none⟩) ps.length ps.length) ps := hown.on hb0 (Nat.le_refl _)
        rw [hW0]
        clear hW0 hown
        obtain ⟨bs', hbs⟩ : ∃ bs' : List Nat, bs' = (wr.heap.size + 1) :: (p3.map (·.block)).toList := ⟨_, rfl⟩
        have hbl : ∀ b ∈ bs', b < W0.heap.size ∧ b ≠ wr.heap.size ∧ b ≠ w.heap.size := by
          intro b hb
          rw [hbs] at hb
          rcases List.mem_cons.1 hb with rfl | hb
          · omega
          · simp only [Option.mem_toList, Option.map_eq_some_iff] at hb
            obtain ⟨a, ha, rfl⟩ := hb
            have h : a.block < w.heap.size := by
              rcases h3 with ⟨h, _⟩ | ⟨a', c', h, hg, _⟩
              · simp only [Value.slice.injEq] at h; rw [h.1] at ha; cases ha
              · simp only [Value.slice.injEq] at h; rw [h.1] at ha; cases ha; exact hg
            have := hB.size
            omega
        refine wpIn_rangeFunc_ownF rfl (by omega) (gf := 48) (lb := #[.pointer (some ⟨wr.heap.size + 1 + 1, 0, none⟩), .pointer (some ⟨wr.heap.size + 1, 0, none⟩)]) rfl trivial (enters_of Try.func48 (by kernel_rfl) rfl)
          (cut_stops Fence.wide 7 trivial rfl (by omega) (wr.heap.size + 1 + 1) (wr.heap.size + 1) bs' (by rw [hbs]; simp) (.slice p3 es.length c3) (some ⟨w.heap.size, 0, none⟩) ps.length ps.length (Nat.le_refl _) (fun _ => ⟨_, rfl⟩) hpl es hl2 W0 (h3.on hB0) ?hb (by omega) hE hP)
          KeepB.trans (keepB_b (fun b hb => (hbl b hb).1)) (Below.refl _ _) (fun _ => rfl)
          (fun pre W => ((∃ v, W.cell? ⟨wr.heap.size, 0, none⟩ = some v ∧ RRow W W0.heap.size v (rowsL ps pre)) ∧ W.frozen? ⟨wr.heap.size, 0, none⟩ = false ∧ PRow W w.heap.size (.slice (some ⟨w.heap.size, 0, none⟩) ps.length ps.length) ps) ∧ Below w.heap.size w W ∧ W0.heap.size ≤ W.heap.size)
          (fun _ _ _ => False)
          (OwnFrom.and (Own.from (fun s A B row hs hg hr => by obtain ⟨⟨v, h1, h2⟩, h3, h4⟩ := hs; exact ⟨⟨v, cell_kept h1 hg hr, h2.kept hg hr⟩, (frozen_kept h1 hg hr).trans h3, own_kept h4 hg hr⟩) _) (OwnFrom.and (ownFrom_below (Nat.le_refl _) (by have := hB0.size; omega)) (fun s A B row hs hg hr => Nat.le_trans hs hg.size)))
          (fun _ => fun _ _ _ _ hs _ _ => hs)
          ⟨⟨⟨_, hG0, RRow.nil _ _⟩, hF0, hR0⟩, hB0, Nat.le_refl _⟩ (fun x => { tmps := #[.slice p1 ps.length c1, .slice p2 ps.length c2, .slice p3 es.length c3, undef, undef, undef, .slice none 0 0, .slice (some ⟨w.heap.size, 0, none⟩) ps.length ps.length, u8, u9, .pointer (some ⟨wr.heap.size, 0, none⟩), undef, pieceV (some ⟨w.heap.size, 0, none⟩) x, .slice p2 ps.length c2, .int .i64 ps.length, .slice p1 ps.length c1, .int .i64 ps.length, .bool false, .slice p1 ps.length c1, .int .i64 ps.length, .slice (some ⟨w.heap.size, 0, none⟩) ps.length ps.length, .slice p1 ps.length c1, .int .i64 ps.length, .int .i64 ps.length, .bool false, u25, u26, u27, u28, u29, u30, u31, u32, u33, u34, u35, u36, u37, u38, u39, u40, .slice (some ⟨w.heap.size, 0, none⟩) ps.length ps.length, .slice p3 es.length c3, .func (.func 48) #[] #[.pointer (some ⟨wr.heap.size + 1 + 1, 0, none⟩), .pointer (some ⟨wr.heap.size + 1, 0, none⟩)], .int .i64 (x.1.1 : Int), pieceV (some ⟨w.heap.size, 0, none⟩) x, undef, undef, undef, undef, undef, undef, undef, undef, undef], defers := [] }) ?assign ?body ?done ?stop
        case hb =>
          intro a l c h
          simp only [Value.slice.injEq] at h
          rw [hbs, h.1]
          simp
        case assign =>
          intro l x W K hK
          gi_wp2
          exact hK
        case body =>
          rintro l pre x W ⟨⟨⟨v, hv, hrr⟩, hf, hown⟩, hB, hWz⟩ _
          have hx := x.2
          obtain ⟨vs, hvo, hvl, hvs⟩ := hrr
          obtain ⟨j0, hj, hj0, hj1, hj2⟩ := info_parts infoPts
          have hq := pieceO_at hown.at x hpl
          have hql : (pieceO ps x).length ≤ 100000 := by rw [pieceO_len]; omega
          have hq0 : 0 < (pieceO ps x).length := by rw [pieceO_len]; omega
          have hre : rowsL ps (pre ++ [x]) = rowsL ps pre ++ [rowO (pieceO ps x)] := by simp [rowsL]
          have hrl : (rowsL ps pre).length = pre.length := by simp [rowsL]
          have hpre : pre.length < es.length := by assumption
          have hvsz : vs.length ≤ 100000 := by omega
          have hTW := cell_lt hv
          simp only at hTW
          have hne : v.ownBlock ≠ some wr.heap.size := fun e => by have := (World.ownsRow.lt hvo _ e).1; omega
          have hGW : w.heap.size < W.heap.size := by have := hB.size; have := hB0.size; omega
          have FIN := Lib.hid (fun (w2 : World) (t : Value) (g2 cap2 : Nat) (w4 : World) (hb : Below W.heap.size W w2) (ht : TsAt w2 t (rowO (pieceO ps x))) (hn : ∀ a l c, t = .slice (some a) l c → W.heap.size ≤ a.block) (hown4 : w4.ownsRow W0.heap.size 42 1 (.slice (some ⟨g2, 0, none⟩) (vs.length + 1) cap2) (vs.length + 1) (vs ++ [t])) (hgrow : (w2.alloc (.cells #[t] 42)).grownBy w4 v.ownBlock) (hat : v.ownBlock = some g2 ∨ g2 = w2.heap.size + 1) (hv4 : w4.cell? ⟨wr.heap.size, 0, none⟩ = some v) => show KeepsOthers W (w4.setCell ⟨wr.heap.size, 0, none⟩ (.slice (some ⟨g2, 0, none⟩) (vs.length + 1) cap2)) ∧ KeepB bs' W (w4.setCell ⟨wr.heap.size, 0, none⟩ (.slice (some ⟨g2, 0, none⟩) (vs.length + 1) cap2)) ∧ ((∃ v, (w4.setCell ⟨wr.heap.size, 0, none⟩ (.slice (some ⟨g2, 0, none⟩) (vs.length + 1) cap2)).cell? ⟨wr.heap.size, 0, none⟩ = some v ∧ RRow (w4.setCell ⟨wr.heap.size, 0, none⟩ (.slice (some ⟨g2, 0, none⟩) (vs.length + 1) cap2)) W0.heap.size v (rowsL ps (pre ++ [x]))) ∧ (w4.setCell ⟨wr.heap.size, 0, none⟩ (.slice (some ⟨g2, 0, none⟩) (vs.length + 1) cap2)).frozen? ⟨wr.heap.size, 0, none⟩ = false ∧ PRow (w4.setCell ⟨wr.heap.size, 0, none⟩ (.slice (some ⟨g2, 0, none⟩) (vs.length + 1) cap2)) w.heap.size (.slice (some ⟨w.heap.size, 0, none⟩) ps.length ps.length) ps) ∧ Below w.heap.size w (w4.setCell ⟨wr.heap.size, 0, none⟩ (.slice (some ⟨g2, 0, none⟩) (vs.length + 1) cap2)) ∧ W0.heap.size ≤ (w4.setCell ⟨wr.heap.size, 0, none⟩ (.slice (some ⟨g2, 0, none⟩) (vs.length + 1) cap2)).heap.size from by
            have hF3 : Below W.heap.size W (w2.alloc (.cells #[t] 42)) := hb.alloc hb.size _
            have ht3 : TsAt (w2.alloc (.cells #[t] 42)) t (rowO (pieceO ps x)) := ht.on ((Below.refl _ _).alloc (Nat.le_refl _) _)
            have ho3 := ring_own_on hvo hF3
            have hvlt : ∀ g, v.ownBlock = some g → W0.heap.size ≤ g ∧ g < W.heap.size := fun g hg => World.ownsRow.lt hvo g hg
            have hR4 : RRow w4 W0.heap.size (.slice (some ⟨g2, 0, none⟩) ((rowsL ps pre).length + 1) cap2) (rowsL ps pre ++ [rowO (pieceO ps x)]) := RRow.snoc hvl (fun i hi => by obtain ⟨u, u1, u2, u3⟩ := hvs i hi; exact ⟨u, u1, u2.on hF3, u3⟩) ht3 (fun a l c h => ⟨Nat.le_trans hWz (hn a l c h), fun e => by have := hn a l c h; have := (hvlt _ e).2; omega⟩) hown4 hgrow (hat.imp id (fun h => by rw [h]; simp))
            have hko : KeepsOthers W w4 := (KeepsOthers.of_below hF3).trans (KeepsOthers.of_grown ho3 hgrow)
            have hsz4 : W.heap.size ≤ w4.heap.size := Nat.le_trans hF3.size hgrow.size
            have hcell4 : ∀ a : Addr, a.block < W.heap.size → v.ownBlock ≠ some a.block → w4.cell? a = W.cell? a := fun a ha hn' => (hgrow.cell_far a (Nat.lt_of_lt_of_le ha hF3.size) (fun e => hn' e.symm)).trans (hF3.cell ha)
            have hg2 : W0.heap.size ≤ g2 := by rcases hat with h | h; exact (hvlt _ h).1; (have := hb.size; omega)
            have hB4 : Below w.heap.size w w4 := (hB.trans (hF3.mono hB.size)).grown hgrow (hB.trans (hF3.mono hB.size)).size (fun g hg => by have := (hvlt g hg).1; have := hB0.size; omega)
            have hown4' : PRow w4 w.heap.size (.slice (some ⟨w.heap.size, 0, none⟩) ps.length ps.length) ps := by
              refine ⟨hown.1, ?_⟩
              rcases hown.2 with h | ⟨g, cap, cur, e, hg, hh, r⟩
              · exact .inl h
              · refine .inr ⟨g, cap, cur, e, hg, ?_, r⟩
                have he : g = w.heap.size := by simp only [Value.slice.injEq, Option.some.injEq, Addr.mk.injEq] at e; exact e.1.1.symm
                have hlt3 : g < (w2.alloc (.cells #[t] 42)).heap.size := by have := hF3.size; omega
                rw [hgrow.block g hlt3 (fun e' => by have := (hvlt _ e'.symm).1; have := hB0.size; omega), hF3.block g (by omega)]
                exact hh
            refine ⟨hko.trans (KeepsOthers.setCell _ _ _), ⟨by simpa using hsz4, fun a ha => ?_⟩, ⟨⟨.slice (some ⟨g2, 0, none⟩) (vs.length + 1) cap2, by simp [go_sem, hv4], ?_⟩, ?_, ?_⟩, hB4.setCell (by simpa using hBwr) _, by simp; omega⟩
            · rw [World.cell?_setCell_far _ _ _ _ (fun e => (hbl _ ha).2.1 e.symm)]
              exact hcell4 a (Nat.lt_of_lt_of_le (hbl _ ha).1 hWz) (fun e => by have := (hvlt _ e).1; have := (hbl _ ha).1; omega)
            · rw [hre, hvl]
              obtain ⟨us, u1, u2, u3⟩ := hR4
              refine ⟨us, ownsRow_setCell_below u1 (by simp; omega) _, u2, fun i hi => ?_⟩
              obtain ⟨u, k1, k2, k3⟩ := u3 i hi
              exact ⟨u, k1, k2.set _ (fun a l c h e => by have := (k3 a l c h).1; simp only at e; omega) _, k3⟩
            · simp only [World.frozen?_setCell]
              exact (hgrow.frozen_far ⟨wr.heap.size, 0, none⟩ (Nat.lt_of_lt_of_le hTW hF3.size) (fun e => hne e.symm)).trans ((hF3.frozen (p := ⟨wr.heap.size, 0, none⟩) hTW).trans hf)
            · exact ownsRow_setCell_other hown4' (by simp [Value.ownBlock]; omega) _)
          obtain ⟨P, hP⟩ : ∃ P, pieceV (some ⟨w.heap.size, 0, none⟩) x = P := ⟨_, rfl⟩
          rw [hP] at hq ⊢
          generalize pieceO ps x = q at *
          have h1 := Lib.hid (fun (W' : World) (hb : Below W.heap.size W W') => show Calls Try.prog 44 #[P] W' fun e w' => ∃ r, e = .returned (.tuple #[r, .int .i64 (startN q : Int)]) ∧ PRow w' W'.heap.size r (ringL q q.length) ∧ Below W'.heap.size W' w' from by
            have h := ring_walk P q W' (hq.on hb) (by omega)
            rw [startN_eq q hq0] at h
            exact h)
          have hrg := ringL_ge q q.length
          have hrl2 := ringL_len q q.length
          have hsn := startN_le q
          clear hP hvl hrl
          have hbd : Below W.heap.size W W.drew := (Below.refl _ _).drew
          gi_wp2
          refine wpIn_round_held (S := fun _ => True) (by kernel_rfl) (by kernel_rfl) trivial (fun _ => ?_)
          refine wpAnyH_take (i := 1) (oi := _) (v := P) rfl (by kernel_rfl) (by kernel_rfl) (by kernel_rfl) (fun _ _ _ h => by cases h.1) (Or.inl ⟨by rfl, fun w' hS => by go_simp⟩) trivial ?_
          try simp only [Act.put, List.getElem_toArray, List.getElem_cons_succ, List.getElem_cons_zero, List.setIfInBounds_toArray, List.set_cons_zero, List.set_cons_succ]
          refine wpAnyH_ready (rs := [0, 2]) (by kernel_rfl) (by simp) ?_
          refine AllReadyH.cons (o := _) rfl (fun K hK => ?_) ?_
          · go_simp
            refine hK.out _ _ trivial (fun _ => ?_)
            clear hK K
            try simp only [Act.put, List.getElem_toArray, List.getElem_cons_succ, List.getElem_cons_zero, List.setIfInBounds_toArray, List.set_cons_zero, List.set_cons_succ]
            refine wpAnyH_ready (rs := [2]) (by kernel_rfl) (by simp) ?_
            refine AllReadyH.cons (o := _) rfl (fun K hK => ?_) AllReadyH.nil
            go_simp
            refine (h1.out _ (hbd)).mono ?_
            rintro e w1 ⟨r, rfl, hr1, hb1⟩
            go_wp2_with fail
            have F1 : Below W.heap.size W w1 := (hbd).trans (hb1.mono (hbd).size)
            have hv1 : w1.cell? ⟨wr.heap.size, 0, none⟩ = some v := (F1.cell (p := ⟨wr.heap.size, 0, none⟩) hTW).trans hv
            refine hK.out _ _ trivial (fun _ => ?_)
            clear hK K
            try simp only [Act.put, List.getElem_toArray, List.getElem_cons_succ, List.getElem_cons_zero, List.setIfInBounds_toArray, List.set_cons_zero, List.set_cons_succ]
            refine wpAnyH_take (i := 3) (oi := _) (v := r) rfl (by kernel_rfl) (by kernel_rfl) (by kernel_rfl) (fun _ _ _ h => by cases h.1) (Or.inl ⟨by rfl, fun w' hS => by go_simp⟩) trivial ?_
            try simp only [Act.put, List.getElem_toArray, List.getElem_cons_succ, List.getElem_cons_zero, List.setIfInBounds_toArray, List.set_cons_zero, List.set_cons_succ]
            refine wpAnyH_take (i := 4) (oi := _) (v := .int .i64 (startN q : Int)) rfl (by kernel_rfl) (by kernel_rfl) (by kernel_rfl) (fun _ _ _ h => by cases h.1) (Or.inl ⟨by rfl, fun w' hS => by go_simp⟩) trivial ?_
            try simp only [Act.put, List.getElem_toArray, List.getElem_cons_succ, List.getElem_cons_zero, List.setIfInBounds_toArray, List.set_cons_zero, List.set_cons_succ]
            refine wpAnyH_ready (rs := [5]) (by kernel_rfl) (by simp) ?_
            refine AllReadyH.cons (o := _) rfl (fun K hK => ?_) AllReadyH.nil
            go_simp
            refine (once_any r (ringL q q.length) (startN q) w1 hr1.at (by omega) (by omega) (by omega)).mono ?_
            rintro e w2 ⟨t, rfl, ht, hb2, hnt⟩
            obtain ⟨pt, ct, rfl⟩ := ht.len
            go_wp2_with fail
            have F2 : Below W.heap.size W w2 := F1.trans (hb2.mono F1.size)
            have hv2 : w2.cell? ⟨wr.heap.size, 0, none⟩ = some v := (F2.cell (p := ⟨wr.heap.size, 0, none⟩) hTW).trans hv
            refine hK.out _ _ trivial (fun _ => ?_)
            clear hK K
            try simp only [Act.put, List.getElem_toArray, List.getElem_cons_succ, List.getElem_cons_zero, List.setIfInBounds_toArray, List.set_cons_zero, List.set_cons_succ]
            refine wpAnyH_ready (rs := [6]) (by kernel_rfl) (by simp) ?_
            refine AllReadyH.cons (o := _) rfl (fun K hK => ?_) AllReadyH.nil
            go_simp
            have F3 : Below W.heap.size W (w2.alloc (.cells #[(.slice pt (onceO (ringL q q.length) (startN q)).length ct)] 42)) := F2.alloc F2.size _
            have hv3 : (w2.alloc (.cells #[(.slice pt (onceO (ringL q q.length) (startN q)).length ct)] 42)).cell? ⟨wr.heap.size, 0, none⟩ = some v := (F3.cell (p := ⟨wr.heap.size, 0, none⟩) hTW).trans hv
            refine hK.out _ _ trivial (fun _ => ?_)
            clear hK K
            try simp only [Act.put, List.getElem_toArray, List.getElem_cons_succ, List.getElem_cons_zero, List.setIfInBounds_toArray, List.set_cons_zero, List.set_cons_succ]
            refine wpAnyH_ready (rs := [7]) (by kernel_rfl) (by simp) ?_
            refine AllReadyH.cons (o := _) rfl (fun K hK => ?_) AllReadyH.nil
            refine step_append_lies _ (by rfl) _ _ _ (by rfl) W0.heap.size 42 j0 _ 1 24 Try.underlying45 hj hj0 hj1 hj2 rfl (by omega) v vs.length vs (by rfl) (ring_own_on hvo F3) ⟨w2.heap.size, 0, none⟩ 1 1 [(.slice pt (onceO (ringL q q.length) (startN q)).length ct)] (by rfl) (by rfl) (World.news_of_block (cs := #[(.slice pt (onceO (ringL q q.length) (startN q)).length ct)]) (t := 42) (fr := (0, 0)) (heap_alloc_new w2 _)) (by simp [Value.oneCell']) (by omega) (by unfold maxLen; omega) (by omega) (by have := F2.size; simp; omega) (w2.heap.size + 1) (by simp) ?_
            intro g2 cap2 w4 hown4 hgrow hat hlt2
            have hv4 : w4.cell? ⟨wr.heap.size, 0, none⟩ = some v := (hgrow.cell_far ⟨wr.heap.size, 0, none⟩ (by have := F2.size; simp; omega) (fun e => hne e.symm)).trans ((F3.cell (p := ⟨wr.heap.size, 0, none⟩) hTW).trans hv)
            have hf4 : w4.frozen? ⟨wr.heap.size, 0, none⟩ = false := (hgrow.frozen_far ⟨wr.heap.size, 0, none⟩ (by have := F2.size; simp; omega) (fun e => hne e.symm)).trans ((F3.frozen (p := ⟨wr.heap.size, 0, none⟩) hTW).trans hf)
            refine hK.out _ _ trivial (fun _ => ?_)
            clear hK K
            try simp only [Act.put, List.getElem_toArray, List.getElem_cons_succ, List.getElem_cons_zero, List.setIfInBounds_toArray, List.set_cons_zero, List.set_cons_succ]
            refine wpAnyH_ready (rs := [8]) (by kernel_rfl) (by simp) ?_
            refine AllReadyH.cons (o := _) rfl (fun K hK => ?_) AllReadyH.nil
            go_simp
            refine hK.out _ _ trivial (fun _ => ?_)
            clear hK K
            try simp only [Act.put, List.getElem_toArray, List.getElem_cons_succ, List.getElem_cons_zero, List.setIfInBounds_toArray, List.set_cons_zero, List.set_cons_succ]
            refine wpAnyH_done (by kernel_rfl) ?_ _
            refine ⟨rfl, ?_⟩
            try gi_wp2
            exact FIN.out _ _ _ _ _ F2 ht (fun a l c h => Nat.le_trans F1.size (hnt a l c h)) hown4 hgrow hat hv4
          refine AllReadyH.cons (o := _) rfl (fun K hK => ?_) AllReadyH.nil
          go_simp
          refine (h1.out _ (hbd)).mono ?_
          rintro e w1 ⟨r, rfl, hr1, hb1⟩
          go_wp2_with fail
          have F1 : Below W.heap.size W w1 := (hbd).trans (hb1.mono (hbd).size)
          have hv1 : w1.cell? ⟨wr.heap.size, 0, none⟩ = some v := (F1.cell (p := ⟨wr.heap.size, 0, none⟩) hTW).trans hv
          refine hK.out _ _ trivial (fun _ => ?_)
          clear hK K
          try simp only [Act.put, List.getElem_toArray, List.getElem_cons_succ, List.getElem_cons_zero, List.setIfInBounds_toArray, List.set_cons_zero, List.set_cons_succ]
          refine wpAnyH_take (i := 3) (oi := _) (v := r) rfl (by kernel_rfl) (by kernel_rfl) (by kernel_rfl) (fun _ _ _ h => by cases h.1) (Or.inl ⟨by rfl, fun w' hS => by go_simp⟩) trivial ?_
          try simp only [Act.put, List.getElem_toArray, List.getElem_cons_succ, List.getElem_cons_zero, List.setIfInBounds_toArray, List.set_cons_zero, List.set_cons_succ]
          refine wpAnyH_take (i := 4) (oi := _) (v := .int .i64 (startN q : Int)) rfl (by kernel_rfl) (by kernel_rfl) (by kernel_rfl) (fun _ _ _ h => by cases h.1) (Or.inl ⟨by rfl, fun w' hS => by go_simp⟩) trivial ?_
          try simp only [Act.put, List.getElem_toArray, List.getElem_cons_succ, List.getElem_cons_zero, List.setIfInBounds_toArray, List.set_cons_zero, List.set_cons_succ]
          refine wpAnyH_ready (rs := [0, 5]) (by kernel_rfl) (by simp) ?_
          refine AllReadyH.cons (o := _) rfl (fun K hK => ?_) ?_
          · go_simp
            refine hK.out _ _ trivial (fun _ => ?_)
            clear hK K
            try simp only [Act.put, List.getElem_toArray, List.getElem_cons_succ, List.getElem_cons_zero, List.setIfInBounds_toArray, List.set_cons_zero, List.set_cons_succ]
            refine wpAnyH_ready (rs := [5]) (by kernel_rfl) (by simp) ?_
            refine AllReadyH.cons (o := _) rfl (fun K hK => ?_) AllReadyH.nil
            go_simp
            refine (once_any r (ringL q q.length) (startN q) w1 hr1.at (by omega) (by omega) (by omega)).mono ?_
            rintro e w2 ⟨t, rfl, ht, hb2, hnt⟩
            obtain ⟨pt, ct, rfl⟩ := ht.len
            go_wp2_with fail
            have F2 : Below W.heap.size W w2 := F1.trans (hb2.mono F1.size)
            have hv2 : w2.cell? ⟨wr.heap.size, 0, none⟩ = some v := (F2.cell (p := ⟨wr.heap.size, 0, none⟩) hTW).trans hv
            refine hK.out _ _ trivial (fun _ => ?_)
            clear hK K
            try simp only [Act.put, List.getElem_toArray, List.getElem_cons_succ, List.getElem_cons_zero, List.setIfInBounds_toArray, List.set_cons_zero, List.set_cons_succ]
            refine wpAnyH_ready (rs := [6]) (by kernel_rfl) (by simp) ?_
            refine AllReadyH.cons (o := _) rfl (fun K hK => ?_) AllReadyH.nil
            go_simp
            have F3 : Below W.heap.size W (w2.alloc (.cells #[(.slice pt (onceO (ringL q q.length) (startN q)).length ct)] 42)) := F2.alloc F2.size _
            have hv3 : (w2.alloc (.cells #[(.slice pt (onceO (ringL q q.length) (startN q)).length ct)] 42)).cell? ⟨wr.heap.size, 0, none⟩ = some v := (F3.cell (p := ⟨wr.heap.size, 0, none⟩) hTW).trans hv
            refine hK.out _ _ trivial (fun _ => ?_)
            clear hK K
            try simp only [Act.put, List.getElem_toArray, List.getElem_cons_succ, List.getElem_cons_zero, List.setIfInBounds_toArray, List.set_cons_zero, List.set_cons_succ]
            refine wpAnyH_ready (rs := [7]) (by kernel_rfl) (by simp) ?_
            refine AllReadyH.cons (o := _) rfl (fun K hK => ?_) AllReadyH.nil
            refine step_append_lies _ (by rfl) _ _ _ (by rfl) W0.heap.size 42 j0 _ 1 24 Try.underlying45 hj hj0 hj1 hj2 rfl (by omega) v vs.length vs (by rfl) (ring_own_on hvo F3) ⟨w2.heap.size, 0, none⟩ 1 1 [(.slice pt (onceO (ringL q q.length) (startN q)).length ct)] (by rfl) (by rfl) (World.news_of_block (cs := #[(.slice pt (onceO (ringL q q.length) (startN q)).length ct)]) (t := 42) (fr := (0, 0)) (heap_alloc_new w2 _)) (by simp [Value.oneCell']) (by omega) (by unfold maxLen; omega) (by omega) (by have := F2.size; simp; omega) (w2.heap.size + 1) (by simp) ?_
            intro g2 cap2 w4 hown4 hgrow hat hlt2
            have hv4 : w4.cell? ⟨wr.heap.size, 0, none⟩ = some v := (hgrow.cell_far ⟨wr.heap.size, 0, none⟩ (by have := F2.size; simp; omega) (fun e => hne e.symm)).trans ((F3.cell (p := ⟨wr.heap.size, 0, none⟩) hTW).trans hv)
            have hf4 : w4.frozen? ⟨wr.heap.size, 0, none⟩ = false := (hgrow.frozen_far ⟨wr.heap.size, 0, none⟩ (by have := F2.size; simp; omega) (fun e => hne e.symm)).trans ((F3.frozen (p := ⟨wr.heap.size, 0, none⟩) hTW).trans hf)
            refine hK.out _ _ trivial (fun _ => ?_)
            clear hK K
            try simp only [Act.put, List.getElem_toArray, List.getElem_cons_succ, List.getElem_cons_zero, List.setIfInBounds_toArray, List.set_cons_zero, List.set_cons_succ]
            refine wpAnyH_ready (rs := [8]) (by kernel_rfl) (by simp) ?_
            refine AllReadyH.cons (o := _) rfl (fun K hK => ?_) AllReadyH.nil
            go_simp
            refine hK.out _ _ trivial (fun _ => ?_)
            clear hK K
            try simp only [Act.put, List.getElem_toArray, List.getElem_cons_succ, List.getElem_cons_zero, List.setIfInBounds_toArray, List.set_cons_zero, List.set_cons_succ]
            refine wpAnyH_done (by kernel_rfl) ?_ _
            refine ⟨rfl, ?_⟩
            try gi_wp2
            exact FIN.out _ _ _ _ _ F2 ht (fun a l c h => Nat.le_trans F1.size (hnt a l c h)) hown4 hgrow hat hv4
          refine AllReadyH.cons (o := _) rfl (fun K hK => ?_) AllReadyH.nil
          go_simp
          refine (once_any r (ringL q q.length) (startN q) w1 hr1.at (by omega) (by omega) (by omega)).mono ?_
          rintro e w2 ⟨t, rfl, ht, hb2, hnt⟩
          obtain ⟨pt, ct, rfl⟩ := ht.len
          go_wp2_with fail
          have F2 : Below W.heap.size W w2 := F1.trans (hb2.mono F1.size)
          have hv2 : w2.cell? ⟨wr.heap.size, 0, none⟩ = some v := (F2.cell (p := ⟨wr.heap.size, 0, none⟩) hTW).trans hv
          refine hK.out _ _ trivial (fun _ => ?_)
          clear hK K
          try simp only [Act.put, List.getElem_toArray, List.getElem_cons_succ, List.getElem_cons_zero, List.setIfInBounds_toArray, List.set_cons_zero, List.set_cons_succ]
          refine wpAnyH_ready (rs := [0, 6]) (by kernel_rfl) (by simp) ?_
          refine AllReadyH.cons (o := _) rfl (fun K hK => ?_) ?_
          · go_simp
            refine hK.out _ _ trivial (fun _ => ?_)
            clear hK K
            try simp only [Act.put, List.getElem_toArray, List.getElem_cons_succ, List.getElem_cons_zero, List.setIfInBounds_toArray, List.set_cons_zero, List.set_cons_succ]
            refine wpAnyH_ready (rs := [6]) (by kernel_rfl) (by simp) ?_
            refine AllReadyH.cons (o := _) rfl (fun K hK => ?_) AllReadyH.nil
            go_simp
            have F3 : Below W.heap.size W (w2.alloc (.cells #[(.slice pt (onceO (ringL q q.length) (startN q)).length ct)] 42)) := F2.alloc F2.size _
            have hv3 : (w2.alloc (.cells #[(.slice pt (onceO (ringL q q.length) (startN q)).length ct)] 42)).cell? ⟨wr.heap.size, 0, none⟩ = some v := (F3.cell (p := ⟨wr.heap.size, 0, none⟩) hTW).trans hv
            refine hK.out _ _ trivial (fun _ => ?_)
            clear hK K
            try simp only [Act.put, List.getElem_toArray, List.getElem_cons_succ, List.getElem_cons_zero, List.setIfInBounds_toArray, List.set_cons_zero, List.set_cons_succ]
            refine wpAnyH_ready (rs := [7]) (by kernel_rfl) (by simp) ?_
            refine AllReadyH.cons (o := _) rfl (fun K hK => ?_) AllReadyH.nil
            refine step_append_lies _ (by rfl) _ _ _ (by rfl) W0.heap.size 42 j0 _ 1 24 Try.underlying45 hj hj0 hj1 hj2 rfl (by omega) v vs.length vs (by rfl) (ring_own_on hvo F3) ⟨w2.heap.size, 0, none⟩ 1 1 [(.slice pt (onceO (ringL q q.length) (startN q)).length ct)] (by rfl) (by rfl) (World.news_of_block (cs := #[(.slice pt (onceO (ringL q q.length) (startN q)).length ct)]) (t := 42) (fr := (0, 0)) (heap_alloc_new w2 _)) (by simp [Value.oneCell']) (by omega) (by unfold maxLen; omega) (by omega) (by have := F2.size; simp; omega) (w2.heap.size + 1) (by simp) ?_
            intro g2 cap2 w4 hown4 hgrow hat hlt2
            have hv4 : w4.cell? ⟨wr.heap.size, 0, none⟩ = some v := (hgrow.cell_far ⟨wr.heap.size, 0, none⟩ (by have := F2.size; simp; omega) (fun e => hne e.symm)).trans ((F3.cell (p := ⟨wr.heap.size, 0, none⟩) hTW).trans hv)
            have hf4 : w4.frozen? ⟨wr.heap.size, 0, none⟩ = false := (hgrow.frozen_far ⟨wr.heap.size, 0, none⟩ (by have := F2.size; simp; omega) (fun e => hne e.symm)).trans ((F3.frozen (p := ⟨wr.heap.size, 0, none⟩) hTW).trans hf)
            refine hK.out _ _ trivial (fun _ => ?_)
            clear hK K
            try simp only [Act.put, List.getElem_toArray, List.getElem_cons_succ, List.getElem_cons_zero, List.setIfInBounds_toArray, List.set_cons_zero, List.set_cons_succ]
            refine wpAnyH_ready (rs := [8]) (by kernel_rfl) (by simp) ?_
            refine AllReadyH.cons (o := _) rfl (fun K hK => ?_) AllReadyH.nil
            go_simp
            refine hK.out _ _ trivial (fun _ => ?_)
            clear hK K
            try simp only [Act.put, List.getElem_toArray, List.getElem_cons_succ, List.getElem_cons_zero, List.setIfInBounds_toArray, List.set_cons_zero, List.set_cons_succ]
            refine wpAnyH_done (by kernel_rfl) ?_ _
            refine ⟨rfl, ?_⟩
            try gi_wp2
            exact FIN.out _ _ _ _ _ F2 ht (fun a l c h => Nat.le_trans F1.size (hnt a l c h)) hown4 hgrow hat hv4
          refine AllReadyH.cons (o := _) rfl (fun K hK => ?_) AllReadyH.nil
          go_simp
          have F3 : Below W.heap.size W (w2.alloc (.cells #[(.slice pt (onceO (ringL q q.length) (startN q)).length ct)] 42)) := F2.alloc F2.size _
          have hv3 : (w2.alloc (.cells #[(.slice pt (onceO (ringL q q.length) (startN q)).length ct)] 42)).cell? ⟨wr.heap.size, 0, none⟩ = some v := (F3.cell (p := ⟨wr.heap.size, 0, none⟩) hTW).trans hv
          refine hK.out _ _ trivial (fun _ => ?_)
          clear hK K
          try simp only [Act.put, List.getElem_toArray, List.getElem_cons_succ, List.getElem_cons_zero, List.setIfInBounds_toArray, List.set_cons_zero, List.set_cons_succ]
          refine wpAnyH_ready (rs := [0]) (by kernel_rfl) (by simp) ?_
          refine AllReadyH.cons (o := _) rfl (fun K hK => ?_) AllReadyH.nil
          go_simp
          refine hK.out _ _ trivial (fun _ => ?_)
          clear hK K
          try simp only [Act.put, List.getElem_toArray, List.getElem_cons_succ, List.getElem_cons_zero, List.setIfInBounds_toArray, List.set_cons_zero, List.set_cons_succ]
          refine wpAnyH_ready (rs := [7]) (by kernel_rfl) (by simp) ?_
          refine AllReadyH.cons (o := _) rfl (fun K hK => ?_) AllReadyH.nil
          refine step_append_lies _ (by rfl) _ _ _ (by rfl) W0.heap.size 42 j0 _ 1 24 Try.underlying45 hj hj0 hj1 hj2 rfl (by omega) v vs.length vs (by rfl) (ring_own_on hvo F3) ⟨w2.heap.size, 0, none⟩ 1 1 [(.slice pt (onceO (ringL q q.length) (startN q)).length ct)] (by rfl) (by rfl) (World.news_of_block (cs := #[(.slice pt (onceO (ringL q q.length) (startN q)).length ct)]) (t := 42) (fr := (0, 0)) (heap_alloc_new w2 _)) (by simp [Value.oneCell']) (by omega) (by unfold maxLen; omega) (by omega) (by have := F2.size; simp; omega) (w2.heap.size + 1) (by simp) ?_
          intro g2 cap2 w4 hown4 hgrow hat hlt2
          have hv4 : w4.cell? ⟨wr.heap.size, 0, none⟩ = some v := (hgrow.cell_far ⟨wr.heap.size, 0, none⟩ (by have := F2.size; simp; omega) (fun e => hne e.symm)).trans ((F3.cell (p := ⟨wr.heap.size, 0, none⟩) hTW).trans hv)
          have hf4 : w4.frozen? ⟨wr.heap.size, 0, none⟩ = false := (hgrow.frozen_far ⟨wr.heap.size, 0, none⟩ (by have := F2.size; simp; omega) (fun e => hne e.symm)).trans ((F3.frozen (p := ⟨wr.heap.size, 0, none⟩) hTW).trans hf)
          refine hK.out _ _ trivial (fun _ => ?_)
          clear hK K
          try simp only [Act.put, List.getElem_toArray, List.getElem_cons_succ, List.getElem_cons_zero, List.setIfInBounds_toArray, List.set_cons_zero, List.set_cons_succ]
          refine wpAnyH_ready (rs := [8]) (by kernel_rfl) (by simp) ?_
          refine AllReadyH.cons (o := _) rfl (fun K hK => ?_) AllReadyH.nil
          go_simp
          refine hK.out _ _ trivial (fun _ => ?_)
          clear hK K
          try simp only [Act.put, List.getElem_toArray, List.getElem_cons_succ, List.getElem_cons_zero, List.setIfInBounds_toArray, List.set_cons_zero, List.set_cons_succ]
          refine wpAnyH_done (by kernel_rfl) ?_ _
          refine ⟨rfl, ?_⟩
          try gi_wp2
          exact FIN.out _ _ _ _ _ F2 ht (fun a l c h => Nat.le_trans F1.size (hnt a l c h)) hown4 hgrow hat hv4
        case done =>
          rintro D xs W hD rfl ⟨⟨⟨v, hv, hrr⟩, hf, hown⟩, hB, hWz⟩ hK
          gi_wp2
          refine ⟨by simp, .inl ⟨_, _, rfl, run_takeDeferred hK, ?_⟩⟩
          refine ⟨_, results_tmp rfl _ _ _, ⟨v, rfl, ?_, hB.trans (belowK_b (w := w) (Nat.le_refl _) W D _ _ (by have := hB0.size; omega) hK rfl rfl)⟩⟩
          rw [HR.out]
          have h := hrr.kept (grownBy_putObj' W D (.deferred none)) (fun r e => by cases e; exact ⟨_, hK, rfl⟩)
          exact h.mono (by have := hB0.size; omega)
        case stop =>
          rintro D c pre W _ _ h _
          exact h.elim
  · have hR : linesR ts bs es = [] := by unfold linesR; rw [if_neg hlen]
    rw [hR]
    gi_wp2
    exact ⟨_, results_tmp rfl _ _ _, ⟨_, rfl, RRow.nil _ _, Below.refl _ _⟩⟩
end Go.Proofs.Ytenmgbcbnofcmaa
