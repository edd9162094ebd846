/- Plain facts on ratios as rational numbers, for the ratio laws: nothing of the program. -/
import Derived.Test.YtnbloflgggndiaaRatPlain
namespace Go.Proofs.Ytnbloflgggndiaa.Rt

/-- Whether a rational fits into a ratio's two numbers. -/
def fitsQ (q : Rat) : Bool := decide (-9223372036854775808 < q.num ∧ q.num ≤ 9223372036854775807 ∧ (q.den : Int) ≤ 9223372036854775807)
/-- What fits is told. -/
def cutQ (o : Option Rat) : Option Rat := o.filter fitsQ
def numO (o : Option Rat) : Int := match o with | some q => q.num | none => 0
def denO (o : Option Rat) : Int := match o with | some q => q.den | none => 0
def okO (o : Option Rat) : Bool := o.isSome
/-- The rational that two numbers are, if they are a ratio that may be. -/
def rawO (N D : Int) : Option Rat := if mayB N D then some (Rat.divInt N D) else none
def makeO (n d : Int) : Option Rat := if d = 0 then none else some (Rat.divInt n d)
def addO (a b : Option Rat) : Option Rat := match a, b with | some x, some y => some (x + y) | _, _ => none
def subO (a b : Option Rat) : Option Rat := match a, b with | some x, some y => some (x - y) | _, _ => none
def mulO (a b : Option Rat) : Option Rat := match a, b with | some x, some y => some (x * y) | _, _ => none
def divO (a b : Option Rat) : Option Rat := match a, b with | some x, some y => if y = 0 then none else some (x / y) | _, _ => none

theorem cutQ_none : cutQ none = none := rfl
theorem cutQ_yes {q : Rat} (h : fitsQ q = true) : cutQ (some q) = some q := by simp [cutQ, Option.filter, h]
theorem cutQ_no {q : Rat} (h : fitsQ q = false) : cutQ (some q) = none := by simp [cutQ, Option.filter, h]

/-- What mayB says. -/
theorem mayB_iff (N D : Int) : mayB N D = true ↔ 0 < D ∧ N ≠ -9223372036854775808 ∧ Int.gcd N D = 1 := by
  unfold mayB
  simp
theorem rawO_some {N D : Int} {q : Rat} (h : rawO N D = some q) : q.num = N ∧ (q.den : Int) = D ∧ mayB N D = true := by
  unfold rawO at h
  split at h
  · rename_i hm
    obtain ⟨h1, h2, h3⟩ := (mayB_iff N D).1 hm
    obtain rfl : Rat.divInt N D = q := by simpa using h
    refine ⟨?_, ?_, hm⟩
    · rw [Rat.num_divInt, Int.gcd_comm, h3, Int.sign_eq_one_of_pos h1]
      simp
    · rw [Rat.den_divInt, Int.gcd_comm, h3, if_neg (by omega)]
      simp
      omega
  · simp at h
theorem rawO_mk (q : Rat) (h : q.num ≠ -9223372036854775808) : rawO q.num q.den = some q := by
  have hm : mayB q.num q.den = true := (mayB_iff _ _).2 ⟨by have := q.den_pos; omega, h, q.reduced⟩
  unfold rawO
  rw [if_pos hm, Rat.num_divInt_den]
theorem rawO_none {N D : Int} (h : mayB N D = false) : rawO N D = none := by
  unfold rawO
  simp [h]
theorem rawO_is {N D : Int} (h : mayB N D = true) : ∃ q, rawO N D = some q := by
  unfold rawO
  simp [h]
/-- What was told is read again as what it is. -/
theorem rawO_cut (o : Option Rat) : rawO (numO (cutQ o)) (denO (cutQ o)) = cutQ o := by
  cases h : cutQ o with
  | none =>
    show rawO 0 0 = none
    exact rawO_none (by decide)
  | some q =>
    have hf : fitsQ q = true := by
      unfold cutQ at h
      exact (Option.filter_eq_some_iff.1 h).2
    show rawO q.num q.den = some q
    refine rawO_mk q ?_
    simp [fitsQ] at hf
    omega
theorem cut_cut (o : Option Rat) : cutQ (cutQ o) = cutQ o := by
  unfold cutQ
  rw [Option.filter_filter]
  simp
/-- What is told fits into 64 bits. -/
theorem cut_bd (o : Option Rat) : -9223372036854775808 < numO (cutQ o) ∧ numO (cutQ o) ≤ 9223372036854775807 ∧ 0 ≤ denO (cutQ o) ∧ denO (cutQ o) ≤ 9223372036854775807 := by
  cases h : cutQ o with
  | none => simp [numO, denO]
  | some q =>
    have hf : fitsQ q = true := by
      unfold cutQ at h
      exact (Option.filter_eq_some_iff.1 h).2
    simp [fitsQ] at hf
    simp only [numO, denO]
    omega

/-! Made. -/
theorem make_num (n d : Int) (hd : d ≠ 0) (mn md : Int) (h1 : mn = n.natAbs) (h2 : md = d.natAbs) : sg (decide (n < 0) != decide (d < 0)) (mn / (Int.gcd mn md : Nat)) = (Rat.divInt n d).num := by
  subst h1 h2
  rw [Rat.num_divInt]
  have hg : (Int.gcd (n.natAbs : Int) (d.natAbs : Int) : Nat) = Int.gcd d n := by
    rw [Int.gcd_comm]
    simp
    rfl
  rw [hg]
  have hdv : ((Int.gcd d n : Nat) : Int) ∣ n := Int.gcd_dvd_right ..
  generalize (Int.gcd d n) = g at *
  by_cases a : n < 0
  · have e1 : ((n.natAbs : Nat) : Int) = -n := by omega
    by_cases b : d < 0
    · have e2 : d.sign = -1 := Int.sign_eq_neg_one_of_neg b
      simp [a, b, e1, e2, sg]
    · have e2 : d.sign = 1 := Int.sign_eq_one_of_pos (by omega)
      simp [a, b, e1, e2, sg]
      rw [Int.neg_ediv_of_dvd hdv, Int.neg_neg]
  · have e1 : ((n.natAbs : Nat) : Int) = n := by omega
    by_cases b : d < 0
    · have e2 : d.sign = -1 := Int.sign_eq_neg_one_of_neg b
      simp [a, b, e1, e2, sg]
      rw [Int.neg_ediv_of_dvd hdv]
    · have e2 : d.sign = 1 := Int.sign_eq_one_of_pos (by omega)
      simp [a, b, e1, e2, sg]
theorem make_den (n d : Int) (hd : d ≠ 0) (mn md : Int) (h1 : mn = n.natAbs) (h2 : md = d.natAbs) : md / (Int.gcd mn md : Nat) = ((Rat.divInt n d).den : Int) := by
  subst h1 h2
  rw [Rat.den_divInt, if_neg hd]
  have hg : (Int.gcd (n.natAbs : Int) (d.natAbs : Int) : Nat) = Int.gcd d n := by
    rw [Int.gcd_comm]
    simp
    rfl
  rw [hg]
  simp

/-! Sums. -/
theorem add_parts (a b : Rat) (t : Int) (g g1 : Nat) (hg : g = a.den.gcd b.den) (ht : t = a.num * ((b.den / g : Nat) : Int) + b.num * ((a.den / g : Nat) : Int)) (h1 : g1 = t.natAbs.gcd g) :
    (a + b).num = t / (g1 : Int) ∧ (a + b).den = a.den / g * (b.den / g1) := by
  have hgp : 0 < g := hg ▸ Nat.gcd_pos_of_pos_left _ a.den_pos
  have hga : g ∣ a.den := hg ▸ Nat.gcd_dvd_left ..
  have hgb : g ∣ b.den := hg ▸ Nat.gcd_dvd_right ..
  have ea : a.den / g * g = a.den := Nat.div_mul_cancel hga
  have eb : b.den / g * g = b.den := Nat.div_mul_cancel hgb
  have hx := Rat.add.aux a b hg rfl rfl
  simp only at hx
  rw [← ht, ← h1] at hx
  have hd0 : a.den / g * b.den ≠ 0 := Nat.mul_ne_zero (by have := a.den_pos; intro h; rw [h] at ea; omega) b.den_nz
  have e : a + b = mkRat t (a.den / g * b.den) := by
    rw [Rat.add_def', ← Rat.mkRat_mul_left (show g ≠ 0 by omega) (n := t) (d := a.den / g * b.den)]
    congr 1
    · rw [ht]
      have ea' : (a.den : Int) = (g : Int) * ((a.den / g : Nat) : Int) := by rw [← Int.natCast_mul, Nat.mul_comm, ea]
      have eb' : (b.den : Int) = (g : Int) * ((b.den / g : Nat) : Int) := by rw [← Int.natCast_mul, Nat.mul_comm, eb]
      generalize ((a.den / g : Nat) : Int) = u at *
      generalize ((b.den / g : Nat) : Int) = v at *
      rw [ea', eb']
      grind
    · rw [← Nat.mul_assoc, Nat.mul_comm g, ea]
  rw [e, Rat.num_mkRat, Rat.den_mkRat, if_neg hd0, if_neg hd0, Nat.gcd_comm, ← hx]
  refine ⟨rfl, ?_⟩
  have : g1 ∣ b.den := Nat.dvd_trans (h1 ▸ Nat.gcd_dvd_right ..) hgb
  rw [Nat.mul_div_assoc _ this]

/-! Products. -/
theorem mul_parts (a b : Rat) (g1 g2 : Nat) (h1 : g1 = a.num.natAbs.gcd b.den) (h2 : g2 = b.num.natAbs.gcd a.den) :
    (a * b).num = a.num / (g1 : Int) * (b.num / (g2 : Int)) ∧ (a * b).den = a.den / g2 * (b.den / g1) := by
  subst h1 h2
  have d1 : ((a.num.natAbs.gcd b.den : Nat) : Int) ∣ a.num := Rat.normalize.dvd_num rfl
  have d2 : ((b.num.natAbs.gcd a.den : Nat) : Int) ∣ b.num := Rat.normalize.dvd_num rfl
  constructor
  · show (Rat.mul a b).num = _
    rw [Rat.mul]
    simp only [Int.divExact_eq_ediv]
  · show (Rat.mul a b).den = _
    rw [Rat.mul]
    simp only [Nat.divExact_eq_div]

theorem numO_cut_yes {q : Rat} (h : fitsQ q = true) : numO (cutQ (some q)) = q.num ∧ denO (cutQ (some q)) = q.den ∧ okO (cutQ (some q)) = true := by
  rw [cutQ_yes h]
  exact ⟨rfl, rfl, rfl⟩
theorem numO_cut_no {q : Rat} (h : fitsQ q = false) : numO (cutQ (some q)) = 0 ∧ denO (cutQ (some q)) = 0 ∧ okO (cutQ (some q)) = false := by
  rw [cutQ_no h]
  exact ⟨rfl, rfl, rfl⟩

theorem sg_abs {p : Bool} {x v : Int} (h : sg p x = v) (h0 : 0 ≤ x) : x = v.natAbs := by
  unfold sg at h
  cases p <;> simp at h <;> omega
theorem sg_div {p : Bool} {x v g : Int} (h : sg p x = v) (hd : g ∣ v) : sg p (x / g) = v / g := by
  unfold sg at *
  cases p
  · simp at h
    simp [h]
  · simp at h
    obtain rfl : x = -v := by omega
    simp
    rw [Int.neg_ediv_of_dvd hd, Int.neg_neg]
theorem gcd_rest (x c : Int) (hx : 0 ≤ x) (hc : 0 ≤ c) : Int.gcd (x % c) c = Int.gcd x c := by
  rw [Int.gcd_comm, gcd_step x c hx hc]
/-- A sum's two numbers, as the program comes to them. -/
theorem add_end (a b : Rat) (c u v t x g : Int) (p : Bool) (hc : c = (Int.gcd (a.den : Int) (b.den : Int) : Nat)) (hu : u = a.den / c) (hv : v = b.den / c) (ht : t = a.num * v + b.num * u)
    (hx : 0 ≤ x) (hs : sg p x = t) (hg : g = (Int.gcd (x % c) c : Nat)) : sg p (x / g) = (a + b).num ∧ u * ((b.den : Int) / g) = (a + b).den := by
  have e1 : (Int.gcd (a.den : Int) (b.den : Int) : Nat) = Nat.gcd a.den b.den := by simp
  rw [e1] at hc
  have hx2 := sg_abs hs hx
  have e2 : Int.gcd (x % c) c = t.natAbs.gcd (Nat.gcd a.den b.den) := by
    rw [gcd_rest x c hx (by omega), hx2, hc]
    simp
  rw [e2] at hg
  have hu2 : u = ((a.den / Nat.gcd a.den b.den : Nat) : Int) := by rw [hu, hc, Int.natCast_ediv]
  have hv2 : v = ((b.den / Nat.gcd a.den b.den : Nat) : Int) := by rw [hv, hc, Int.natCast_ediv]
  have P := add_parts a b t _ _ rfl (by rw [ht, hu2, hv2]) rfl
  have hd : g ∣ t := by
    rw [hg]
    exact Int.dvd_natAbs.1 (Int.ofNat_dvd.2 (Nat.gcd_dvd_left ..))
  rw [sg_div hs hd, P.1, P.2, hg, hu2]
  exact ⟨rfl, by simp⟩
theorem add_bd (N v : Int) (h1 : -9223372036854775808 ≤ N) (h2 : N ≤ 9223372036854775807) (h3 : 0 ≤ v) (h4 : v ≤ 9223372036854775807) (p : Bool) (x : Int) (hx : 0 ≤ x) (hs : sg p x = N * v) :
    x ≤ 85070591730234615865843651857942052864 := by
  have e := sg_abs hs hx
  rw [Int.natAbs_mul] at e
  rw [e, Int.natCast_mul]
  have := Int.mul_le_mul (show (N.natAbs : Int) ≤ 9223372036854775808 by omega) (show (v.natAbs : Int) ≤ 9223372036854775808 by omega) (by omega) (by omega)
  omega

/-! Differences, quotients, as the program comes to them. -/
def neg64 (N : Int) : Int := if N = -9223372036854775808 then N else -N
theorem rawO_neg (N D : Int) (h2 : N ≤ 9223372036854775807) : rawO (neg64 N) D = (rawO N D).map fun q => -q := by
  unfold neg64
  split
  · rename_i h
    have : mayB N D = false := by
      unfold mayB
      simp [h]
    rw [rawO_none this]
    rfl
  · rename_i h
    unfold rawO
    have e : mayB (-N) D = mayB N D := by
      rw [Bool.eq_iff_iff, mayB_iff, mayB_iff, Int.neg_gcd]
      constructor
      · intro k
        exact ⟨k.1, h, k.2.2⟩
      · intro k
        exact ⟨k.1, by omega, k.2.2⟩
    rw [e]
    split
    · simp [Rat.neg_divInt]
    · rfl
theorem sub_add (a b : Option Rat) : subO a b = addO a (b.map fun q => -q) := by
  cases a <;> cases b <;> simp [subO, addO, Rat.sub_eq_add_neg]
theorem rawO_inv_pos {N D : Int} {q : Rat} (h : rawO N D = some q) (hN : 0 < N) (hD : D ≤ 9223372036854775807) : rawO D N = some q⁻¹ := by
  obtain ⟨h1, h2, h3⟩ := rawO_some h
  have hp := ((mayB_iff _ _).1 h3)
  have e := rawO_mk q⁻¹ (by rw [Rat.num_inv, h1, h2, Int.sign_eq_one_of_pos hN]; omega)
  rw [Rat.num_inv, Rat.den_inv, h1, h2, Int.sign_eq_one_of_pos hN, if_neg (by omega)] at e
  rw [show ((N.natAbs : Nat) : Int) = N by omega, Int.one_mul] at e
  exact e
theorem rawO_inv_neg {N D : Int} {q : Rat} (h : rawO N D = some q) (hN : N < 0) (hD : D ≤ 9223372036854775807) : rawO (-D) (-N) = some q⁻¹ := by
  obtain ⟨h1, h2, h3⟩ := rawO_some h
  have hp := ((mayB_iff _ _).1 h3)
  have e := rawO_mk q⁻¹ (by rw [Rat.num_inv, h1, h2, Int.sign_eq_neg_one_of_neg hN]; omega)
  rw [Rat.num_inv, Rat.den_inv, h1, h2, Int.sign_eq_neg_one_of_neg hN, if_neg (by omega)] at e
  rw [show ((N.natAbs : Nat) : Int) = -N by omega, show (-1 : Int) * D = -D by omega] at e
  exact e
theorem div_mul {a : Option Rat} {q : Rat} (h : q ≠ 0) : divO a (some q) = mulO a (some q⁻¹) := by
  cases a
  · rfl
  · simp [divO, mulO, h, Rat.div_def]
theorem raw_zero {D : Int} {q : Rat} (h : rawO 0 D = some q) : q = 0 := by
  have := (rawO_some h).1
  exact Rat.num_eq_zero.1 this
theorem raw_nonzero {N D : Int} {q : Rat} (h : rawO N D = some q) (hN : N ≠ 0) : q ≠ 0 := by
  have := (rawO_some h).1
  intro k
  rw [k] at this
  exact hN this.symm
/-- A product's two numbers, as the program comes to them. -/
theorem mul_end (a b : Rat) (mn1 mn2 g1 g2 : Int) (h1 : mn1 = a.num.natAbs) (h2 : mn2 = b.num.natAbs) (hg1 : g1 = (Int.gcd mn1 (b.den : Int) : Nat)) (hg2 : g2 = (Int.gcd mn2 (a.den : Int) : Nat)) :
    sg (decide (a.num < 0) != decide (b.num < 0)) (mn1 / g1 * (mn2 / g2)) = (a * b).num ∧ (a.den : Int) / g2 * ((b.den : Int) / g1) = (a * b).den := by
  subst h1 h2
  have e1 : (Int.gcd (a.num.natAbs : Int) (b.den : Int) : Nat) = a.num.natAbs.gcd b.den := by simp
  have e2 : (Int.gcd (b.num.natAbs : Int) (a.den : Int) : Nat) = b.num.natAbs.gcd a.den := by simp
  rw [e1] at hg1
  rw [e2] at hg2
  have P := mul_parts a b _ _ rfl rfl
  rw [← hg1, ← hg2] at P
  have d1 : g1 ∣ a.num := by rw [hg1]; exact Rat.normalize.dvd_num rfl
  have d2 : g2 ∣ b.num := by rw [hg2]; exact Rat.normalize.dvd_num rfl
  constructor
  · rw [P.1]
    have s1 : ∀ n g : Int, g ∣ n → (n.natAbs : Int) / g = if n < 0 then -(n / g) else n / g := by
      intro n g hd
      split
      · rw [show ((n.natAbs : Nat) : Int) = -n by omega, Int.neg_ediv_of_dvd hd]
      · rw [show ((n.natAbs : Nat) : Int) = n by omega]
    rw [s1 _ _ d1, s1 _ _ d2]
    by_cases x : a.num < 0 <;> by_cases y : b.num < 0 <;> simp [x, y, sg, Int.neg_mul, Int.mul_neg]
  · rw [P.2, hg1, hg2]
    simp
end Go.Proofs.Ytnbloflgggndiaa.Rt
