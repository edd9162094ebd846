/- The contract of the reference's Times, as numbers. -/
import Derived.Test.YtnbloflgggndiaaRefTimes
namespace Go.Proofs.Ytnbloflgggndiaa
open Go.RowKit Rf Rt

theorem Rf.sg_mul (n m : Int) : sg (decide (n < 0) != decide (m < 0)) ((n.natAbs * m.natAbs : Nat) : Int) = n * m := by
  rw [Int.natCast_mul]
  by_cases a : n < 0
  · have e1 : ((n.natAbs : Nat) : Int) = -n := by omega
    by_cases b : m < 0
    · have e2 : ((m.natAbs : Nat) : Int) = -m := by omega
      simp only [a, b, e1, e2, sg]
      simp [Int.neg_mul, Int.mul_neg]
    · have e2 : ((m.natAbs : Nat) : Int) = m := by omega
      simp only [a, b, e1, e2, sg]
      simp [Int.neg_mul]
  · have e1 : ((n.natAbs : Nat) : Int) = n := by omega
    by_cases b : m < 0
    · have e2 : ((m.natAbs : Nat) : Int) = -m := by omega
      simp only [a, b, e1, e2, sg]
      simp [Int.mul_neg]
    · have e2 : ((m.natAbs : Nat) : Int) = m := by omega
      simp only [a, b, e1, e2, sg]
      simp

theorem rtimes_any (w : World) (n m : Int) (x y : Value) (B1 B2 : Nat) (hx : NumIs n B1 w x) (hy : NumIs m B2 w y) (hn : n.natAbs < 65536 ^ 100) (hm : m.natAbs < 65536 ^ 100) :
    Calls Try.prog 34 #[x, y] w (NumR (n * m) w) := by
  obtain ⟨p1, c1, ds1, rfl, hr1, hm1, hd1⟩ := hx.form
  obtain ⟨p2, c2, ds2, rfl, hr2, hm2, hd2⟩ := hy.form
  have l1 := hm1.len (L := 100) (by rw [hd1]; exact hn)
  have l2 := hm2.len (L := 100) (by rw [hd2]; exact hm)
  refine rtimes_walk w _ _ (n * m) c1 c2 B1 B2 p1 p2 ds1 ds2 hr1 hr2 hm1.dig hm2.dig (by omega) (by omega) (Lib.hid fun w1 v B os hr hd hl he => ?_)
  rw [← sg_mul n m, ← hd1, ← hd2, ← he]
  exact whole_any w1 _ v B os hr (by omega) hd

end Go.Proofs.Ytnbloflgggndiaa
