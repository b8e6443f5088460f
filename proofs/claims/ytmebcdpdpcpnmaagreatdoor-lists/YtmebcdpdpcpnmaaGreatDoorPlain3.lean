import Derived.Test.YtmebcdpdpcpnmaaGreatDoorPlain2
/- Plain mathematics: who is served before whom; sums and counts over the first n numbers. -/
namespace Mk

def sumn (f : Nat → Int) : Nat → Int
  | 0 => 0
  | k + 1 => sumn f k + f k

def cnt (P : Nat → Bool) : Nat → Nat
  | 0 => 0
  | k + 1 => cnt P k + if P k then 1 else 0

/-- is j served before i? -/
def aheadB (Z : Nat → Int) (i j : Nat) : Bool := decide (Z i < Z j) || (decide (Z j = Z i) && decide (j < i))
def place (Z : Nat → Int) (n i : Nat) : Nat := cnt (aheadB Z i) n

theorem cnt_le (P : Nat → Bool) (n : Nat) : cnt P n ≤ n := by
  induction n with
  | zero => simp [cnt]
  | succ k ih => simp only [cnt]; split <;> omega

theorem cnt_yes {P : Nat → Bool} {k : Nat} (h : P k = true) : ((cnt P (k + 1) : Nat) : Int) = (cnt P k : Int) + 1 := by simp [cnt, h]
theorem cnt_no {P : Nat → Bool} {k : Nat} (h : P k = false) : ((cnt P (k + 1) : Nat) : Int) = (cnt P k : Int) := by simp [cnt, h]

theorem ahead_iff (Z : Nat → Int) (i j : Nat) : aheadB Z i j = true ↔ (Z i < Z j ∨ Z j = Z i ∧ j < i) := by simp [aheadB]
theorem ahead_yes {Z : Nat → Int} {i k : Nat} (h : Z i < Z k ∨ Z k = Z i ∧ k < i) : ((cnt (aheadB Z i) k : Nat) : Int) + 1 = (cnt (aheadB Z i) (k + 1) : Nat) := (cnt_yes ((ahead_iff Z i k).2 h)).symm
theorem ahead_no {Z : Nat → Int} {i k : Nat} (h : ¬ (Z i < Z k ∨ Z k = Z i ∧ k < i)) : ((cnt (aheadB Z i) k : Nat) : Int) = (cnt (aheadB Z i) (k + 1) : Nat) := (cnt_no (by rw [← Bool.not_eq_true, ahead_iff]; exact h)).symm

end Mk
