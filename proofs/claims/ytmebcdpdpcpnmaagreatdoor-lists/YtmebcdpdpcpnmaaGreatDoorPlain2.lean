import Derived.Test.YtmebcdpdpcpnmaaGreatDoorPlain
/- Plain mathematics: which level is better; the best price. -/
namespace Mk

def betterB (d s d' s' : Int) : Bool := if less d s ≠ less d' s' then decide (less d' s' < less d s) else decide (apart d s < apart d' s')

/-- the best of the prices 1 .. n + 1 -/
def best (l : List Ord) : Nat → Nat
  | 0 => 1
  | n + 1 => if betterB (dem l ((n + 2 : Nat) : Int)) (sup l ((n + 2 : Nat) : Int)) (dem l (best l n)) (sup l (best l n)) then n + 2 else best l n

theorem best_no (l : List Ord) (k : Nat) (h : betterB (dem l ((k : Int) + 2)) (sup l ((k : Int) + 2)) (dem l (best l k)) (sup l (best l k)) = false) : best l (k + 1) = best l k := by
  have e : ((k + 2 : Nat) : Int) = (k : Int) + 2 := by omega
  rw [best, e, h]; simp
theorem best_yes (l : List Ord) (k : Nat) (h : betterB (dem l ((k : Int) + 2)) (sup l ((k : Int) + 2)) (dem l (best l k)) (sup l (best l k)) = true) : best l (k + 1) = k + 2 := by
  have e : ((k + 2 : Nat) : Int) = (k : Int) + 2 := by omega
  rw [best, e, h]; simp

theorem best_bd (l : List Ord) (n : Nat) : 1 ≤ best l n ∧ best l n ≤ n + 1 := by
  induction n with
  | zero => simp [best]
  | succ n ih => unfold best; split <;> omega

/-- how much can be traded at a price, and how far the sides are apart -/
def vol (l : List Ord) (p : Int) : Int := less (dem l p) (sup l p)
def gap (l : List Ord) (p : Int) : Int := apart (dem l p) (sup l p)

theorem better_iff (l : List Ord) (p q : Int) : betterB (dem l p) (sup l p) (dem l q) (sup l q) = true ↔ (vol l q < vol l p ∨ vol l p = vol l q ∧ gap l p < gap l q) := by
  unfold betterB vol gap
  split <;> simp <;> omega

theorem best_is (l : List Ord) (n : Nat) : ∀ q : Nat, 1 ≤ q → q ≤ n + 1 →
    vol l q ≤ vol l (best l n) ∧ (vol l q = vol l (best l n) → gap l (best l n) ≤ gap l q ∧ (gap l q = gap l (best l n) → best l n ≤ q)) := by
  induction n with
  | zero => intro q h1 h2; obtain rfl : q = 1 := by omega
            simp [best]
  | succ n ih =>
    intro q h1 h2
    have hb := best_bd l n
    have e := better_iff l ((n + 2 : Nat) : Int) (best l n)
    unfold best
    split
    · rename_i hbt
      have hbt' := e.1 hbt
      by_cases hq : q = n + 2
      · subst hq; simp
      · have := ih q h1 (by omega)
        omega
    · rename_i hbt
      have hbt' := (not_congr e).1 hbt
      by_cases hq : q = n + 2
      · subst hq; omega
      · exact ih q h1 (by omega)

end Mk
