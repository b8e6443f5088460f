import Derived.Test.YtmebcdpdpcpnmaaGreatDoorJ4
/- Plain mathematics: the document's share is the program's. -/
namespace Mk

def aheadN (a b : Int) (i k : Nat) : Bool := decide (b < a) || (decide (a = b) && decide (i < k))
def inSide (l : List Ord) (p : Int) (b : Bool) (j : Nat) : Bool := willB (l.getD j ozero).sell (l.getD j ozero).price p && (l.getD j ozero).sell == b
def rpart (l : List Ord) (p v t : Int) (b : Bool) (j : Nat) : Int := if inSide l p b j then v * (l.getD j ozero).qty / t else 0
def rahead (l : List Ord) (p v t : Int) (i j : Nat) : Bool := inSide l p (l.getD i ozero).sell j && aheadN (v * (l.getD j ozero).qty % t) (v * (l.getD i ozero).qty % t) j i
def rshare (l : List Ord) (p v t : Int) (i : Nat) : Int :=
  v * (l.getD i ozero).qty / t + if (cnt (rahead l p v t i) l.length : Int) < v - sumn (rpart l p v t (l.getD i ozero).sell) l.length then 1 else 0

section
variable {l : List Ord} {p : Int}

theorem L0_unwilling (i : Nat) (h : willB (l.getD i ozero).sell (l.getD i ozero).price p = false) : L0 l (dem l p) (sup l p) p i = 0 ∧ G0 l (dem l p) (sup l p) p i = 0 := by
  obtain ⟨e1, e2⟩ := share_no (d := dem l p) (s := sup l p) (p := p) (o := l.getD i ozero) (.inr h)
  exact ⟨e2, e1⟩
theorem L0_willing (hV : 1 ≤ vol l p) (i : Nat) (h : willB (l.getD i ozero).sell (l.getD i ozero).price p = true) :
    L0 l (dem l p) (sup l p) p i = vol l p * (l.getD i ozero).qty % sideT (dem l p) (sup l p) (l.getD i ozero).sell ∧ G0 l (dem l p) (sup l p) p i = vol l p * (l.getD i ozero).qty / sideT (dem l p) (sup l p) (l.getD i ozero).sell := by
  obtain ⟨h1, h2⟩ := one_le hV
  obtain ⟨e1, e2⟩ := share_yes (d := dem l p) (s := sup l p) (p := p) (o := l.getD i ozero) (by rw [tot_of]; unfold sideT; split <;> assumption) h
  exact ⟨e2, e1⟩

theorem part_sum (hV : 1 ≤ vol l p) (b : Bool) : sumn (rpart l p (vol l p) (sideT (dem l p) (sup l p) b) b) l.length = sideSum l b (G0 l (dem l p) (sup l p) p) := by
  unfold sideSum
  refine sumn_congr (fun j _ => ?_)
  unfold rpart inSide
  rcases Bool.eq_false_or_eq_true (willB (l.getD j ozero).sell (l.getD j ozero).price p) with hw | hw
  · by_cases hs : (l.getD j ozero).sell = b
    · rw [hw, if_pos hs, (L0_willing hV j hw).2, hs]; simp
    · rw [hw, if_neg hs]
      have : ((l.getD j ozero).sell == b) = false := by simpa using hs
      rw [this]; simp
  · rw [hw, (L0_unwilling j hw).2]; simp

/-- THE DOCUMENT's SHARE of a willing order is the program's -/
theorem rshare_is (hV : 1 ≤ vol l p) {i : Nat} (hw : willB (l.getD i ozero).sell (l.getD i ozero).price p = true) :
    rshare l p (vol l p) (sideT (dem l p) (sup l p) (l.getD i ozero).sell) i = getsf l (dem l p) (sup l p) p i := by
  obtain ⟨eL, eG⟩ := L0_willing hV i hw
  unfold rshare getsf
  rw [← eG, part_sum hV]
  congr 1
  by_cases hb : (l.getD i ozero).sell = long l p
  · rw [hb, ← left_is hV]
    by_cases hz : 0 < L0 l (dem l p) (sup l p) p i
    · have e : cnt (rahead l p (vol l p) (sideT (dem l p) (sup l p) (long l p)) i) l.length = place (L0 l (dem l p) (sup l p) p) l.length i := by
        unfold place
        refine cnt_congr (fun j _ => ?_)
        unfold rahead inSide
        rcases Bool.eq_false_or_eq_true (willB (l.getD j ozero).sell (l.getD j ozero).price p) with hwj | hwj
        · by_cases hs : (l.getD j ozero).sell = (l.getD i ozero).sell
          · have eLj := (L0_willing hV j hwj).1
            rw [hs, hb] at eLj
            rw [hb] at eL
            rw [hwj, hs, ← eLj, ← eL]
            simp only [beq_self_eq_true, Bool.and_self, Bool.true_and]
            rw [Bool.eq_iff_iff, ahead_iff]
            simp [aheadN]
          · have hs' : ((l.getD j ozero).sell == (l.getD i ozero).sell) = false := by simpa using hs
            have h0 : L0 l (dem l p) (sup l p) p j = 0 := L0_short j (by revert hs hb; cases (l.getD j ozero).sell <;> cases (l.getD i ozero).sell <;> cases long l p <;> simp)
            rw [hs', Bool.and_false, Bool.false_and]
            symm
            rw [← Bool.not_eq_true, ahead_iff]
            omega
        · rw [hwj, Bool.false_and, Bool.false_and]
          have h0 := (L0_unwilling j hwj).1
          symm
          rw [← Bool.not_eq_true, ahead_iff]
          omega
      rw [e]
    · have h1 : ¬ (place (L0 l (dem l p) (sup l p) p) l.length i : Int) < left0 l (dem l p) (sup l p) p := fun h => hz (more_lost hV h)
      have h2 : ¬ (cnt (rahead l p (vol l p) (sideT (dem l p) (sup l p) (long l p)) i) l.length : Int) < left0 l (dem l p) (sup l p) p := by
        intro h
        have h3 : losers l p ≤ cnt (rahead l p (vol l p) (sideT (dem l p) (sup l p) (long l p)) i) l.length := by
          unfold losers
          refine cnt_mono (fun j _ hj => ?_)
          have hj' : 0 < L0 l (dem l p) (sup l p) p j := by simpa using hj
          have hwj : willB (l.getD j ozero).sell (l.getD j ozero).price p = true := by
            rcases Bool.eq_false_or_eq_true (willB (l.getD j ozero).sell (l.getD j ozero).price p) with h' | h'
            · exact h'
            · have := (L0_unwilling j h').1; omega
          have hs : (l.getD j ozero).sell = long l p := by
            apply Classical.byContradiction
            intro hne
            have := L0_short j (show (l.getD j ozero).sell = !long l p by revert hne; cases (l.getD j ozero).sell <;> cases long l p <;> simp)
            omega
          have eLj := (L0_willing hV j hwj).1
          rw [hs] at eLj
          rw [hb] at eL
          unfold rahead inSide
          rw [hwj, hs, hb, ← eLj, ← eL]
          have hb' := (L0_bd hV i).1
          simp [aheadN]
          omega
        have h4 := (left_bd hV).2
        omega
      rw [if_neg h1, if_neg h2]
  · have hb' : (l.getD i ozero).sell = !long l p := by revert hb; cases (l.getD i ozero).sell <;> cases long l p <;> simp
    have h0 := L0_short i hb'
    have h1 : ¬ (place (L0 l (dem l p) (sup l p) p) l.length i : Int) < left0 l (dem l p) (sup l p) p := fun h => by have := more_lost hV h; omega
    rw [if_neg h1, hb', short_sum hV, if_neg (by omega)]

end
end Mk
