import Derived.Test.YtmebcdpdpcpnmaaGreatDoorPlain5
/- Plain mathematics: both sides get V; who gets one more. -/
namespace Mk

theorem side_is (l : List Ord) (p : Int) (b : Bool) : side l b p = sideT (dem l p) (sup l p) b := by cases b <;> rfl

section
variable {l : List Ord} {p : Int}

/-- the side whose sum is the greater -/
def long (l : List Ord) (p : Int) : Bool := decide (dem l p < sup l p)

theorem one_le (hV : 1 ≤ vol l p) : 1 ≤ dem l p ∧ 1 ≤ sup l p := by
  unfold vol less at hV; split at hV <;> omega
theorem short_T : sideT (dem l p) (sup l p) (!long l p) = vol l p := by
  unfold long vol less sideT
  by_cases h : dem l p < sup l p <;> simp [h]

theorem tot_of (o : Ord) : tot (dem l p) (sup l p) o = sideT (dem l p) (sup l p) o.sell := rfl

theorem L0_short (i : Nat) (h : (l.getD i ozero).sell = !long l p) : L0 l (dem l p) (sup l p) p i = 0 := by
  unfold L0
  refine losto_short _ ?_
  rw [tot_of, h, short_T]; rfl
theorem L0_bd (hV : 1 ≤ vol l p) (i : Nat) : 0 ≤ L0 l (dem l p) (sup l p) p i ∧ L0 l (dem l p) (sup l p) p i < sideT (dem l p) (sup l p) (long l p) := by
  obtain ⟨h1, h2⟩ := one_le hV
  by_cases h : (l.getD i ozero).sell = long l p
  · have := losto_bd (p := p) h1 h2 (l.getD i ozero)
    rw [tot_of, h] at this
    exact this
  · have h' : (l.getD i ozero).sell = !long l p := by
      revert h; cases (l.getD i ozero).sell <;> cases long l p <;> simp
    rw [L0_short i h']
    have : 1 ≤ sideT (dem l p) (sup l p) (long l p) := by unfold sideT; split <;> assumption
    omega

theorem short_sum (hV : 1 ≤ vol l p) : sideSum l (!long l p) (G0 l (dem l p) (sup l p) p) = vol l p := by
  obtain ⟨h1, h2⟩ := one_le hV
  have e := side_eq (l := l) (p := p) h1 h2 (!long l p)
  rw [side_is, short_T] at e
  have hB : sideSum l (!long l p) (L0 l (dem l p) (sup l p) p) = 0 := by
    unfold sideSum
    refine sumn_zero (fun i _ => ?_)
    by_cases h : (l.getD i ozero).sell = !long l p
    · rw [if_pos h, L0_short i h]
    · rw [if_neg h]
  rw [hB, Int.add_zero] at e
  have hv : vol l p ≠ 0 := by omega
  exact (Int.eq_of_mul_eq_mul_left hv (show vol l p * vol l p = _ from e)).symm

theorem long_eq (hV : 1 ≤ vol l p) : sideT (dem l p) (sup l p) (long l p) * (vol l p - sideSum l (long l p) (G0 l (dem l p) (sup l p) p)) = sumn (L0 l (dem l p) (sup l p) p) l.length := by
  obtain ⟨h1, h2⟩ := one_le hV
  have e := side_eq (l := l) (p := p) h1 h2 (long l p)
  rw [side_is] at e
  have hS := sides_add l (L0 l (dem l p) (sup l p) p)
  have hB : sideSum l (!long l p) (L0 l (dem l p) (sup l p) p) = 0 := by
    unfold sideSum
    refine sumn_zero (fun i _ => ?_)
    by_cases h : (l.getD i ozero).sell = !long l p
    · rw [if_pos h, L0_short i h]
    · rw [if_neg h]
  have hS' : sumn (L0 l (dem l p) (sup l p) p) l.length = sideSum l (long l p) (L0 l (dem l p) (sup l p) p) := by
    rw [hS]; revert hB; cases long l p <;> simp <;> omega
  rw [hS', Int.mul_sub]
  have e' : vol l p * sideT (dem l p) (sup l p) (long l p) = sideT (dem l p) (sup l p) (long l p) * sideSum l (long l p) (G0 l (dem l p) (sup l p) p) + sideSum l (long l p) (L0 l (dem l p) (sup l p) p) := e
  rw [Int.mul_comm (sideT _ _ _) (vol l p)]
  omega

theorem left_is (hV : 1 ≤ vol l p) : left0 l (dem l p) (sup l p) p = vol l p - sideSum l (long l p) (G0 l (dem l p) (sup l p) p) := by
  have h1 := sides_add l (G0 l (dem l p) (sup l p) p)
  have h2 := short_sum hV
  unfold left0
  rw [h1]
  show 2 * vol l p - _ = _
  revert h2; cases long l p <;> simp <;> omega

/-- how many lost something -/
def losers (l : List Ord) (p : Int) : Nat := cnt (fun i => decide (0 < L0 l (dem l p) (sup l p) p i)) l.length

theorem lost_le {Z : Nat → Int} {T : Int} {n : Nat} (h : ∀ i, i < n → 0 ≤ Z i ∧ Z i < T) : sumn Z n ≤ (T - 1) * (cnt (fun i => decide (0 < Z i)) n : Int) := by
  induction n with
  | zero => simp [sumn, cnt]
  | succ k ih =>
    have h1 := ih (fun i hi => h i (by omega))
    have h2 := h k (by omega)
    simp only [sumn, cnt]
    by_cases hz : 0 < Z k
    · simp only [hz, decide_true, if_true]
      rw [Int.natCast_add, Int.mul_add]; simp; omega
    · simp only [hz, decide_false]
      simp; omega

theorem left_bd (hV : 1 ≤ vol l p) : 0 ≤ left0 l (dem l p) (sup l p) p ∧ left0 l (dem l p) (sup l p) p ≤ losers l p := by
  obtain ⟨h1, h2⟩ := one_le hV
  have hT : 1 ≤ sideT (dem l p) (sup l p) (long l p) := by unfold sideT; split <;> assumption
  have e := long_eq hV
  rw [← left_is hV] at e
  have hs := sumn_nonneg (n := l.length) (fun i _ => (L0_bd hV i).1)
  have hl := lost_le (n := l.length) (fun i _ => L0_bd hV i)
  rw [← e] at hs hl
  unfold losers
  generalize sideT (dem l p) (sup l p) (long l p) = T at *
  generalize left0 l (dem l p) (sup l p) p = x at *
  generalize hc : cnt (fun i => decide (0 < L0 l (dem l p) (sup l p) p i)) l.length = c at *
  constructor
  · apply Classical.byContradiction
    intro hx
    have h3 : T * x ≤ T * (-1) := Int.mul_le_mul_of_nonneg_left (by omega) (by omega)
    omega
  · apply Classical.byContradiction
    intro hx
    have h3 : T * ((c : Int) + 1) ≤ T * x := Int.mul_le_mul_of_nonneg_left (by omega) (by omega)
    rw [Int.mul_add] at h3
    rw [Int.sub_mul] at hl
    omega

/-- who lost nothing gets none more -/
theorem more_lost (hV : 1 ≤ vol l p) {i : Nat} (h : (place (L0 l (dem l p) (sup l p) p) l.length i : Int) < left0 l (dem l p) (sup l p) p) : 0 < L0 l (dem l p) (sup l p) p i := by
  apply Classical.byContradiction
  intro hz
  have hb := L0_bd hV i
  have h1 : losers l p ≤ place (L0 l (dem l p) (sup l p) p) l.length i := by
    unfold losers place
    refine cnt_mono (fun j _ hj => ?_)
    rw [ahead_iff]
    simp at hj
    omega
  have h2 := (left_bd hV).2
  omega

/-- what is handed out besides -/
def more (l : List Ord) (p : Int) (i : Nat) : Int := if (place (L0 l (dem l p) (sup l p) p) l.length i : Int) < left0 l (dem l p) (sup l p) p then 1 else 0

theorem more_all (hV : 1 ≤ vol l p) : sumn (more l p) l.length = left0 l (dem l p) (sup l p) p := by
  obtain ⟨h1, h2⟩ := left_bd hV
  obtain ⟨m, hm⟩ := Int.eq_ofNat_of_zero_le h1
  have h3 : losers l p ≤ l.length := cnt_le _ _
  have hc := cnt_place (L0 l (dem l p) (sup l p) p) (n := l.length) (m := m) (by omega)
  have e : sumn (more l p) l.length = sumn (fun i => if (fun i => decide (place (L0 l (dem l p) (sup l p) p) l.length i < m)) i then 1 else 0) l.length := by
    refine sumn_congr (fun i _ => ?_)
    unfold more
    rw [hm]
    by_cases h : place (L0 l (dem l p) (sup l p) p) l.length i < m
    · rw [if_pos (by omega), if_pos (by simpa using h)]
    · rw [if_neg (by omega), if_neg (by simpa using h)]
  rw [e, sumn_cnt, hc, hm]

theorem more_side (hV : 1 ≤ vol l p) {i : Nat} (h : (l.getD i ozero).sell ≠ long l p) : more l p i = 0 := by
  unfold more
  rw [if_neg]
  intro h1
  have h2 := more_lost hV h1
  rw [L0_short i (by revert h; cases (l.getD i ozero).sell <;> cases long l p <;> simp)] at h2
  omega

/-- BOTH SIDES GET V TOGETHER -/
theorem side_total (hV : 1 ≤ vol l p) (b : Bool) : sideSum l b (getsf l (dem l p) (sup l p) p) = vol l p := by
  have e : sideSum l b (getsf l (dem l p) (sup l p) p) = sideSum l b (G0 l (dem l p) (sup l p) p) + sideSum l b (more l p) := by
    unfold sideSum
    rw [← sumn_add]
    refine sumn_congr (fun i _ => ?_)
    by_cases h : (l.getD i ozero).sell = b
    · rw [if_pos h, if_pos h, if_pos h]; rfl
    · rw [if_neg h, if_neg h, if_neg h]; rfl
  rw [e]
  have hm := more_all hV
  have hl := left_is hV
  by_cases hb : b = long l p
  · subst hb
    have : sideSum l (long l p) (more l p) = sumn (more l p) l.length := by
      unfold sideSum
      refine sumn_congr (fun i _ => ?_)
      by_cases h : (l.getD i ozero).sell = long l p
      · rw [if_pos h]
      · rw [if_neg h, more_side hV h]
    rw [this, hm, hl]; omega
  · have hb' : b = !long l p := by revert hb; cases b <;> cases long l p <;> simp
    subst hb'
    have : sideSum l (!long l p) (more l p) = 0 := by
      unfold sideSum
      refine sumn_zero (fun i _ => ?_)
      by_cases h : (l.getD i ozero).sell = !long l p
      · rw [if_pos h, more_side hV (by rw [h]; cases long l p <;> simp)]
      · rw [if_neg h]
    rw [this, short_sum hV]; omega

end
end Mk
