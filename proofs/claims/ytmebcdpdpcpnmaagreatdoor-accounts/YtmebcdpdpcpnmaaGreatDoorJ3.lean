import Derived.Test.YtmebcdpdpcpnmaaGreatDoorJ2
import Derived.Laws.CopyRow
import Derived.Laws.CopyOwn
import Derived.StillTactics
import Derived.OwnWalk
import Derived.Laws.Pointers
import Derived.Deep.RegionHeld3
import Derived.Deep.AppendLies
import Derived.Test.YtmebcdpdpcpnmaaGreatDoorJ1
/- Plain mathematics: counting; both sides get as much; who gets one more. -/
namespace Mk

theorem sumn_congr {f g : Nat → Int} {n : Nat} (h : ∀ i, i < n → f i = g i) : sumn f n = sumn g n := by
  induction n with
  | zero => rfl
  | succ k ih => simp only [sumn]; rw [ih (fun i hi => h i (by omega)), h k (by omega)]
theorem sumn_add (f g : Nat → Int) (n : Nat) : sumn (fun i => f i + g i) n = sumn f n + sumn g n := by
  induction n with
  | zero => rfl
  | succ k ih => simp only [sumn, ih]; omega
theorem sumn_mul (c : Int) (f : Nat → Int) (n : Nat) : sumn (fun i => c * f i) n = c * sumn f n := by
  induction n with
  | zero => simp [sumn]
  | succ k ih => simp only [sumn, ih]; rw [Int.mul_add]
theorem sumn_zero {f : Nat → Int} {n : Nat} (h : ∀ i, i < n → f i = 0) : sumn f n = 0 := by
  induction n with
  | zero => rfl
  | succ k ih => simp only [sumn]; rw [ih (fun i hi => h i (by omega)), h k (by omega)]; rfl
theorem sumn_nonneg {f : Nat → Int} {n : Nat} (h : ∀ i, i < n → 0 ≤ f i) : 0 ≤ sumn f n := by
  induction n with
  | zero => simp [sumn]
  | succ k ih => simp only [sumn]; have := ih (fun i hi => h i (by omega)); have := h k (by omega); omega
theorem sumn_cnt (P : Nat → Bool) (n : Nat) : sumn (fun i => if P i then 1 else 0) n = cnt P n := by
  induction n with
  | zero => rfl
  | succ k ih => simp only [sumn, cnt, ih]; split <;> simp

theorem cnt_congr {P Q : Nat → Bool} {n : Nat} (h : ∀ i, i < n → P i = Q i) : cnt P n = cnt Q n := by
  induction n with
  | zero => rfl
  | succ k ih => simp only [cnt]; rw [ih (fun i hi => h i (by omega)), h k (by omega)]
theorem cnt_mono {P Q : Nat → Bool} {n : Nat} (h : ∀ i, i < n → P i = true → Q i = true) : cnt P n ≤ cnt Q n := by
  induction n with
  | zero => simp [cnt]
  | succ k ih =>
    have h1 := ih (fun i hi => h i (by omega))
    have h2 := h k (by omega)
    simp only [cnt]
    cases hp : P k with
    | false => simp; omega
    | true => simp [h2 hp]; omega
theorem cnt_lt {P Q : Nat → Bool} {n j : Nat} (h : ∀ i, i < n → P i = true → Q i = true) (hj : j < n) (hQ : Q j = true) (hP : P j = false) : cnt P n < cnt Q n := by
  induction n with
  | zero => omega
  | succ k ih =>
    simp only [cnt]
    by_cases e : j = k
    · subst e
      have := cnt_mono (n := j) (fun i hi => h i (by omega))
      simp [hQ, hP]; omega
    · have h1 := ih (fun i hi => h i (by omega)) (by omega)
      have h2 := h k (by omega)
      cases hp : P k with
      | false => simp; omega
      | true => simp [h2 hp]; omega
theorem cnt_false {P : Nat → Bool} {n : Nat} (h : ∀ i, i < n → P i = false) : cnt P n = 0 := by
  induction n with
  | zero => rfl
  | succ k ih => simp only [cnt]; rw [ih (fun i hi => h i (by omega)), h k (by omega)]; rfl
theorem cnt_true {P : Nat → Bool} {n : Nat} (h : ∀ i, i < n → P i = true) : cnt P n = n := by
  induction n with
  | zero => rfl
  | succ k ih => simp only [cnt]; rw [ih (fun i hi => h i (by omega)), h k (by omega)]; rfl
theorem cnt_one {P : Nat → Bool} {n : Nat} (h : ∀ i j, i < n → j < n → P i = true → P j = true → i = j) : cnt P n ≤ 1 := by
  induction n with
  | zero => simp [cnt]
  | succ k ih =>
    simp only [cnt]
    cases hp : P k with
    | false => simp; exact ih (fun i j hi hj => h i j (by omega) (by omega))
    | true =>
      have : cnt P k = 0 := cnt_false (fun i hi => by
        cases hi' : P i with
        | false => rfl
        | true => have := h i k (by omega) (by omega) hi' hp; omega)
      simp [this]
theorem cnt_or {P Q R : Nat → Bool} {n : Nat} (h : ∀ i, i < n → R i = true → P i = true ∨ Q i = true) : cnt R n ≤ cnt P n + cnt Q n := by
  induction n with
  | zero => simp [cnt]
  | succ k ih =>
    have h1 := ih (fun i hi => h i (by omega))
    have h2 := h k (by omega)
    simp only [cnt]
    cases hr : R k with
    | false => simp; omega
    | true => rcases h2 hr with h3 | h3 <;> simp [h3] <;> omega

/- the places are 0 .. n - 1, each once -/
theorem place_lt {Z : Nat → Int} {n i j : Nat} (hj : j < n) (h : aheadB Z i j = true) : place Z n j < place Z n i := by
  unfold place
  rw [ahead_iff] at h
  refine cnt_lt (j := j) (fun x _ hx => ?_) hj ((ahead_iff Z i j).2 h) ?_
  · rw [ahead_iff] at hx ⊢; omega
  · rw [← Bool.not_eq_true, ahead_iff]; omega
theorem ahead_total {Z : Nat → Int} {i j : Nat} (h : i ≠ j) : aheadB Z i j = true ∨ aheadB Z j i = true := by
  rw [ahead_iff, ahead_iff]; omega
theorem place_inj {Z : Nat → Int} {n i j : Nat} (hi : i < n) (hj : j < n) (h : place Z n i = place Z n j) : i = j := by
  apply Classical.byContradiction
  intro hne
  rcases ahead_total (Z := Z) hne with h1 | h1
  · have := place_lt hj h1; omega
  · have := place_lt hi h1; omega
theorem place_bd {Z : Nat → Int} {n i : Nat} (hi : i < n) : place Z n i < n := by
  have h := cnt_lt (P := aheadB Z i) (Q := fun _ => true) (n := n) (j := i) (fun _ _ _ => rfl) hi rfl (by rw [← Bool.not_eq_true, ahead_iff]; omega)
  rw [cnt_true (fun _ _ => rfl)] at h
  exact h
theorem cnt_step (Z : Nat → Int) (n m : Nat) : cnt (fun i => decide (place Z n i < m + 1)) n ≤ cnt (fun i => decide (place Z n i < m)) n + 1 := by
  have h1 := cnt_or (n := n) (R := fun i => decide (place Z n i < m + 1)) (P := fun i => decide (place Z n i < m)) (Q := fun i => decide (place Z n i = m)) (fun i _ h => by simp at h ⊢; omega)
  have h2 : cnt (fun i => decide (place Z n i = m)) n ≤ 1 := cnt_one (fun i j hi hj h3 h4 => place_inj (Z := Z) hi hj (by simp at h3 h4; omega))
  omega
theorem cnt_place_le (Z : Nat → Int) (n m : Nat) : cnt (fun i => decide (place Z n i < m)) n ≤ m := by
  induction m with
  | zero => rw [cnt_false (fun i _ => by simp)]; omega
  | succ k ih => have := cnt_step Z n k; omega
theorem cnt_place_ge (Z : Nat → Int) (n j : Nat) : ∀ m, m + j = n → m ≤ cnt (fun i => decide (place Z n i < m)) n := by
  induction j with
  | zero =>
    intro m hm
    rw [cnt_true (fun i hi => by have := place_bd (Z := Z) hi; simp; omega)]; omega
  | succ j ih =>
    intro m hm
    have h1 := ih (m + 1) (by omega)
    have h2 := cnt_step Z n m
    omega
theorem cnt_place (Z : Nat → Int) {n m : Nat} (h : m ≤ n) : cnt (fun i => decide (place Z n i < m)) n = m :=
  Nat.le_antisymm (cnt_place_le Z n m) (cnt_place_ge Z n (n - m) m (by omega))

/- sums over the list, and over its indices -/
theorem getD_at {l : List Ord} {k : Nat} (h : k < l.length) : l.getD k ozero = l[k] := by simp [List.getD, List.getElem?_eq_getElem h]
theorem sumf_take_n (f : Ord → Int) (l : List Ord) (k : Nat) (h : k ≤ l.length) : sumf f (l.take k) = sumn (fun i => f (l.getD i ozero)) k := by
  induction k with
  | zero => simp [sumf, sumn]
  | succ k ih => rw [sumf_take_succ f l k (by omega), ih (by omega)]; simp only [sumn]; rw [getD_at (by omega)]
theorem sumf_n (f : Ord → Int) (l : List Ord) : sumf f l = sumn (fun i => f (l.getD i ozero)) l.length := by
  have := sumf_take_n f l l.length (Nat.le_refl _); rwa [List.take_length] at this

/-- the sum over one side -/
def sideSum (l : List Ord) (b : Bool) (f : Nat → Int) : Int := sumn (fun i => if (l.getD i ozero).sell = b then f i else 0) l.length
def sideT (d s : Int) (b : Bool) : Int := if b then s else d
def side (l : List Ord) (b : Bool) (p : Int) : Int := sumf (sideq b p) l

theorem sides_add (l : List Ord) (f : Nat → Int) : sumn f l.length = sideSum l false f + sideSum l true f := by
  unfold sideSum
  rw [← sumn_add]
  refine sumn_congr (fun i _ => ?_)
  cases (l.getD i ozero).sell <;> simp

/-- an order's equation: its slots times V are what it gets times its side's sum, and what it lost -/
theorem order_eq {d s p : Int} (h1 : 1 ≤ d) (h2 : 1 ≤ s) (o : Ord) (b : Bool) :
    less d s * sideq b p o = sideT d s b * (if o.sell = b then shareo d s p o else 0) + (if o.sell = b then losto d s p o else 0) := by
  obtain ⟨sl, pr, q⟩ := o
  by_cases hb : sl = b
  · subst hb
    have ht : tot d s ⟨sl, pr, q⟩ = sideT d s sl := rfl
    have h3 : 1 ≤ sideT d s sl := by unfold sideT; split <;> assumption
    rw [sideq_mk]
    rcases Bool.eq_false_or_eq_true (willB sl pr p) with hw | hw
    · obtain ⟨e1, e2⟩ := share_yes (d := d) (s := s) (p := p) (o := ⟨sl, pr, q⟩) (by rw [ht]; exact h3) hw
      rw [e1, e2, ht, hw]
      simp only [beq_self_eq_true, Bool.and_self, if_true]
      rw [Int.mul_ediv_add_emod]
    · obtain ⟨e1, e2⟩ := share_no (d := d) (s := s) (p := p) (o := ⟨sl, pr, q⟩) (.inr hw)
      rw [e1, e2, hw]; simp
  · rw [sideq_mk]; simp [hb]

theorem side_eq {l : List Ord} {d s p : Int} (h1 : 1 ≤ d) (h2 : 1 ≤ s) (b : Bool) :
    less d s * side l b p = sideT d s b * sideSum l b (G0 l d s p) + sideSum l b (L0 l d s p) := by
  unfold side sideSum
  rw [sumf_n, ← sumn_mul, ← sumn_mul, ← sumn_add]
  exact sumn_congr (fun i _ => order_eq h1 h2 _ b)

/-- what is lost lies below its side's sum; nothing is lost by the unwilling, nor where V is the side's sum -/
theorem losto_bd {d s p : Int} (h1 : 1 ≤ d) (h2 : 1 ≤ s) (o : Ord) : 0 ≤ losto d s p o ∧ losto d s p o < tot d s o := by
  have ht : 1 ≤ tot d s o := by unfold tot; split <;> assumption
  unfold losto
  split
  · omega
  · exact ⟨Int.emod_nonneg _ (by omega), Int.emod_lt_of_pos _ (by omega)⟩
theorem losto_short {d s p : Int} (o : Ord) (h : tot d s o = less d s) : losto d s p o = 0 := by
  unfold losto
  split
  · rfl
  · rw [h]; exact Int.mul_emod_right _ _

end Mk

/- Plain mathematics: both sides get V; who gets one more. -/
namespace Mk

theorem side_is (l : List Ord) (p : Int) (b : Bool) : side l b p = sideT (dem l p) (sup l p) b := by cases b <;> rfl

section
variable {l : List Ord} {p : Int}

/-- the side whose sum is the greater -/
def long (l : List Ord) (p : Int) : Bool := decide (dem l p < sup l p)

theorem one_le (hV : 1 ≤ vol l p) : 1 ≤ dem l p ∧ 1 ≤ sup l p := by
  unfold vol less at hV; split at hV <;> omega
theorem short_T : sideT (dem l p) (sup l p) (!long l p) = vol l p := by
  unfold long vol less sideT
  by_cases h : dem l p < sup l p <;> simp [h]

theorem tot_of (o : Ord) : tot (dem l p) (sup l p) o = sideT (dem l p) (sup l p) o.sell := rfl

theorem L0_short (i : Nat) (h : (l.getD i ozero).sell = !long l p) : L0 l (dem l p) (sup l p) p i = 0 := by
  unfold L0
  refine losto_short _ ?_
  rw [tot_of, h, short_T]; rfl
theorem L0_bd (hV : 1 ≤ vol l p) (i : Nat) : 0 ≤ L0 l (dem l p) (sup l p) p i ∧ L0 l (dem l p) (sup l p) p i < sideT (dem l p) (sup l p) (long l p) := by
  obtain ⟨h1, h2⟩ := one_le hV
  by_cases h : (l.getD i ozero).sell = long l p
  · have := losto_bd (p := p) h1 h2 (l.getD i ozero)
    rw [tot_of, h] at this
    exact this
  · have h' : (l.getD i ozero).sell = !long l p := by
      revert h; cases (l.getD i ozero).sell <;> cases long l p <;> simp
    rw [L0_short i h']
    have : 1 ≤ sideT (dem l p) (sup l p) (long l p) := by unfold sideT; split <;> assumption
    omega

theorem short_sum (hV : 1 ≤ vol l p) : sideSum l (!long l p) (G0 l (dem l p) (sup l p) p) = vol l p := by
  obtain ⟨h1, h2⟩ := one_le hV
  have e := side_eq (l := l) (p := p) h1 h2 (!long l p)
  rw [side_is, short_T] at e
  have hB : sideSum l (!long l p) (L0 l (dem l p) (sup l p) p) = 0 := by
    unfold sideSum
    refine sumn_zero (fun i _ => ?_)
    by_cases h : (l.getD i ozero).sell = !long l p
    · rw [if_pos h, L0_short i h]
    · rw [if_neg h]
  rw [hB, Int.add_zero] at e
  have hv : vol l p ≠ 0 := by omega
  exact (Int.eq_of_mul_eq_mul_left hv (show vol l p * vol l p = _ from e)).symm

theorem long_eq (hV : 1 ≤ vol l p) : sideT (dem l p) (sup l p) (long l p) * (vol l p - sideSum l (long l p) (G0 l (dem l p) (sup l p) p)) = sumn (L0 l (dem l p) (sup l p) p) l.length := by
  obtain ⟨h1, h2⟩ := one_le hV
  have e := side_eq (l := l) (p := p) h1 h2 (long l p)
  rw [side_is] at e
  have hS := sides_add l (L0 l (dem l p) (sup l p) p)
  have hB : sideSum l (!long l p) (L0 l (dem l p) (sup l p) p) = 0 := by
    unfold sideSum
    refine sumn_zero (fun i _ => ?_)
    by_cases h : (l.getD i ozero).sell = !long l p
    · rw [if_pos h, L0_short i h]
    · rw [if_neg h]
  have hS' : sumn (L0 l (dem l p) (sup l p) p) l.length = sideSum l (long l p) (L0 l (dem l p) (sup l p) p) := by
    rw [hS]; revert hB; cases long l p <;> simp <;> omega
  rw [hS', Int.mul_sub]
  have e' : vol l p * sideT (dem l p) (sup l p) (long l p) = sideT (dem l p) (sup l p) (long l p) * sideSum l (long l p) (G0 l (dem l p) (sup l p) p) + sideSum l (long l p) (L0 l (dem l p) (sup l p) p) := e
  rw [Int.mul_comm (sideT _ _ _) (vol l p)]
  omega

theorem left_is (hV : 1 ≤ vol l p) : left0 l (dem l p) (sup l p) p = vol l p - sideSum l (long l p) (G0 l (dem l p) (sup l p) p) := by
  have h1 := sides_add l (G0 l (dem l p) (sup l p) p)
  have h2 := short_sum hV
  unfold left0
  rw [h1]
  show 2 * vol l p - _ = _
  revert h2; cases long l p <;> simp <;> omega

/-- how many lost something -/
def losers (l : List Ord) (p : Int) : Nat := cnt (fun i => decide (0 < L0 l (dem l p) (sup l p) p i)) l.length

theorem lost_le {Z : Nat → Int} {T : Int} {n : Nat} (h : ∀ i, i < n → 0 ≤ Z i ∧ Z i < T) : sumn Z n ≤ (T - 1) * (cnt (fun i => decide (0 < Z i)) n : Int) := by
  induction n with
  | zero => simp [sumn, cnt]
  | succ k ih =>
    have h1 := ih (fun i hi => h i (by omega))
    have h2 := h k (by omega)
    simp only [sumn, cnt]
    by_cases hz : 0 < Z k
    · simp only [hz, decide_true, if_true]
      rw [Int.natCast_add, Int.mul_add]; simp; omega
    · simp only [hz, decide_false]
      simp; omega

theorem left_bd (hV : 1 ≤ vol l p) : 0 ≤ left0 l (dem l p) (sup l p) p ∧ left0 l (dem l p) (sup l p) p ≤ losers l p := by
  obtain ⟨h1, h2⟩ := one_le hV
  have hT : 1 ≤ sideT (dem l p) (sup l p) (long l p) := by unfold sideT; split <;> assumption
  have e := long_eq hV
  rw [← left_is hV] at e
  have hs := sumn_nonneg (n := l.length) (fun i _ => (L0_bd hV i).1)
  have hl := lost_le (n := l.length) (fun i _ => L0_bd hV i)
  rw [← e] at hs hl
  unfold losers
  generalize sideT (dem l p) (sup l p) (long l p) = T at *
  generalize left0 l (dem l p) (sup l p) p = x at *
  generalize hc : cnt (fun i => decide (0 < L0 l (dem l p) (sup l p) p i)) l.length = c at *
  constructor
  · apply Classical.byContradiction
    intro hx
    have h3 : T * x ≤ T * (-1) := Int.mul_le_mul_of_nonneg_left (by omega) (by omega)
    omega
  · apply Classical.byContradiction
    intro hx
    have h3 : T * ((c : Int) + 1) ≤ T * x := Int.mul_le_mul_of_nonneg_left (by omega) (by omega)
    rw [Int.mul_add] at h3
    rw [Int.sub_mul] at hl
    omega

/-- who lost nothing gets none more -/
theorem more_lost (hV : 1 ≤ vol l p) {i : Nat} (h : (place (L0 l (dem l p) (sup l p) p) l.length i : Int) < left0 l (dem l p) (sup l p) p) : 0 < L0 l (dem l p) (sup l p) p i := by
  apply Classical.byContradiction
  intro hz
  have hb := L0_bd hV i
  have h1 : losers l p ≤ place (L0 l (dem l p) (sup l p) p) l.length i := by
    unfold losers place
    refine cnt_mono (fun j _ hj => ?_)
    rw [ahead_iff]
    simp at hj
    omega
  have h2 := (left_bd hV).2
  omega

/-- what is handed out besides -/
def more (l : List Ord) (p : Int) (i : Nat) : Int := if (place (L0 l (dem l p) (sup l p) p) l.length i : Int) < left0 l (dem l p) (sup l p) p then 1 else 0

theorem more_all (hV : 1 ≤ vol l p) : sumn (more l p) l.length = left0 l (dem l p) (sup l p) p := by
  obtain ⟨h1, h2⟩ := left_bd hV
  obtain ⟨m, hm⟩ := Int.eq_ofNat_of_zero_le h1
  have h3 : losers l p ≤ l.length := cnt_le _ _
  have hc := cnt_place (L0 l (dem l p) (sup l p) p) (n := l.length) (m := m) (by omega)
  have e : sumn (more l p) l.length = sumn (fun i => if (fun i => decide (place (L0 l (dem l p) (sup l p) p) l.length i < m)) i then 1 else 0) l.length := by
    refine sumn_congr (fun i _ => ?_)
    unfold more
    rw [hm]
    by_cases h : place (L0 l (dem l p) (sup l p) p) l.length i < m
    · rw [if_pos (by omega), if_pos (by simpa using h)]
    · rw [if_neg (by omega), if_neg (by simpa using h)]
  rw [e, sumn_cnt, hc, hm]

theorem more_side (hV : 1 ≤ vol l p) {i : Nat} (h : (l.getD i ozero).sell ≠ long l p) : more l p i = 0 := by
  unfold more
  rw [if_neg]
  intro h1
  have h2 := more_lost hV h1
  rw [L0_short i (by revert h; cases (l.getD i ozero).sell <;> cases long l p <;> simp)] at h2
  omega

/-- BOTH SIDES GET V TOGETHER -/
theorem side_total (hV : 1 ≤ vol l p) (b : Bool) : sideSum l b (getsf l (dem l p) (sup l p) p) = vol l p := by
  have e : sideSum l b (getsf l (dem l p) (sup l p) p) = sideSum l b (G0 l (dem l p) (sup l p) p) + sideSum l b (more l p) := by
    unfold sideSum
    rw [← sumn_add]
    refine sumn_congr (fun i _ => ?_)
    by_cases h : (l.getD i ozero).sell = b
    · rw [if_pos h, if_pos h, if_pos h]; rfl
    · rw [if_neg h, if_neg h, if_neg h]; rfl
  rw [e]
  have hm := more_all hV
  have hl := left_is hV
  by_cases hb : b = long l p
  · subst hb
    have : sideSum l (long l p) (more l p) = sumn (more l p) l.length := by
      unfold sideSum
      refine sumn_congr (fun i _ => ?_)
      by_cases h : (l.getD i ozero).sell = long l p
      · rw [if_pos h]
      · rw [if_neg h, more_side hV h]
    rw [this, hm, hl]; omega
  · have hb' : b = !long l p := by revert hb; cases b <;> cases long l p <;> simp
    subst hb'
    have : sideSum l (!long l p) (more l p) = 0 := by
      unfold sideSum
      refine sumn_zero (fun i _ => ?_)
      by_cases h : (l.getD i ozero).sell = !long l p
      · rw [if_pos h, more_side hV (by rw [h]; cases long l p <;> simp)]
      · rw [if_neg h]
    rw [this, short_sum hV]; omega

end
end Mk

/- Plain mathematics: nobody is wronged. -/
namespace Mk

section
variable {l : List Ord} {p : Int}

theorem more_01 (i : Nat) : more l p i = 0 ∨ more l p i = 1 := by unfold more; split <;> simp
theorem getsf_more (i : Nat) : getsf l (dem l p) (sup l p) p i = G0 l (dem l p) (sup l p) p i + more l p i := rfl

theorem getsf_bd (hv : validB 20 l = true) (i : Nat) : 0 ≤ getsf l (dem l p) (sup l p) p i ∧ getsf l (dem l p) (sup l p) p i ≤ 4801 := by
  have h1 := G0_bd (p := p) hv (dem_bd hv p) (sup_bd hv p) i
  have h2 := more_01 (l := l) (p := p) i
  rw [getsf_more]; omega

/-- a willing order's equation -/
theorem will_eq (hV : 1 ≤ vol l p) {i : Nat} (hi : i < l.length) (hw : willB l[i].sell l[i].price p = true) :
    vol l p * l[i].qty = sideT (dem l p) (sup l p) l[i].sell * G0 l (dem l p) (sup l p) p i + L0 l (dem l p) (sup l p) p i ∧
    0 ≤ L0 l (dem l p) (sup l p) p i ∧ L0 l (dem l p) (sup l p) p i < sideT (dem l p) (sup l p) l[i].sell := by
  obtain ⟨h1, h2⟩ := one_le hV
  have e := order_eq (p := p) h1 h2 l[i] l[i].sell
  simp only [if_true, sideq, hw, beq_self_eq_true, Bool.and_self] at e
  have hb := losto_bd (p := p) h1 h2 l[i]
  rw [← L0_at hi, tot_of] at hb
  rw [← L0_at hi, ← G0_at hi] at e
  exact ⟨e, hb⟩

/-- who is not willing gets nothing -/
theorem unwilling (hV : 1 ≤ vol l p) {i : Nat} (hi : i < l.length) (hw : willB l[i].sell l[i].price p = false) : getsf l (dem l p) (sup l p) p i = 0 := by
  obtain ⟨e1, e2⟩ := share_no (d := dem l p) (s := sup l p) (p := p) (o := l[i]) (.inr hw)
  rw [← G0_at hi] at e1
  rw [← L0_at hi] at e2
  rw [getsf_more, e1]
  have : more l p i = 0 := by
    unfold more
    rw [if_neg]
    intro h
    have := more_lost hV h
    omega
  omega

theorem fair_fact (hV : 1 ≤ vol l p) {i k : Nat} (hi : i < l.length) (hk : k < l.length) (hwi : willB l[i].sell l[i].price p = true) (hwk : willB l[k].sell l[k].price p = true)
    {t fi fk : Int} (ht : t = sideT (dem l p) (sup l p) l[i].sell) (hfi : fi = getsf l (dem l p) (sup l p) p i) (hfk : fk = getsf l (dem l p) (sup l p) p k) :
    vol l p * l[i].qty - fi * t < t ∧ -t < vol l p * l[i].qty - fi * t ∧
    (l[i].sell ≠ l[k].sell ∨ vol l p * l[i].qty < fi * t ∨ vol l p * l[i].qty - fi * t = 0 ∨ fk * t ≤ vol l p * l[k].qty ∨ vol l p * l[i].qty - fi * t < vol l p * l[k].qty - fk * t + t ∨ (vol l p * l[k].qty - fk * t + t = vol l p * l[i].qty - fi * t ∧ k < i)) := by
  obtain ⟨ei, bi1, bi2⟩ := will_eq hV hi hwi
  obtain ⟨ek, bk1, bk2⟩ := will_eq hV hk hwk
  rw [← ht] at ei bi2
  have fi_eq : fi * t = t * G0 l (dem l p) (sup l p) p i + more l p i * t := by rw [hfi, getsf_more, Int.add_mul, Int.mul_comm t]
  have hmi : more l p i = 0 ∨ more l p i = 1 ∧ 0 < L0 l (dem l p) (sup l p) p i := by
    by_cases h : (place (L0 l (dem l p) (sup l p) p) l.length i : Int) < left0 l (dem l p) (sup l p) p
    · exact .inr ⟨by unfold more; rw [if_pos h], more_lost hV h⟩
    · exact .inl (by unfold more; rw [if_neg h])
  rcases hmi with hmi | ⟨hmi, hz⟩
  · rw [hmi, Int.zero_mul, Int.add_zero] at fi_eq
    rw [fi_eq, ei]
    generalize hX : t * G0 l (dem l p) (sup l p) p i = X at *
    refine ⟨by omega, by omega, ?_⟩
    by_cases hs : l[i].sell = l[k].sell
    · by_cases hz : L0 l (dem l p) (sup l p) p i = 0
      · exact .inr (.inr (.inl (by omega)))
      · rw [← hs, ← ht] at ek
        have fk_eq : fk * t = t * G0 l (dem l p) (sup l p) p k + more l p k * t := by rw [hfk, getsf_more, Int.add_mul, Int.mul_comm t]
        rw [fk_eq, ek]
        generalize hY : t * G0 l (dem l p) (sup l p) p k = Y at *
        rcases more_01 (l := l) (p := p) k with hmk | hmk
        · rw [hmk, Int.zero_mul]
          exact .inr (.inr (.inr (.inl (by omega))))
        · rw [hmk, Int.one_mul]
          have h1 : (place (L0 l (dem l p) (sup l p) p) l.length k : Int) < left0 l (dem l p) (sup l p) p := by
            apply Classical.byContradiction
            intro h
            unfold more at hmk
            rw [if_neg h] at hmk
            omega
          have h2 : ¬ (place (L0 l (dem l p) (sup l p) p) l.length i : Int) < left0 l (dem l p) (sup l p) p := by
            intro h
            unfold more at hmi
            rw [if_pos h] at hmi
            omega
          have hne : i ≠ k := by intro h; subst h; omega
          rcases ahead_total (Z := L0 l (dem l p) (sup l p) p) hne with h3 | h3
          · rw [ahead_iff] at h3
            rcases h3 with h3 | ⟨h3, h4⟩
            · exact .inr (.inr (.inr (.inr (.inl (by omega)))))
            · exact .inr (.inr (.inr (.inr (.inr ⟨by omega, h4⟩))))
          · have := place_lt hi h3
            omega
    · exact .inl hs
  · rw [hmi, Int.one_mul] at fi_eq
    rw [fi_eq, ei]
    generalize hX : t * G0 l (dem l p) (sup l p) p i = X at *
    exact ⟨by omega, by omega, .inr (.inl (by omega))⟩

end
end Mk

namespace Go.Proofs.YtmebcdpdpcpnmaaGreatDoor
open Go.RowKit

/-- cell j of the orders l, laid one behind the other -/
def cellOf (l : List Mk.Ord) (j : Nat) : Value :=
  if j % 3 = 0 then .bool (l.getD (j / 3) Mk.ozero).sell else if j % 3 = 1 then .int .i64 (l.getD (j / 3) Mk.ozero).price else .int .i64 (l.getD (j / 3) Mk.ozero).qty

theorem cellOf_one (l : List Mk.Ord) (j : Nat) : (cellOf l j).oneCell' = true := by
  unfold cellOf; split
  · rfl
  · split <;> rfl
theorem cellOf_0 (l : List Mk.Ord) {i : Nat} (h : i < l.length) : cellOf l (i * 3) = .bool l[i].sell := by
  unfold cellOf
  rw [if_pos (by omega), show i * 3 / 3 = i by omega, Mk.getD_at h]
theorem cellOf_1 (l : List Mk.Ord) {i : Nat} (h : i < l.length) : cellOf l (i * 3 + 1) = .int .i64 l[i].price := by
  unfold cellOf
  rw [if_neg (by omega), if_pos (by omega), show (i * 3 + 1) / 3 = i by omega, Mk.getD_at h]
theorem cellOf_2 (l : List Mk.Ord) {i : Nat} (h : i < l.length) : cellOf l (i * 3 + 1 + 1) = .int .i64 l[i].qty := by
  unfold cellOf
  rw [if_neg (by omega), if_neg (by omega), show (i * 3 + 1 + 1) / 3 = i by omega, Mk.getD_at h]

theorem At.cell {w : World} {b off : Nat} {l : List Mk.Ord} (h : At w b off l) {j : Nat} (hj : j < l.length * 3) : w.cell? ⟨b, off + j, none⟩ = some (cellOf l j) := by
  have hi : j / 3 < l.length := by omega
  obtain ⟨c0, c1, c2⟩ := h (j / 3) hi
  obtain h3 | h3 | h3 : j = j / 3 * 3 ∨ j = j / 3 * 3 + 1 ∨ j = j / 3 * 3 + 1 + 1 := by omega
  · have e := cellOf_0 l hi
    rw [← h3] at e c0
    rw [e]; exact c0
  · have e := cellOf_1 l hi
    rw [← h3] at e
    rw [e]
    have : off + j = off + j / 3 * 3 + 1 := by omega
    rw [this]; exact c1
  · have e := cellOf_2 l hi
    rw [← h3] at e
    rw [e]
    have : off + j = off + j / 3 * 3 + 1 + 1 := by omega
    rw [this]; exact c2

/-- a row of cells whose head is the orders l -/
theorem at_of_row {w : World} {g m t : Nat} {f : Nat → Value} {l : List Mk.Ord} (h : w.rowIs g t m f) (hm : l.length * 3 ≤ m) (hf : ∀ j, j < l.length * 3 → f j = cellOf l j) : At w g 0 l := by
  intro i hi
  refine ⟨?_, ?_, ?_⟩
  · rw [Nat.zero_add, h.cell (by omega), hf _ (by omega), cellOf_0 l hi]
  · rw [Nat.zero_add, h.cell (by omega), hf _ (by omega), cellOf_1 l hi]
  · rw [Nat.zero_add, h.cell (by omega), hf _ (by omega), cellOf_2 l hi]

theorem Tryz.infoOrder : (Tryz.prog.info? 123).map (fun i => (i.zero, i.size, i.bytes)) = some (some (.agg #[.bool false, .int .i64 0, .int .i64 0]), 3, 24) := by kernel_rfl

/-- make([]api.Order, n): a new row of 3 n cells -/
theorem make_orders (w : World) (n : Nat) (hn : n ≤ 2000000) :
    ∃ W, (Instr.makeSlice 31 (.int .i64 (n : Int)) (.int .i64 (n : Int))).run Tryz.prog w = .ok (.slice (some ⟨w.heap.size, 0, none⟩) n n) W ∧
      Below w.heap.size w W ∧ w.heap.size < W.heap.size ∧ ∃ f, W.rowIs w.heap.size 123 (n * 3) f := by
  obtain ⟨i, hi, hzz⟩ := Option.map_eq_some_iff.1 Tryz.infoOrder
  simp only [Prod.mk.injEq] at hzz
  obtain ⟨hz, hs, hb⟩ := hzz
  have hr := run_make (P := Tryz.prog) w 31 123 i _ Tryz.underlying31 hi hz .i64 .i64 n n (by omega) (Int.le_refl _) (by rw [hb]; omega) (by omega)
  rw [hs] at hr
  simp only [Int.toNat_natCast] at hr
  refine ⟨_, hr, (Below.refl _ _).alloc (Nat.le_refl _) _, by simp, ?_⟩
  have hsz := size_madeCells (Value.agg #[.bool false, .int .i64 0, .int .i64 0]).cells (n * 3)
  have := World.rowIs_alloc w (madeCells (Value.agg #[.bool false, .int .i64 0, .int .i64 0]).cells (n * 3)) 123 (fun i => (madeCells (Value.agg #[.bool false, .int .i64 0, .int .i64 0]).cells (n * 3))[i]?.getD undef) (fun i hi => by rw [Array.getElem?_eq_getElem hi]; rfl)
  rw [hsz] at this
  exact ⟨_, this⟩

/-- copy(dst, src), both of orders: dst a row of the call's own with room for all -/
theorem copy_orders (w : World) (g m dLen dCap : Nat) (f : Nat → Value) (b off cap : Nat) (l : List Mk.Ord) (hg : w.rowIs g 123 m f) (hd : l.length ≤ dLen) (hm : l.length * 3 ≤ m) (hA : At w b off l) :
    ∃ W, (∀ ty, (Builtin.copy_ #[31, 31] ty #[.slice (some ⟨g, 0, none⟩) dLen dCap, .slice (some ⟨b, off, none⟩) l.length cap]).run Tryz.prog w = .ok (.int .i64 (l.length : Int)) W) ∧
      (∀ B, B ≤ g → Below B w W) ∧ W.rowIs g 123 m (fun j => if j < l.length * 3 then cellOf l j else f j) := by
  obtain ⟨cur, hcur, hsz, hc⟩ := hg
  let cs : List Value := (List.range (l.length * 3)).map (cellOf l)
  have hlen : cs.length = l.length * 3 := by simp [cs]
  have hcs : ∀ j v, cs[j]? = some v → j < l.length * 3 ∧ v = cellOf l j := by
    intro j v h
    have hj : j < cs.length := by
      apply Classical.byContradiction
      intro h'
      rw [List.getElem?_eq_none (by omega)] at h
      cases h
    rw [hlen] at hj
    refine ⟨hj, ?_⟩
    simp [cs, List.getElem?_map, List.getElem?_range hj] at h
    exact h.symm
  have hsrc : ∀ j v, cs[j]? = some v → w.cell? ((⟨b, off, none⟩ : Addr).add j) = some v := by
    intro j v h
    obtain ⟨hj, rfl⟩ := hcs j v h
    have : (⟨b, off, none⟩ : Addr).add j = ⟨b, off + j, none⟩ := by unfold Addr.add; split <;> simp_all
    rw [this]; exact hA.cell hj
  have h1 : ∀ v ∈ cs, v.oneCell' = true := by
    intro v hv
    simp only [cs, List.mem_map] at hv
    obtain ⟨j, _, rfl⟩ := hv
    exact cellOf_one l j
  have hl' := run_loadCells_list (P := Tryz.prog) w ⟨b, off, none⟩ cs hsrc
  have hst := run_storeCells_at Tryz.prog g 0 123 cs 0 cur w hcur (by rw [hlen, hsz]; omega) h1
  obtain ⟨i, hi, hzz⟩ := Option.map_eq_some_iff.1 Tryz.infoOrder
  simp only [Prod.mk.injEq] at hzz
  obtain ⟨hz, hs, hb⟩ := hzz
  refine ⟨w.setRow g (cur.toList.take (0 + 0) ++ cs ++ cur.toList.drop (0 + 0 + cs.length)).toArray, fun ty => ?_, fun B hB => below_setRow (Below.refl _ _) hB _, ?_⟩
  · have hmin : Nat.min l.length dLen = l.length := Nat.min_eq_left hd
    rw [hlen] at hl'
    simp [Builtin.copy_, run_underlying Tryz.underlying31, Builtin.lenOf, Builtin.firstCells, sizeOf, typeInfo, hi, hs, hmin, hl', hst, goInt]
  · refine ⟨_, setRow_heap w g cur _ _ _ hcur, by simp [hlen, hsz]; omega, fun j hj => ?_⟩
    simp only [Nat.add_zero, Nat.zero_add, List.take_zero, List.nil_append, List.getElem?_toArray]
    by_cases h : j < l.length * 3
    · rw [if_pos h, List.getElem?_append_left (by omega)]
      simp [cs, List.getElem?_map, List.getElem?_range h]
    · rw [if_neg h, List.getElem?_append_right (by omega), List.getElem?_drop, hlen]
      rw [show l.length * 3 + (j - l.length * 3) = j by omega]
      have := hc j hj
      simpa using this

end Go.Proofs.YtmebcdpdpcpnmaaGreatDoor

namespace Go.Proofs.YtmebcdpdpcpnmaaGreatDoor
open Go.RowKit

theorem Tryz.infoRef : (Tryz.prog.info? 120).map (fun i => (i.zero, i.size, i.bytes)) = some (some (.agg #[.bool false, .int .i64 0, .int .i64 0]), 3, 24) := by kernel_rfl

/-- the cells of the first k orders -/
def cellsTo (l : List Mk.Ord) (k : Nat) : List Value := (List.range (k * 3)).map (cellOf l)
theorem cellsTo_succ (l : List Mk.Ord) (k : Nat) (hk : k < l.length) : cellsTo l (k + 1) = cellsTo l k ++ [.bool l[k].sell, .int .i64 l[k].price, .int .i64 l[k].qty] := by
  unfold cellsTo
  rw [show (k + 1) * 3 = k * 3 + 1 + 1 + 1 by omega, List.range_succ, List.range_succ, List.range_succ]
  simp [cellOf_0 l hk, cellOf_1 l hk, cellOf_2 l hk]

theorem own_far {w : World} {base e size : Nat} {v : Value} {n : Nat} {xs : List Value} (h : w.ownsRow base e size v n xs) {b : Nat} (hb : b < base) : v.ownBlock ≠ some b := by
  rcases h.2 with ⟨rfl, _⟩ | ⟨g, cap, cur, rfl, hg, _⟩
  · simp [Value.ownBlock]
  · simp [Value.ownBlock]; omega
theorem own_ge {w : World} {base e size : Nat} {v : Value} {n : Nat} {xs : List Value} (h : w.ownsRow base e size v n xs) (k : Nat) (hk : v.ownBlock = some k) : base ≤ k := by
  apply Classical.byContradiction
  intro hlt
  exact own_far h (by omega) hk

set_option maxRecDepth 100000 in
set_option maxHeartbeats 3200000 in
theorem theirs_some (b off cap : Nat) (l : List Mk.Ord) (w : World) (hn : l.length ≤ 1048576) (hR : At w b off l) (hb0 : b < w.heap.size) :
    Calls Tryz.prog 41 #[.slice (some ⟨b, off, none⟩) l.length cap] w fun e w' => ∃ v, e = .returned v ∧ w'.ownsRow w.heap.size 120 3 v l.length (cellsTo l l.length) ∧ Below w.heap.size w w' := by
  obtain ⟨i0, hi0, hz0, hz1, hz2⟩ := info_parts Tryz.infoRef
  have HA : Hid (At w b off l) := hR
  clear hR
  go_enter Tryz.func41, Tryz.ntmps41
  go_wp2
  go_loopw [3, 4] (fun v i wr => ∃ k : Nat, k ≤ l.length ∧ i = .int .i64 k ∧ wr.ownsRow w.heap.size 120 3 v k (cellsTo l k) ∧ Below w.heap.size w wr) (fun _ i _ => l.length - (intOf i).toNat)
  case atStart => exact ⟨0, Nat.zero_le _, rfl, ⟨by simp [cellsTo], .inl ⟨rfl, rfl⟩⟩, Below.refl _ _⟩
  case round =>
    obtain ⟨k, hk, rfl, hown, hb⟩ := hrel
    have Hb : Hid (Below w.heap.size w wr) := hb
    clear hb
    by_cases hlt : k < l.length
    · obtain ⟨c0, c1, c2⟩ := At.below HA.out Hb.out k hlt
      have hob := own_far hown hb0
      have hsz := Hb.out.size
      have hbw : b < wr.heap.size := blk_lt c0
      have hlt0 : (0 : Int) ≤ (k : Int) := Int.natCast_nonneg _
      have hlt' : (k : Int) < (l.length : Int) := by omega
      go_wp2_with fail
      go_region_held3 (fun w' => w'.cell? ⟨b, off + k * 3, none⟩ = some (.bool l[k].sell) ∧ w'.cell? ⟨b, off + k * 3 + 1, none⟩ = some (.int .i64 l[k].price) ∧ w'.cell? ⟨b, off + k * 3 + 2, none⟩ = some (.int .i64 l[k].qty))
        (first
          | go_keep
          | (go_split_ands
             refine ⟨?_, ?_, ?_⟩
             · (rw [hgrow.cell_far _ (by simp; omega) (Ne.symm hob)]; assumption)
             · (rw [hgrow.cell_far _ (by simp; omega) (Ne.symm hob)]; assumption)
             · (rw [hgrow.cell_far _ (by simp; omega) (Ne.symm hob)]; assumption)))
        ((refine step_append_lies _ (by rfl) _ _ _ (by rfl) w.heap.size 120 i0 _ 3 24 Tryz.underlying96 hi0 hz0 hz1 hz2 rfl (by omega) _ k (cellsTo l k) (by rfl) ((hown.alloc _).drew)
            ⟨wr.heap.size, 0, none⟩ 1 1 [.bool l[k].sell, .int .i64 l[k].price, .int .i64 l[k].qty] (by rfl) (by rfl) (World.news_of_block (cs := #[.bool l[k].sell, .int .i64 l[k].price, .int .i64 l[k].qty]) (t := 120) (fr := (0, 0)) (heap_alloc_new wr _)) (by simp [Value.oneCell'])
            (by omega) (by unfold maxLen; omega) (by omega) (by simp; omega) (wr.heap.size + 1) (by simp) ?_; intro gg cap' w1 hown1 hgrow hat hlt1))
      go_wp2
      go_roundw
      case rel => exact ⟨k + 1, by omega, by go_num, by rw [cellsTo_succ l k hlt]; exact hown1, Below.grown ((Hb.out.alloc hsz _).drew) hgrow (by simp; omega) (fun j hj => own_ge hown j hj)⟩
      case measure => simp [intOf]; omega
    · obtain rfl : k = l.length := by omega
      go_wp2
      go_ret
      exact ⟨_, rfl, hown, Hb.out⟩

set_option maxHeartbeats 1000000 in
theorem theirs_nil (a : Option Addr) (cap : Nat) (w : World) :
    Calls Tryz.prog 41 #[.slice a 0 cap] w fun e w' => e = .returned (.slice none 0 0) ∧ Below w.heap.size w w' := by
  go_enter Tryz.func41, Tryz.ntmps41
  go_wp2
  go_loop [3, 4] (fun v i => i = .int .i64 0 ∧ v = .slice none 0 0) (fun _ i => 0)
  case atStart => exact ⟨rfl, rfl⟩
  case round =>
    obtain ⟨rfl, rfl⟩ := hrel
    go_wp2
    go_ret
    exact ⟨rfl, Below.refl _ _⟩

/-- an owned row of the orders' cells, as a slice that reads as the orders -/
theorem rd_of_own {w : World} {base e : Nat} {v : Value} {l : List Mk.Ord} (h : w.ownsRow base e 3 v l.length (cellsTo l l.length)) : ∃ a cap, v = .slice a l.length cap ∧ Rd w a l := by
  rcases h.2 with ⟨rfl, h0⟩ | ⟨g, cap, cur, rfl, hg, hh, hc1, hc2, hsz, htake⟩
  · rw [h0]
    exact ⟨none, 0, rfl, .inl (List.eq_nil_of_length_eq_zero h0)⟩
  · refine ⟨_, cap, rfl, .inr ⟨g, 0, rfl, ?_⟩⟩
    have hcell : ∀ j, j < l.length * 3 → w.cell? ⟨g, j, none⟩ = some (cellOf l j) := by
      intro j hj
      have h1 : w.cell? ⟨g, j, none⟩ = cur[j]? := by simp [World.cell?, hh]
      rw [h1]
      have h2 : (cur.toList.take (l.length * 3))[j]? = some (cellOf l j) := by
        rw [htake]; simp [cellsTo, List.getElem?_map, List.getElem?_range hj]
      rw [List.getElem?_take_of_lt hj] at h2
      simpa using h2
    intro i hi
    refine ⟨?_, ?_, ?_⟩
    · rw [Nat.zero_add, hcell _ (by omega), cellOf_0 l hi]
    · rw [Nat.zero_add, hcell _ (by omega), cellOf_1 l hi]
    · rw [Nat.zero_add, hcell _ (by omega), cellOf_2 l hi]

theorem theirs_any (a : Option Addr) (cap : Nat) (l : List Mk.Ord) (w : World) (hn : l.length ≤ 1048576) (hR : Rd w a l) :
    Calls Tryz.prog 41 #[.slice a l.length cap] w fun e w' => ∃ a' cap', e = .returned (.slice a' l.length cap') ∧ Rd w' a' l ∧ Below w.heap.size w w' := by
  rcases hR with rfl | ⟨b, off, rfl, hR⟩
  · refine (theirs_nil a cap w).mono ?_
    rintro e w' ⟨rfl, hb⟩
    exact ⟨none, 0, rfl, .inl rfl, hb⟩
  · by_cases hl : l = []
    · subst hl
      refine (theirs_nil _ cap w).mono ?_
      rintro e w' ⟨rfl, hb⟩
      exact ⟨none, 0, rfl, .inl rfl, hb⟩
    · have hpos : 0 < l.length := List.length_pos_iff.2 hl
      refine (theirs_some b off cap l w hn hR (blk_lt (hR 0 hpos).1)).mono ?_
      rintro e w' ⟨v, rfl, hown, hb⟩
      obtain ⟨a', cap', rfl, hR'⟩ := rd_of_own hown
      exact ⟨a', cap', rfl, hR', hb⟩

end Go.Proofs.YtmebcdpdpcpnmaaGreatDoor

namespace Go.Proofs.YtmebcdpdpcpnmaaGreatDoor
open Go.RowKit

theorem Tryz.infoStr : (Tryz.prog.info? 9).map (fun i => (i.zero, i.size, i.bytes)) = some (some (.string ⟨#[]⟩), 1, 16) := by kernel_rfl

set_option maxRecDepth 100000 in
set_option maxHeartbeats 2000000 in
theorem cut_any (s : ByteArray) (w : World) (hs : s.size ≤ 1000000) :
    Calls Tryz.prog 47 #[.string s] w fun e w' => ∃ v, e = .returned v ∧ w'.ownsRow w.heap.size 9 1 v (Mk.words s).length ((Mk.words s).map .string) ∧ Below w.heap.size w w' := by
  obtain ⟨i0, hi0, hz0, hz1, hz2⟩ := info_parts Tryz.infoStr
  go_enter Tryz.func47, Tryz.ntmps47
  go_wp2
  go_loopw [3, 4, 5] (fun v f j wr => ∃ k : Nat, k ≤ s.size ∧ j = .int .i64 k ∧ f = .int .i64 ((Mk.cutTo s k).2 : Int) ∧ wr.ownsRow w.heap.size 9 1 v (Mk.cutTo s k).1.length ((Mk.cutTo s k).1.map .string) ∧ Below w.heap.size w wr) (fun _ _ j _ => s.size - (intOf j).toNat)
  case atStart => exact ⟨0, Nat.zero_le _, rfl, rfl, ⟨by simp [Mk.cutTo], .inl ⟨rfl, rfl⟩⟩, Below.refl _ _⟩
  case round =>
    obtain ⟨k, hk, rfl, rfl, hown, hb⟩ := hrel
    have Hb : Hid (Below w.heap.size w wr) := hb
    clear hb
    obtain ⟨q1, q2⟩ := Mk.cutTo_le s k
    have q1' : ((Mk.cutTo s k).2 : Int) ≤ (k : Int) := by omega
    have hsz := Hb.out.size
    by_cases hlt : k < s.size
    · have hlt' : (k : Int) < (s.size : Int) := by omega
      have HB : Hid (s[k].toNat = Mk.bt s k) := Mk.bt_at hlt
      by_cases hsp : s[k].toNat = 32
      · have hsp' : ((s[k].toNat : Int) == 32) = true := by rw [beq_iff_eq]; omega
        have HC : Hid (Mk.cutTo s (k + 1) = ((Mk.cutTo s k).1 ++ [s.extract (Mk.cutTo s k).2 k], k + 1)) := Mk.cutTo_yes (by rw [← HB.out]; exact hsp)
        have hle : ((Mk.cutTo s k).2 : Int) ≤ (k : Int) ∧ (k : Int) ≤ (s.size : Int) := by omega
        clear hsp
        go_wp2_with (at_builtin; (refine wpList_append_lies _ rfl _ _ _ rfl w.heap.size 9 i0 _ 1 16 Tryz.underlying25 hi0 hz0 hz1 hz2 rfl (by omega) _ (Mk.cutTo s k).1.length ((Mk.cutTo s k).1.map .string) rfl (hown.alloc _) ⟨wr.heap.size, 0, none⟩ 1 1 [.string (s.extract (Mk.cutTo s k).2 k)] rfl rfl (World.news_of_block (cs := #[.string (s.extract (Mk.cutTo s k).2 k)]) (t := 9) (fr := (0, 0)) (heap_alloc_new wr _)) (by simp [Value.oneCell']) (by omega) (by unfold maxLen; omega) (by omega) (by simp; omega) (wr.heap.size + 1) (by simp) ?_; intro gg cap' w1 hown1 hgrow hat hlt1))
        have HO1 := (show Hid _ from hown1)
        have HB1 : Hid (Below w.heap.size w w1) := Below.grown (Hb.out.alloc hsz _) hgrow (by simp; omega) (fun j hj => own_ge hown j hj)
        clear hown1 hgrow hat hown
        go_wp2
        go_roundw
        case rel =>
          refine ⟨k + 1, by omega, by go_num, by rw [HC.out]; go_num, ?_, HB1.out⟩
          rw [HC.out]
          simp only [List.length_append, List.length_cons, List.length_nil, Nat.zero_add, List.map_append, List.map_cons, List.map_nil]
          exact HO1.out
        case measure => simp [intOf]; omega
      · have hsp' : ((s[k].toNat : Int) == 32) = false := by rw [beq_eq_false_iff_ne]; omega
        have HC : Hid (Mk.cutTo s (k + 1) = Mk.cutTo s k) := Mk.cutTo_no (by rw [← HB.out]; exact hsp)
        have HO1 := (show Hid _ from hown)
        clear hsp hown
        go_wp2
        go_roundw
        case rel =>
          refine ⟨k + 1, by omega, by go_num, by rw [HC.out], ?_, Hb.out⟩
          rw [HC.out]
          exact HO1.out
        case measure => simp [intOf]; omega
    · obtain rfl : k = s.size := by omega
      have HW : Hid (Mk.words s = (Mk.cutTo s s.size).1 ++ [s.extract (Mk.cutTo s s.size).2 s.size]) := rfl
      go_wp2_with (at_builtin; (refine wpList_append_lies _ rfl _ _ _ rfl w.heap.size 9 i0 _ 1 16 Tryz.underlying25 hi0 hz0 hz1 hz2 rfl (by omega) _ (Mk.cutTo s s.size).1.length ((Mk.cutTo s s.size).1.map .string) rfl (hown.alloc _) ⟨wr.heap.size, 0, none⟩ 1 1 [.string (s.extract (Mk.cutTo s s.size).2 s.size)] rfl rfl (World.news_of_block (cs := #[.string (s.extract (Mk.cutTo s s.size).2 s.size)]) (t := 9) (fr := (0, 0)) (heap_alloc_new wr _)) (by simp [Value.oneCell']) (by omega) (by unfold maxLen; omega) (by omega) (by simp; omega) (wr.heap.size + 1) (by simp) ?_; intro gg cap' w1 hown1 hgrow hat hlt1))
      have HO1 := (show Hid _ from hown1)
      have HB1 : Hid (Below w.heap.size w w1) := Below.grown (Hb.out.alloc hsz _) hgrow (by simp; omega) (fun j hj => own_ge hown j hj)
      clear hown1 hgrow hat hown
      go_wp2
      go_ret
      refine ⟨_, rfl, ?_, HB1.out⟩
      rw [HW.out]
      simp only [List.length_append, List.length_cons, List.length_nil, Nat.zero_add, List.map_append, List.map_cons, List.map_nil]
      exact HO1.out

end Go.Proofs.YtmebcdpdpcpnmaaGreatDoor
