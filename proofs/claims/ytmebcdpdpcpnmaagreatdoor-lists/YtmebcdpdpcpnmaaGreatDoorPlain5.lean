import Derived.Test.YtmebcdpdpcpnmaaGreatDoorPlain4
/- Plain mathematics: counting; both sides get as much; who gets one more. -/
namespace Mk

theorem sumn_congr {f g : Nat → Int} {n : Nat} (h : ∀ i, i < n → f i = g i) : sumn f n = sumn g n := by
  induction n with
  | zero => rfl
  | succ k ih => simp only [sumn]; rw [ih (fun i hi => h i (by omega)), h k (by omega)]
theorem sumn_add (f g : Nat → Int) (n : Nat) : sumn (fun i => f i + g i) n = sumn f n + sumn g n := by
  induction n with
  | zero => rfl
  | succ k ih => simp only [sumn, ih]; omega
theorem sumn_mul (c : Int) (f : Nat → Int) (n : Nat) : sumn (fun i => c * f i) n = c * sumn f n := by
  induction n with
  | zero => simp [sumn]
  | succ k ih => simp only [sumn, ih]; rw [Int.mul_add]
theorem sumn_zero {f : Nat → Int} {n : Nat} (h : ∀ i, i < n → f i = 0) : sumn f n = 0 := by
  induction n with
  | zero => rfl
  | succ k ih => simp only [sumn]; rw [ih (fun i hi => h i (by omega)), h k (by omega)]; rfl
theorem sumn_nonneg {f : Nat → Int} {n : Nat} (h : ∀ i, i < n → 0 ≤ f i) : 0 ≤ sumn f n := by
  induction n with
  | zero => simp [sumn]
  | succ k ih => simp only [sumn]; have := ih (fun i hi => h i (by omega)); have := h k (by omega); omega
theorem sumn_cnt (P : Nat → Bool) (n : Nat) : sumn (fun i => if P i then 1 else 0) n = cnt P n := by
  induction n with
  | zero => rfl
  | succ k ih => simp only [sumn, cnt, ih]; split <;> simp

theorem cnt_congr {P Q : Nat → Bool} {n : Nat} (h : ∀ i, i < n → P i = Q i) : cnt P n = cnt Q n := by
  induction n with
  | zero => rfl
  | succ k ih => simp only [cnt]; rw [ih (fun i hi => h i (by omega)), h k (by omega)]
theorem cnt_mono {P Q : Nat → Bool} {n : Nat} (h : ∀ i, i < n → P i = true → Q i = true) : cnt P n ≤ cnt Q n := by
  induction n with
  | zero => simp [cnt]
  | succ k ih =>
    have h1 := ih (fun i hi => h i (by omega))
    have h2 := h k (by omega)
    simp only [cnt]
    cases hp : P k with
    | false => simp; omega
    | true => simp [h2 hp]; omega
theorem cnt_lt {P Q : Nat → Bool} {n j : Nat} (h : ∀ i, i < n → P i = true → Q i = true) (hj : j < n) (hQ : Q j = true) (hP : P j = false) : cnt P n < cnt Q n := by
  induction n with
  | zero => omega
  | succ k ih =>
    simp only [cnt]
    by_cases e : j = k
    · subst e
      have := cnt_mono (n := j) (fun i hi => h i (by omega))
      simp [hQ, hP]; omega
    · have h1 := ih (fun i hi => h i (by omega)) (by omega)
      have h2 := h k (by omega)
      cases hp : P k with
      | false => simp; omega
      | true => simp [h2 hp]; omega
theorem cnt_false {P : Nat → Bool} {n : Nat} (h : ∀ i, i < n → P i = false) : cnt P n = 0 := by
  induction n with
  | zero => rfl
  | succ k ih => simp only [cnt]; rw [ih (fun i hi => h i (by omega)), h k (by omega)]; rfl
theorem cnt_true {P : Nat → Bool} {n : Nat} (h : ∀ i, i < n → P i = true) : cnt P n = n := by
  induction n with
  | zero => rfl
  | succ k ih => simp only [cnt]; rw [ih (fun i hi => h i (by omega)), h k (by omega)]; rfl
theorem cnt_one {P : Nat → Bool} {n : Nat} (h : ∀ i j, i < n → j < n → P i = true → P j = true → i = j) : cnt P n ≤ 1 := by
  induction n with
  | zero => simp [cnt]
  | succ k ih =>
    simp only [cnt]
    cases hp : P k with
    | false => simp; exact ih (fun i j hi hj => h i j (by omega) (by omega))
    | true =>
      have : cnt P k = 0 := cnt_false (fun i hi => by
        cases hi' : P i with
        | false => rfl
        | true => have := h i k (by omega) (by omega) hi' hp; omega)
      simp [this]
theorem cnt_or {P Q R : Nat → Bool} {n : Nat} (h : ∀ i, i < n → R i = true → P i = true ∨ Q i = true) : cnt R n ≤ cnt P n + cnt Q n := by
  induction n with
  | zero => simp [cnt]
  | succ k ih =>
    have h1 := ih (fun i hi => h i (by omega))
    have h2 := h k (by omega)
    simp only [cnt]
    cases hr : R k with
    | false => simp; omega
    | true => rcases h2 hr with h3 | h3 <;> simp [h3] <;> omega

/- the places are 0 .. n - 1, each once -/
theorem place_lt {Z : Nat → Int} {n i j : Nat} (hj : j < n) (h : aheadB Z i j = true) : place Z n j < place Z n i := by
  unfold place
  rw [ahead_iff] at h
  refine cnt_lt (j := j) (fun x _ hx => ?_) hj ((ahead_iff Z i j).2 h) ?_
  · rw [ahead_iff] at hx ⊢; omega
  · rw [← Bool.not_eq_true, ahead_iff]; omega
theorem ahead_total {Z : Nat → Int} {i j : Nat} (h : i ≠ j) : aheadB Z i j = true ∨ aheadB Z j i = true := by
  rw [ahead_iff, ahead_iff]; omega
theorem place_inj {Z : Nat → Int} {n i j : Nat} (hi : i < n) (hj : j < n) (h : place Z n i = place Z n j) : i = j := by
  apply Classical.byContradiction
  intro hne
  rcases ahead_total (Z := Z) hne with h1 | h1
  · have := place_lt hj h1; omega
  · have := place_lt hi h1; omega
theorem place_bd {Z : Nat → Int} {n i : Nat} (hi : i < n) : place Z n i < n := by
  have h := cnt_lt (P := aheadB Z i) (Q := fun _ => true) (n := n) (j := i) (fun _ _ _ => rfl) hi rfl (by rw [← Bool.not_eq_true, ahead_iff]; omega)
  rw [cnt_true (fun _ _ => rfl)] at h
  exact h
theorem cnt_step (Z : Nat → Int) (n m : Nat) : cnt (fun i => decide (place Z n i < m + 1)) n ≤ cnt (fun i => decide (place Z n i < m)) n + 1 := by
  have h1 := cnt_or (n := n) (R := fun i => decide (place Z n i < m + 1)) (P := fun i => decide (place Z n i < m)) (Q := fun i => decide (place Z n i = m)) (fun i _ h => by simp at h ⊢; omega)
  have h2 : cnt (fun i => decide (place Z n i = m)) n ≤ 1 := cnt_one (fun i j hi hj h3 h4 => place_inj (Z := Z) hi hj (by simp at h3 h4; omega))
  omega
theorem cnt_place_le (Z : Nat → Int) (n m : Nat) : cnt (fun i => decide (place Z n i < m)) n ≤ m := by
  induction m with
  | zero => rw [cnt_false (fun i _ => by simp)]; omega
  | succ k ih => have := cnt_step Z n k; omega
theorem cnt_place_ge (Z : Nat → Int) (n j : Nat) : ∀ m, m + j = n → m ≤ cnt (fun i => decide (place Z n i < m)) n := by
  induction j with
  | zero =>
    intro m hm
    rw [cnt_true (fun i hi => by have := place_bd (Z := Z) hi; simp; omega)]; omega
  | succ j ih =>
    intro m hm
    have h1 := ih (m + 1) (by omega)
    have h2 := cnt_step Z n m
    omega
theorem cnt_place (Z : Nat → Int) {n m : Nat} (h : m ≤ n) : cnt (fun i => decide (place Z n i < m)) n = m :=
  Nat.le_antisymm (cnt_place_le Z n m) (cnt_place_ge Z n (n - m) m (by omega))

/- sums over the list, and over its indices -/
theorem getD_at {l : List Ord} {k : Nat} (h : k < l.length) : l.getD k ozero = l[k] := by simp [List.getD, List.getElem?_eq_getElem h]
theorem sumf_take_n (f : Ord → Int) (l : List Ord) (k : Nat) (h : k ≤ l.length) : sumf f (l.take k) = sumn (fun i => f (l.getD i ozero)) k := by
  induction k with
  | zero => simp [sumf, sumn]
  | succ k ih => rw [sumf_take_succ f l k (by omega), ih (by omega)]; simp only [sumn]; rw [getD_at (by omega)]
theorem sumf_n (f : Ord → Int) (l : List Ord) : sumf f l = sumn (fun i => f (l.getD i ozero)) l.length := by
  have := sumf_take_n f l l.length (Nat.le_refl _); rwa [List.take_length] at this

/-- the sum over one side -/
def sideSum (l : List Ord) (b : Bool) (f : Nat → Int) : Int := sumn (fun i => if (l.getD i ozero).sell = b then f i else 0) l.length
def sideT (d s : Int) (b : Bool) : Int := if b then s else d
def side (l : List Ord) (b : Bool) (p : Int) : Int := sumf (sideq b p) l

theorem sides_add (l : List Ord) (f : Nat → Int) : sumn f l.length = sideSum l false f + sideSum l true f := by
  unfold sideSum
  rw [← sumn_add]
  refine sumn_congr (fun i _ => ?_)
  cases (l.getD i ozero).sell <;> simp

/-- an order's equation: its slots times V are what it gets times its side's sum, and what it lost -/
theorem order_eq {d s p : Int} (h1 : 1 ≤ d) (h2 : 1 ≤ s) (o : Ord) (b : Bool) :
    less d s * sideq b p o = sideT d s b * (if o.sell = b then shareo d s p o else 0) + (if o.sell = b then losto d s p o else 0) := by
  obtain ⟨sl, pr, q⟩ := o
  by_cases hb : sl = b
  · subst hb
    have ht : tot d s ⟨sl, pr, q⟩ = sideT d s sl := rfl
    have h3 : 1 ≤ sideT d s sl := by unfold sideT; split <;> assumption
    rw [sideq_mk]
    rcases Bool.eq_false_or_eq_true (willB sl pr p) with hw | hw
    · obtain ⟨e1, e2⟩ := share_yes (d := d) (s := s) (p := p) (o := ⟨sl, pr, q⟩) (by rw [ht]; exact h3) hw
      rw [e1, e2, ht, hw]
      simp only [beq_self_eq_true, Bool.and_self, if_true]
      rw [Int.mul_ediv_add_emod]
    · obtain ⟨e1, e2⟩ := share_no (d := d) (s := s) (p := p) (o := ⟨sl, pr, q⟩) (.inr hw)
      rw [e1, e2, hw]; simp
  · rw [sideq_mk]; simp [hb]

theorem side_eq {l : List Ord} {d s p : Int} (h1 : 1 ≤ d) (h2 : 1 ≤ s) (b : Bool) :
    less d s * side l b p = sideT d s b * sideSum l b (G0 l d s p) + sideSum l b (L0 l d s p) := by
  unfold side sideSum
  rw [sumf_n, ← sumn_mul, ← sumn_mul, ← sumn_add]
  exact sumn_congr (fun i _ => order_eq h1 h2 _ b)

/-- what is lost lies below its side's sum; nothing is lost by the unwilling, nor where V is the side's sum -/
theorem losto_bd {d s p : Int} (h1 : 1 ≤ d) (h2 : 1 ≤ s) (o : Ord) : 0 ≤ losto d s p o ∧ losto d s p o < tot d s o := by
  have ht : 1 ≤ tot d s o := by unfold tot; split <;> assumption
  unfold losto
  split
  · omega
  · exact ⟨Int.emod_nonneg _ (by omega), Int.emod_lt_of_pos _ (by omega)⟩
theorem losto_short {d s p : Int} (o : Ord) (h : tot d s o = less d s) : losto d s p o = 0 := by
  unfold losto
  split
  · rfl
  · rw [h]; exact Int.mul_emod_right _ _

end Mk
