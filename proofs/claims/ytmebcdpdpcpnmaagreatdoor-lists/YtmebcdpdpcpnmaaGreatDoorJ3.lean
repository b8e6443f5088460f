import Derived.Test.YtmebcdpdpcpnmaaGreatDoorJ2
/- Plain mathematics: both sides get V; who gets one more. -/
namespace Mk

theorem side_is (l : List Ord) (p : Int) (b : Bool) : side l b p = sideT (dem l p) (sup l p) b := by cases b <;> rfl

section
variable {l : List Ord} {p : Int}

/-- the side whose sum is the greater -/
def long (l : List Ord) (p : Int) : Bool := decide (dem l p < sup l p)

theorem one_le (hV : 1 ≤ vol l p) : 1 ≤ dem l p ∧ 1 ≤ sup l p := by
  unfold vol less at hV; split at hV <;> omega
theorem short_T : sideT (dem l p) (sup l p) (!long l p) = vol l p := by
  unfold long vol less sideT
  by_cases h : dem l p < sup l p <;> simp [h]

theorem tot_of (o : Ord) : tot (dem l p) (sup l p) o = sideT (dem l p) (sup l p) o.sell := rfl

theorem L0_short (i : Nat) (h : (l.getD i ozero).sell = !long l p) : L0 l (dem l p) (sup l p) p i = 0 := by
  unfold L0
  refine losto_short _ ?_
  rw [tot_of, h, short_T]; rfl
theorem L0_bd (hV : 1 ≤ vol l p) (i : Nat) : 0 ≤ L0 l (dem l p) (sup l p) p i ∧ L0 l (dem l p) (sup l p) p i < sideT (dem l p) (sup l p) (long l p) := by
  obtain ⟨h1, h2⟩ := one_le hV
  by_cases h : (l.getD i ozero).sell = long l p
  · have := losto_bd (p := p) h1 h2 (l.getD i ozero)
    rw [tot_of, h] at this
    exact this
  · have h' : (l.getD i ozero).sell = !long l p := by
      revert h; cases (l.getD i ozero).sell <;> cases long l p <;> simp
    rw [L0_short i h']
    have : 1 ≤ sideT (dem l p) (sup l p) (long l p) := by unfold sideT; split <;> assumption
    omega

theorem short_sum (hV : 1 ≤ vol l p) : sideSum l (!long l p) (G0 l (dem l p) (sup l p) p) = vol l p := by
  obtain ⟨h1, h2⟩ := one_le hV
  have e := side_eq (l := l) (p := p) h1 h2 (!long l p)
  rw [side_is, short_T] at e
  have hB : sideSum l (!long l p) (L0 l (dem l p) (sup l p) p) = 0 := by
    unfold sideSum
    refine sumn_zero (fun i _ => ?_)
    by_cases h : (l.getD i ozero).sell = !long l p
    · rw [if_pos h, L0_short i h]
    · rw [if_neg h]
  rw [hB, Int.add_zero] at e
  have hv : vol l p ≠ 0 := by omega
  exact (Int.eq_of_mul_eq_mul_left hv (show vol l p * vol l p = _ from e)).symm

theorem long_eq (hV : 1 ≤ vol l p) : sideT (dem l p) (sup l p) (long l p) * (vol l p - sideSum l (long l p) (G0 l (dem l p) (sup l p) p)) = sumn (L0 l (dem l p) (sup l p) p) l.length := by
  obtain ⟨h1, h2⟩ := one_le hV
  have e := side_eq (l := l) (p := p) h1 h2 (long l p)
  rw [side_is] at e
  have hS := sides_add l (L0 l (dem l p) (sup l p) p)
  have hB : sideSum l (!long l p) (L0 l (dem l p) (sup l p) p) = 0 := by
    unfold sideSum
    refine sumn_zero (fun i _ => ?_)
    by_cases h : (l.getD i ozero).sell = !long l p
    · rw [if_pos h, L0_short i h]
    · rw [if_neg h]
  have hS' : sumn (L0 l (dem l p) (sup l p) p) l.length = sideSum l (long l p) (L0 l (dem l p) (sup l p) p) := by
    rw [hS]; revert hB; cases long l p <;> simp <;> omega
  rw [hS', Int.mul_sub]
  have e' : vol l p * sideT (dem l p) (sup l p) (long l p) = sideT (dem l p) (sup l p) (long l p) * sideSum l (long l p) (G0 l (dem l p) (sup l p) p) + sideSum l (long l p) (L0 l (dem l p) (sup l p) p) := e
  rw [Int.mul_comm (sideT _ _ _) (vol l p)]
  omega

theorem left_is (hV : 1 ≤ vol l p) : left0 l (dem l p) (sup l p) p = vol l p - sideSum l (long l p) (G0 l (dem l p) (sup l p) p) := by
  have h1 := sides_add l (G0 l (dem l p) (sup l p) p)
  have h2 := short_sum hV
  unfold left0
  rw [h1]
  show 2 * vol l p - _ = _
  revert h2; cases long l p <;> simp <;> omega

/-- how many lost something -/
def losers (l : List Ord) (p : Int) : Nat := cnt (fun i => decide (0 < L0 l (dem l p) (sup l p) p i)) l.length

theorem lost_le {Z : Nat → Int} {T : Int} {n : Nat} (h : ∀ i, i < n → 0 ≤ Z i ∧ Z i < T) : sumn Z n ≤ (T - 1) * (cnt (fun i => decide (0 < Z i)) n : Int) := by
  induction n with
  | zero => simp [sumn, cnt]
  | succ k ih =>
    have h1 := ih (fun i hi => h i (by omega))
    have h2 := h k (by omega)
    simp only [sumn, cnt]
    by_cases hz : 0 < Z k
    · simp only [hz, decide_true, if_true]
      rw [Int.natCast_add, Int.mul_add]; simp; omega
    · simp only [hz, decide_false]
      simp; omega

theorem left_bd (hV : 1 ≤ vol l p) : 0 ≤ left0 l (dem l p) (sup l p) p ∧ left0 l (dem l p) (sup l p) p ≤ losers l p := by
  obtain ⟨h1, h2⟩ := one_le hV
  have hT : 1 ≤ sideT (dem l p) (sup l p) (long l p) := by unfold sideT; split <;> assumption
  have e := long_eq hV
  rw [← left_is hV] at e
  have hs := sumn_nonneg (n := l.length) (fun i _ => (L0_bd hV i).1)
  have hl := lost_le (n := l.length) (fun i _ => L0_bd hV i)
  rw [← e] at hs hl
  unfold losers
  generalize sideT (dem l p) (sup l p) (long l p) = T at *
  generalize left0 l (dem l p) (sup l p) p = x at *
  generalize hc : cnt (fun i => decide (0 < L0 l (dem l p) (sup l p) p i)) l.length = c at *
  constructor
  · apply Classical.byContradiction
    intro hx
    have h3 : T * x ≤ T * (-1) := Int.mul_le_mul_of_nonneg_left (by omega) (by omega)
    omega
  · apply Classical.byContradiction
    intro hx
    have h3 : T * ((c : Int) + 1) ≤ T * x := Int.mul_le_mul_of_nonneg_left (by omega) (by omega)
    rw [Int.mul_add] at h3
    rw [Int.sub_mul] at hl
    omega

/-- who lost nothing gets none more -/
theorem more_lost (hV : 1 ≤ vol l p) {i : Nat} (h : (place (L0 l (dem l p) (sup l p) p) l.length i : Int) < left0 l (dem l p) (sup l p) p) : 0 < L0 l (dem l p) (sup l p) p i := by
  apply Classical.byContradiction
  intro hz
  have hb := L0_bd hV i
  have h1 : losers l p ≤ place (L0 l (dem l p) (sup l p) p) l.length i := by
    unfold losers place
    refine cnt_mono (fun j _ hj => ?_)
    rw [ahead_iff]
    simp at hj
    omega
  have h2 := (left_bd hV).2
  omega

/-- what is handed out besides -/
def more (l : List Ord) (p : Int) (i : Nat) : Int := if (place (L0 l (dem l p) (sup l p) p) l.length i : Int) < left0 l (dem l p) (sup l p) p then 1 else 0

theorem more_all (hV : 1 ≤ vol l p) : sumn (more l p) l.length = left0 l (dem l p) (sup l p) p := by
  obtain ⟨h1, h2⟩ := left_bd hV
  obtain ⟨m, hm⟩ := Int.eq_ofNat_of_zero_le h1
  have h3 : losers l p ≤ l.length := cnt_le _ _
  have hc := cnt_place (L0 l (dem l p) (sup l p) p) (n := l.length) (m := m) (by omega)
  have e : sumn (more l p) l.length = sumn (fun i => if (fun i => decide (place (L0 l (dem l p) (sup l p) p) l.length i < m)) i then 1 else 0) l.length := by
    refine sumn_congr (fun i _ => ?_)
    unfold more
    rw [hm]
    by_cases h : place (L0 l (dem l p) (sup l p) p) l.length i < m
    · rw [if_pos (by omega), if_pos (by simpa using h)]
    · rw [if_neg (by omega), if_neg (by simpa using h)]
  rw [e, sumn_cnt, hc, hm]

theorem more_side (hV : 1 ≤ vol l p) {i : Nat} (h : (l.getD i ozero).sell ≠ long l p) : more l p i = 0 := by
  unfold more
  rw [if_neg]
  intro h1
  have h2 := more_lost hV h1
  rw [L0_short i (by revert h; cases (l.getD i ozero).sell <;> cases long l p <;> simp)] at h2
  omega

/-- BOTH SIDES GET V TOGETHER -/
theorem side_total (hV : 1 ≤ vol l p) (b : Bool) : sideSum l b (getsf l (dem l p) (sup l p) p) = vol l p := by
  have e : sideSum l b (getsf l (dem l p) (sup l p) p) = sideSum l b (G0 l (dem l p) (sup l p) p) + sideSum l b (more l p) := by
    unfold sideSum
    rw [← sumn_add]
    refine sumn_congr (fun i _ => ?_)
    by_cases h : (l.getD i ozero).sell = b
    · rw [if_pos h, if_pos h, if_pos h]; rfl
    · rw [if_neg h, if_neg h, if_neg h]; rfl
  rw [e]
  have hm := more_all hV
  have hl := left_is hV
  by_cases hb : b = long l p
  · subst hb
    have : sideSum l (long l p) (more l p) = sumn (more l p) l.length := by
      unfold sideSum
      refine sumn_congr (fun i _ => ?_)
      by_cases h : (l.getD i ozero).sell = long l p
      · rw [if_pos h]
      · rw [if_neg h, more_side hV h]
    rw [this, hm, hl]; omega
  · have hb' : b = !long l p := by revert hb; cases b <;> cases long l p <;> simp
    subst hb'
    have : sideSum l (!long l p) (more l p) = 0 := by
      unfold sideSum
      refine sumn_zero (fun i _ => ?_)
      by_cases h : (l.getD i ozero).sell = !long l p
      · rw [if_pos h, more_side hV (by rw [h]; cases long l p <;> simp)]
      · rw [if_neg h]
    rw [this, short_sum hV]; omega

end
end Mk

/- Plain mathematics: nobody is wronged. -/
namespace Mk

section
variable {l : List Ord} {p : Int}

theorem more_01 (i : Nat) : more l p i = 0 ∨ more l p i = 1 := by unfold more; split <;> simp
theorem getsf_more (i : Nat) : getsf l (dem l p) (sup l p) p i = G0 l (dem l p) (sup l p) p i + more l p i := rfl

theorem getsf_bd (hv : validB 20 l = true) (i : Nat) : 0 ≤ getsf l (dem l p) (sup l p) p i ∧ getsf l (dem l p) (sup l p) p i ≤ 4801 := by
  have h1 := G0_bd (p := p) hv (dem_bd hv p) (sup_bd hv p) i
  have h2 := more_01 (l := l) (p := p) i
  rw [getsf_more]; omega

/-- a willing order's equation -/
theorem will_eq (hV : 1 ≤ vol l p) {i : Nat} (hi : i < l.length) (hw : willB l[i].sell l[i].price p = true) :
    vol l p * l[i].qty = sideT (dem l p) (sup l p) l[i].sell * G0 l (dem l p) (sup l p) p i + L0 l (dem l p) (sup l p) p i ∧
    0 ≤ L0 l (dem l p) (sup l p) p i ∧ L0 l (dem l p) (sup l p) p i < sideT (dem l p) (sup l p) l[i].sell := by
  obtain ⟨h1, h2⟩ := one_le hV
  have e := order_eq (p := p) h1 h2 l[i] l[i].sell
  simp only [if_true, sideq, hw, beq_self_eq_true, Bool.and_self] at e
  have hb := losto_bd (p := p) h1 h2 l[i]
  rw [← L0_at hi, tot_of] at hb
  rw [← L0_at hi, ← G0_at hi] at e
  exact ⟨e, hb⟩

/-- who is not willing gets nothing -/
theorem unwilling (hV : 1 ≤ vol l p) {i : Nat} (hi : i < l.length) (hw : willB l[i].sell l[i].price p = false) : getsf l (dem l p) (sup l p) p i = 0 := by
  obtain ⟨e1, e2⟩ := share_no (d := dem l p) (s := sup l p) (p := p) (o := l[i]) (.inr hw)
  rw [← G0_at hi] at e1
  rw [← L0_at hi] at e2
  rw [getsf_more, e1]
  have : more l p i = 0 := by
    unfold more
    rw [if_neg]
    intro h
    have := more_lost hV h
    omega
  omega

theorem fair_fact (hV : 1 ≤ vol l p) {i k : Nat} (hi : i < l.length) (hk : k < l.length) (hwi : willB l[i].sell l[i].price p = true) (hwk : willB l[k].sell l[k].price p = true)
    {t fi fk : Int} (ht : t = sideT (dem l p) (sup l p) l[i].sell) (hfi : fi = getsf l (dem l p) (sup l p) p i) (hfk : fk = getsf l (dem l p) (sup l p) p k) :
    vol l p * l[i].qty - fi * t < t ∧ -t < vol l p * l[i].qty - fi * t ∧
    (l[i].sell ≠ l[k].sell ∨ vol l p * l[i].qty < fi * t ∨ vol l p * l[i].qty - fi * t = 0 ∨ fk * t ≤ vol l p * l[k].qty ∨ vol l p * l[i].qty - fi * t < vol l p * l[k].qty - fk * t + t ∨ (vol l p * l[k].qty - fk * t + t = vol l p * l[i].qty - fi * t ∧ k < i)) := by
  obtain ⟨ei, bi1, bi2⟩ := will_eq hV hi hwi
  obtain ⟨ek, bk1, bk2⟩ := will_eq hV hk hwk
  rw [← ht] at ei bi2
  have fi_eq : fi * t = t * G0 l (dem l p) (sup l p) p i + more l p i * t := by rw [hfi, getsf_more, Int.add_mul, Int.mul_comm t]
  have hmi : more l p i = 0 ∨ more l p i = 1 ∧ 0 < L0 l (dem l p) (sup l p) p i := by
    by_cases h : (place (L0 l (dem l p) (sup l p) p) l.length i : Int) < left0 l (dem l p) (sup l p) p
    · exact .inr ⟨by unfold more; rw [if_pos h], more_lost hV h⟩
    · exact .inl (by unfold more; rw [if_neg h])
  rcases hmi with hmi | ⟨hmi, hz⟩
  · rw [hmi, Int.zero_mul, Int.add_zero] at fi_eq
    rw [fi_eq, ei]
    generalize hX : t * G0 l (dem l p) (sup l p) p i = X at *
    refine ⟨by omega, by omega, ?_⟩
    by_cases hs : l[i].sell = l[k].sell
    · by_cases hz : L0 l (dem l p) (sup l p) p i = 0
      · exact .inr (.inr (.inl (by omega)))
      · rw [← hs, ← ht] at ek
        have fk_eq : fk * t = t * G0 l (dem l p) (sup l p) p k + more l p k * t := by rw [hfk, getsf_more, Int.add_mul, Int.mul_comm t]
        rw [fk_eq, ek]
        generalize hY : t * G0 l (dem l p) (sup l p) p k = Y at *
        rcases more_01 (l := l) (p := p) k with hmk | hmk
        · rw [hmk, Int.zero_mul]
          exact .inr (.inr (.inr (.inl (by omega))))
        · rw [hmk, Int.one_mul]
          have h1 : (place (L0 l (dem l p) (sup l p) p) l.length k : Int) < left0 l (dem l p) (sup l p) p := by
            apply Classical.byContradiction
            intro h
            unfold more at hmk
            rw [if_neg h] at hmk
            omega
          have h2 : ¬ (place (L0 l (dem l p) (sup l p) p) l.length i : Int) < left0 l (dem l p) (sup l p) p := by
            intro h
            unfold more at hmi
            rw [if_pos h] at hmi
            omega
          have hne : i ≠ k := by intro h; subst h; omega
          rcases ahead_total (Z := L0 l (dem l p) (sup l p) p) hne with h3 | h3
          · rw [ahead_iff] at h3
            rcases h3 with h3 | ⟨h3, h4⟩
            · exact .inr (.inr (.inr (.inr (.inl (by omega)))))
            · exact .inr (.inr (.inr (.inr (.inr ⟨by omega, h4⟩))))
          · have := place_lt hi h3
            omega
    · exact .inl hs
  · rw [hmi, Int.one_mul] at fi_eq
    rw [fi_eq, ei]
    generalize hX : t * G0 l (dem l p) (sup l p) p i = X at *
    exact ⟨by omega, by omega, .inr (.inl (by omega))⟩

end
end Mk

/- Plain mathematics: a row of one side, by a key (least first; of the same key, who came first); ranks. -/
namespace Mk

def ahd (z : Nat → Int) (M : Nat → Bool) (i j : Nat) : Bool := M j && (decide (z j < z i) || (decide (z j = z i) && decide (j < i)))
def rankZ (n : Nat) (z : Nat → Int) (M : Nat → Bool) (i : Nat) : Nat := cnt (ahd z M i) n

theorem ahd_iff (z : Nat → Int) (M : Nat → Bool) (i j : Nat) : ahd z M i j = true ↔ M j = true ∧ (z j < z i ∨ z j = z i ∧ j < i) := by simp [ahd]
theorem ahd_no {z : Nat → Int} {M : Nat → Bool} {i j : Nat} (h : ¬ (M j = true ∧ (z j < z i ∨ z j = z i ∧ j < i))) : ahd z M i j = false := by
  rw [← Bool.not_eq_true, ahd_iff]; exact h

theorem cnt_exists {P Q : Nat → Bool} {n : Nat} (h : cnt P n < cnt Q n) : ∃ j, j < n ∧ Q j = true ∧ P j = false := by
  apply Classical.byContradiction
  intro hne
  have : cnt Q n ≤ cnt P n := cnt_mono (fun i hi hq => by
    cases hp : P i with
    | true => rfl
    | false => exact absurd ⟨i, hi, hq, hp⟩ hne)
  omega
theorem cnt_split {P : Nat → Bool} {n i : Nat} (hi : i < n) : cnt P n = cnt (fun x => P x && decide (x ≠ i)) n + if P i then 1 else 0 := by
  induction n with
  | zero => omega
  | succ k ih =>
    simp only [cnt]
    by_cases e : i = k
    · subst e
      have h0 : cnt (fun x => P x && decide (x ≠ i)) i = cnt P i := by
        refine cnt_congr (fun x hx => ?_)
        have hne : x ≠ i := by omega
        simp [hne]
      rw [h0]; simp
    · rw [ih (by omega)]
      have : k ≠ i := by omega
      simp [this]; omega

section
variable {n : Nat} {z z' : Nat → Int} {M : Nat → Bool}

theorem rankZ_lt {i j : Nat} (hj : j < n) (h : ahd z M i j = true) : rankZ n z M j < rankZ n z M i := by
  unfold rankZ
  have h' := (ahd_iff z M i j).1 h
  refine cnt_lt (j := j) (fun x _ hx => ?_) hj h (ahd_no (by omega))
  rw [ahd_iff] at hx ⊢
  exact ⟨hx.1, by omega⟩
theorem ahd_total {i j : Nat} (hi : M i = true) (hj : M j = true) (hne : i ≠ j) : ahd z M i j = true ∨ ahd z M j i = true := by
  rw [ahd_iff, ahd_iff]
  by_cases h : z j < z i ∨ z j = z i ∧ j < i
  · exact .inl ⟨hj, h⟩
  · exact .inr ⟨hi, by omega⟩
theorem rankZ_inj {i j : Nat} (hi : i < n) (hj : j < n) (mi : M i = true) (mj : M j = true) (h : rankZ n z M i = rankZ n z M j) : i = j := by
  apply Classical.byContradiction
  intro hne
  rcases ahd_total (z := z) mi mj hne with h1 | h1
  · have := rankZ_lt hj h1; omega
  · have := rankZ_lt hi h1; omega
theorem rankZ_bd {i : Nat} (hi : i < n) (mi : M i = true) : rankZ n z M i < cnt M n :=
  cnt_lt (j := i) (fun x _ hx => ((ahd_iff z M i x).1 hx).1) hi mi (ahd_no (by omega))
/-- who has the lesser rank has no greater key -/
theorem rankZ_mono {i j : Nat} (hj : j < n) (mj : M j = true) (h : rankZ n z M i ≤ rankZ n z M j) : z i ≤ z j := by
  apply Classical.byContradiction
  intro hne
  have := rankZ_lt (i := i) hj ((ahd_iff z M i j).2 ⟨mj, .inl (by omega)⟩)
  omega

theorem cntM_step (m : Nat) : cnt (fun i => M i && decide (rankZ n z M i < m + 1)) n ≤ cnt (fun i => M i && decide (rankZ n z M i < m)) n + 1 := by
  have h1 := cnt_or (n := n) (R := fun i => M i && decide (rankZ n z M i < m + 1)) (P := fun i => M i && decide (rankZ n z M i < m)) (Q := fun i => M i && decide (rankZ n z M i = m)) (fun i _ h => by
    simp at h ⊢
    by_cases e : rankZ n z M i = m
    · exact .inr ⟨h.1, e⟩
    · exact .inl ⟨h.1, by omega⟩)
  have h2 : cnt (fun i => M i && decide (rankZ n z M i = m)) n ≤ 1 := cnt_one (fun i j hi hj h3 h4 => by
    simp at h3 h4
    exact rankZ_inj (z := z) hi hj h3.1 h4.1 (by omega))
  omega
theorem cntM_le (m : Nat) : cnt (fun i => M i && decide (rankZ n z M i < m)) n ≤ m := by
  induction m with
  | zero => rw [cnt_false (fun i _ => by simp)]; omega
  | succ k ih => have := cntM_step (n := n) (z := z) (M := M) k; omega
theorem cntM_ge (j : Nat) : ∀ m, m + j = cnt M n → m ≤ cnt (fun i => M i && decide (rankZ n z M i < m)) n := by
  induction j with
  | zero =>
    intro m hm
    have : cnt (fun i => M i && decide (rankZ n z M i < m)) n = cnt M n := cnt_congr (fun i hi => by
      cases hM : M i with
      | false => rfl
      | true => have := rankZ_bd (z := z) hi hM
                simp; omega)
    omega
  | succ j ih =>
    intro m hm
    have h1 := ih (m + 1) (by omega)
    have h2 := cntM_step (n := n) (z := z) (M := M) m
    omega
/-- of the first m of a side there are m -/
theorem cntM_eq {m : Nat} (h : m ≤ cnt M n) : cnt (fun i => M i && decide (rankZ n z M i < m)) n = m :=
  Nat.le_antisymm (cntM_le m) (cntM_ge (cnt M n - m) m (by omega))
theorem rankZ_exists {m : Nat} (h : m < cnt M n) : ∃ j, j < n ∧ M j = true ∧ rankZ n z M j = m := by
  have h1 := cntM_eq (n := n) (z := z) (M := M) (m := m) (by omega)
  have h2 := cntM_eq (n := n) (z := z) (M := M) (m := m + 1) (by omega)
  obtain ⟨j, hj, hq, hp⟩ := cnt_exists (P := fun i => M i && decide (rankZ n z M i < m)) (Q := fun i => M i && decide (rankZ n z M i < m + 1)) (n := n) (by omega)
  simp at hq
  refine ⟨j, hj, hq.1, ?_⟩
  simp [hq.1] at hp
  omega

/- the others, without i -/
def M0 (M : Nat → Bool) (i j : Nat) : Bool := M j && decide (j ≠ i)

theorem rankZ_split {i : Nat} (hi : i < n) (mi : M i = true) (j : Nat) : rankZ n z M j = rankZ n z (M0 M i) j + if z i < z j ∨ z i = z j ∧ i < j then 1 else 0 := by
  unfold rankZ
  rw [cnt_split (P := ahd z M j) hi]
  have e1 : cnt (fun x => ahd z M j x && decide (x ≠ i)) n = cnt (ahd z (M0 M i) j) n := cnt_congr (fun x _ => by
    unfold ahd M0
    cases M x <;> cases decide (x ≠ i) <;> simp)
  rw [e1]
  congr 1
  by_cases h : z i < z j ∨ z i = z j ∧ i < j
  · rw [if_pos h, if_pos ((ahd_iff z M j i).2 ⟨mi, h⟩)]
  · rw [if_neg h, ahd_no (fun hh => h hh.2)]; simp
theorem rankZ_self {i : Nat} (hi : i < n) (mi : M i = true) : rankZ n z M i = rankZ n z (M0 M i) i := by
  rw [rankZ_split hi mi i, if_neg (by omega)]; omega
/-- j of the others stands ahead of i just if fewer of the others stand ahead of j than of i -/
theorem ahd_rank {i j : Nat} (hi : i < n) (mi : M i = true) (hj : j < n) (mj : M j = true) (hne : j ≠ i) : (z j < z i ∨ z j = z i ∧ j < i) ↔ rankZ n z (M0 M i) j < rankZ n z M i := by
  rw [rankZ_self hi mi]
  constructor
  · intro h
    exact rankZ_lt hj ((ahd_iff z (M0 M i) i j).2 ⟨by simp [M0, mj, hne], h⟩)
  · intro h
    apply Classical.byContradiction
    intro hno
    have : rankZ n z (M0 M i) i ≤ rankZ n z (M0 M i) j := by
      unfold rankZ
      refine cnt_mono (fun x _ hx => ?_)
      rw [ahd_iff] at hx ⊢
      exact ⟨hx.1, by omega⟩
    omega
/-- the others' ranks among themselves do not hang on i's key -/
theorem rank0_congr {i : Nat} (hz : ∀ j, j ≠ i → z' j = z j) {j : Nat} (hne : j ≠ i) : rankZ n z' (M0 M i) j = rankZ n z (M0 M i) j := by
  unfold rankZ
  refine cnt_congr (fun x _ => ?_)
  unfold ahd
  by_cases hx : x = i
  · subst hx; simp [M0]
  · rw [hz x hx, hz j hne]
/-- behind i: who has rank m is the one of the others behind m - 1 of the others -/
theorem rank_behind {i : Nat} (hi : i < n) (mi : M i = true) {m : Nat} (hm : rankZ n z M i < m) {j : Nat} (hj : j < n) (mj : M j = true) : rankZ n z M j = m ↔ j ≠ i ∧ rankZ n z (M0 M i) j + 1 = m := by
  by_cases e : j = i
  · subst e
    constructor
    · intro h; omega
    · intro h; exact absurd rfl h.1
  · have hs := rankZ_split (z := z) hi mi j
    have ha := ahd_rank (z := z) hi mi hj mj e
    by_cases h : z i < z j ∨ z i = z j ∧ i < j
    · rw [if_pos h] at hs
      constructor
      · intro h'; exact ⟨e, by omega⟩
      · intro h'; omega
    · rw [if_neg h] at hs
      have h1 := ha.1 (by omega)
      constructor
      · intro h'; omega
      · intro h'; omega

/-- the key of the one of rank m -/
def keyAt (n : Nat) (z : Nat → Int) (M : Nat → Bool) (m : Nat) : Option Int := ((List.range n).find? (fun j => M j && decide (rankZ n z M j = m))).map z

theorem keyAt_of {j m : Nat} (hj : j < n) (mj : M j = true) (h : rankZ n z M j = m) : keyAt n z M m = some (z j) := by
  unfold keyAt
  cases hf : (List.range n).find? (fun j => M j && decide (rankZ n z M j = m)) with
  | none =>
    have := List.find?_eq_none.1 hf j (List.mem_range.2 hj)
    simp [mj, h] at this
  | some x =>
    have h1 := List.find?_some hf
    have h2 := List.mem_range.1 (List.mem_of_find?_eq_some hf)
    simp at h1
    have : x = j := rankZ_inj (z := z) h2 hj h1.1 mj (by omega)
    rw [this]; rfl
theorem keyAt_inv {m : Nat} {q : Int} (h : keyAt n z M m = some q) : ∃ j, j < n ∧ M j = true ∧ rankZ n z M j = m ∧ z j = q := by
  unfold keyAt at h
  obtain ⟨x, hf, hq⟩ := Option.map_eq_some_iff.1 h
  have h1 := List.find?_some hf
  have h2 := List.mem_range.1 (List.mem_of_find?_eq_some hf)
  simp at h1
  exact ⟨x, h2, h1.1, h1.2, hq⟩
theorem keyAt_none {m : Nat} (h : cnt M n ≤ m) : keyAt n z M m = none := by
  cases hk : keyAt n z M m with
  | none => rfl
  | some q =>
    obtain ⟨j, hj, mj, hr, _⟩ := keyAt_inv hk
    have := rankZ_bd (z := z) hj mj
    omega
theorem keyAt_some {m : Nat} (h : m < cnt M n) : ∃ j, j < n ∧ M j = true ∧ rankZ n z M j = m ∧ keyAt n z M m = some (z j) := by
  obtain ⟨j, hj, mj, hr⟩ := rankZ_exists (z := z) h
  exact ⟨j, hj, mj, hr, keyAt_of hj mj hr⟩

/-- behind i, with both keys, the row is the same -/
theorem keyAt_behind {i : Nat} (hi : i < n) (mi : M i = true) (hz : ∀ j, j ≠ i → z' j = z j) {m : Nat} (h1 : rankZ n z M i < m) (h2 : rankZ n z' M i < m) : keyAt n z' M m = keyAt n z M m := by
  by_cases h : m < cnt M n
  · obtain ⟨j, hj, mj, hr, hk⟩ := keyAt_some (z := z) h
    obtain ⟨hne, hr0⟩ := (rank_behind hi mi h1 hj mj).1 hr
    have hr' : rankZ n z' M j = m := (rank_behind hi mi h2 hj mj).2 ⟨hne, by rw [rank0_congr hz hne]; exact hr0⟩
    rw [hk, keyAt_of hj mj hr', hz j hne]
  · rw [keyAt_none (by omega), keyAt_none (by omega)]
/-- a side's row does not hang on the keys of the other one -/
theorem rankZ_congr (hz : ∀ j, M j = true → z' j = z j) {j : Nat} (mj : M j = true) : rankZ n z' M j = rankZ n z M j := by
  unfold rankZ
  refine cnt_congr (fun x _ => ?_)
  unfold ahd
  cases hx : M x with
  | false => rfl
  | true => rw [hz x hx, hz j mj]
theorem keyAt_congr (hz : ∀ j, M j = true → z' j = z j) (m : Nat) : keyAt n z' M m = keyAt n z M m := by
  by_cases h : m < cnt M n
  · obtain ⟨j, hj, mj, hr, hk⟩ := keyAt_some (z := z) h
    rw [hk, keyAt_of hj mj (by rw [rankZ_congr hz mj]; exact hr), hz j mj]
  · rw [keyAt_none (by omega), keyAt_none (by omega)]

end
end Mk

/- Plain mathematics: the document's McAfee (P6); nobody gains by another bid. -/
namespace Mk

def pr (l : List Ord) (j : Nat) : Int := (l.getD j ozero).price
def sl (l : List Ord) (j : Nat) : Bool := (l.getD j ozero).sell
/-- the key of an order in the row of its side -/
def zk (l : List Ord) (b : Bool) (j : Nat) : Int := if b then pr l j else -(pr l j)
/-- is it of the side? -/
def ms (l : List Ord) (b : Bool) (j : Nat) : Bool := sl l j == b
/-- how many of its side stand ahead of order i -/
def rk (l : List Ord) (i : Nat) : Nat := rankZ l.length (zk l (sl l i)) (ms l (sl l i)) i
/-- the price of the one of a side ahead of whom m stand: 0, or 100, if there is none -/
def pB (l : List Ord) (m : Nat) : Int := match keyAt l.length (zk l false) (ms l false) m with | some q => -q | none => 0
def pS (l : List Ord) (m : Nat) : Int := match keyAt l.length (zk l true) (ms l true) m with | some q => q | none => 100
/-- P6's k, of those up to m -/
def kTo (l : List Ord) : Nat → Nat
  | 0 => 0
  | m + 1 => if pS l m ≤ pB l m then m + 1 else kTo l m
def kk (l : List Ord) : Nat := kTo l l.length
def mid (l : List Ord) : Int := (pB l (kk l) + pS l (kk l)) / 2
def full (l : List Ord) : Bool := decide (pS l (kk l - 1) ≤ mid l) && decide (mid l ≤ pB l (kk l - 1))
/-- how many pairs trade, what a buyer pays, what a seller gets, what order i gets -/
def mcK (l : List Ord) : Nat := if kk l = 0 then 0 else if full l then kk l else kk l - 1
def mcPay (l : List Ord) : Int := if mcK l = 0 then 0 else if full l then mid l else pB l (kk l - 1)
def mcGet (l : List Ord) : Int := if mcK l = 0 then 0 else if full l then mid l else pS l (kk l - 1)
def mcF (l : List Ord) (i : Nat) : Int := if rk l i < mcK l then 1 else 0

def okP (l : List Ord) : Prop := ∀ j, j < l.length → 1 ≤ pr l j ∧ pr l j ≤ 99

section
variable {l l' : List Ord}

theorem ms_iff {b : Bool} {j : Nat} : ms l b j = true ↔ sl l j = b := by simp [ms]

theorem pB_bd (h : okP l) (m : Nat) : 0 ≤ pB l m ∧ pB l m ≤ 99 := by
  unfold pB
  split
  · rename_i q hq
    obtain ⟨j, hj, _, _, rfl⟩ := keyAt_inv hq
    have := h j hj
    simp [zk]; omega
  · omega
theorem pS_bd (h : okP l) (m : Nat) : 1 ≤ pS l m ∧ pS l m ≤ 100 := by
  unfold pS
  split
  · rename_i q hq
    obtain ⟨j, hj, _, _, rfl⟩ := keyAt_inv hq
    have := h j hj
    simp [zk]; omega
  · omega
theorem pB_of {j m : Nat} (hj : j < l.length) (mj : sl l j = false) (hr : rk l j = m) : pB l m = pr l j := by
  unfold rk at hr
  rw [mj] at hr
  unfold pB
  rw [keyAt_of hj (ms_iff.2 mj) hr]
  simp [zk]
theorem pS_of {j m : Nat} (hj : j < l.length) (mj : sl l j = true) (hr : rk l j = m) : pS l m = pr l j := by
  unfold rk at hr
  rw [mj] at hr
  unfold pS
  rw [keyAt_of hj (ms_iff.2 mj) hr]
  simp [zk]
theorem pB_none {m : Nat} (h : cnt (ms l false) l.length ≤ m) : pB l m = 0 := by unfold pB; rw [keyAt_none h]
theorem pS_none {m : Nat} (h : cnt (ms l true) l.length ≤ m) : pS l m = 100 := by unfold pS; rw [keyAt_none h]
theorem pB_pos {m : Nat} (h : 0 < pB l m) : m < cnt (ms l false) l.length := by
  apply Classical.byContradiction; intro hn; rw [pB_none (by omega)] at h; omega
theorem pS_lt {m : Nat} (h : pS l m < 100) : m < cnt (ms l true) l.length := by
  apply Classical.byContradiction; intro hn; rw [pS_none (by omega)] at h; omega

/-- k: a pair at k - 1, none from k on -/
theorem kTo_is (m : Nat) : kTo l m ≤ m ∧ (kTo l m ≠ 0 → pS l (kTo l m - 1) ≤ pB l (kTo l m - 1)) ∧ ∀ j, kTo l m ≤ j → j < m → pB l j < pS l j := by
  induction m with
  | zero => simp [kTo]
  | succ m ih =>
    simp only [kTo]
    by_cases h : pS l m ≤ pB l m
    · rw [if_pos h]
      exact ⟨Nat.le_refl _, fun _ => by simpa using h, fun j h1 h2 => by omega⟩
    · rw [if_neg h]
      refine ⟨by omega, ih.2.1, fun j h1 h2 => ?_⟩
      by_cases e : j = m
      · subst e; omega
      · exact ih.2.2 j h1 (by omega)
theorem kk_le : kk l ≤ l.length := (kTo_is l.length).1
theorem kk_pair (h : kk l ≠ 0) : pS l (kk l - 1) ≤ pB l (kk l - 1) := (kTo_is l.length).2.1 h
theorem kk_behind (hp : okP l) (j : Nat) (h : kk l ≤ j) : pB l j < pS l j := by
  by_cases hj : j < l.length
  · exact (kTo_is l.length).2.2 j h hj
  · have h1 := pB_none (l := l) (m := j) (Nat.le_trans (cnt_le _ _) (by omega))
    have h2 := pS_bd hp j
    omega
theorem kk_unique (hp : okP l) {k : Nat} (h1 : k ≠ 0 → pS l (k - 1) ≤ pB l (k - 1)) (h2 : ∀ j, k ≤ j → pB l j < pS l j) : kk l = k := by
  apply Classical.byContradiction
  intro hne
  by_cases hlt : kk l < k
  · have a := kk_behind hp (k - 1) (by omega)
    have b := h1 (by omega)
    omega
  · have a := h2 (kk l - 1) (by omega)
    have b := kk_pair (l := l) (by omega)
    omega
theorem kk_cnt (hp : okP l) : kk l ≤ cnt (ms l false) l.length ∧ kk l ≤ cnt (ms l true) l.length := by
  by_cases h : kk l = 0
  · omega
  · have h1 := kk_pair h
    have h2 := pS_bd hp (kk l - 1)
    have h3 := pB_bd hp (kk l - 1)
    have h4 := pB_pos (l := l) (m := kk l - 1) (by omega)
    have h5 := pS_lt (l := l) (m := kk l - 1) (by omega)
    omega

/-- who has the lesser rank bids no worse -/
theorem buyer_mono {i j : Nat} (hi : sl l i = false) (hj : j < l.length) (mj : sl l j = false) (h : rk l i ≤ rk l j) : pr l j ≤ pr l i := by
  unfold rk at h
  rw [hi, mj] at h
  have := rankZ_mono (z := zk l false) hj (ms_iff.2 mj) h
  simp [zk] at this
  omega
theorem seller_mono {i j : Nat} (hi : sl l i = true) (hj : j < l.length) (mj : sl l j = true) (h : rk l i ≤ rk l j) : pr l i ≤ pr l j := by
  unfold rk at h
  rw [hi, mj] at h
  have := rankZ_mono (z := zk l true) hj (ms_iff.2 mj) h
  simpa [zk] using this

/-- the buyer, the seller of rank m -/
theorem buyer_at {m : Nat} (h : m < cnt (ms l false) l.length) : ∃ j, j < l.length ∧ sl l j = false ∧ rk l j = m ∧ pB l m = pr l j := by
  obtain ⟨j, hj, mj, hr, _⟩ := keyAt_some (z := zk l false) h
  have mj' := ms_iff.1 mj
  have hr' : rk l j = m := by unfold rk; rw [mj']; exact hr
  exact ⟨j, hj, mj', hr', pB_of hj mj' hr'⟩
theorem seller_at {m : Nat} (h : m < cnt (ms l true) l.length) : ∃ j, j < l.length ∧ sl l j = true ∧ rk l j = m ∧ pS l m = pr l j := by
  obtain ⟨j, hj, mj, hr, _⟩ := keyAt_some (z := zk l true) h
  have mj' := ms_iff.1 mj
  have hr' : rk l j = m := by unfold rk; rw [mj']; exact hr
  exact ⟨j, hj, mj', hr', pS_of hj mj' hr'⟩

/-- NOBODY PAYS MORE THAN THEY BID -/
theorem pays (hp : okP l) {i : Nat} (_hi : i < l.length) (mi : sl l i = false) (h : rk l i < mcK l) : mcPay l ≤ pr l i := by
  have hk : mcK l ≠ 0 := by omega
  have hc := kk_cnt hp
  unfold mcPay
  rw [if_neg hk]
  unfold mcK at h
  by_cases h0 : kk l = 0
  · rw [if_pos h0] at h; omega
  · rw [if_neg h0] at h
    obtain ⟨j, hj, mj, hr, hpj⟩ := buyer_at (l := l) (m := kk l - 1) (by omega)
    by_cases hf : full l = true
    · rw [if_pos hf] at h ⊢
      have hm := buyer_mono mi hj mj (by omega)
      simp [full] at hf
      omega
    · rw [if_neg hf] at h ⊢
      have hm := buyer_mono mi hj mj (by omega)
      omega
/-- NOBODY GETS LESS THAN THEY BID -/
theorem gets (hp : okP l) {i : Nat} (_hi : i < l.length) (mi : sl l i = true) (h : rk l i < mcK l) : pr l i ≤ mcGet l := by
  have hk : mcK l ≠ 0 := by omega
  have hc := kk_cnt hp
  unfold mcGet
  rw [if_neg hk]
  unfold mcK at h
  by_cases h0 : kk l = 0
  · rw [if_pos h0] at h; omega
  · rw [if_neg h0] at h
    obtain ⟨j, hj, mj, hr, hpj⟩ := seller_at (l := l) (m := kk l - 1) (by omega)
    by_cases hf : full l = true
    · rw [if_pos hf] at h ⊢
      have hm := seller_mono mi hj mj (by omega)
      simp [full] at hf
      omega
    · rw [if_neg hf] at h ⊢
      have hm := seller_mono mi hj mj (by omega)
      omega

/-- the same but for order i's price -/
structure But (l l' : List Ord) (i : Nat) : Prop where
  len : l'.length = l.length
  side : ∀ j, sl l' j = sl l j
  price : ∀ j, j ≠ i → pr l' j = pr l j

theorem But.ms {i : Nat} (h : But l l' i) (b : Bool) : ms l' b = ms l b := by funext j; simp [Mk.ms, h.side j]
theorem But.zk {i : Nat} (h : But l l' i) (b : Bool) (j : Nat) (hne : j ≠ i) : zk l' b j = zk l b j := by unfold Mk.zk; rw [h.price j hne]
/-- the other side is as it was -/
theorem But.other {i : Nat} (h : But l l' i) {b : Bool} (hb : sl l i ≠ b) (m : Nat) : keyAt l'.length (Mk.zk l' b) (Mk.ms l' b) m = keyAt l.length (Mk.zk l b) (Mk.ms l b) m := by
  rw [h.len, h.ms b]
  refine keyAt_congr (fun j mj => h.zk b j ?_) m
  intro e
  subst e
  exact hb (ms_iff.1 mj)
/-- behind i its own side is as it was -/
theorem But.behind {i : Nat} (h : But l l' i) (hi : i < l.length) {b : Bool} (hb : sl l i = b) {m : Nat} (h1 : rk l i < m) (h2 : rk l' i < m) : keyAt l'.length (Mk.zk l' b) (Mk.ms l' b) m = keyAt l.length (Mk.zk l b) (Mk.ms l b) m := by
  unfold rk at h1 h2
  rw [h.side i, hb, h.len, h.ms b] at h2
  rw [hb] at h1
  rw [h.len, h.ms b]
  exact keyAt_behind hi (ms_iff.2 hb) (fun j hne => h.zk b j hne) h1 h2

end
end Mk
