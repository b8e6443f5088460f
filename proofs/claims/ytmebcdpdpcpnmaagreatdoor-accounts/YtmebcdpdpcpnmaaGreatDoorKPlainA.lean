import Derived.Test.YtmebcdpdpcpnmaaGreatDoorJ3
/- Plain mathematics: a row of one side, by a key (least first; of the same key, who came first); ranks. -/
namespace Mk

def ahd (z : Nat → Int) (M : Nat → Bool) (i j : Nat) : Bool := M j && (decide (z j < z i) || (decide (z j = z i) && decide (j < i)))
def rankZ (n : Nat) (z : Nat → Int) (M : Nat → Bool) (i : Nat) : Nat := cnt (ahd z M i) n

theorem ahd_iff (z : Nat → Int) (M : Nat → Bool) (i j : Nat) : ahd z M i j = true ↔ M j = true ∧ (z j < z i ∨ z j = z i ∧ j < i) := by simp [ahd]
theorem ahd_no {z : Nat → Int} {M : Nat → Bool} {i j : Nat} (h : ¬ (M j = true ∧ (z j < z i ∨ z j = z i ∧ j < i))) : ahd z M i j = false := by
  rw [← Bool.not_eq_true, ahd_iff]; exact h

theorem cnt_exists {P Q : Nat → Bool} {n : Nat} (h : cnt P n < cnt Q n) : ∃ j, j < n ∧ Q j = true ∧ P j = false := by
  apply Classical.byContradiction
  intro hne
  have : cnt Q n ≤ cnt P n := cnt_mono (fun i hi hq => by
    cases hp : P i with
    | true => rfl
    | false => exact absurd ⟨i, hi, hq, hp⟩ hne)
  omega
theorem cnt_split {P : Nat → Bool} {n i : Nat} (hi : i < n) : cnt P n = cnt (fun x => P x && decide (x ≠ i)) n + if P i then 1 else 0 := by
  induction n with
  | zero => omega
  | succ k ih =>
    simp only [cnt]
    by_cases e : i = k
    · subst e
      have h0 : cnt (fun x => P x && decide (x ≠ i)) i = cnt P i := by
        refine cnt_congr (fun x hx => ?_)
        have hne : x ≠ i := by omega
        simp [hne]
      rw [h0]; simp
    · rw [ih (by omega)]
      have : k ≠ i := by omega
      simp [this]; omega

section
variable {n : Nat} {z z' : Nat → Int} {M : Nat → Bool}

theorem rankZ_lt {i j : Nat} (hj : j < n) (h : ahd z M i j = true) : rankZ n z M j < rankZ n z M i := by
  unfold rankZ
  have h' := (ahd_iff z M i j).1 h
  refine cnt_lt (j := j) (fun x _ hx => ?_) hj h (ahd_no (by omega))
  rw [ahd_iff] at hx ⊢
  exact ⟨hx.1, by omega⟩
theorem ahd_total {i j : Nat} (hi : M i = true) (hj : M j = true) (hne : i ≠ j) : ahd z M i j = true ∨ ahd z M j i = true := by
  rw [ahd_iff, ahd_iff]
  by_cases h : z j < z i ∨ z j = z i ∧ j < i
  · exact .inl ⟨hj, h⟩
  · exact .inr ⟨hi, by omega⟩
theorem rankZ_inj {i j : Nat} (hi : i < n) (hj : j < n) (mi : M i = true) (mj : M j = true) (h : rankZ n z M i = rankZ n z M j) : i = j := by
  apply Classical.byContradiction
  intro hne
  rcases ahd_total (z := z) mi mj hne with h1 | h1
  · have := rankZ_lt hj h1; omega
  · have := rankZ_lt hi h1; omega
theorem rankZ_bd {i : Nat} (hi : i < n) (mi : M i = true) : rankZ n z M i < cnt M n :=
  cnt_lt (j := i) (fun x _ hx => ((ahd_iff z M i x).1 hx).1) hi mi (ahd_no (by omega))
/-- who has the lesser rank has no greater key -/
theorem rankZ_mono {i j : Nat} (hj : j < n) (mj : M j = true) (h : rankZ n z M i ≤ rankZ n z M j) : z i ≤ z j := by
  apply Classical.byContradiction
  intro hne
  have := rankZ_lt (i := i) hj ((ahd_iff z M i j).2 ⟨mj, .inl (by omega)⟩)
  omega

theorem cntM_step (m : Nat) : cnt (fun i => M i && decide (rankZ n z M i < m + 1)) n ≤ cnt (fun i => M i && decide (rankZ n z M i < m)) n + 1 := by
  have h1 := cnt_or (n := n) (R := fun i => M i && decide (rankZ n z M i < m + 1)) (P := fun i => M i && decide (rankZ n z M i < m)) (Q := fun i => M i && decide (rankZ n z M i = m)) (fun i _ h => by
    simp at h ⊢
    by_cases e : rankZ n z M i = m
    · exact .inr ⟨h.1, e⟩
    · exact .inl ⟨h.1, by omega⟩)
  have h2 : cnt (fun i => M i && decide (rankZ n z M i = m)) n ≤ 1 := cnt_one (fun i j hi hj h3 h4 => by
    simp at h3 h4
    exact rankZ_inj (z := z) hi hj h3.1 h4.1 (by omega))
  omega
theorem cntM_le (m : Nat) : cnt (fun i => M i && decide (rankZ n z M i < m)) n ≤ m := by
  induction m with
  | zero => rw [cnt_false (fun i _ => by simp)]; omega
  | succ k ih => have := cntM_step (n := n) (z := z) (M := M) k; omega
theorem cntM_ge (j : Nat) : ∀ m, m + j = cnt M n → m ≤ cnt (fun i => M i && decide (rankZ n z M i < m)) n := by
  induction j with
  | zero =>
    intro m hm
    have : cnt (fun i => M i && decide (rankZ n z M i < m)) n = cnt M n := cnt_congr (fun i hi => by
      cases hM : M i with
      | false => rfl
      | true => have := rankZ_bd (z := z) hi hM
                simp; omega)
    omega
  | succ j ih =>
    intro m hm
    have h1 := ih (m + 1) (by omega)
    have h2 := cntM_step (n := n) (z := z) (M := M) m
    omega
/-- of the first m of a side there are m -/
theorem cntM_eq {m : Nat} (h : m ≤ cnt M n) : cnt (fun i => M i && decide (rankZ n z M i < m)) n = m :=
  Nat.le_antisymm (cntM_le m) (cntM_ge (cnt M n - m) m (by omega))
theorem rankZ_exists {m : Nat} (h : m < cnt M n) : ∃ j, j < n ∧ M j = true ∧ rankZ n z M j = m := by
  have h1 := cntM_eq (n := n) (z := z) (M := M) (m := m) (by omega)
  have h2 := cntM_eq (n := n) (z := z) (M := M) (m := m + 1) (by omega)
  obtain ⟨j, hj, hq, hp⟩ := cnt_exists (P := fun i => M i && decide (rankZ n z M i < m)) (Q := fun i => M i && decide (rankZ n z M i < m + 1)) (n := n) (by omega)
  simp at hq
  refine ⟨j, hj, hq.1, ?_⟩
  simp [hq.1] at hp
  omega

/- the others, without i -/
def M0 (M : Nat → Bool) (i j : Nat) : Bool := M j && decide (j ≠ i)

theorem rankZ_split {i : Nat} (hi : i < n) (mi : M i = true) (j : Nat) : rankZ n z M j = rankZ n z (M0 M i) j + if z i < z j ∨ z i = z j ∧ i < j then 1 else 0 := by
  unfold rankZ
  rw [cnt_split (P := ahd z M j) hi]
  have e1 : cnt (fun x => ahd z M j x && decide (x ≠ i)) n = cnt (ahd z (M0 M i) j) n := cnt_congr (fun x _ => by
    unfold ahd M0
    cases M x <;> cases decide (x ≠ i) <;> simp)
  rw [e1]
  congr 1
  by_cases h : z i < z j ∨ z i = z j ∧ i < j
  · rw [if_pos h, if_pos ((ahd_iff z M j i).2 ⟨mi, h⟩)]
  · rw [if_neg h, ahd_no (fun hh => h hh.2)]; simp
theorem rankZ_self {i : Nat} (hi : i < n) (mi : M i = true) : rankZ n z M i = rankZ n z (M0 M i) i := by
  rw [rankZ_split hi mi i, if_neg (by omega)]; omega
/-- j of the others stands ahead of i just if fewer of the others stand ahead of j than of i -/
theorem ahd_rank {i j : Nat} (hi : i < n) (mi : M i = true) (hj : j < n) (mj : M j = true) (hne : j ≠ i) : (z j < z i ∨ z j = z i ∧ j < i) ↔ rankZ n z (M0 M i) j < rankZ n z M i := by
  rw [rankZ_self hi mi]
  constructor
  · intro h
    exact rankZ_lt hj ((ahd_iff z (M0 M i) i j).2 ⟨by simp [M0, mj, hne], h⟩)
  · intro h
    apply Classical.byContradiction
    intro hno
    have : rankZ n z (M0 M i) i ≤ rankZ n z (M0 M i) j := by
      unfold rankZ
      refine cnt_mono (fun x _ hx => ?_)
      rw [ahd_iff] at hx ⊢
      exact ⟨hx.1, by omega⟩
    omega
/-- the others' ranks among themselves do not hang on i's key -/
theorem rank0_congr {i : Nat} (hz : ∀ j, j ≠ i → z' j = z j) {j : Nat} (hne : j ≠ i) : rankZ n z' (M0 M i) j = rankZ n z (M0 M i) j := by
  unfold rankZ
  refine cnt_congr (fun x _ => ?_)
  unfold ahd
  by_cases hx : x = i
  · subst hx; simp [M0]
  · rw [hz x hx, hz j hne]
/-- behind i: who has rank m is the one of the others behind m - 1 of the others -/
theorem rank_behind {i : Nat} (hi : i < n) (mi : M i = true) {m : Nat} (hm : rankZ n z M i < m) {j : Nat} (hj : j < n) (mj : M j = true) : rankZ n z M j = m ↔ j ≠ i ∧ rankZ n z (M0 M i) j + 1 = m := by
  by_cases e : j = i
  · subst e
    constructor
    · intro h; omega
    · intro h; exact absurd rfl h.1
  · have hs := rankZ_split (z := z) hi mi j
    have ha := ahd_rank (z := z) hi mi hj mj e
    by_cases h : z i < z j ∨ z i = z j ∧ i < j
    · rw [if_pos h] at hs
      constructor
      · intro h'; exact ⟨e, by omega⟩
      · intro h'; omega
    · rw [if_neg h] at hs
      have h1 := ha.1 (by omega)
      constructor
      · intro h'; omega
      · intro h'; omega

/-- the key of the one of rank m -/
def keyAt (n : Nat) (z : Nat → Int) (M : Nat → Bool) (m : Nat) : Option Int := ((List.range n).find? (fun j => M j && decide (rankZ n z M j = m))).map z

theorem keyAt_of {j m : Nat} (hj : j < n) (mj : M j = true) (h : rankZ n z M j = m) : keyAt n z M m = some (z j) := by
  unfold keyAt
  cases hf : (List.range n).find? (fun j => M j && decide (rankZ n z M j = m)) with
  | none =>
    have := List.find?_eq_none.1 hf j (List.mem_range.2 hj)
    simp [mj, h] at this
  | some x =>
    have h1 := List.find?_some hf
    have h2 := List.mem_range.1 (List.mem_of_find?_eq_some hf)
    simp at h1
    have : x = j := rankZ_inj (z := z) h2 hj h1.1 mj (by omega)
    rw [this]; rfl
theorem keyAt_inv {m : Nat} {q : Int} (h : keyAt n z M m = some q) : ∃ j, j < n ∧ M j = true ∧ rankZ n z M j = m ∧ z j = q := by
  unfold keyAt at h
  obtain ⟨x, hf, hq⟩ := Option.map_eq_some_iff.1 h
  have h1 := List.find?_some hf
  have h2 := List.mem_range.1 (List.mem_of_find?_eq_some hf)
  simp at h1
  exact ⟨x, h2, h1.1, h1.2, hq⟩
theorem keyAt_none {m : Nat} (h : cnt M n ≤ m) : keyAt n z M m = none := by
  cases hk : keyAt n z M m with
  | none => rfl
  | some q =>
    obtain ⟨j, hj, mj, hr, _⟩ := keyAt_inv hk
    have := rankZ_bd (z := z) hj mj
    omega
theorem keyAt_some {m : Nat} (h : m < cnt M n) : ∃ j, j < n ∧ M j = true ∧ rankZ n z M j = m ∧ keyAt n z M m = some (z j) := by
  obtain ⟨j, hj, mj, hr⟩ := rankZ_exists (z := z) h
  exact ⟨j, hj, mj, hr, keyAt_of hj mj hr⟩

/-- behind i, with both keys, the row is the same -/
theorem keyAt_behind {i : Nat} (hi : i < n) (mi : M i = true) (hz : ∀ j, j ≠ i → z' j = z j) {m : Nat} (h1 : rankZ n z M i < m) (h2 : rankZ n z' M i < m) : keyAt n z' M m = keyAt n z M m := by
  by_cases h : m < cnt M n
  · obtain ⟨j, hj, mj, hr, hk⟩ := keyAt_some (z := z) h
    obtain ⟨hne, hr0⟩ := (rank_behind hi mi h1 hj mj).1 hr
    have hr' : rankZ n z' M j = m := (rank_behind hi mi h2 hj mj).2 ⟨hne, by rw [rank0_congr hz hne]; exact hr0⟩
    rw [hk, keyAt_of hj mj hr', hz j hne]
  · rw [keyAt_none (by omega), keyAt_none (by omega)]
/-- a side's row does not hang on the keys of the other one -/
theorem rankZ_congr (hz : ∀ j, M j = true → z' j = z j) {j : Nat} (mj : M j = true) : rankZ n z' M j = rankZ n z M j := by
  unfold rankZ
  refine cnt_congr (fun x _ => ?_)
  unfold ahd
  cases hx : M x with
  | false => rfl
  | true => rw [hz x hx, hz j mj]
theorem keyAt_congr (hz : ∀ j, M j = true → z' j = z j) (m : Nat) : keyAt n z' M m = keyAt n z M m := by
  by_cases h : m < cnt M n
  · obtain ⟨j, hj, mj, hr, hk⟩ := keyAt_some (z := z) h
    rw [hk, keyAt_of hj mj (by rw [rankZ_congr hz mj]; exact hr), hz j mj]
  · rw [keyAt_none (by omega), keyAt_none (by omega)]

end
end Mk
