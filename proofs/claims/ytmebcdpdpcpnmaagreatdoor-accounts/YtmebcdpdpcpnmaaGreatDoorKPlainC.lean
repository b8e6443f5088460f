import Derived.Test.YtmebcdpdpcpnmaaGreatDoorKPlainB
/- Plain mathematics: McAfee: nobody gains by bidding anything but what a slot is worth to them; at most one pair more could have traded. -/
namespace Mk

section
variable {l l' : List Ord} {i : Nat}

theorem But.symm (h : But l l' i) : But l' l i := ⟨h.len.symm, fun j => (h.side j).symm, fun j hne => (h.price j hne).symm⟩

theorem But.pS (h : But l l' i) (mi : sl l i = false) (m : Nat) : pS l' m = pS l m := by
  unfold Mk.pS; rw [h.other (b := true) (by rw [mi]; simp) m]
theorem But.pB (h : But l l' i) (mi : sl l i = true) (m : Nat) : pB l' m = pB l m := by
  unfold Mk.pB; rw [h.other (b := false) (by rw [mi]; simp) m]
theorem But.pB_behind (h : But l l' i) (hi : i < l.length) (mi : sl l i = false) {m : Nat} (h1 : rk l i < m) (h2 : rk l' i < m) : Mk.pB l' m = Mk.pB l m := by
  unfold Mk.pB; rw [h.behind hi mi h1 h2]
theorem But.pS_behind (h : But l l' i) (hi : i < l.length) (mi : sl l i = true) {m : Nat} (h1 : rk l i < m) (h2 : rk l' i < m) : Mk.pS l' m = Mk.pS l m := by
  unfold Mk.pS; rw [h.behind hi mi h1 h2]

/-- one of the others stands at m0 - 1 of the others, ahead of i with its new price, if i has fallen behind m0 -/
theorem fell (h : But l l' i) (hi : i < l.length) {m0 : Nat} (h0 : 0 < m0) (h1 : rk l i < m0) (h2 : m0 ≤ rk l' i) :
    ∃ j, j < l.length ∧ j ≠ i ∧ sl l j = sl l i ∧ rk l j = m0 ∧ (zk l' (sl l i) j < zk l' (sl l i) i ∨ zk l' (sl l i) j = zk l' (sl l i) i ∧ j < i) := by
  have mi : ms l (sl l i) i = true := ms_iff.2 rfl
  have hz := fun (j : Nat) (hne : j ≠ i) => h.zk (sl l i) j hne
  unfold rk at h1 h2
  rw [h.side i, h.len, h.ms (sl l i)] at h2
  have hs := rankZ_self (z := zk l' (sl l i)) hi mi
  have hc : rankZ l.length (zk l' (sl l i)) (M0 (ms l (sl l i)) i) i ≤ cnt (M0 (ms l (sl l i)) i) l.length := by
    unfold rankZ
    exact cnt_mono (fun x _ hx => ((ahd_iff _ _ _ _).1 hx).1)
  obtain ⟨j, hj, mj, hr⟩ := rankZ_exists (n := l.length) (z := zk l (sl l i)) (M := M0 (ms l (sl l i)) i) (m := m0 - 1) (by omega)
  have mj' : ms l (sl l i) j = true ∧ j ≠ i := by simpa [M0] using mj
  refine ⟨j, hj, mj'.2, ms_iff.1 mj'.1, ?_, ?_⟩
  · unfold rk
    rw [ms_iff.1 mj'.1]
    exact (rank_behind hi mi h1 hj mj'.1).2 ⟨mj'.2, by omega⟩
  · refine (ahd_rank (z := zk l' (sl l i)) hi mi hj mj'.1 mj'.2).2 ?_
    rw [rank0_congr hz mj'.2, hr]
    omega
theorem stay_buyer (h : But l l' i) (hi : i < l.length) (mi : sl l i = false) {m0 : Nat} (h1 : rk l i < m0) (h2 : Mk.pB l m0 < pr l' i) : rk l' i < m0 := by
  apply Classical.byContradiction
  intro hn
  obtain ⟨j, hj, hne, sj, hr, ha⟩ := fell h hi (by omega) h1 (by omega)
  rw [mi] at sj ha
  have e := pB_of hj sj hr
  simp [zk] at ha
  rw [h.price j hne] at ha
  omega
theorem stay_seller (h : But l l' i) (hi : i < l.length) (mi : sl l i = true) {m0 : Nat} (h1 : rk l i < m0) (h2 : pr l' i < Mk.pS l m0) : rk l' i < m0 := by
  apply Classical.byContradiction
  intro hn
  obtain ⟨j, hj, hne, sj, hr, ha⟩ := fell h hi (by omega) h1 (by omega)
  rw [mi] at sj ha
  have e := pS_of hj sj hr
  simp [zk] at ha
  rw [h.price j hne] at ha
  omega

/-- who of the others stands at k - 1 with i's new price stood no further behind with the old one -/
theorem stood (h : But l l' i) (hi : i < l.length) {k : Nat} (h2 : rk l' i < k) {j : Nat} (hj : j < l.length) (hne : j ≠ i) (sj : sl l j = sl l i) (hr : rk l' j = k - 1) : rk l j ≤ k - 1 := by
  have mi : ms l (sl l i) i = true := ms_iff.2 rfl
  have mj : ms l (sl l i) j = true := ms_iff.2 sj
  have hz := fun (j : Nat) (hne : j ≠ i) => h.zk (sl l i) j hne
  unfold rk at h2 hr ⊢
  rw [h.side i, h.len, h.ms (sl l i)] at h2
  rw [h.side j, sj, h.len, h.ms (sl l i)] at hr
  rw [sj]
  have s' := rankZ_split (z := zk l' (sl l i)) hi mi j
  have s := rankZ_split (z := zk l (sl l i)) hi mi j
  have a := ahd_rank (z := zk l' (sl l i)) hi mi hj mj hne
  rw [rank0_congr hz hne] at s' a
  by_cases hc : zk l' (sl l i) i < zk l' (sl l i) j ∨ zk l' (sl l i) i = zk l' (sl l i) j ∧ i < j
  · rw [if_pos hc] at s'
    have : (if zk l (sl l i) i < zk l (sl l i) j ∨ zk l (sl l i) i = zk l (sl l i) j ∧ i < j then 1 else 0) ≤ 1 := by split <;> omega
    omega
  · rw [if_neg hc] at s'
    have := a.1 (by omega)
    omega

/-- A BUYER WHO TRADES trades with every bid above what is paid, and pays as much -/
theorem buyer_keeps (hp : okP l) (hp' : okP l') (h : But l l' i) (hi : i < l.length) (mi : sl l i = false) (ht : rk l i < mcK l) (hb : mcPay l < pr l' i) : rk l' i < mcK l' ∧ mcPay l' = mcPay l := by
  have hk : mcK l ≠ 0 := by omega
  have hc := kk_cnt hp
  have hS := fun m => h.pS mi m
  have h0 : kk l ≠ 0 := by intro e; unfold mcK at hk; rw [if_pos e] at hk; exact hk rfl
  have hbh := kk_behind hp (kk l) (Nat.le_refl _)
  have hpair := kk_pair h0
  unfold mcPay at hb
  rw [if_neg hk] at hb
  by_cases hf : full l = true
  · rw [if_pos hf] at hb
    have hK : mcK l = kk l := by unfold mcK; rw [if_neg h0, if_pos hf]
    rw [hK] at ht
    have hf' : Mk.pS l (kk l - 1) ≤ mid l ∧ mid l ≤ Mk.pB l (kk l - 1) := by simpa [full] using hf
    have hmid : Mk.pB l (kk l) ≤ mid l := by unfold mid; omega
    have hst : rk l' i < kk l := stay_buyer h hi mi ht (by omega)
    have hB := fun m (hm : kk l ≤ m) => h.pB_behind hi mi (m := m) (by omega) (by omega)
    have htop : mid l ≤ Mk.pB l' (kk l - 1) := by
      have hcnt : cnt (ms l' false) l'.length = cnt (ms l false) l.length := by rw [h.len, h.ms]
      obtain ⟨j, hj, sj, hr, hpj⟩ := buyer_at (l := l') (m := kk l - 1) (by omega)
      rw [hpj]
      by_cases e : j = i
      · subst e; omega
      · have hj' : j < l.length := by rw [← h.len]; exact hj
        have sj' : sl l j = false := by rw [← h.side j]; exact sj
        have hle := stood h hi hst hj' e (by rw [sj', mi]) hr
        obtain ⟨q, hq, sq, hrq, hpq⟩ := buyer_at (l := l) (m := kk l - 1) (by omega)
        have := buyer_mono (l := l) sj' hq sq (by omega)
        rw [h.price j e]
        omega
    have hkk : kk l' = kk l := kk_unique hp' (fun _ => by rw [hS]; omega) (fun j hj => by rw [hB j hj, hS]; exact kk_behind hp j hj)
    have hmid' : mid l' = mid l := by unfold mid; rw [hkk, hB _ (Nat.le_refl _), hS]
    have hf2 : full l' = true := by
      unfold full
      rw [hkk, hmid', hS]
      simp only [Bool.and_eq_true, decide_eq_true_eq]
      exact ⟨hf'.1, htop⟩
    have hK' : mcK l' = kk l := by unfold mcK; rw [hkk, if_neg h0, if_pos hf2]
    refine ⟨by omega, ?_⟩
    unfold mcPay
    rw [if_neg (by omega), if_neg hk, if_pos hf2, if_pos hf, hmid']
  · rw [if_neg hf] at hb
    have hK : mcK l = kk l - 1 := by unfold mcK; rw [if_neg h0, if_neg hf]
    rw [hK] at ht hk
    have hst : rk l' i < kk l - 1 := stay_buyer h hi mi ht hb
    have hB := fun m (hm : kk l - 1 ≤ m) => h.pB_behind hi mi (m := m) (by omega) (by omega)
    have hkk : kk l' = kk l := kk_unique hp' (fun _ => by rw [hS, hB _ (Nat.le_refl _)]; exact hpair) (fun j hj => by rw [hB j (by omega), hS]; exact kk_behind hp j hj)
    have hmid' : mid l' = mid l := by unfold mid; rw [hkk, hB _ (by omega), hS]
    have hf2 : full l' = full l := by unfold full; rw [hkk, hmid', hS, hB _ (Nat.le_refl _)]
    have hK' : mcK l' = kk l - 1 := by unfold mcK; rw [hkk, if_neg h0, hf2, if_neg hf]
    refine ⟨by omega, ?_⟩
    unfold mcPay
    rw [if_neg (show ¬ mcK l' = 0 by omega), hf2, if_neg hf, if_neg (show ¬ mcK l = 0 by omega), if_neg hf, hkk, hB _ (Nat.le_refl _)]

/-- A SELLER WHO TRADES trades with every bid below what is got, and gets as much -/
theorem seller_keeps (hp : okP l) (hp' : okP l') (h : But l l' i) (hi : i < l.length) (mi : sl l i = true) (ht : rk l i < mcK l) (hb : pr l' i < mcGet l) : rk l' i < mcK l' ∧ mcGet l' = mcGet l := by
  have hk : mcK l ≠ 0 := by omega
  have hc := kk_cnt hp
  have hB := fun m => h.pB mi m
  have h0 : kk l ≠ 0 := by intro e; unfold mcK at hk; rw [if_pos e] at hk; exact hk rfl
  have hbh := kk_behind hp (kk l) (Nat.le_refl _)
  have hpair := kk_pair h0
  unfold mcGet at hb
  rw [if_neg hk] at hb
  by_cases hf : full l = true
  · rw [if_pos hf] at hb
    have hK : mcK l = kk l := by unfold mcK; rw [if_neg h0, if_pos hf]
    rw [hK] at ht
    have hf' : Mk.pS l (kk l - 1) ≤ mid l ∧ mid l ≤ Mk.pB l (kk l - 1) := by simpa [full] using hf
    have hmid : mid l ≤ Mk.pS l (kk l) := by unfold mid; omega
    have hst : rk l' i < kk l := stay_seller h hi mi ht (by omega)
    have hS := fun m (hm : kk l ≤ m) => h.pS_behind hi mi (m := m) (by omega) (by omega)
    have htop : Mk.pS l' (kk l - 1) ≤ mid l := by
      have hcnt : cnt (ms l' true) l'.length = cnt (ms l true) l.length := by rw [h.len, h.ms]
      obtain ⟨j, hj, sj, hr, hpj⟩ := seller_at (l := l') (m := kk l - 1) (by omega)
      rw [hpj]
      by_cases e : j = i
      · subst e; omega
      · have hj' : j < l.length := by rw [← h.len]; exact hj
        have sj' : sl l j = true := by rw [← h.side j]; exact sj
        have hle := stood h hi hst hj' e (by rw [sj', mi]) hr
        obtain ⟨q, hq, sq, hrq, hpq⟩ := seller_at (l := l) (m := kk l - 1) (by omega)
        have := seller_mono (l := l) sj' hq sq (by omega)
        rw [h.price j e]
        omega
    have hkk : kk l' = kk l := kk_unique hp' (fun _ => by rw [hB]; omega) (fun j hj => by rw [hS j hj, hB]; exact kk_behind hp j hj)
    have hmid' : mid l' = mid l := by unfold mid; rw [hkk, hS _ (Nat.le_refl _), hB]
    have hf2 : full l' = true := by
      unfold full
      rw [hkk, hmid', hB]
      simp only [Bool.and_eq_true, decide_eq_true_eq]
      exact ⟨htop, hf'.2⟩
    have hK' : mcK l' = kk l := by unfold mcK; rw [hkk, if_neg h0, if_pos hf2]
    refine ⟨by omega, ?_⟩
    unfold mcGet
    rw [if_neg (by omega), if_neg hk, if_pos hf2, if_pos hf, hmid']
  · rw [if_neg hf] at hb
    have hK : mcK l = kk l - 1 := by unfold mcK; rw [if_neg h0, if_neg hf]
    rw [hK] at ht hk
    have hst : rk l' i < kk l - 1 := stay_seller h hi mi ht hb
    have hS := fun m (hm : kk l - 1 ≤ m) => h.pS_behind hi mi (m := m) (by omega) (by omega)
    have hkk : kk l' = kk l := kk_unique hp' (fun _ => by rw [hB, hS _ (Nat.le_refl _)]; exact hpair) (fun j hj => by rw [hS j (by omega), hB]; exact kk_behind hp j hj)
    have hmid' : mid l' = mid l := by unfold mid; rw [hkk, hS _ (by omega), hB]
    have hf2 : full l' = full l := by unfold full; rw [hkk, hmid', hB, hS _ (Nat.le_refl _)]
    have hK' : mcK l' = kk l - 1 := by unfold mcK; rw [hkk, if_neg h0, hf2, if_neg hf]
    refine ⟨by omega, ?_⟩
    unfold mcGet
    rw [if_neg (show ¬ mcK l' = 0 by omega), hf2, if_neg hf, if_neg (show ¬ mcK l = 0 by omega), if_neg hf, hkk, hS _ (Nat.le_refl _)]

/-- NOBODY GAINS BY ANOTHER BID: l with the bid that is the worth, l' with another one -/
theorem truth_buyer (hp : okP l) (hp' : okP l') (h : But l l' i) (hi : i < l.length) (mi : sl l i = false) :
    mcF l' i * (pr l i - mcPay l') ≤ mcF l i * (pr l i - mcPay l) ∧ 0 ≤ mcF l i * (pr l i - mcPay l) := by
  have hown : 0 ≤ mcF l i * (pr l i - mcPay l) := by
    unfold mcF
    split
    · rename_i ht
      have := pays hp hi mi ht
      omega
    · omega
  refine ⟨?_, hown⟩
  by_cases ht : rk l' i < mcK l'
  · by_cases hv : mcPay l' < pr l i
    · obtain ⟨h1, h2⟩ := buyer_keeps hp' hp h.symm (by rw [h.len]; exact hi) (by rw [h.side i]; exact mi) ht hv
      have e : mcF l' i = mcF l i := by unfold mcF; rw [if_pos ht, if_pos h1]
      rw [e, h2]; exact Int.le_refl _
    · have : mcF l' i = 1 := by unfold mcF; rw [if_pos ht]
      rw [this]; omega
  · have : mcF l' i = 0 := by unfold mcF; rw [if_neg ht]
    rw [this]; omega
theorem truth_seller (hp : okP l) (hp' : okP l') (h : But l l' i) (hi : i < l.length) (mi : sl l i = true) :
    mcF l' i * (mcGet l' - pr l i) ≤ mcF l i * (mcGet l - pr l i) ∧ 0 ≤ mcF l i * (mcGet l - pr l i) := by
  have hown : 0 ≤ mcF l i * (mcGet l - pr l i) := by
    unfold mcF
    split
    · rename_i ht
      have := gets hp hi mi ht
      omega
    · omega
  refine ⟨?_, hown⟩
  by_cases ht : rk l' i < mcK l'
  · by_cases hv : pr l i < mcGet l'
    · obtain ⟨h1, h2⟩ := seller_keeps hp' hp h.symm (by rw [h.len]; exact hi) (by rw [h.side i]; exact mi) ht hv
      have e : mcF l' i = mcF l i := by unfold mcF; rw [if_pos ht, if_pos h1]
      rw [e, h2]; exact Int.le_refl _
    · have : mcF l' i = 1 := by unfold mcF; rw [if_pos ht]
      rw [this]; omega
  · have : mcF l' i = 0 := by unfold mcF; rw [if_neg ht]
    rw [this]; omega

/-- as many buy as sell -/
theorem mcK_le (hp : okP l) (b : Bool) : mcK l ≤ cnt (ms l b) l.length := by
  have hc := kk_cnt hp
  have : mcK l ≤ kk l := by unfold mcK; split; omega; split <;> omega
  cases b <;> omega
theorem mc_side (hp : okP l) (b : Bool) : sideSum l b (mcF l) = mcK l := by
  have e : sideSum l b (mcF l) = sumn (fun i => if (fun i => ms l b i && decide (rankZ l.length (zk l b) (ms l b) i < mcK l)) i then 1 else 0) l.length := by
    unfold sideSum
    refine sumn_congr (fun i _ => ?_)
    show (if sl l i = b then mcF l i else 0) = _
    by_cases hs : sl l i = b
    · rw [if_pos hs]
      unfold mcF rk
      rw [hs]
      have : ms l b i = true := ms_iff.2 hs
      by_cases hr : rankZ l.length (zk l b) (ms l b) i < mcK l
      · rw [if_pos hr, if_pos (by simp [this, hr])]
      · rw [if_neg hr, if_neg (by simp [hr])]
    · have : ms l b i = false := by rw [← Bool.not_eq_true, ms_iff]; exact hs
      rw [if_neg hs, if_neg (by simp [this])]
  rw [e, sumn_cnt, cntM_eq (mcK_le hp b)]
/-- buyers pay no less than sellers get -/
theorem mc_pays (_hp : okP l) : mcGet l ≤ mcPay l := by
  unfold mcGet mcPay
  split
  · omega
  · rename_i hk
    split
    · omega
    · refine kk_pair ?_
      intro e
      apply hk
      unfold mcK
      rw [if_pos e]

/-- at every price at most one pair more could have traded -/
theorem mc_most (hp : okP l) (p : Int) :
    ¬ (mcK l + 1 < cnt (fun j => ms l false j && decide (p ≤ pr l j)) l.length ∧ mcK l + 1 < cnt (fun j => ms l true j && decide (pr l j ≤ p)) l.length) := by
  rintro ⟨hb, hs⟩
  have hk : kk l ≤ mcK l + 1 := by unfold mcK; split; omega; split <;> omega
  have b1 : p ≤ pB l (kk l) := by
    apply Classical.byContradiction
    intro hn
    have : cnt (fun j => ms l false j && decide (p ≤ pr l j)) l.length ≤ cnt (fun j => ms l false j && decide (rankZ l.length (zk l false) (ms l false) j < kk l)) l.length := by
      refine cnt_mono (fun j hj hq => ?_)
      simp at hq ⊢
      refine ⟨hq.1, ?_⟩
      apply Classical.byContradiction
      intro hr
      have sj := ms_iff.1 hq.1
      have hbd := rankZ_bd (z := zk l false) hj hq.1
      obtain ⟨q, hq', sq, hrq, hpq⟩ := buyer_at (l := l) (m := kk l) (by omega)
      have := buyer_mono (l := l) (i := q) (j := j) sq hj sj (by rw [hrq]; unfold rk; rw [sj]; omega)
      omega
    have := cntM_le (n := l.length) (z := zk l false) (M := ms l false) (kk l)
    omega
  have s1 : pS l (kk l) ≤ p := by
    apply Classical.byContradiction
    intro hn
    have : cnt (fun j => ms l true j && decide (pr l j ≤ p)) l.length ≤ cnt (fun j => ms l true j && decide (rankZ l.length (zk l true) (ms l true) j < kk l)) l.length := by
      refine cnt_mono (fun j hj hq => ?_)
      simp at hq ⊢
      refine ⟨hq.1, ?_⟩
      apply Classical.byContradiction
      intro hr
      have sj := ms_iff.1 hq.1
      have hbd := rankZ_bd (z := zk l true) hj hq.1
      obtain ⟨q, hq', sq, hrq, hpq⟩ := seller_at (l := l) (m := kk l) (by omega)
      have := seller_mono (l := l) (i := q) (j := j) sq hj sj (by rw [hrq]; unfold rk; rw [sj]; omega)
      omega
    have := cntM_le (n := l.length) (z := zk l true) (M := ms l true) (kk l)
    omega
  have := kk_behind hp (kk l) (Nat.le_refl _)
  omega

end
end Mk
