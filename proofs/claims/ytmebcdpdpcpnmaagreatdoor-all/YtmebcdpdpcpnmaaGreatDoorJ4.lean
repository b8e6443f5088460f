import Derived.Test.YtmebcdpdpcpnmaaGreatDoorJ3
/- Plain mathematics: McAfee: nobody gains by bidding anything but what a slot is worth to them; at most one pair more could have traded. -/
namespace Mk

section
variable {l l' : List Ord} {i : Nat}

theorem But.symm (h : But l l' i) : But l' l i := ⟨h.len.symm, fun j => (h.side j).symm, fun j hne => (h.price j hne).symm⟩

theorem But.pS (h : But l l' i) (mi : sl l i = false) (m : Nat) : pS l' m = pS l m := by
  unfold Mk.pS; rw [h.other (b := true) (by rw [mi]; simp) m]
theorem But.pB (h : But l l' i) (mi : sl l i = true) (m : Nat) : pB l' m = pB l m := by
  unfold Mk.pB; rw [h.other (b := false) (by rw [mi]; simp) m]
theorem But.pB_behind (h : But l l' i) (hi : i < l.length) (mi : sl l i = false) {m : Nat} (h1 : rk l i < m) (h2 : rk l' i < m) : Mk.pB l' m = Mk.pB l m := by
  unfold Mk.pB; rw [h.behind hi mi h1 h2]
theorem But.pS_behind (h : But l l' i) (hi : i < l.length) (mi : sl l i = true) {m : Nat} (h1 : rk l i < m) (h2 : rk l' i < m) : Mk.pS l' m = Mk.pS l m := by
  unfold Mk.pS; rw [h.behind hi mi h1 h2]

/-- one of the others stands at m0 - 1 of the others, ahead of i with its new price, if i has fallen behind m0 -/
theorem fell (h : But l l' i) (hi : i < l.length) {m0 : Nat} (h0 : 0 < m0) (h1 : rk l i < m0) (h2 : m0 ≤ rk l' i) :
    ∃ j, j < l.length ∧ j ≠ i ∧ sl l j = sl l i ∧ rk l j = m0 ∧ (zk l' (sl l i) j < zk l' (sl l i) i ∨ zk l' (sl l i) j = zk l' (sl l i) i ∧ j < i) := by
  have mi : ms l (sl l i) i = true := ms_iff.2 rfl
  have hz := fun (j : Nat) (hne : j ≠ i) => h.zk (sl l i) j hne
  unfold rk at h1 h2
  rw [h.side i, h.len, h.ms (sl l i)] at h2
  have hs := rankZ_self (z := zk l' (sl l i)) hi mi
  have hc : rankZ l.length (zk l' (sl l i)) (M0 (ms l (sl l i)) i) i ≤ cnt (M0 (ms l (sl l i)) i) l.length := by
    unfold rankZ
    exact cnt_mono (fun x _ hx => ((ahd_iff _ _ _ _).1 hx).1)
  obtain ⟨j, hj, mj, hr⟩ := rankZ_exists (n := l.length) (z := zk l (sl l i)) (M := M0 (ms l (sl l i)) i) (m := m0 - 1) (by omega)
  have mj' : ms l (sl l i) j = true ∧ j ≠ i := by simpa [M0] using mj
  refine ⟨j, hj, mj'.2, ms_iff.1 mj'.1, ?_, ?_⟩
  · unfold rk
    rw [ms_iff.1 mj'.1]
    exact (rank_behind hi mi h1 hj mj'.1).2 ⟨mj'.2, by omega⟩
  · refine (ahd_rank (z := zk l' (sl l i)) hi mi hj mj'.1 mj'.2).2 ?_
    rw [rank0_congr hz mj'.2, hr]
    omega
theorem stay_buyer (h : But l l' i) (hi : i < l.length) (mi : sl l i = false) {m0 : Nat} (h1 : rk l i < m0) (h2 : Mk.pB l m0 < pr l' i) : rk l' i < m0 := by
  apply Classical.byContradiction
  intro hn
  obtain ⟨j, hj, hne, sj, hr, ha⟩ := fell h hi (by omega) h1 (by omega)
  rw [mi] at sj ha
  have e := pB_of hj sj hr
  simp [zk] at ha
  rw [h.price j hne] at ha
  omega
theorem stay_seller (h : But l l' i) (hi : i < l.length) (mi : sl l i = true) {m0 : Nat} (h1 : rk l i < m0) (h2 : pr l' i < Mk.pS l m0) : rk l' i < m0 := by
  apply Classical.byContradiction
  intro hn
  obtain ⟨j, hj, hne, sj, hr, ha⟩ := fell h hi (by omega) h1 (by omega)
  rw [mi] at sj ha
  have e := pS_of hj sj hr
  simp [zk] at ha
  rw [h.price j hne] at ha
  omega

/-- who of the others stands at k - 1 with i's new price stood no further behind with the old one -/
theorem stood (h : But l l' i) (hi : i < l.length) {k : Nat} (h2 : rk l' i < k) {j : Nat} (hj : j < l.length) (hne : j ≠ i) (sj : sl l j = sl l i) (hr : rk l' j = k - 1) : rk l j ≤ k - 1 := by
  have mi : ms l (sl l i) i = true := ms_iff.2 rfl
  have mj : ms l (sl l i) j = true := ms_iff.2 sj
  have hz := fun (j : Nat) (hne : j ≠ i) => h.zk (sl l i) j hne
  unfold rk at h2 hr ⊢
  rw [h.side i, h.len, h.ms (sl l i)] at h2
  rw [h.side j, sj, h.len, h.ms (sl l i)] at hr
  rw [sj]
  have s' := rankZ_split (z := zk l' (sl l i)) hi mi j
  have s := rankZ_split (z := zk l (sl l i)) hi mi j
  have a := ahd_rank (z := zk l' (sl l i)) hi mi hj mj hne
  rw [rank0_congr hz hne] at s' a
  by_cases hc : zk l' (sl l i) i < zk l' (sl l i) j ∨ zk l' (sl l i) i = zk l' (sl l i) j ∧ i < j
  · rw [if_pos hc] at s'
    have : (if zk l (sl l i) i < zk l (sl l i) j ∨ zk l (sl l i) i = zk l (sl l i) j ∧ i < j then 1 else 0) ≤ 1 := by split <;> omega
    omega
  · rw [if_neg hc] at s'
    have := a.1 (by omega)
    omega

/-- A BUYER WHO TRADES trades with every bid above what is paid, and pays as much -/
theorem buyer_keeps (hp : okP l) (hp' : okP l') (h : But l l' i) (hi : i < l.length) (mi : sl l i = false) (ht : rk l i < mcK l) (hb : mcPay l < pr l' i) : rk l' i < mcK l' ∧ mcPay l' = mcPay l := by
  have hk : mcK l ≠ 0 := by omega
  have hc := kk_cnt hp
  have hS := fun m => h.pS mi m
  have h0 : kk l ≠ 0 := by intro e; unfold mcK at hk; rw [if_pos e] at hk; exact hk rfl
  have hbh := kk_behind hp (kk l) (Nat.le_refl _)
  have hpair := kk_pair h0
  unfold mcPay at hb
  rw [if_neg hk] at hb
  by_cases hf : full l = true
  · rw [if_pos hf] at hb
    have hK : mcK l = kk l := by unfold mcK; rw [if_neg h0, if_pos hf]
    rw [hK] at ht
    have hf' : Mk.pS l (kk l - 1) ≤ mid l ∧ mid l ≤ Mk.pB l (kk l - 1) := by simpa [full] using hf
    have hmid : Mk.pB l (kk l) ≤ mid l := by unfold mid; omega
    have hst : rk l' i < kk l := stay_buyer h hi mi ht (by omega)
    have hB := fun m (hm : kk l ≤ m) => h.pB_behind hi mi (m := m) (by omega) (by omega)
    have htop : mid l ≤ Mk.pB l' (kk l - 1) := by
      have hcnt : cnt (ms l' false) l'.length = cnt (ms l false) l.length := by rw [h.len, h.ms]
      obtain ⟨j, hj, sj, hr, hpj⟩ := buyer_at (l := l') (m := kk l - 1) (by omega)
      rw [hpj]
      by_cases e : j = i
      · subst e; omega
      · have hj' : j < l.length := by rw [← h.len]; exact hj
        have sj' : sl l j = false := by rw [← h.side j]; exact sj
        have hle := stood h hi hst hj' e (by rw [sj', mi]) hr
        obtain ⟨q, hq, sq, hrq, hpq⟩ := buyer_at (l := l) (m := kk l - 1) (by omega)
        have := buyer_mono (l := l) sj' hq sq (by omega)
        rw [h.price j e]
        omega
    have hkk : kk l' = kk l := kk_unique hp' (fun _ => by rw [hS]; omega) (fun j hj => by rw [hB j hj, hS]; exact kk_behind hp j hj)
    have hmid' : mid l' = mid l := by unfold mid; rw [hkk, hB _ (Nat.le_refl _), hS]
    have hf2 : full l' = true := by
      unfold full
      rw [hkk, hmid', hS]
      simp only [Bool.and_eq_true, decide_eq_true_eq]
      exact ⟨hf'.1, htop⟩
    have hK' : mcK l' = kk l := by unfold mcK; rw [hkk, if_neg h0, if_pos hf2]
    refine ⟨by omega, ?_⟩
    unfold mcPay
    rw [if_neg (by omega), if_neg hk, if_pos hf2, if_pos hf, hmid']
  · rw [if_neg hf] at hb
    have hK : mcK l = kk l - 1 := by unfold mcK; rw [if_neg h0, if_neg hf]
    rw [hK] at ht hk
    have hst : rk l' i < kk l - 1 := stay_buyer h hi mi ht hb
    have hB := fun m (hm : kk l - 1 ≤ m) => h.pB_behind hi mi (m := m) (by omega) (by omega)
    have hkk : kk l' = kk l := kk_unique hp' (fun _ => by rw [hS, hB _ (Nat.le_refl _)]; exact hpair) (fun j hj => by rw [hB j (by omega), hS]; exact kk_behind hp j hj)
    have hmid' : mid l' = mid l := by unfold mid; rw [hkk, hB _ (by omega), hS]
    have hf2 : full l' = full l := by unfold full; rw [hkk, hmid', hS, hB _ (Nat.le_refl _)]
    have hK' : mcK l' = kk l - 1 := by unfold mcK; rw [hkk, if_neg h0, hf2, if_neg hf]
    refine ⟨by omega, ?_⟩
    unfold mcPay
    rw [if_neg (show ¬ mcK l' = 0 by omega), hf2, if_neg hf, if_neg (show ¬ mcK l = 0 by omega), if_neg hf, hkk, hB _ (Nat.le_refl _)]

/-- A SELLER WHO TRADES trades with every bid below what is got, and gets as much -/
theorem seller_keeps (hp : okP l) (hp' : okP l') (h : But l l' i) (hi : i < l.length) (mi : sl l i = true) (ht : rk l i < mcK l) (hb : pr l' i < mcGet l) : rk l' i < mcK l' ∧ mcGet l' = mcGet l := by
  have hk : mcK l ≠ 0 := by omega
  have hc := kk_cnt hp
  have hB := fun m => h.pB mi m
  have h0 : kk l ≠ 0 := by intro e; unfold mcK at hk; rw [if_pos e] at hk; exact hk rfl
  have hbh := kk_behind hp (kk l) (Nat.le_refl _)
  have hpair := kk_pair h0
  unfold mcGet at hb
  rw [if_neg hk] at hb
  by_cases hf : full l = true
  · rw [if_pos hf] at hb
    have hK : mcK l = kk l := by unfold mcK; rw [if_neg h0, if_pos hf]
    rw [hK] at ht
    have hf' : Mk.pS l (kk l - 1) ≤ mid l ∧ mid l ≤ Mk.pB l (kk l - 1) := by simpa [full] using hf
    have hmid : mid l ≤ Mk.pS l (kk l) := by unfold mid; omega
    have hst : rk l' i < kk l := stay_seller h hi mi ht (by omega)
    have hS := fun m (hm : kk l ≤ m) => h.pS_behind hi mi (m := m) (by omega) (by omega)
    have htop : Mk.pS l' (kk l - 1) ≤ mid l := by
      have hcnt : cnt (ms l' true) l'.length = cnt (ms l true) l.length := by rw [h.len, h.ms]
      obtain ⟨j, hj, sj, hr, hpj⟩ := seller_at (l := l') (m := kk l - 1) (by omega)
      rw [hpj]
      by_cases e : j = i
      · subst e; omega
      · have hj' : j < l.length := by rw [← h.len]; exact hj
        have sj' : sl l j = true := by rw [← h.side j]; exact sj
        have hle := stood h hi hst hj' e (by rw [sj', mi]) hr
        obtain ⟨q, hq, sq, hrq, hpq⟩ := seller_at (l := l) (m := kk l - 1) (by omega)
        have := seller_mono (l := l) sj' hq sq (by omega)
        rw [h.price j e]
        omega
    have hkk : kk l' = kk l := kk_unique hp' (fun _ => by rw [hB]; omega) (fun j hj => by rw [hS j hj, hB]; exact kk_behind hp j hj)
    have hmid' : mid l' = mid l := by unfold mid; rw [hkk, hS _ (Nat.le_refl _), hB]
    have hf2 : full l' = true := by
      unfold full
      rw [hkk, hmid', hB]
      simp only [Bool.and_eq_true, decide_eq_true_eq]
      exact ⟨htop, hf'.2⟩
    have hK' : mcK l' = kk l := by unfold mcK; rw [hkk, if_neg h0, if_pos hf2]
    refine ⟨by omega, ?_⟩
    unfold mcGet
    rw [if_neg (by omega), if_neg hk, if_pos hf2, if_pos hf, hmid']
  · rw [if_neg hf] at hb
    have hK : mcK l = kk l - 1 := by unfold mcK; rw [if_neg h0, if_neg hf]
    rw [hK] at ht hk
    have hst : rk l' i < kk l - 1 := stay_seller h hi mi ht hb
    have hS := fun m (hm : kk l - 1 ≤ m) => h.pS_behind hi mi (m := m) (by omega) (by omega)
    have hkk : kk l' = kk l := kk_unique hp' (fun _ => by rw [hB, hS _ (Nat.le_refl _)]; exact hpair) (fun j hj => by rw [hS j (by omega), hB]; exact kk_behind hp j hj)
    have hmid' : mid l' = mid l := by unfold mid; rw [hkk, hS _ (by omega), hB]
    have hf2 : full l' = full l := by unfold full; rw [hkk, hmid', hB, hS _ (Nat.le_refl _)]
    have hK' : mcK l' = kk l - 1 := by unfold mcK; rw [hkk, if_neg h0, hf2, if_neg hf]
    refine ⟨by omega, ?_⟩
    unfold mcGet
    rw [if_neg (show ¬ mcK l' = 0 by omega), hf2, if_neg hf, if_neg (show ¬ mcK l = 0 by omega), if_neg hf, hkk, hS _ (Nat.le_refl _)]

/-- NOBODY GAINS BY ANOTHER BID: l with the bid that is the worth, l' with another one -/
theorem truth_buyer (hp : okP l) (hp' : okP l') (h : But l l' i) (hi : i < l.length) (mi : sl l i = false) :
    mcF l' i * (pr l i - mcPay l') ≤ mcF l i * (pr l i - mcPay l) ∧ 0 ≤ mcF l i * (pr l i - mcPay l) := by
  have hown : 0 ≤ mcF l i * (pr l i - mcPay l) := by
    unfold mcF
    split
    · rename_i ht
      have := pays hp hi mi ht
      omega
    · omega
  refine ⟨?_, hown⟩
  by_cases ht : rk l' i < mcK l'
  · by_cases hv : mcPay l' < pr l i
    · obtain ⟨h1, h2⟩ := buyer_keeps hp' hp h.symm (by rw [h.len]; exact hi) (by rw [h.side i]; exact mi) ht hv
      have e : mcF l' i = mcF l i := by unfold mcF; rw [if_pos ht, if_pos h1]
      rw [e, h2]; exact Int.le_refl _
    · have : mcF l' i = 1 := by unfold mcF; rw [if_pos ht]
      rw [this]; omega
  · have : mcF l' i = 0 := by unfold mcF; rw [if_neg ht]
    rw [this]; omega
theorem truth_seller (hp : okP l) (hp' : okP l') (h : But l l' i) (hi : i < l.length) (mi : sl l i = true) :
    mcF l' i * (mcGet l' - pr l i) ≤ mcF l i * (mcGet l - pr l i) ∧ 0 ≤ mcF l i * (mcGet l - pr l i) := by
  have hown : 0 ≤ mcF l i * (mcGet l - pr l i) := by
    unfold mcF
    split
    · rename_i ht
      have := gets hp hi mi ht
      omega
    · omega
  refine ⟨?_, hown⟩
  by_cases ht : rk l' i < mcK l'
  · by_cases hv : pr l i < mcGet l'
    · obtain ⟨h1, h2⟩ := seller_keeps hp' hp h.symm (by rw [h.len]; exact hi) (by rw [h.side i]; exact mi) ht hv
      have e : mcF l' i = mcF l i := by unfold mcF; rw [if_pos ht, if_pos h1]
      rw [e, h2]; exact Int.le_refl _
    · have : mcF l' i = 1 := by unfold mcF; rw [if_pos ht]
      rw [this]; omega
  · have : mcF l' i = 0 := by unfold mcF; rw [if_neg ht]
    rw [this]; omega

/-- as many buy as sell -/
theorem mcK_le (hp : okP l) (b : Bool) : mcK l ≤ cnt (ms l b) l.length := by
  have hc := kk_cnt hp
  have : mcK l ≤ kk l := by unfold mcK; split; omega; split <;> omega
  cases b <;> omega
theorem mc_side (hp : okP l) (b : Bool) : sideSum l b (mcF l) = mcK l := by
  have e : sideSum l b (mcF l) = sumn (fun i => if (fun i => ms l b i && decide (rankZ l.length (zk l b) (ms l b) i < mcK l)) i then 1 else 0) l.length := by
    unfold sideSum
    refine sumn_congr (fun i _ => ?_)
    show (if sl l i = b then mcF l i else 0) = _
    by_cases hs : sl l i = b
    · rw [if_pos hs]
      unfold mcF rk
      rw [hs]
      have : ms l b i = true := ms_iff.2 hs
      by_cases hr : rankZ l.length (zk l b) (ms l b) i < mcK l
      · rw [if_pos hr, if_pos (by simp [this, hr])]
      · rw [if_neg hr, if_neg (by simp [hr])]
    · have : ms l b i = false := by rw [← Bool.not_eq_true, ms_iff]; exact hs
      rw [if_neg hs, if_neg (by simp [this])]
  rw [e, sumn_cnt, cntM_eq (mcK_le hp b)]
/-- buyers pay no less than sellers get -/
theorem mc_pays (_hp : okP l) : mcGet l ≤ mcPay l := by
  unfold mcGet mcPay
  split
  · omega
  · rename_i hk
    split
    · omega
    · refine kk_pair ?_
      intro e
      apply hk
      unfold mcK
      rw [if_pos e]

/-- at every price at most one pair more could have traded -/
theorem mc_most (hp : okP l) (p : Int) :
    ¬ (mcK l + 1 < cnt (fun j => ms l false j && decide (p ≤ pr l j)) l.length ∧ mcK l + 1 < cnt (fun j => ms l true j && decide (pr l j ≤ p)) l.length) := by
  rintro ⟨hb, hs⟩
  have hk : kk l ≤ mcK l + 1 := by unfold mcK; split; omega; split <;> omega
  have b1 : p ≤ pB l (kk l) := by
    apply Classical.byContradiction
    intro hn
    have : cnt (fun j => ms l false j && decide (p ≤ pr l j)) l.length ≤ cnt (fun j => ms l false j && decide (rankZ l.length (zk l false) (ms l false) j < kk l)) l.length := by
      refine cnt_mono (fun j hj hq => ?_)
      simp at hq ⊢
      refine ⟨hq.1, ?_⟩
      apply Classical.byContradiction
      intro hr
      have sj := ms_iff.1 hq.1
      have hbd := rankZ_bd (z := zk l false) hj hq.1
      obtain ⟨q, hq', sq, hrq, hpq⟩ := buyer_at (l := l) (m := kk l) (by omega)
      have := buyer_mono (l := l) (i := q) (j := j) sq hj sj (by rw [hrq]; unfold rk; rw [sj]; omega)
      omega
    have := cntM_le (n := l.length) (z := zk l false) (M := ms l false) (kk l)
    omega
  have s1 : pS l (kk l) ≤ p := by
    apply Classical.byContradiction
    intro hn
    have : cnt (fun j => ms l true j && decide (pr l j ≤ p)) l.length ≤ cnt (fun j => ms l true j && decide (rankZ l.length (zk l true) (ms l true) j < kk l)) l.length := by
      refine cnt_mono (fun j hj hq => ?_)
      simp at hq ⊢
      refine ⟨hq.1, ?_⟩
      apply Classical.byContradiction
      intro hr
      have sj := ms_iff.1 hq.1
      have hbd := rankZ_bd (z := zk l true) hj hq.1
      obtain ⟨q, hq', sq, hrq, hpq⟩ := seller_at (l := l) (m := kk l) (by omega)
      have := seller_mono (l := l) (i := q) (j := j) sq hj sj (by rw [hrq]; unfold rk; rw [sj]; omega)
      omega
    have := cntM_le (n := l.length) (z := zk l true) (M := ms l true) (kk l)
    omega
  have := kk_behind hp (kk l) (Nat.le_refl _)
  omega

end
end Mk

/- Plain mathematics: McAfee as the two programs find it: ranks by counting, prices by looking through the row. -/
namespace Mk

section
variable {l : List Ord}

theorem sl_at {j : Nat} (h : j < l.length) : sl l j = l[j].sell := by unfold sl; rw [getD_at h]
theorem pr_at {j : Nat} (h : j < l.length) : pr l j = l[j].price := by unfold pr; rw [getD_at h]

/-- of one side: is the price p better than q? -/
def lessB (s : Bool) (p q : Int) : Bool := if s then decide (p < q) else decide (q < p)
/-- does j stand ahead of i in the row of i's side? -/
def ahdL (l : List Ord) (i j : Nat) : Bool := ahd (zk l (sl l i)) (ms l (sl l i)) i j
theorem rk_is (l : List Ord) (i : Nat) : rk l i = cnt (ahdL l i) l.length := rfl
theorem ahdL_off {i j : Nat} (hi : i < l.length) (hj : j < l.length) (h : l[j].sell ≠ l[i].sell) : ahdL l i j = false := by
  unfold ahdL
  refine ahd_no (fun hh => h ?_)
  have := ms_iff.1 hh.1
  rw [sl_at hi, sl_at hj] at this
  exact this
theorem ahdL_on {i j : Nat} (hi : i < l.length) (hj : j < l.length) (h : l[j].sell = l[i].sell) : ahdL l i j = (lessB l[j].sell l[j].price l[i].price || (decide (l[j].price = l[i].price) && decide (j < i))) := by
  have hm : ms l (sl l i) j = true := ms_iff.2 (by rw [sl_at hi, sl_at hj, h])
  unfold ahdL ahd
  rw [hm, Bool.true_and]
  unfold zk lessB
  rw [sl_at hi, pr_at hi, pr_at hj, h]
  cases l[i].sell
  · simp only [Bool.false_eq_true, if_false]
    congr 1
    · rw [decide_eq_decide]; omega
    · congr 1; rw [decide_eq_decide]; omega
  · simp only [if_true]
theorem ahdL_self {i : Nat} : ahdL l i i = false := ahd_no (by omega)
theorem ahdL_yes {i j : Nat} (hi : i < l.length) (hj : j < l.length) (h : l[j].sell = l[i].sell) (h2 : lessB l[j].sell l[j].price l[i].price = true ∨ l[j].price = l[i].price ∧ j < i) : ahdL l i j = true := by
  rw [ahdL_on hi hj h]
  rcases h2 with h2 | h2
  · rw [h2]; rfl
  · simp [h2]
theorem ahdL_nope {i j : Nat} (hi : i < l.length) (hj : j < l.length) (h : l[j].sell = l[i].sell) (h2 : lessB l[j].sell l[j].price l[i].price = false) (h3 : ¬ (l[j].price = l[i].price ∧ j < i)) : ahdL l i j = false := by
  rw [ahdL_on hi hj h, h2, Bool.false_or, ← Bool.not_eq_true]
  simpa using h3
/-- as the document's answer has it -/
def soonB (s : Bool) (p q : Int) (i k : Nat) : Bool := if p = q then decide (i < k) else s == decide (p < q)
theorem ahdL_soon {i j : Nat} (hi : i < l.length) (hj : j < l.length) (h : l[j].sell = l[i].sell) : ahdL l i j = soonB l[j].sell l[j].price l[i].price j i := by
  rw [ahdL_on hi hj h]
  unfold soonB lessB
  by_cases e : l[j].price = l[i].price
  · rw [if_pos e, e]
    cases l[j].sell <;> simp
  · rw [if_neg e]
    have e' : decide (l[j].price = l[i].price) = false := by simp [e]
    rw [e', Bool.false_and, Bool.or_false]
    cases l[j].sell
    · simp only [Bool.false_eq_true, if_false]
      rw [Bool.eq_iff_iff]
      simp
      omega
    · simp

theorem rk_le (i : Nat) : rk l i ≤ l.length := cnt_le _ _

/-- the price of the one of a side ahead of whom m stand; d, if there is none -/
def prAt (l : List Ord) (b : Bool) (m : Nat) (d : Int) : Int := match keyAt l.length (zk l b) (ms l b) m with | some q => if b then q else -q | none => d
theorem prAt_B (m : Nat) : prAt l false m 0 = pB l m := by
  unfold prAt pB; cases keyAt l.length (zk l false) (ms l false) m <;> rfl
theorem prAt_S (m : Nat) : prAt l true m 100 = pS l m := by
  unfold prAt pS; cases keyAt l.length (zk l true) (ms l true) m <;> rfl
theorem prAt_of {b : Bool} {j m : Nat} (hj : j < l.length) (mj : sl l j = b) (hr : rk l j = m) (d : Int) : prAt l b m d = pr l j := by
  unfold rk at hr
  rw [mj] at hr
  unfold prAt
  rw [keyAt_of hj (ms_iff.2 mj) hr]
  cases b <;> simp [zk]
theorem prAt_none {b : Bool} {m : Nat} (h : ∀ j, j < l.length → sl l j = b → rk l j ≠ m) (d : Int) : prAt l b m d = d := by
  unfold prAt
  split
  · rename_i q hq
    obtain ⟨j, hj, mj, hr, _⟩ := keyAt_inv hq
    exact absurd (by unfold rk; rw [ms_iff.1 mj]; exact hr) (h j hj (ms_iff.1 mj))
  · rfl

/-- the last one of the first j of the side b and the place m, its price; d, if there is none -/
def lastTo (l : List Ord) (b : Bool) (m d : Int) : Nat → Int
  | 0 => d
  | j + 1 => if sl l j = b ∧ (rk l j : Int) = m then pr l j else lastTo l b m d j
theorem lastTo_yes {b : Bool} {m d : Int} {j : Nat} (h : sl l j = b) (h2 : (rk l j : Int) = m) : lastTo l b m d (j + 1) = pr l j := if_pos ⟨h, h2⟩
theorem lastTo_no {b : Bool} {m d : Int} {j : Nat} (h : sl l j ≠ b ∨ (rk l j : Int) ≠ m) : lastTo l b m d (j + 1) = lastTo l b m d j := if_neg (fun hh => by rcases h with h | h; exact h hh.1; exact h hh.2)
theorem lastTo_is (b : Bool) (m d : Int) (j : Nat) : (∃ i, i < j ∧ sl l i = b ∧ (rk l i : Int) = m ∧ lastTo l b m d j = pr l i) ∨ (∀ i, i < j → sl l i = b → (rk l i : Int) ≠ m) ∧ lastTo l b m d j = d := by
  induction j with
  | zero => exact .inr ⟨fun i hi => by omega, rfl⟩
  | succ j ih =>
    by_cases h : sl l j = b ∧ (rk l j : Int) = m
    · exact .inl ⟨j, by omega, h.1, h.2, lastTo_yes h.1 h.2⟩
    · have e : lastTo l b m d (j + 1) = lastTo l b m d j := if_neg h
      rw [e]
      rcases ih with ⟨i, hi, h1, h2, h3⟩ | ⟨h1, h2⟩
      · exact .inl ⟨i, by omega, h1, h2, h3⟩
      · refine .inr ⟨fun i hi hs hr => ?_, h2⟩
        by_cases e : i = j
        · subst e; exact h ⟨hs, hr⟩
        · exact h1 i (by omega) hs hr
theorem lastTo_all (b : Bool) (m : Nat) (d : Int) : lastTo l b m d l.length = prAt l b m d := by
  rcases lastTo_is (l := l) b m d l.length with ⟨i, hi, h1, h2, h3⟩ | ⟨h1, h2⟩
  · rw [h3, prAt_of hi h1 (by omega)]
  · rw [h2, prAt_none (fun j hj hs hr => h1 j hj hs (by omega))]
theorem lastTo_neg (b : Bool) (d : Int) (j : Nat) : lastTo l b (-1) d j = d := by
  rcases lastTo_is (l := l) b (-1) d j with ⟨i, hi, h1, h2, h3⟩ | ⟨h1, h2⟩
  · omega
  · exact h2
theorem lastTo_bd (h : okP l) (b : Bool) (m d : Int) (hd : 0 ≤ d ∧ d ≤ 100) {j : Nat} (hj : j ≤ l.length) : 0 ≤ lastTo l b m d j ∧ lastTo l b m d j ≤ 100 := by
  rcases lastTo_is (l := l) b m d j with ⟨i, hi, h1, h2, h3⟩ | ⟨h1, h2⟩
  · have := h i (by omega); omega
  · omega

/-- along the rows buyers offer less, sellers ask more -/
theorem pB_anti (hp : okP l) {m m' : Nat} (h : m ≤ m') : pB l m' ≤ pB l m := by
  by_cases hc : m' < cnt (ms l false) l.length
  · obtain ⟨j, hj, sj, hr, e⟩ := buyer_at (l := l) hc
    obtain ⟨i, hi, si, hri, ei⟩ := buyer_at (l := l) (m := m) (by omega)
    rw [e, ei]
    exact buyer_mono si hj sj (by omega)
  · rw [pB_none (by omega)]; exact (pB_bd hp m).1
theorem pS_mono (hp : okP l) {m m' : Nat} (h : m ≤ m') : pS l m ≤ pS l m' := by
  by_cases hc : m' < cnt (ms l true) l.length
  · obtain ⟨j, hj, sj, hr, e⟩ := seller_at (l := l) hc
    obtain ⟨i, hi, si, hri, ei⟩ := seller_at (l := l) (m := m) (by omega)
    rw [e, ei]
    exact seller_mono si hj sj (by omega)
  · rw [pS_none (l := l) (m := m') (by omega)]; exact (pS_bd hp m).2
/-- k is found at the first pair that would not trade -/
theorem kk_first (hp : okP l) {k : Nat} (h1 : ∀ j, j < k → pS l j ≤ pB l j) (h2 : k < l.length → pB l k < pS l k) (hk : k ≤ l.length) : kk l = k := by
  refine kk_unique hp (fun h0 => h1 (k - 1) (by omega)) (fun j hj => ?_)
  by_cases hl : k < l.length
  · have a := h2 hl
    have b := pB_anti hp hj
    have c := pS_mono hp hj
    omega
  · have b := pB_none (l := l) (m := j) (Nat.le_trans (cnt_le _ _) (by omega))
    have c := pS_bd hp j
    omega
theorem prAt_get (hp : okP l) (h : kk l ≠ 0) : prAt l true (kk l - 1) 0 = pS l (kk l - 1) := by
  have hc := kk_cnt hp
  obtain ⟨j, hj, sj, hr, e⟩ := seller_at (l := l) (m := kk l - 1) (by omega)
  rw [e, prAt_of hj sj hr]

theorem full_iff : full l = true ↔ pS l (kk l - 1) ≤ mid l ∧ mid l ≤ pB l (kk l - 1) := by simp [full]
theorem full_not (h : ¬ (pS l (kk l - 1) ≤ mid l ∧ mid l ≤ pB l (kk l - 1))) : full l = false := by
  rw [← Bool.not_eq_true, full_iff]; exact h
/-- the four ends of the rule -/
theorem mc_none (h : kk l = 0) : mcK l = 0 ∧ mcPay l = 0 ∧ mcGet l = 0 := by
  have : mcK l = 0 := by unfold mcK; rw [if_pos h]
  unfold mcPay mcGet; rw [this]; simp
theorem mc_full (h : kk l ≠ 0) (hf : full l = true) : mcK l = kk l ∧ mcPay l = mid l ∧ mcGet l = mid l := by
  have : mcK l = kk l := by unfold mcK; rw [if_neg h, if_pos hf]
  unfold mcPay mcGet; rw [this, if_neg h, if_neg h, if_pos hf, if_pos hf]; simp
theorem mc_less (h : 1 < kk l) (hf : full l = false) : mcK l = kk l - 1 ∧ mcPay l = pB l (kk l - 1) ∧ mcGet l = pS l (kk l - 1) := by
  have : mcK l = kk l - 1 := by unfold mcK; rw [if_neg (by omega), hf]; simp
  have h0 : ¬ kk l - 1 = 0 := by omega
  unfold mcPay mcGet; rw [this, hf]; simp [h0]
theorem mc_one (h : kk l = 1) (hf : full l = false) : mcK l = 0 ∧ mcPay l = 0 ∧ mcGet l = 0 := by
  have : mcK l = 0 := by unfold mcK; rw [if_neg (by omega), hf, h]; simp
  unfold mcPay mcGet; rw [this]; simp
theorem mcF_zero (h : mcK l = 0) (i : Nat) : mcF l i = 0 := by unfold mcF; rw [if_neg (by omega)]
theorem mid_bd (hp : okP l) : 0 ≤ mid l ∧ mid l ≤ 100 := by
  have := pB_bd hp (kk l)
  have := pS_bd hp (kk l)
  unfold mid; omega
theorem okP_of {most : Int} (hv : validB most l = true) : okP l := by
  intro j hj
  have := (ok_of_valid hv).2 l[j] (List.getElem_mem hj)
  rw [pr_at hj]; omega

/-- one slot each -/
def oneB (o : Ord) : Bool := decide (o.qty = 1)
theorem valid_one : validB 1 l = (validB 20 l && l.all oneB) := by
  have : ∀ o : Ord, okB 1 o = (okB 20 o && oneB o) := by
    intro o
    rw [Bool.eq_iff_iff]
    simp [okB, oneB]
    omega
  unfold validB
  rw [Bool.and_assoc]
  congr 1
  rw [Bool.eq_iff_iff]
  simp only [Bool.and_eq_true, List.all_eq_true, this]
  constructor
  · intro h; exact ⟨fun o ho => (h o ho).1, fun o ho => (h o ho).2⟩
  · intro h o ho; exact ⟨h.1 o ho, h.2 o ho⟩
theorem one_no {k : Nat} (h : k < l.length) (h2 : oneB l[k] = false) : l.all oneB = false := by
  rw [List.all_eq_false]; exact ⟨l[k], List.getElem_mem h, by simp [h2]⟩
theorem valid_20 (h : validB 1 l = true) : validB 20 l = true := by
  rw [valid_one, Bool.and_eq_true] at h; exact h.1

end
end Mk

/- Plain mathematics: two orders in one another's place. -/
namespace Mk

theorem sumn_update (g : Nat → Int) (v : Int) (n i : Nat) (hi : i < n) : sumn (fun j => if j = i then v else g j) n = sumn g n - g i + v := by
  induction n with
  | zero => omega
  | succ k ih =>
    simp only [sumn]
    by_cases h : i = k
    · subst h
      rw [sumn_congr (g := g) (fun j hj => if_neg (by omega)), if_pos rfl]; omega
    · rw [ih (by omega), if_neg (by omega)]; omega

def swapL (l : List Ord) (i k : Nat) : List Ord := (l.set i (l.getD k ozero)).set k (l.getD i ozero)

theorem swapL_length (l : List Ord) (i k : Nat) : (swapL l i k).length = l.length := by simp [swapL]

theorem getD_set (l : List Ord) (i : Nat) (o : Ord) (hi : i < l.length) (j : Nat) : (l.set i o).getD j ozero = if j = i then o else l.getD j ozero := by
  simp only [List.getD]
  by_cases h : j = i
  · subst h; simp [List.getElem?_set_self hi]
  · rw [if_neg h, List.getElem?_set_ne (by omega)]

theorem sumf_set (f : Ord → Int) (l : List Ord) (i : Nat) (o : Ord) (hi : i < l.length) : sumf f (l.set i o) = sumf f l - f (l.getD i ozero) + f o := by
  rw [sumf_n, sumf_n, List.length_set]
  rw [← sumn_update (fun j => f (l.getD j ozero)) (f o) l.length i hi]
  refine sumn_congr (fun j _ => ?_)
  rw [getD_set l i o hi j]
  by_cases h : j = i
  · rw [if_pos h, if_pos h]
  · rw [if_neg h, if_neg h]

theorem swapL_sum (f : Ord → Int) (l : List Ord) (i k : Nat) (hi : i < l.length) (hk : k < l.length) : sumf f (swapL l i k) = sumf f l := by
  unfold swapL
  rw [sumf_set f _ k _ (by simpa using hk), sumf_set f l i _ hi, getD_set l i _ hi k]
  by_cases h : k = i
  · subst h; rw [if_pos rfl]; omega
  · rw [if_neg h]; omega

theorem swapL_mem (l : List Ord) (i k : Nat) (hi : i < l.length) (hk : k < l.length) (o : Ord) (h : o ∈ swapL l i k) : o ∈ l := by
  unfold swapL at h
  have h1 := List.mem_or_eq_of_mem_set h
  rcases h1 with h1 | h1
  · have h2 := List.mem_or_eq_of_mem_set h1
    rcases h2 with h2 | h2
    · exact h2
    · rw [h2, getD_at hk]; exact List.getElem_mem hk
  · rw [h1, getD_at hi]; exact List.getElem_mem hi

theorem swapL_valid {l : List Ord} {i k : Nat} (hi : i < l.length) (hk : k < l.length) (hv : validB 20 l = true) : validB 20 (swapL l i k) = true := by
  simp only [validB, Bool.and_eq_true, decide_eq_true_eq, List.all_eq_true] at hv ⊢
  refine ⟨by rw [swapL_length]; exact hv.1, fun o ho => hv.2 o (swapL_mem l i k hi hk o ho)⟩

theorem swapL_dem {l : List Ord} {i k : Nat} (hi : i < l.length) (hk : k < l.length) (p : Int) : dem (swapL l i k) p = dem l p := swapL_sum _ l i k hi hk
theorem swapL_sup {l : List Ord} {i k : Nat} (hi : i < l.length) (hk : k < l.length) (p : Int) : sup (swapL l i k) p = sup l p := swapL_sum _ l i k hi hk
theorem swapL_best {l : List Ord} {i k : Nat} (hi : i < l.length) (hk : k < l.length) (n : Nat) : best (swapL l i k) n = best l n := by
  induction n with
  | zero => rfl
  | succ n ih => simp only [best, ih, swapL_dem hi hk, swapL_sup hi hk]
theorem swapL_vol {l : List Ord} {i k : Nat} (hi : i < l.length) (hk : k < l.length) (p : Int) : vol (swapL l i k) p = vol l p := by
  unfold vol; rw [swapL_dem hi hk, swapL_sup hi hk]

end Mk

/- Plain mathematics: one slot each; order i's bid turned. -/
namespace Mk

def one (o : Ord) : Ord := ⟨o.sell, o.price, 1⟩
/-- order i with another bid -/
def bid (l : List Ord) (i : Nat) (v : Int) : List Ord := l.set i ⟨(l.getD i ozero).sell, v, (l.getD i ozero).qty⟩

section
variable {l : List Ord} {i : Nat}

theorem bid_len (v : Int) : (bid l i v).length = l.length := by simp [bid]
theorem bid_at (hi : i < l.length) (v : Int) (j : Nat) : (bid l i v).getD j ozero = if j = i then ⟨(l.getD i ozero).sell, v, (l.getD i ozero).qty⟩ else l.getD j ozero := by
  unfold bid; exact getD_set l i _ hi j
theorem bid_sl (hi : i < l.length) (v : Int) (j : Nat) : sl (bid l i v) j = sl l j := by
  unfold sl; rw [bid_at hi]; split
  · rename_i h; rw [h]
  · rfl
theorem bid_pr (hi : i < l.length) (v : Int) (j : Nat) : pr (bid l i v) j = if j = i then v else pr l j := by
  unfold pr; rw [bid_at hi]; split <;> rfl
theorem bid_but (hi : i < l.length) (v b : Int) : But (bid l i v) (bid l i b) i :=
  ⟨by rw [bid_len, bid_len], fun j => by rw [bid_sl hi, bid_sl hi], fun j hne => by rw [bid_pr hi, bid_pr hi, if_neg hne, if_neg hne]⟩
theorem bid_bid (hi : i < l.length) (v b : Int) : bid (bid l i v) i b = bid l i b := by
  have h := bid_at hi v i
  rw [if_pos rfl] at h
  unfold bid at h ⊢
  rw [h]
  simp
theorem bid_valid {most : Int} (hv : validB most l = true) (hi : i < l.length) {v : Int} (h1 : 1 ≤ v) (h2 : v ≤ 99) : validB most (bid l i v) = true := by
  obtain ⟨h12, hok⟩ := ok_of_valid hv
  have hq := hok l[i] (List.getElem_mem hi)
  simp only [validB, Bool.and_eq_true, decide_eq_true_eq, List.all_eq_true]
  refine ⟨by rw [bid_len]; exact h12, fun o ho => ?_⟩
  unfold bid at ho
  rcases List.mem_or_eq_of_mem_set ho with h | rfl
  · have := hok o h
    simp only [okB, Bool.and_eq_true, decide_eq_true_eq]; omega
  · rw [getD_at hi]
    simp only [okB, Bool.and_eq_true, decide_eq_true_eq]; omega
theorem truthB (hv : validB 1 l = true) (hi : i < l.length) {v b : Int} (h1 : 1 ≤ v) (h2 : v ≤ 99) (h3 : 1 ≤ b) (h4 : b ≤ 99) (hs : l[i].sell = false) :
    mcF (bid l i b) i * (v - mcPay (bid l i b)) ≤ mcF (bid l i v) i * (v - mcPay (bid l i v)) ∧ 0 ≤ mcF (bid l i v) i * (v - mcPay (bid l i v)) := by
  have hp := okP_of (bid_valid hv hi h1 h2)
  have hp' := okP_of (bid_valid hv hi h3 h4)
  have := truth_buyer hp hp' (bid_but hi v b) (by rw [bid_len]; exact hi) (by rw [bid_sl hi, sl_at hi]; exact hs)
  rw [bid_pr hi, if_pos rfl] at this
  exact this
theorem truthS (hv : validB 1 l = true) (hi : i < l.length) {v b : Int} (h1 : 1 ≤ v) (h2 : v ≤ 99) (h3 : 1 ≤ b) (h4 : b ≤ 99) (hs : l[i].sell = true) :
    mcF (bid l i b) i * (mcGet (bid l i b) - v) ≤ mcF (bid l i v) i * (mcGet (bid l i v) - v) ∧ 0 ≤ mcF (bid l i v) i * (mcGet (bid l i v) - v) := by
  have hp := okP_of (bid_valid hv hi h1 h2)
  have hp' := okP_of (bid_valid hv hi h3 h4)
  have := truth_seller hp hp' (bid_but hi v b) (by rw [bid_len]; exact hi) (by rw [bid_sl hi, sl_at hi]; exact hs)
  rw [bid_pr hi, if_pos rfl] at this
  exact this
theorem mcF_bd (l : List Ord) (i : Nat) : 0 ≤ mcF l i ∧ mcF l i ≤ 1 := by unfold mcF; split <;> omega
theorem mcPay_bd (hp : okP l) : 0 ≤ mcPay l ∧ mcPay l ≤ 100 := by
  have h1 := mid_bd hp
  have h2 := pB_bd hp (kk l - 1)
  unfold mcPay; split
  · omega
  · split <;> omega
theorem mcGet_bd (hp : okP l) : 0 ≤ mcGet l ∧ mcGet l ≤ 100 := by
  have h1 := mid_bd hp
  have h2 := pS_bd hp (kk l - 1)
  unfold mcGet; split
  · omega
  · split <;> omega
theorem mc_gain_bd {f x : Int} (hf : 0 ≤ f ∧ f ≤ 1) (hx : -200 ≤ x ∧ x ≤ 200) : -200 ≤ f * x ∧ f * x ≤ 200 := by
  have : f = 0 ∨ f = 1 := by omega
  rcases this with rfl | rfl <;> omega
/-- the first k orders, one slot each, and the rest as they are -/
def oneTo (l : List Ord) (k : Nat) : List Ord := (l.take k).map one ++ l.drop k
theorem oneTo_len (k : Nat) : (oneTo l k).length = l.length := by simp [oneTo]; omega
theorem oneTo_zero : oneTo l 0 = l := by simp [oneTo]
theorem oneTo_all : oneTo l l.length = l.map one := by simp [oneTo]
theorem oneTo_succ {k : Nat} (hk : k < l.length) : oneTo l (k + 1) = (oneTo l k).set k (one l[k]) := by
  apply List.ext_getElem
  · simp [oneTo]; omega
  · intro j h1 h2
    simp only [oneTo, List.getElem_set, List.getElem_append, List.getElem_map, List.length_map, List.length_take, List.getElem_drop, List.getElem_take]
    by_cases e : k = j
    · subst e
      rw [dif_pos (by omega), if_pos rfl]
    · rw [if_neg e]
      by_cases hj : j < k
      · rw [dif_pos (by omega), dif_pos (by omega)]
      · rw [dif_neg (by omega), dif_neg (by omega)]
        congr 1; omega
theorem oneTo_get {k : Nat} (hk : k < l.length) (h : k < (oneTo l k).length) : (oneTo l k)[k] = l[k] := by
  simp only [oneTo]
  rw [List.getElem_append_right (by simp; omega)]
  simp [Nat.min_eq_left (Nat.le_of_lt hk)]
end
end Mk
