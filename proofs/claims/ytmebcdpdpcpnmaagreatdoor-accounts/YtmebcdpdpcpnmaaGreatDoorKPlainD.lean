import Derived.Test.YtmebcdpdpcpnmaaGreatDoorKPlainC
/- Plain mathematics: McAfee as the two programs find it: ranks by counting, prices by looking through the row. -/
namespace Mk

section
variable {l : List Ord}

theorem sl_at {j : Nat} (h : j < l.length) : sl l j = l[j].sell := by unfold sl; rw [getD_at h]
theorem pr_at {j : Nat} (h : j < l.length) : pr l j = l[j].price := by unfold pr; rw [getD_at h]

/-- of one side: is the price p better than q? -/
def lessB (s : Bool) (p q : Int) : Bool := if s then decide (p < q) else decide (q < p)
/-- does j stand ahead of i in the row of i's side? -/
def ahdL (l : List Ord) (i j : Nat) : Bool := ahd (zk l (sl l i)) (ms l (sl l i)) i j
theorem rk_is (l : List Ord) (i : Nat) : rk l i = cnt (ahdL l i) l.length := rfl
theorem ahdL_off {i j : Nat} (hi : i < l.length) (hj : j < l.length) (h : l[j].sell ≠ l[i].sell) : ahdL l i j = false := by
  unfold ahdL
  refine ahd_no (fun hh => h ?_)
  have := ms_iff.1 hh.1
  rw [sl_at hi, sl_at hj] at this
  exact this
theorem ahdL_on {i j : Nat} (hi : i < l.length) (hj : j < l.length) (h : l[j].sell = l[i].sell) : ahdL l i j = (lessB l[j].sell l[j].price l[i].price || (decide (l[j].price = l[i].price) && decide (j < i))) := by
  have hm : ms l (sl l i) j = true := ms_iff.2 (by rw [sl_at hi, sl_at hj, h])
  unfold ahdL ahd
  rw [hm, Bool.true_and]
  unfold zk lessB
  rw [sl_at hi, pr_at hi, pr_at hj, h]
  cases l[i].sell
  · simp only [Bool.false_eq_true, if_false]
    congr 1
    · rw [decide_eq_decide]; omega
    · congr 1; rw [decide_eq_decide]; omega
  · simp only [if_true]
theorem ahdL_self {i : Nat} : ahdL l i i = false := ahd_no (by omega)
theorem ahdL_yes {i j : Nat} (hi : i < l.length) (hj : j < l.length) (h : l[j].sell = l[i].sell) (h2 : lessB l[j].sell l[j].price l[i].price = true ∨ l[j].price = l[i].price ∧ j < i) : ahdL l i j = true := by
  rw [ahdL_on hi hj h]
  rcases h2 with h2 | h2
  · rw [h2]; rfl
  · simp [h2]
theorem ahdL_nope {i j : Nat} (hi : i < l.length) (hj : j < l.length) (h : l[j].sell = l[i].sell) (h2 : lessB l[j].sell l[j].price l[i].price = false) (h3 : ¬ (l[j].price = l[i].price ∧ j < i)) : ahdL l i j = false := by
  rw [ahdL_on hi hj h, h2, Bool.false_or, ← Bool.not_eq_true]
  simpa using h3
/-- as the document's answer has it -/
def soonB (s : Bool) (p q : Int) (i k : Nat) : Bool := if p = q then decide (i < k) else s == decide (p < q)
theorem ahdL_soon {i j : Nat} (hi : i < l.length) (hj : j < l.length) (h : l[j].sell = l[i].sell) : ahdL l i j = soonB l[j].sell l[j].price l[i].price j i := by
  rw [ahdL_on hi hj h]
  unfold soonB lessB
  by_cases e : l[j].price = l[i].price
  · rw [if_pos e, e]
    cases l[j].sell <;> simp
  · rw [if_neg e]
    have e' : decide (l[j].price = l[i].price) = false := by simp [e]
    rw [e', Bool.false_and, Bool.or_false]
    cases l[j].sell
    · simp only [Bool.false_eq_true, if_false]
      rw [Bool.eq_iff_iff]
      simp
      omega
    · simp

theorem rk_le (i : Nat) : rk l i ≤ l.length := cnt_le _ _

/-- the price of the one of a side ahead of whom m stand; d, if there is none -/
def prAt (l : List Ord) (b : Bool) (m : Nat) (d : Int) : Int := match keyAt l.length (zk l b) (ms l b) m with | some q => if b then q else -q | none => d
theorem prAt_B (m : Nat) : prAt l false m 0 = pB l m := by
  unfold prAt pB; cases keyAt l.length (zk l false) (ms l false) m <;> rfl
theorem prAt_S (m : Nat) : prAt l true m 100 = pS l m := by
  unfold prAt pS; cases keyAt l.length (zk l true) (ms l true) m <;> rfl
theorem prAt_of {b : Bool} {j m : Nat} (hj : j < l.length) (mj : sl l j = b) (hr : rk l j = m) (d : Int) : prAt l b m d = pr l j := by
  unfold rk at hr
  rw [mj] at hr
  unfold prAt
  rw [keyAt_of hj (ms_iff.2 mj) hr]
  cases b <;> simp [zk]
theorem prAt_none {b : Bool} {m : Nat} (h : ∀ j, j < l.length → sl l j = b → rk l j ≠ m) (d : Int) : prAt l b m d = d := by
  unfold prAt
  split
  · rename_i q hq
    obtain ⟨j, hj, mj, hr, _⟩ := keyAt_inv hq
    exact absurd (by unfold rk; rw [ms_iff.1 mj]; exact hr) (h j hj (ms_iff.1 mj))
  · rfl

/-- the last one of the first j of the side b and the place m, its price; d, if there is none -/
def lastTo (l : List Ord) (b : Bool) (m d : Int) : Nat → Int
  | 0 => d
  | j + 1 => if sl l j = b ∧ (rk l j : Int) = m then pr l j else lastTo l b m d j
theorem lastTo_yes {b : Bool} {m d : Int} {j : Nat} (h : sl l j = b) (h2 : (rk l j : Int) = m) : lastTo l b m d (j + 1) = pr l j := if_pos ⟨h, h2⟩
theorem lastTo_no {b : Bool} {m d : Int} {j : Nat} (h : sl l j ≠ b ∨ (rk l j : Int) ≠ m) : lastTo l b m d (j + 1) = lastTo l b m d j := if_neg (fun hh => by rcases h with h | h; exact h hh.1; exact h hh.2)
theorem lastTo_is (b : Bool) (m d : Int) (j : Nat) : (∃ i, i < j ∧ sl l i = b ∧ (rk l i : Int) = m ∧ lastTo l b m d j = pr l i) ∨ (∀ i, i < j → sl l i = b → (rk l i : Int) ≠ m) ∧ lastTo l b m d j = d := by
  induction j with
  | zero => exact .inr ⟨fun i hi => by omega, rfl⟩
  | succ j ih =>
    by_cases h : sl l j = b ∧ (rk l j : Int) = m
    · exact .inl ⟨j, by omega, h.1, h.2, lastTo_yes h.1 h.2⟩
    · have e : lastTo l b m d (j + 1) = lastTo l b m d j := if_neg h
      rw [e]
      rcases ih with ⟨i, hi, h1, h2, h3⟩ | ⟨h1, h2⟩
      · exact .inl ⟨i, by omega, h1, h2, h3⟩
      · refine .inr ⟨fun i hi hs hr => ?_, h2⟩
        by_cases e : i = j
        · subst e; exact h ⟨hs, hr⟩
        · exact h1 i (by omega) hs hr
theorem lastTo_all (b : Bool) (m : Nat) (d : Int) : lastTo l b m d l.length = prAt l b m d := by
  rcases lastTo_is (l := l) b m d l.length with ⟨i, hi, h1, h2, h3⟩ | ⟨h1, h2⟩
  · rw [h3, prAt_of hi h1 (by omega)]
  · rw [h2, prAt_none (fun j hj hs hr => h1 j hj hs (by omega))]
theorem lastTo_neg (b : Bool) (d : Int) (j : Nat) : lastTo l b (-1) d j = d := by
  rcases lastTo_is (l := l) b (-1) d j with ⟨i, hi, h1, h2, h3⟩ | ⟨h1, h2⟩
  · omega
  · exact h2
theorem lastTo_bd (h : okP l) (b : Bool) (m d : Int) (hd : 0 ≤ d ∧ d ≤ 100) {j : Nat} (hj : j ≤ l.length) : 0 ≤ lastTo l b m d j ∧ lastTo l b m d j ≤ 100 := by
  rcases lastTo_is (l := l) b m d j with ⟨i, hi, h1, h2, h3⟩ | ⟨h1, h2⟩
  · have := h i (by omega); omega
  · omega

/-- along the rows buyers offer less, sellers ask more -/
theorem pB_anti (hp : okP l) {m m' : Nat} (h : m ≤ m') : pB l m' ≤ pB l m := by
  by_cases hc : m' < cnt (ms l false) l.length
  · obtain ⟨j, hj, sj, hr, e⟩ := buyer_at (l := l) hc
    obtain ⟨i, hi, si, hri, ei⟩ := buyer_at (l := l) (m := m) (by omega)
    rw [e, ei]
    exact buyer_mono si hj sj (by omega)
  · rw [pB_none (by omega)]; exact (pB_bd hp m).1
theorem pS_mono (hp : okP l) {m m' : Nat} (h : m ≤ m') : pS l m ≤ pS l m' := by
  by_cases hc : m' < cnt (ms l true) l.length
  · obtain ⟨j, hj, sj, hr, e⟩ := seller_at (l := l) hc
    obtain ⟨i, hi, si, hri, ei⟩ := seller_at (l := l) (m := m) (by omega)
    rw [e, ei]
    exact seller_mono si hj sj (by omega)
  · rw [pS_none (l := l) (m := m') (by omega)]; exact (pS_bd hp m).2
/-- k is found at the first pair that would not trade -/
theorem kk_first (hp : okP l) {k : Nat} (h1 : ∀ j, j < k → pS l j ≤ pB l j) (h2 : k < l.length → pB l k < pS l k) (hk : k ≤ l.length) : kk l = k := by
  refine kk_unique hp (fun h0 => h1 (k - 1) (by omega)) (fun j hj => ?_)
  by_cases hl : k < l.length
  · have a := h2 hl
    have b := pB_anti hp hj
    have c := pS_mono hp hj
    omega
  · have b := pB_none (l := l) (m := j) (Nat.le_trans (cnt_le _ _) (by omega))
    have c := pS_bd hp j
    omega
theorem prAt_get (hp : okP l) (h : kk l ≠ 0) : prAt l true (kk l - 1) 0 = pS l (kk l - 1) := by
  have hc := kk_cnt hp
  obtain ⟨j, hj, sj, hr, e⟩ := seller_at (l := l) (m := kk l - 1) (by omega)
  rw [e, prAt_of hj sj hr]

theorem full_iff : full l = true ↔ pS l (kk l - 1) ≤ mid l ∧ mid l ≤ pB l (kk l - 1) := by simp [full]
theorem full_not (h : ¬ (pS l (kk l - 1) ≤ mid l ∧ mid l ≤ pB l (kk l - 1))) : full l = false := by
  rw [← Bool.not_eq_true, full_iff]; exact h
/-- the four ends of the rule -/
theorem mc_none (h : kk l = 0) : mcK l = 0 ∧ mcPay l = 0 ∧ mcGet l = 0 := by
  have : mcK l = 0 := by unfold mcK; rw [if_pos h]
  unfold mcPay mcGet; rw [this]; simp
theorem mc_full (h : kk l ≠ 0) (hf : full l = true) : mcK l = kk l ∧ mcPay l = mid l ∧ mcGet l = mid l := by
  have : mcK l = kk l := by unfold mcK; rw [if_neg h, if_pos hf]
  unfold mcPay mcGet; rw [this, if_neg h, if_neg h, if_pos hf, if_pos hf]; simp
theorem mc_less (h : 1 < kk l) (hf : full l = false) : mcK l = kk l - 1 ∧ mcPay l = pB l (kk l - 1) ∧ mcGet l = pS l (kk l - 1) := by
  have : mcK l = kk l - 1 := by unfold mcK; rw [if_neg (by omega), hf]; simp
  have h0 : ¬ kk l - 1 = 0 := by omega
  unfold mcPay mcGet; rw [this, hf]; simp [h0]
theorem mc_one (h : kk l = 1) (hf : full l = false) : mcK l = 0 ∧ mcPay l = 0 ∧ mcGet l = 0 := by
  have : mcK l = 0 := by unfold mcK; rw [if_neg (by omega), hf, h]; simp
  unfold mcPay mcGet; rw [this]; simp
theorem mcF_zero (h : mcK l = 0) (i : Nat) : mcF l i = 0 := by unfold mcF; rw [if_neg (by omega)]
theorem mid_bd (hp : okP l) : 0 ≤ mid l ∧ mid l ≤ 100 := by
  have := pB_bd hp (kk l)
  have := pS_bd hp (kk l)
  unfold mid; omega
theorem okP_of {most : Int} (hv : validB most l = true) : okP l := by
  intro j hj
  have := (ok_of_valid hv).2 l[j] (List.getElem_mem hj)
  rw [pr_at hj]; omega

/-- one slot each -/
def oneB (o : Ord) : Bool := decide (o.qty = 1)
theorem valid_one : validB 1 l = (validB 20 l && l.all oneB) := by
  have : ∀ o : Ord, okB 1 o = (okB 20 o && oneB o) := by
    intro o
    rw [Bool.eq_iff_iff]
    simp [okB, oneB]
    omega
  unfold validB
  rw [Bool.and_assoc]
  congr 1
  rw [Bool.eq_iff_iff]
  simp only [Bool.and_eq_true, List.all_eq_true, this]
  constructor
  · intro h; exact ⟨fun o ho => (h o ho).1, fun o ho => (h o ho).2⟩
  · intro h o ho; exact ⟨h.1 o ho, h.2 o ho⟩
theorem one_no {k : Nat} (h : k < l.length) (h2 : oneB l[k] = false) : l.all oneB = false := by
  rw [List.all_eq_false]; exact ⟨l[k], List.getElem_mem h, by simp [h2]⟩
theorem valid_20 (h : validB 1 l = true) : validB 20 l = true := by
  rw [valid_one, Bool.and_eq_true] at h; exact h.1

end
end Mk
