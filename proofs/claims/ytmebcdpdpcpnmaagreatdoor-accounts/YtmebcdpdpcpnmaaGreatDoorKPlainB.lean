import Derived.Test.YtmebcdpdpcpnmaaGreatDoorKPlainA
/- Plain mathematics: the document's McAfee (P6); nobody gains by another bid. -/
namespace Mk

def pr (l : List Ord) (j : Nat) : Int := (l.getD j ozero).price
def sl (l : List Ord) (j : Nat) : Bool := (l.getD j ozero).sell
/-- the key of an order in the row of its side -/
def zk (l : List Ord) (b : Bool) (j : Nat) : Int := if b then pr l j else -(pr l j)
/-- is it of the side? -/
def ms (l : List Ord) (b : Bool) (j : Nat) : Bool := sl l j == b
/-- how many of its side stand ahead of order i -/
def rk (l : List Ord) (i : Nat) : Nat := rankZ l.length (zk l (sl l i)) (ms l (sl l i)) i
/-- the price of the one of a side ahead of whom m stand: 0, or 100, if there is none -/
def pB (l : List Ord) (m : Nat) : Int := match keyAt l.length (zk l false) (ms l false) m with | some q => -q | none => 0
def pS (l : List Ord) (m : Nat) : Int := match keyAt l.length (zk l true) (ms l true) m with | some q => q | none => 100
/-- P6's k, of those up to m -/
def kTo (l : List Ord) : Nat → Nat
  | 0 => 0
  | m + 1 => if pS l m ≤ pB l m then m + 1 else kTo l m
def kk (l : List Ord) : Nat := kTo l l.length
def mid (l : List Ord) : Int := (pB l (kk l) + pS l (kk l)) / 2
def full (l : List Ord) : Bool := decide (pS l (kk l - 1) ≤ mid l) && decide (mid l ≤ pB l (kk l - 1))
/-- how many pairs trade, what a buyer pays, what a seller gets, what order i gets -/
def mcK (l : List Ord) : Nat := if kk l = 0 then 0 else if full l then kk l else kk l - 1
def mcPay (l : List Ord) : Int := if mcK l = 0 then 0 else if full l then mid l else pB l (kk l - 1)
def mcGet (l : List Ord) : Int := if mcK l = 0 then 0 else if full l then mid l else pS l (kk l - 1)
def mcF (l : List Ord) (i : Nat) : Int := if rk l i < mcK l then 1 else 0

def okP (l : List Ord) : Prop := ∀ j, j < l.length → 1 ≤ pr l j ∧ pr l j ≤ 99

section
variable {l l' : List Ord}

theorem ms_iff {b : Bool} {j : Nat} : ms l b j = true ↔ sl l j = b := by simp [ms]

theorem pB_bd (h : okP l) (m : Nat) : 0 ≤ pB l m ∧ pB l m ≤ 99 := by
  unfold pB
  split
  · rename_i q hq
    obtain ⟨j, hj, _, _, rfl⟩ := keyAt_inv hq
    have := h j hj
    simp [zk]; omega
  · omega
theorem pS_bd (h : okP l) (m : Nat) : 1 ≤ pS l m ∧ pS l m ≤ 100 := by
  unfold pS
  split
  · rename_i q hq
    obtain ⟨j, hj, _, _, rfl⟩ := keyAt_inv hq
    have := h j hj
    simp [zk]; omega
  · omega
theorem pB_of {j m : Nat} (hj : j < l.length) (mj : sl l j = false) (hr : rk l j = m) : pB l m = pr l j := by
  unfold rk at hr
  rw [mj] at hr
  unfold pB
  rw [keyAt_of hj (ms_iff.2 mj) hr]
  simp [zk]
theorem pS_of {j m : Nat} (hj : j < l.length) (mj : sl l j = true) (hr : rk l j = m) : pS l m = pr l j := by
  unfold rk at hr
  rw [mj] at hr
  unfold pS
  rw [keyAt_of hj (ms_iff.2 mj) hr]
  simp [zk]
theorem pB_none {m : Nat} (h : cnt (ms l false) l.length ≤ m) : pB l m = 0 := by unfold pB; rw [keyAt_none h]
theorem pS_none {m : Nat} (h : cnt (ms l true) l.length ≤ m) : pS l m = 100 := by unfold pS; rw [keyAt_none h]
theorem pB_pos {m : Nat} (h : 0 < pB l m) : m < cnt (ms l false) l.length := by
  apply Classical.byContradiction; intro hn; rw [pB_none (by omega)] at h; omega
theorem pS_lt {m : Nat} (h : pS l m < 100) : m < cnt (ms l true) l.length := by
  apply Classical.byContradiction; intro hn; rw [pS_none (by omega)] at h; omega

/-- k: a pair at k - 1, none from k on -/
theorem kTo_is (m : Nat) : kTo l m ≤ m ∧ (kTo l m ≠ 0 → pS l (kTo l m - 1) ≤ pB l (kTo l m - 1)) ∧ ∀ j, kTo l m ≤ j → j < m → pB l j < pS l j := by
  induction m with
  | zero => simp [kTo]
  | succ m ih =>
    simp only [kTo]
    by_cases h : pS l m ≤ pB l m
    · rw [if_pos h]
      exact ⟨Nat.le_refl _, fun _ => by simpa using h, fun j h1 h2 => by omega⟩
    · rw [if_neg h]
      refine ⟨by omega, ih.2.1, fun j h1 h2 => ?_⟩
      by_cases e : j = m
      · subst e; omega
      · exact ih.2.2 j h1 (by omega)
theorem kk_le : kk l ≤ l.length := (kTo_is l.length).1
theorem kk_pair (h : kk l ≠ 0) : pS l (kk l - 1) ≤ pB l (kk l - 1) := (kTo_is l.length).2.1 h
theorem kk_behind (hp : okP l) (j : Nat) (h : kk l ≤ j) : pB l j < pS l j := by
  by_cases hj : j < l.length
  · exact (kTo_is l.length).2.2 j h hj
  · have h1 := pB_none (l := l) (m := j) (Nat.le_trans (cnt_le _ _) (by omega))
    have h2 := pS_bd hp j
    omega
theorem kk_unique (hp : okP l) {k : Nat} (h1 : k ≠ 0 → pS l (k - 1) ≤ pB l (k - 1)) (h2 : ∀ j, k ≤ j → pB l j < pS l j) : kk l = k := by
  apply Classical.byContradiction
  intro hne
  by_cases hlt : kk l < k
  · have a := kk_behind hp (k - 1) (by omega)
    have b := h1 (by omega)
    omega
  · have a := h2 (kk l - 1) (by omega)
    have b := kk_pair (l := l) (by omega)
    omega
theorem kk_cnt (hp : okP l) : kk l ≤ cnt (ms l false) l.length ∧ kk l ≤ cnt (ms l true) l.length := by
  by_cases h : kk l = 0
  · omega
  · have h1 := kk_pair h
    have h2 := pS_bd hp (kk l - 1)
    have h3 := pB_bd hp (kk l - 1)
    have h4 := pB_pos (l := l) (m := kk l - 1) (by omega)
    have h5 := pS_lt (l := l) (m := kk l - 1) (by omega)
    omega

/-- who has the lesser rank bids no worse -/
theorem buyer_mono {i j : Nat} (hi : sl l i = false) (hj : j < l.length) (mj : sl l j = false) (h : rk l i ≤ rk l j) : pr l j ≤ pr l i := by
  unfold rk at h
  rw [hi, mj] at h
  have := rankZ_mono (z := zk l false) hj (ms_iff.2 mj) h
  simp [zk] at this
  omega
theorem seller_mono {i j : Nat} (hi : sl l i = true) (hj : j < l.length) (mj : sl l j = true) (h : rk l i ≤ rk l j) : pr l i ≤ pr l j := by
  unfold rk at h
  rw [hi, mj] at h
  have := rankZ_mono (z := zk l true) hj (ms_iff.2 mj) h
  simpa [zk] using this

/-- the buyer, the seller of rank m -/
theorem buyer_at {m : Nat} (h : m < cnt (ms l false) l.length) : ∃ j, j < l.length ∧ sl l j = false ∧ rk l j = m ∧ pB l m = pr l j := by
  obtain ⟨j, hj, mj, hr, _⟩ := keyAt_some (z := zk l false) h
  have mj' := ms_iff.1 mj
  have hr' : rk l j = m := by unfold rk; rw [mj']; exact hr
  exact ⟨j, hj, mj', hr', pB_of hj mj' hr'⟩
theorem seller_at {m : Nat} (h : m < cnt (ms l true) l.length) : ∃ j, j < l.length ∧ sl l j = true ∧ rk l j = m ∧ pS l m = pr l j := by
  obtain ⟨j, hj, mj, hr, _⟩ := keyAt_some (z := zk l true) h
  have mj' := ms_iff.1 mj
  have hr' : rk l j = m := by unfold rk; rw [mj']; exact hr
  exact ⟨j, hj, mj', hr', pS_of hj mj' hr'⟩

/-- NOBODY PAYS MORE THAN THEY BID -/
theorem pays (hp : okP l) {i : Nat} (_hi : i < l.length) (mi : sl l i = false) (h : rk l i < mcK l) : mcPay l ≤ pr l i := by
  have hk : mcK l ≠ 0 := by omega
  have hc := kk_cnt hp
  unfold mcPay
  rw [if_neg hk]
  unfold mcK at h
  by_cases h0 : kk l = 0
  · rw [if_pos h0] at h; omega
  · rw [if_neg h0] at h
    obtain ⟨j, hj, mj, hr, hpj⟩ := buyer_at (l := l) (m := kk l - 1) (by omega)
    by_cases hf : full l = true
    · rw [if_pos hf] at h ⊢
      have hm := buyer_mono mi hj mj (by omega)
      simp [full] at hf
      omega
    · rw [if_neg hf] at h ⊢
      have hm := buyer_mono mi hj mj (by omega)
      omega
/-- NOBODY GETS LESS THAN THEY BID -/
theorem gets (hp : okP l) {i : Nat} (_hi : i < l.length) (mi : sl l i = true) (h : rk l i < mcK l) : pr l i ≤ mcGet l := by
  have hk : mcK l ≠ 0 := by omega
  have hc := kk_cnt hp
  unfold mcGet
  rw [if_neg hk]
  unfold mcK at h
  by_cases h0 : kk l = 0
  · rw [if_pos h0] at h; omega
  · rw [if_neg h0] at h
    obtain ⟨j, hj, mj, hr, hpj⟩ := seller_at (l := l) (m := kk l - 1) (by omega)
    by_cases hf : full l = true
    · rw [if_pos hf] at h ⊢
      have hm := seller_mono mi hj mj (by omega)
      simp [full] at hf
      omega
    · rw [if_neg hf] at h ⊢
      have hm := seller_mono mi hj mj (by omega)
      omega

/-- the same but for order i's price -/
structure But (l l' : List Ord) (i : Nat) : Prop where
  len : l'.length = l.length
  side : ∀ j, sl l' j = sl l j
  price : ∀ j, j ≠ i → pr l' j = pr l j

theorem But.ms {i : Nat} (h : But l l' i) (b : Bool) : ms l' b = ms l b := by funext j; simp [Mk.ms, h.side j]
theorem But.zk {i : Nat} (h : But l l' i) (b : Bool) (j : Nat) (hne : j ≠ i) : zk l' b j = zk l b j := by unfold Mk.zk; rw [h.price j hne]
/-- the other side is as it was -/
theorem But.other {i : Nat} (h : But l l' i) {b : Bool} (hb : sl l i ≠ b) (m : Nat) : keyAt l'.length (Mk.zk l' b) (Mk.ms l' b) m = keyAt l.length (Mk.zk l b) (Mk.ms l b) m := by
  rw [h.len, h.ms b]
  refine keyAt_congr (fun j mj => h.zk b j ?_) m
  intro e
  subst e
  exact hb (ms_iff.1 mj)
/-- behind i its own side is as it was -/
theorem But.behind {i : Nat} (h : But l l' i) (hi : i < l.length) {b : Bool} (hb : sl l i = b) {m : Nat} (h1 : rk l i < m) (h2 : rk l' i < m) : keyAt l'.length (Mk.zk l' b) (Mk.ms l' b) m = keyAt l.length (Mk.zk l b) (Mk.ms l b) m := by
  unfold rk at h1 h2
  rw [h.side i, hb, h.len, h.ms b] at h2
  rw [hb] at h1
  rw [h.len, h.ms b]
  exact keyAt_behind hi (ms_iff.2 hb) (fun j hne => h.zk b j hne) h1 h2

end
end Mk
