import Derived.Test.YtmebcdpdpcpnmabDoorJ6
import Derived.Test.YtmebcdpdpcpnmabDoorJ4
import Derived.Test.YtmebcdpdpcpnmabDoorJ5
import Derived.Deep.QuietTactic
import Derived.BigQuiet
import Derived.Test.YtmebcdpdpcpnmabDoorJ1
import Derived.Test.YtmebcdpdpcpnmabDoorJ2
/- Plain mathematics: McAfee as the two programs find it: ranks by counting, prices by looking through the row. -/
namespace Mk

section
variable {l : List Ord}

theorem sl_at {j : Nat} (h : j < l.length) : sl l j = l[j].sell := by unfold sl; rw [getD_at h]
theorem pr_at {j : Nat} (h : j < l.length) : pr l j = l[j].price := by unfold pr; rw [getD_at h]

/-- of one side: is the price p better than q? -/
def lessB (s : Bool) (p q : Int) : Bool := if s then decide (p < q) else decide (q < p)
/-- does j stand ahead of i in the row of i's side? -/
def ahdL (l : List Ord) (i j : Nat) : Bool := ahd (zk l (sl l i)) (ms l (sl l i)) i j
theorem rk_is (l : List Ord) (i : Nat) : rk l i = cnt (ahdL l i) l.length := rfl
theorem ahdL_off {i j : Nat} (hi : i < l.length) (hj : j < l.length) (h : l[j].sell ≠ l[i].sell) : ahdL l i j = false := by
  unfold ahdL
  refine ahd_no (fun hh => h ?_)
  have := ms_iff.1 hh.1
  rw [sl_at hi, sl_at hj] at this
  exact this
theorem ahdL_on {i j : Nat} (hi : i < l.length) (hj : j < l.length) (h : l[j].sell = l[i].sell) : ahdL l i j = (lessB l[j].sell l[j].price l[i].price || (decide (l[j].price = l[i].price) && decide (j < i))) := by
  have hm : ms l (sl l i) j = true := ms_iff.2 (by rw [sl_at hi, sl_at hj, h])
  unfold ahdL ahd
  rw [hm, Bool.true_and]
  unfold zk lessB
  rw [sl_at hi, pr_at hi, pr_at hj, h]
  cases l[i].sell
  · simp only [Bool.false_eq_true, if_false]
    congr 1
    · rw [decide_eq_decide]; omega
    · congr 1; rw [decide_eq_decide]; omega
  · simp only [if_true]
theorem ahdL_self {i : Nat} : ahdL l i i = false := ahd_no (by omega)
theorem ahdL_yes {i j : Nat} (hi : i < l.length) (hj : j < l.length) (h : l[j].sell = l[i].sell) (h2 : lessB l[j].sell l[j].price l[i].price = true ∨ l[j].price = l[i].price ∧ j < i) : ahdL l i j = true := by
  rw [ahdL_on hi hj h]
  rcases h2 with h2 | h2
  · rw [h2]; rfl
  · simp [h2]
theorem ahdL_nope {i j : Nat} (hi : i < l.length) (hj : j < l.length) (h : l[j].sell = l[i].sell) (h2 : lessB l[j].sell l[j].price l[i].price = false) (h3 : ¬ (l[j].price = l[i].price ∧ j < i)) : ahdL l i j = false := by
  rw [ahdL_on hi hj h, h2, Bool.false_or, ← Bool.not_eq_true]
  simpa using h3
/-- as the document's answer has it -/
def soonB (s : Bool) (p q : Int) (i k : Nat) : Bool := if p = q then decide (i < k) else s == decide (p < q)
theorem ahdL_soon {i j : Nat} (hi : i < l.length) (hj : j < l.length) (h : l[j].sell = l[i].sell) : ahdL l i j = soonB l[j].sell l[j].price l[i].price j i := by
  rw [ahdL_on hi hj h]
  unfold soonB lessB
  by_cases e : l[j].price = l[i].price
  · rw [if_pos e, e]
    cases l[j].sell <;> simp
  · rw [if_neg e]
    have e' : decide (l[j].price = l[i].price) = false := by simp [e]
    rw [e', Bool.false_and, Bool.or_false]
    cases l[j].sell
    · simp only [Bool.false_eq_true, if_false]
      rw [Bool.eq_iff_iff]
      simp
      omega
    · simp

theorem rk_le (i : Nat) : rk l i ≤ l.length := cnt_le _ _

/-- the price of the one of a side ahead of whom m stand; d, if there is none -/
def prAt (l : List Ord) (b : Bool) (m : Nat) (d : Int) : Int := match keyAt l.length (zk l b) (ms l b) m with | some q => if b then q else -q | none => d
theorem prAt_B (m : Nat) : prAt l false m 0 = pB l m := by
  unfold prAt pB; cases keyAt l.length (zk l false) (ms l false) m <;> rfl
theorem prAt_S (m : Nat) : prAt l true m 100 = pS l m := by
  unfold prAt pS; cases keyAt l.length (zk l true) (ms l true) m <;> rfl
theorem prAt_of {b : Bool} {j m : Nat} (hj : j < l.length) (mj : sl l j = b) (hr : rk l j = m) (d : Int) : prAt l b m d = pr l j := by
  unfold rk at hr
  rw [mj] at hr
  unfold prAt
  rw [keyAt_of hj (ms_iff.2 mj) hr]
  cases b <;> simp [zk]
theorem prAt_none {b : Bool} {m : Nat} (h : ∀ j, j < l.length → sl l j = b → rk l j ≠ m) (d : Int) : prAt l b m d = d := by
  unfold prAt
  split
  · rename_i q hq
    obtain ⟨j, hj, mj, hr, _⟩ := keyAt_inv hq
    exact absurd (by unfold rk; rw [ms_iff.1 mj]; exact hr) (h j hj (ms_iff.1 mj))
  · rfl

/-- the last one of the first j of the side b and the place m, its price; d, if there is none -/
def lastTo (l : List Ord) (b : Bool) (m d : Int) : Nat → Int
  | 0 => d
  | j + 1 => if sl l j = b ∧ (rk l j : Int) = m then pr l j else lastTo l b m d j
theorem lastTo_yes {b : Bool} {m d : Int} {j : Nat} (h : sl l j = b) (h2 : (rk l j : Int) = m) : lastTo l b m d (j + 1) = pr l j := if_pos ⟨h, h2⟩
theorem lastTo_no {b : Bool} {m d : Int} {j : Nat} (h : sl l j ≠ b ∨ (rk l j : Int) ≠ m) : lastTo l b m d (j + 1) = lastTo l b m d j := if_neg (fun hh => by rcases h with h | h; exact h hh.1; exact h hh.2)
theorem lastTo_is (b : Bool) (m d : Int) (j : Nat) : (∃ i, i < j ∧ sl l i = b ∧ (rk l i : Int) = m ∧ lastTo l b m d j = pr l i) ∨ (∀ i, i < j → sl l i = b → (rk l i : Int) ≠ m) ∧ lastTo l b m d j = d := by
  induction j with
  | zero => exact .inr ⟨fun i hi => by omega, rfl⟩
  | succ j ih =>
    by_cases h : sl l j = b ∧ (rk l j : Int) = m
    · exact .inl ⟨j, by omega, h.1, h.2, lastTo_yes h.1 h.2⟩
    · have e : lastTo l b m d (j + 1) = lastTo l b m d j := if_neg h
      rw [e]
      rcases ih with ⟨i, hi, h1, h2, h3⟩ | ⟨h1, h2⟩
      · exact .inl ⟨i, by omega, h1, h2, h3⟩
      · refine .inr ⟨fun i hi hs hr => ?_, h2⟩
        by_cases e : i = j
        · subst e; exact h ⟨hs, hr⟩
        · exact h1 i (by omega) hs hr
theorem lastTo_all (b : Bool) (m : Nat) (d : Int) : lastTo l b m d l.length = prAt l b m d := by
  rcases lastTo_is (l := l) b m d l.length with ⟨i, hi, h1, h2, h3⟩ | ⟨h1, h2⟩
  · rw [h3, prAt_of hi h1 (by omega)]
  · rw [h2, prAt_none (fun j hj hs hr => h1 j hj hs (by omega))]
theorem lastTo_neg (b : Bool) (d : Int) (j : Nat) : lastTo l b (-1) d j = d := by
  rcases lastTo_is (l := l) b (-1) d j with ⟨i, hi, h1, h2, h3⟩ | ⟨h1, h2⟩
  · omega
  · exact h2
theorem lastTo_bd (h : okP l) (b : Bool) (m d : Int) (hd : 0 ≤ d ∧ d ≤ 100) {j : Nat} (hj : j ≤ l.length) : 0 ≤ lastTo l b m d j ∧ lastTo l b m d j ≤ 100 := by
  rcases lastTo_is (l := l) b m d j with ⟨i, hi, h1, h2, h3⟩ | ⟨h1, h2⟩
  · have := h i (by omega); omega
  · omega

/-- along the rows buyers offer less, sellers ask more -/
theorem pB_anti (hp : okP l) {m m' : Nat} (h : m ≤ m') : pB l m' ≤ pB l m := by
  by_cases hc : m' < cnt (ms l false) l.length
  · obtain ⟨j, hj, sj, hr, e⟩ := buyer_at (l := l) hc
    obtain ⟨i, hi, si, hri, ei⟩ := buyer_at (l := l) (m := m) (by omega)
    rw [e, ei]
    exact buyer_mono si hj sj (by omega)
  · rw [pB_none (by omega)]; exact (pB_bd hp m).1
theorem pS_mono (hp : okP l) {m m' : Nat} (h : m ≤ m') : pS l m ≤ pS l m' := by
  by_cases hc : m' < cnt (ms l true) l.length
  · obtain ⟨j, hj, sj, hr, e⟩ := seller_at (l := l) hc
    obtain ⟨i, hi, si, hri, ei⟩ := seller_at (l := l) (m := m) (by omega)
    rw [e, ei]
    exact seller_mono si hj sj (by omega)
  · rw [pS_none (l := l) (m := m') (by omega)]; exact (pS_bd hp m).2
/-- k is found at the first pair that would not trade -/
theorem kk_first (hp : okP l) {k : Nat} (h1 : ∀ j, j < k → pS l j ≤ pB l j) (h2 : k < l.length → pB l k < pS l k) (hk : k ≤ l.length) : kk l = k := by
  refine kk_unique hp (fun h0 => h1 (k - 1) (by omega)) (fun j hj => ?_)
  by_cases hl : k < l.length
  · have a := h2 hl
    have b := pB_anti hp hj
    have c := pS_mono hp hj
    omega
  · have b := pB_none (l := l) (m := j) (Nat.le_trans (cnt_le _ _) (by omega))
    have c := pS_bd hp j
    omega
theorem prAt_get (hp : okP l) (h : kk l ≠ 0) : prAt l true (kk l - 1) 0 = pS l (kk l - 1) := by
  have hc := kk_cnt hp
  obtain ⟨j, hj, sj, hr, e⟩ := seller_at (l := l) (m := kk l - 1) (by omega)
  rw [e, prAt_of hj sj hr]

theorem full_iff : full l = true ↔ pS l (kk l - 1) ≤ mid l ∧ mid l ≤ pB l (kk l - 1) := by simp [full]
theorem full_not (h : ¬ (pS l (kk l - 1) ≤ mid l ∧ mid l ≤ pB l (kk l - 1))) : full l = false := by
  rw [← Bool.not_eq_true, full_iff]; exact h
/-- the four ends of the rule -/
theorem mc_none (h : kk l = 0) : mcK l = 0 ∧ mcPay l = 0 ∧ mcGet l = 0 := by
  have : mcK l = 0 := by unfold mcK; rw [if_pos h]
  unfold mcPay mcGet; rw [this]; simp
theorem mc_full (h : kk l ≠ 0) (hf : full l = true) : mcK l = kk l ∧ mcPay l = mid l ∧ mcGet l = mid l := by
  have : mcK l = kk l := by unfold mcK; rw [if_neg h, if_pos hf]
  unfold mcPay mcGet; rw [this, if_neg h, if_neg h, if_pos hf, if_pos hf]; simp
theorem mc_less (h : 1 < kk l) (hf : full l = false) : mcK l = kk l - 1 ∧ mcPay l = pB l (kk l - 1) ∧ mcGet l = pS l (kk l - 1) := by
  have : mcK l = kk l - 1 := by unfold mcK; rw [if_neg (by omega), hf]; simp
  have h0 : ¬ kk l - 1 = 0 := by omega
  unfold mcPay mcGet; rw [this, hf]; simp [h0]
theorem mc_one (h : kk l = 1) (hf : full l = false) : mcK l = 0 ∧ mcPay l = 0 ∧ mcGet l = 0 := by
  have : mcK l = 0 := by unfold mcK; rw [if_neg (by omega), hf, h]; simp
  unfold mcPay mcGet; rw [this]; simp
theorem mcF_zero (h : mcK l = 0) (i : Nat) : mcF l i = 0 := by unfold mcF; rw [if_neg (by omega)]
theorem mid_bd (hp : okP l) : 0 ≤ mid l ∧ mid l ≤ 100 := by
  have := pB_bd hp (kk l)
  have := pS_bd hp (kk l)
  unfold mid; omega
theorem okP_of {most : Int} (hv : validB most l = true) : okP l := by
  intro j hj
  have := (ok_of_valid hv).2 l[j] (List.getElem_mem hj)
  rw [pr_at hj]; omega

/-- one slot each -/
def oneB (o : Ord) : Bool := decide (o.qty = 1)
theorem valid_one : validB 1 l = (validB 20 l && l.all oneB) := by
  have : ∀ o : Ord, okB 1 o = (okB 20 o && oneB o) := by
    intro o
    rw [Bool.eq_iff_iff]
    simp [okB, oneB]
    omega
  unfold validB
  rw [Bool.and_assoc]
  congr 1
  rw [Bool.eq_iff_iff]
  simp only [Bool.and_eq_true, List.all_eq_true, this]
  constructor
  · intro h; exact ⟨fun o ho => (h o ho).1, fun o ho => (h o ho).2⟩
  · intro h o ho; exact ⟨h.1 o ho, h.2 o ho⟩
theorem one_no {k : Nat} (h : k < l.length) (h2 : oneB l[k] = false) : l.all oneB = false := by
  rw [List.all_eq_false]; exact ⟨l[k], List.getElem_mem h, by simp [h2]⟩
theorem valid_20 (h : validB 1 l = true) : validB 20 l = true := by
  rw [valid_one, Bool.and_eq_true] at h; exact h.1

end
end Mk

/- Plain mathematics: one slot each; order i's bid turned. -/
namespace Mk

def one (o : Ord) : Ord := ⟨o.sell, o.price, 1⟩
/-- order i with another bid -/
def bid (l : List Ord) (i : Nat) (v : Int) : List Ord := l.set i ⟨(l.getD i ozero).sell, v, (l.getD i ozero).qty⟩

section
variable {l : List Ord} {i : Nat}

theorem bid_len (v : Int) : (bid l i v).length = l.length := by simp [bid]
theorem bid_at (hi : i < l.length) (v : Int) (j : Nat) : (bid l i v).getD j ozero = if j = i then ⟨(l.getD i ozero).sell, v, (l.getD i ozero).qty⟩ else l.getD j ozero := by
  unfold bid; exact getD_set l i _ hi j
theorem bid_sl (hi : i < l.length) (v : Int) (j : Nat) : sl (bid l i v) j = sl l j := by
  unfold sl; rw [bid_at hi]; split
  · rename_i h; rw [h]
  · rfl
theorem bid_pr (hi : i < l.length) (v : Int) (j : Nat) : pr (bid l i v) j = if j = i then v else pr l j := by
  unfold pr; rw [bid_at hi]; split <;> rfl
theorem bid_but (hi : i < l.length) (v b : Int) : But (bid l i v) (bid l i b) i :=
  ⟨by rw [bid_len, bid_len], fun j => by rw [bid_sl hi, bid_sl hi], fun j hne => by rw [bid_pr hi, bid_pr hi, if_neg hne, if_neg hne]⟩
theorem bid_bid (hi : i < l.length) (v b : Int) : bid (bid l i v) i b = bid l i b := by
  have h := bid_at hi v i
  rw [if_pos rfl] at h
  unfold bid at h ⊢
  rw [h]
  simp
theorem bid_valid {most : Int} (hv : validB most l = true) (hi : i < l.length) {v : Int} (h1 : 1 ≤ v) (h2 : v ≤ 99) : validB most (bid l i v) = true := by
  obtain ⟨h12, hok⟩ := ok_of_valid hv
  have hq := hok l[i] (List.getElem_mem hi)
  simp only [validB, Bool.and_eq_true, decide_eq_true_eq, List.all_eq_true]
  refine ⟨by rw [bid_len]; exact h12, fun o ho => ?_⟩
  unfold bid at ho
  rcases List.mem_or_eq_of_mem_set ho with h | rfl
  · have := hok o h
    simp only [okB, Bool.and_eq_true, decide_eq_true_eq]; omega
  · rw [getD_at hi]
    simp only [okB, Bool.and_eq_true, decide_eq_true_eq]; omega
theorem truthB (hv : validB 1 l = true) (hi : i < l.length) {v b : Int} (h1 : 1 ≤ v) (h2 : v ≤ 99) (h3 : 1 ≤ b) (h4 : b ≤ 99) (hs : l[i].sell = false) :
    mcF (bid l i b) i * (v - mcPay (bid l i b)) ≤ mcF (bid l i v) i * (v - mcPay (bid l i v)) ∧ 0 ≤ mcF (bid l i v) i * (v - mcPay (bid l i v)) := by
  have hp := okP_of (bid_valid hv hi h1 h2)
  have hp' := okP_of (bid_valid hv hi h3 h4)
  have := truth_buyer hp hp' (bid_but hi v b) (by rw [bid_len]; exact hi) (by rw [bid_sl hi, sl_at hi]; exact hs)
  rw [bid_pr hi, if_pos rfl] at this
  exact this
theorem truthS (hv : validB 1 l = true) (hi : i < l.length) {v b : Int} (h1 : 1 ≤ v) (h2 : v ≤ 99) (h3 : 1 ≤ b) (h4 : b ≤ 99) (hs : l[i].sell = true) :
    mcF (bid l i b) i * (mcGet (bid l i b) - v) ≤ mcF (bid l i v) i * (mcGet (bid l i v) - v) ∧ 0 ≤ mcF (bid l i v) i * (mcGet (bid l i v) - v) := by
  have hp := okP_of (bid_valid hv hi h1 h2)
  have hp' := okP_of (bid_valid hv hi h3 h4)
  have := truth_seller hp hp' (bid_but hi v b) (by rw [bid_len]; exact hi) (by rw [bid_sl hi, sl_at hi]; exact hs)
  rw [bid_pr hi, if_pos rfl] at this
  exact this
theorem mcF_bd (l : List Ord) (i : Nat) : 0 ≤ mcF l i ∧ mcF l i ≤ 1 := by unfold mcF; split <;> omega
theorem mcPay_bd (hp : okP l) : 0 ≤ mcPay l ∧ mcPay l ≤ 100 := by
  have h1 := mid_bd hp
  have h2 := pB_bd hp (kk l - 1)
  unfold mcPay; split
  · omega
  · split <;> omega
theorem mcGet_bd (hp : okP l) : 0 ≤ mcGet l ∧ mcGet l ≤ 100 := by
  have h1 := mid_bd hp
  have h2 := pS_bd hp (kk l - 1)
  unfold mcGet; split
  · omega
  · split <;> omega
theorem mc_gain_bd {f x : Int} (hf : 0 ≤ f ∧ f ≤ 1) (hx : -200 ≤ x ∧ x ≤ 200) : -200 ≤ f * x ∧ f * x ≤ 200 := by
  have : f = 0 ∨ f = 1 := by omega
  rcases this with rfl | rfl <;> omega
/-- the first k orders, one slot each, and the rest as they are -/
def oneTo (l : List Ord) (k : Nat) : List Ord := (l.take k).map one ++ l.drop k
theorem oneTo_len (k : Nat) : (oneTo l k).length = l.length := by simp [oneTo]; omega
theorem oneTo_zero : oneTo l 0 = l := by simp [oneTo]
theorem oneTo_all : oneTo l l.length = l.map one := by simp [oneTo]
theorem oneTo_succ {k : Nat} (hk : k < l.length) : oneTo l (k + 1) = (oneTo l k).set k (one l[k]) := by
  apply List.ext_getElem
  · simp [oneTo]; omega
  · intro j h1 h2
    simp only [oneTo, List.getElem_set, List.getElem_append, List.getElem_map, List.length_map, List.length_take, List.getElem_drop, List.getElem_take]
    by_cases e : k = j
    · subst e
      rw [dif_pos (by omega), if_pos rfl]
    · rw [if_neg e]
      by_cases hj : j < k
      · rw [dif_pos (by omega), dif_pos (by omega)]
      · rw [dif_neg (by omega), dif_neg (by omega)]
        congr 1; omega
theorem oneTo_get {k : Nat} (hk : k < l.length) (h : k < (oneTo l k).length) : (oneTo l k)[k] = l[k] := by
  simp only [oneTo]
  rw [List.getElem_append_right (by simp; omega)]
  simp [Nat.min_eq_left (Nat.le_of_lt hk)]
end
end Mk

namespace Go.Proofs.YtmebcdpdpcpnmabDoor
open Go.RowKit

theorem kTo_yes {l : List Mk.Ord} {k : Nat} (h : Mk.pS l k ≤ Mk.pB l k) : Mk.kTo l (k + 1) = k + 1 := if_pos h
theorem kTo_no {l : List Mk.Ord} {k : Nat} (h : ¬ Mk.pS l k ≤ Mk.pB l k) : Mk.kTo l (k + 1) = Mk.kTo l k := if_neg h

end Go.Proofs.YtmebcdpdpcpnmabDoor

namespace Go.Proofs.YtmebcdpdpcpnmabDoor
open Go.RowKit

set_option maxHeartbeats 400000 in
theorem asksLess_any (s : Bool) (p q : Int) (s2 : Bool) (p2 q2 : Int) (w : World) :
    Calls Tryd.prog 93 #[.agg #[.bool s, .int .i64 p, .int .i64 q], .agg #[.bool s2, .int .i64 p2, .int .i64 q2]] w fun e w' =>
      e = .returned (.bool (Mk.lessB s p p2)) ∧ w' = (w.alloc (.cells #[.bool s, .int .i64 p, .int .i64 q] 84)).alloc (.cells #[.bool s2, .int .i64 p2, .int .i64 q2] 84) := by
  cases s
  all_goals
    go_enter Tryd.func93, Tryd.ntmps93
    go_wp2
    go_ret
    exact ⟨by simp [Mk.lessB], rfl⟩

set_option maxHeartbeats 1000000 in
theorem areSingle_some (b off cap : Nat) (l : List Mk.Ord) (w : World) (h12 : l.length ≤ 12) (hR : At w b off l) :
    Calls Tryd.prog 85 #[.slice (some ⟨b, off, none⟩) l.length cap] w fun e w' => e = .returned (.bool (l.all Mk.oneB)) ∧ Below w.heap.size w w' := by
  have HR : Hid (At w b off l) := hR
  clear hR
  go_enter Tryd.func85, Tryd.ntmps85
  go_wp2
  go_loopw [7] (fun i wr => ∃ k : Nat, k ≤ l.length ∧ i = .int .i64 k ∧ (l.take k).all Mk.oneB = true ∧ Below w.heap.size w wr) (fun i _ => l.length - (intOf i).toNat)
  case atStart => exact ⟨0, Nat.zero_le _, rfl, by simp, Below.refl _ _⟩
  case round =>
    obtain ⟨k, hk, rfl, hall, hb⟩ := hrel
    have Hall := (show Hid _ from hall)
    have Hb := (show Hid _ from hb)
    clear hall hb
    by_cases hlt : k < l.length
    · obtain ⟨c0, c1, c2⟩ := At.below HR.out Hb.out k hlt
      have hbl := blk_lt c0
      have hlt' : (k : Int) < (l.length : Int) := by omega
      have Hno : Hid (∀ h : Mk.oneB l[k] = false, l.all Mk.oneB = false) := fun h => Mk.one_no hlt h
      have Hyes : Hid (∀ h : Mk.oneB l[k] = true, (l.take (k + 1)).all Mk.oneB = true) := fun h => by rw [Mk.all_take_succ _ _ _ hlt, Hall.out, h]; rfl
      revert c0 c1 c2 Hno Hyes
      generalize l[k] = o
      obtain ⟨s, pr, q⟩ := o
      intro c0 c1 c2 Hno Hyes
      simp only at c0 c1 c2
      by_cases hq : q = 1
      · subst hq
        go_wp2
        go_roundw
        case rel => exact ⟨k + 1, by omega, by go_num, Hyes.out (by simp [Mk.oneB]), Hb.out.alloc Hb.out.size _⟩
        case measure => simp [intOf]; omega
      · have hq' : (q == 1) = false := by simpa using hq
        have Hn : Hid (l.all Mk.oneB = false) := Hno.out (by simp [Mk.oneB, hq])
        clear Hno Hyes
        go_wp2
        go_ret
        exact ⟨ret_bool Hn.out.symm, Hb.out.alloc Hb.out.size _⟩
    · go_wp2
      go_ret
      have : k = l.length := by omega
      subst this
      have h := Hall.out
      rw [List.take_length] at h
      exact ⟨ret_bool h.symm, Hb.out⟩

set_option maxHeartbeats 1000000 in
theorem areSingle_nil (a : Option Addr) (cap : Nat) (w : World) :
    Calls Tryd.prog 85 #[.slice a 0 cap] w fun e w' => e = .returned (.bool true) ∧ Below w.heap.size w w' := by
  go_enter Tryd.func85, Tryd.ntmps85
  go_wp2
  go_loop [7] (fun i => i = .int .i64 0) (fun i => 0)
  case atStart => rfl
  case round =>
    subst hrel
    go_wp2
    go_ret
    exact ⟨rfl, Below.refl _ _⟩

theorem areSingle_any (a : Option Addr) (cap : Nat) (l : List Mk.Ord) (w : World) (h12 : l.length ≤ 12) (hR : Rd w a l) :
    Calls Tryd.prog 85 #[.slice a l.length cap] w fun e w' => e = .returned (.bool (l.all Mk.oneB)) ∧ Below w.heap.size w w' := by
  rcases hR with rfl | ⟨b, off, rfl, hR⟩
  · exact areSingle_nil a cap w
  · exact areSingle_some b off cap l w h12 hR

end Go.Proofs.YtmebcdpdpcpnmabDoor
