import Derived.Test.YtmebcdpdpcpnmaaGreatDoorKPlainD
import Derived.Test.YtmebcdpdpcpnmaaGreatDoorJ4
/- Plain mathematics: one slot each; order i's bid turned. -/
namespace Mk

def one (o : Ord) : Ord := ⟨o.sell, o.price, 1⟩
/-- order i with another bid -/
def bid (l : List Ord) (i : Nat) (v : Int) : List Ord := l.set i ⟨(l.getD i ozero).sell, v, (l.getD i ozero).qty⟩

section
variable {l : List Ord} {i : Nat}

theorem bid_len (v : Int) : (bid l i v).length = l.length := by simp [bid]
theorem bid_at (hi : i < l.length) (v : Int) (j : Nat) : (bid l i v).getD j ozero = if j = i then ⟨(l.getD i ozero).sell, v, (l.getD i ozero).qty⟩ else l.getD j ozero := by
  unfold bid; exact getD_set l i _ hi j
theorem bid_sl (hi : i < l.length) (v : Int) (j : Nat) : sl (bid l i v) j = sl l j := by
  unfold sl; rw [bid_at hi]; split
  · rename_i h; rw [h]
  · rfl
theorem bid_pr (hi : i < l.length) (v : Int) (j : Nat) : pr (bid l i v) j = if j = i then v else pr l j := by
  unfold pr; rw [bid_at hi]; split <;> rfl
theorem bid_but (hi : i < l.length) (v b : Int) : But (bid l i v) (bid l i b) i :=
  ⟨by rw [bid_len, bid_len], fun j => by rw [bid_sl hi, bid_sl hi], fun j hne => by rw [bid_pr hi, bid_pr hi, if_neg hne, if_neg hne]⟩
theorem bid_bid (hi : i < l.length) (v b : Int) : bid (bid l i v) i b = bid l i b := by
  have h := bid_at hi v i
  rw [if_pos rfl] at h
  unfold bid at h ⊢
  rw [h]
  simp
theorem bid_valid {most : Int} (hv : validB most l = true) (hi : i < l.length) {v : Int} (h1 : 1 ≤ v) (h2 : v ≤ 99) : validB most (bid l i v) = true := by
  obtain ⟨h12, hok⟩ := ok_of_valid hv
  have hq := hok l[i] (List.getElem_mem hi)
  simp only [validB, Bool.and_eq_true, decide_eq_true_eq, List.all_eq_true]
  refine ⟨by rw [bid_len]; exact h12, fun o ho => ?_⟩
  unfold bid at ho
  rcases List.mem_or_eq_of_mem_set ho with h | rfl
  · have := hok o h
    simp only [okB, Bool.and_eq_true, decide_eq_true_eq]; omega
  · rw [getD_at hi]
    simp only [okB, Bool.and_eq_true, decide_eq_true_eq]; omega
theorem truthB (hv : validB 1 l = true) (hi : i < l.length) {v b : Int} (h1 : 1 ≤ v) (h2 : v ≤ 99) (h3 : 1 ≤ b) (h4 : b ≤ 99) (hs : l[i].sell = false) :
    mcF (bid l i b) i * (v - mcPay (bid l i b)) ≤ mcF (bid l i v) i * (v - mcPay (bid l i v)) ∧ 0 ≤ mcF (bid l i v) i * (v - mcPay (bid l i v)) := by
  have hp := okP_of (bid_valid hv hi h1 h2)
  have hp' := okP_of (bid_valid hv hi h3 h4)
  have := truth_buyer hp hp' (bid_but hi v b) (by rw [bid_len]; exact hi) (by rw [bid_sl hi, sl_at hi]; exact hs)
  rw [bid_pr hi, if_pos rfl] at this
  exact this
theorem truthS (hv : validB 1 l = true) (hi : i < l.length) {v b : Int} (h1 : 1 ≤ v) (h2 : v ≤ 99) (h3 : 1 ≤ b) (h4 : b ≤ 99) (hs : l[i].sell = true) :
    mcF (bid l i b) i * (mcGet (bid l i b) - v) ≤ mcF (bid l i v) i * (mcGet (bid l i v) - v) ∧ 0 ≤ mcF (bid l i v) i * (mcGet (bid l i v) - v) := by
  have hp := okP_of (bid_valid hv hi h1 h2)
  have hp' := okP_of (bid_valid hv hi h3 h4)
  have := truth_seller hp hp' (bid_but hi v b) (by rw [bid_len]; exact hi) (by rw [bid_sl hi, sl_at hi]; exact hs)
  rw [bid_pr hi, if_pos rfl] at this
  exact this
theorem mcF_bd (l : List Ord) (i : Nat) : 0 ≤ mcF l i ∧ mcF l i ≤ 1 := by unfold mcF; split <;> omega
theorem mcPay_bd (hp : okP l) : 0 ≤ mcPay l ∧ mcPay l ≤ 100 := by
  have h1 := mid_bd hp
  have h2 := pB_bd hp (kk l - 1)
  unfold mcPay; split
  · omega
  · split <;> omega
theorem mcGet_bd (hp : okP l) : 0 ≤ mcGet l ∧ mcGet l ≤ 100 := by
  have h1 := mid_bd hp
  have h2 := pS_bd hp (kk l - 1)
  unfold mcGet; split
  · omega
  · split <;> omega
theorem mc_gain_bd {f x : Int} (hf : 0 ≤ f ∧ f ≤ 1) (hx : -200 ≤ x ∧ x ≤ 200) : -200 ≤ f * x ∧ f * x ≤ 200 := by
  have : f = 0 ∨ f = 1 := by omega
  rcases this with rfl | rfl <;> omega
/-- the first k orders, one slot each, and the rest as they are -/
def oneTo (l : List Ord) (k : Nat) : List Ord := (l.take k).map one ++ l.drop k
theorem oneTo_len (k : Nat) : (oneTo l k).length = l.length := by simp [oneTo]; omega
theorem oneTo_zero : oneTo l 0 = l := by simp [oneTo]
theorem oneTo_all : oneTo l l.length = l.map one := by simp [oneTo]
theorem oneTo_succ {k : Nat} (hk : k < l.length) : oneTo l (k + 1) = (oneTo l k).set k (one l[k]) := by
  apply List.ext_getElem
  · simp [oneTo]; omega
  · intro j h1 h2
    simp only [oneTo, List.getElem_set, List.getElem_append, List.getElem_map, List.length_map, List.length_take, List.getElem_drop, List.getElem_take]
    by_cases e : k = j
    · subst e
      rw [dif_pos (by omega), if_pos rfl]
    · rw [if_neg e]
      by_cases hj : j < k
      · rw [dif_pos (by omega), dif_pos (by omega)]
      · rw [dif_neg (by omega), dif_neg (by omega)]
        congr 1; omega
theorem oneTo_get {k : Nat} (hk : k < l.length) (h : k < (oneTo l k).length) : (oneTo l k)[k] = l[k] := by
  simp only [oneTo]
  rw [List.getElem_append_right (by simp; omega)]
  simp [Nat.min_eq_left (Nat.le_of_lt hk)]
end
end Mk
