import Derived.Test.YtmebcdpdpcpnmaaGreatDoorPlain3
/- Plain mathematics: what each order gets. -/
namespace Mk

def tot (d s : Int) (o : Ord) : Int := if o.sell then s else d
def offB (d s p : Int) (o : Ord) : Bool := decide (tot d s o < 1) || !willB o.sell o.price p
def shareo (d s p : Int) (o : Ord) : Int := if offB d s p o then 0 else less d s * o.qty / tot d s o
def losto (d s p : Int) (o : Ord) : Int := if offB d s p o then 0 else less d s * o.qty % tot d s o
def ozero : Ord := ⟨false, 0, 0⟩
def G0 (l : List Ord) (d s p : Int) (i : Nat) : Int := shareo d s p (l.getD i ozero)
def L0 (l : List Ord) (d s p : Int) (i : Nat) : Int := losto d s p (l.getD i ozero)
def left0 (l : List Ord) (d s p : Int) : Int := 2 * less d s - sumn (G0 l d s p) l.length
def getsf (l : List Ord) (d s p : Int) (i : Nat) : Int := G0 l d s p i + if (place (L0 l d s p) l.length i : Int) < left0 l d s p then 1 else 0

theorem less_bd {d s : Int} (h1 : 0 ≤ d ∧ d ≤ 240) (h2 : 0 ≤ s ∧ s ≤ 240) : 0 ≤ less d s ∧ less d s ≤ 240 := by unfold less; split <;> omega
theorem mul_bd {v q : Int} (h1 : 0 ≤ v ∧ v ≤ 240) (h2 : 0 ≤ q ∧ q ≤ 20) : 0 ≤ v * q ∧ v * q ≤ 4800 := by
  refine ⟨Int.mul_nonneg h1.1 h2.1, ?_⟩
  calc v * q ≤ 240 * q := Int.mul_le_mul_of_nonneg_right h1.2 h2.1
    _ ≤ 240 * 20 := Int.mul_le_mul_of_nonneg_left h2.2 (by omega)
    _ = 4800 := by omega
theorem div_bd {a t : Int} (h1 : 0 ≤ a ∧ a ≤ 4800) (h : 1 ≤ t) : 0 ≤ a / t ∧ a / t ≤ 4800 := by
  refine ⟨Int.ediv_nonneg h1.1 (by omega), ?_⟩
  exact Int.le_trans (Int.ediv_le_self t h1.1) h1.2
theorem shareo_bd {d s p : Int} {o : Ord} (h1 : 0 ≤ d ∧ d ≤ 240) (h2 : 0 ≤ s ∧ s ≤ 240) (hq : 0 ≤ o.qty ∧ o.qty ≤ 20) : 0 ≤ shareo d s p o ∧ shareo d s p o ≤ 4800 := by
  unfold shareo
  split
  · omega
  · rename_i h
    have : 1 ≤ tot d s o := by
      simp only [offB, Bool.or_eq_true, decide_eq_true_eq, not_or] at h; omega
    exact div_bd (mul_bd (less_bd h1 h2) hq) this
theorem G0_bd {l : List Ord} {d s p : Int} (hv : validB 20 l = true) (h1 : 0 ≤ d ∧ d ≤ 240) (h2 : 0 ≤ s ∧ s ≤ 240) (i : Nat) : 0 ≤ G0 l d s p i ∧ G0 l d s p i ≤ 4800 := by
  unfold G0
  refine shareo_bd h1 h2 ?_
  by_cases h : i < l.length
  · have := (ok_of_valid hv).2 l[i] (List.getElem_mem h)
    simp [List.getD, List.getElem?_eq_getElem h]; omega
  · simp [List.getD, List.getElem?_eq_none (Nat.le_of_not_lt h), ozero]
theorem sumn_bd (f : Nat → Int) (B : Int) (h : ∀ i, 0 ≤ f i ∧ f i ≤ B) (n : Nat) : 0 ≤ sumn f n ∧ sumn f n ≤ B * n := by
  induction n with
  | zero => simp [sumn]
  | succ k ih =>
    have := h k
    have e : B * ((k + 1 : Nat) : Int) = B * (k : Int) + B := by rw [Int.natCast_add, Int.mul_add]; simp
    simp only [sumn]
    omega
theorem G0_at {l : List Ord} {d s p : Int} {k : Nat} (h : k < l.length) : G0 l d s p k = shareo d s p l[k] := by simp [G0, List.getD, List.getElem?_eq_getElem h]
theorem L0_at {l : List Ord} {d s p : Int} {k : Nat} (h : k < l.length) : L0 l d s p k = losto d s p l[k] := by simp [L0, List.getD, List.getElem?_eq_getElem h]

theorem share_no {d s p : Int} {o : Ord} (h : tot d s o < 1 ∨ willB o.sell o.price p = false) : shareo d s p o = 0 ∧ losto d s p o = 0 := by
  have : offB d s p o = true := by simp only [offB, Bool.or_eq_true, decide_eq_true_eq, Bool.not_eq_true']; exact h
  simp [shareo, losto, this]
theorem share_yes {d s p : Int} {o : Ord} (h1 : 1 ≤ tot d s o) (h2 : willB o.sell o.price p = true) : shareo d s p o = less d s * o.qty / tot d s o ∧ losto d s p o = less d s * o.qty % tot d s o := by
  have : offB d s p o = false := by simp only [offB, Bool.or_eq_false_iff, decide_eq_false_iff_not, h2]; exact ⟨by omega, rfl⟩
  simp [shareo, losto, this]
theorem step_off {G : Nat → Int} {k : Nat} (h : G k = 0) (i : Nat) : (if i < k then G i else 0) = if i < k + 1 then G i else 0 := by
  by_cases e : i = k
  · subst e; simp [h]
  · by_cases h1 : i < k
    · rw [if_pos h1, if_pos (by omega)]
    · rw [if_neg h1, if_neg (by omega)]
theorem step_on {G : Nat → Int} {k : Nat} {v : Int} (h : G k = v) (i : Nat) : (if i = k then v else if i < k then G i else 0) = if i < k + 1 then G i else 0 := by
  by_cases e : i = k
  · subst e; simp [h]
  · rw [if_neg e]
    by_cases h1 : i < k
    · rw [if_pos h1, if_pos (by omega)]
    · rw [if_neg h1, if_neg (by omega)]
theorem tot_bd {d s : Int} {o : Ord} (h1 : 0 ≤ d ∧ d ≤ 240) (h2 : 0 ≤ s ∧ s ≤ 240) : 0 ≤ tot d s o ∧ tot d s o ≤ 240 := by unfold tot; split <;> assumption

theorem getsf_yes {l : List Ord} {d s p : Int} {k : Nat} (h : (place (L0 l d s p) l.length k : Int) < 2 * less d s - sumn (G0 l d s p) l.length) : getsf l d s p k = G0 l d s p k + 1 := by
  unfold getsf left0; rw [if_pos h]
theorem getsf_no {l : List Ord} {d s p : Int} {k : Nat} (h : ¬ (place (L0 l d s p) l.length k : Int) < 2 * less d s - sumn (G0 l d s p) l.length) : getsf l d s p k = G0 l d s p k := by
  unfold getsf left0; rw [if_neg h]; omega
theorem step2_off {G F : Nat → Int} {k : Nat} (h : F k = G k) (i : Nat) : (if i < k then F i else G i) = if i < k + 1 then F i else G i := by
  by_cases e : i = k
  · subst e; simp [h]
  · by_cases h1 : i < k
    · rw [if_pos h1, if_pos (by omega)]
    · rw [if_neg h1, if_neg (by omega)]
theorem step2_on {G F : Nat → Int} {k : Nat} {v : Int} (h : F k = v) (i : Nat) : (if i = k then v else if i < k then F i else G i) = if i < k + 1 then F i else G i := by
  by_cases e : i = k
  · subst e; simp [h]
  · rw [if_neg e]
    by_cases h1 : i < k
    · rw [if_pos h1, if_pos (by omega)]
    · rw [if_neg h1, if_neg (by omega)]

end Mk
