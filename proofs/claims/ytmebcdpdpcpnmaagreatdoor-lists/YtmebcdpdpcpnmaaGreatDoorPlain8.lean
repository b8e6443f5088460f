import Derived.Test.YtmebcdpdpcpnmaaGreatDoorPlain7
/- Plain mathematics: two orders in one another's place. -/
namespace Mk

theorem sumn_update (g : Nat → Int) (v : Int) (n i : Nat) (hi : i < n) : sumn (fun j => if j = i then v else g j) n = sumn g n - g i + v := by
  induction n with
  | zero => omega
  | succ k ih =>
    simp only [sumn]
    by_cases h : i = k
    · subst h
      rw [sumn_congr (g := g) (fun j hj => if_neg (by omega)), if_pos rfl]; omega
    · rw [ih (by omega), if_neg (by omega)]; omega

def swapL (l : List Ord) (i k : Nat) : List Ord := (l.set i (l.getD k ozero)).set k (l.getD i ozero)

theorem swapL_length (l : List Ord) (i k : Nat) : (swapL l i k).length = l.length := by simp [swapL]

theorem getD_set (l : List Ord) (i : Nat) (o : Ord) (hi : i < l.length) (j : Nat) : (l.set i o).getD j ozero = if j = i then o else l.getD j ozero := by
  simp only [List.getD]
  by_cases h : j = i
  · subst h; simp [List.getElem?_set_self hi]
  · rw [if_neg h, List.getElem?_set_ne (by omega)]

theorem sumf_set (f : Ord → Int) (l : List Ord) (i : Nat) (o : Ord) (hi : i < l.length) : sumf f (l.set i o) = sumf f l - f (l.getD i ozero) + f o := by
  rw [sumf_n, sumf_n, List.length_set]
  rw [← sumn_update (fun j => f (l.getD j ozero)) (f o) l.length i hi]
  refine sumn_congr (fun j _ => ?_)
  rw [getD_set l i o hi j]
  by_cases h : j = i
  · rw [if_pos h, if_pos h]
  · rw [if_neg h, if_neg h]

theorem swapL_sum (f : Ord → Int) (l : List Ord) (i k : Nat) (hi : i < l.length) (hk : k < l.length) : sumf f (swapL l i k) = sumf f l := by
  unfold swapL
  rw [sumf_set f _ k _ (by simpa using hk), sumf_set f l i _ hi, getD_set l i _ hi k]
  by_cases h : k = i
  · subst h; rw [if_pos rfl]; omega
  · rw [if_neg h]; omega

theorem swapL_mem (l : List Ord) (i k : Nat) (hi : i < l.length) (hk : k < l.length) (o : Ord) (h : o ∈ swapL l i k) : o ∈ l := by
  unfold swapL at h
  have h1 := List.mem_or_eq_of_mem_set h
  rcases h1 with h1 | h1
  · have h2 := List.mem_or_eq_of_mem_set h1
    rcases h2 with h2 | h2
    · exact h2
    · rw [h2, getD_at hk]; exact List.getElem_mem hk
  · rw [h1, getD_at hi]; exact List.getElem_mem hi

theorem swapL_valid {l : List Ord} {i k : Nat} (hi : i < l.length) (hk : k < l.length) (hv : validB 20 l = true) : validB 20 (swapL l i k) = true := by
  simp only [validB, Bool.and_eq_true, decide_eq_true_eq, List.all_eq_true] at hv ⊢
  refine ⟨by rw [swapL_length]; exact hv.1, fun o ho => hv.2 o (swapL_mem l i k hi hk o ho)⟩

theorem swapL_dem {l : List Ord} {i k : Nat} (hi : i < l.length) (hk : k < l.length) (p : Int) : dem (swapL l i k) p = dem l p := swapL_sum _ l i k hi hk
theorem swapL_sup {l : List Ord} {i k : Nat} (hi : i < l.length) (hk : k < l.length) (p : Int) : sup (swapL l i k) p = sup l p := swapL_sum _ l i k hi hk
theorem swapL_best {l : List Ord} {i k : Nat} (hi : i < l.length) (hk : k < l.length) (n : Nat) : best (swapL l i k) n = best l n := by
  induction n with
  | zero => rfl
  | succ n ih => simp only [best, ih, swapL_dem hi hk, swapL_sup hi hk]
theorem swapL_vol {l : List Ord} {i k : Nat} (hi : i < l.length) (hk : k < l.length) (p : Int) : vol (swapL l i k) p = vol l p := by
  unfold vol; rw [swapL_dem hi hk, swapL_sup hi hk]

end Mk
