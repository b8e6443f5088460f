/- Plain mathematics of the clearings: no program in sight. -/
namespace Mk

structure Ord where
  sell : Bool
  price : Int
  qty : Int

def willB (s : Bool) (p c : Int) : Bool := if s then decide (p ≤ c) else decide (c ≤ p)
def less (d s : Int) : Int := if d < s then d else s
def apart (d s : Int) : Int := if d < s then s - d else d - s

def okB (most : Int) (o : Ord) : Bool := decide (1 ≤ o.price) && decide (o.price ≤ 99) && decide (1 ≤ o.qty) && decide (o.qty ≤ most)
def validB (most : Int) (l : List Ord) : Bool := decide (l.length ≤ 12) && l.all (okB most)

def sumf (f : Ord → Int) : List Ord → Int
  | [] => 0
  | o :: r => f o + sumf f r

theorem sumf_append (f : Ord → Int) (a b : List Ord) : sumf f (a ++ b) = sumf f a + sumf f b := by
  induction a with
  | nil => simp [sumf]
  | cons x r ih => simp [sumf, ih]; omega

def sideq (sell : Bool) (p : Int) (o : Ord) : Int := if willB o.sell o.price p && o.sell == sell then o.qty else 0
def dem (l : List Ord) (p : Int) : Int := sumf (sideq false p) l
def sup (l : List Ord) (p : Int) : Int := sumf (sideq true p) l

theorem take_snoc {α : Type} (l : List α) (k : Nat) (h : k < l.length) : l.take (k + 1) = l.take k ++ [l[k]] :=
  List.take_succ_eq_append_getElem h

theorem sumf_take_succ (f : Ord → Int) (l : List Ord) (k : Nat) (h : k < l.length) : sumf f (l.take (k + 1)) = sumf f (l.take k) + f l[k] := by
  rw [take_snoc l k h, sumf_append]; simp [sumf]

theorem sumf_bd (f : Ord → Int) (B : Int) (l : List Ord) (h : ∀ o ∈ l, 0 ≤ f o ∧ f o ≤ B) : 0 ≤ sumf f l ∧ sumf f l ≤ B * l.length := by
  induction l with
  | nil => simp [sumf]
  | cons x r ih =>
    have h1 := h x (by simp)
    have h2 := ih (fun o ho => h o (by simp [ho]))
    simp only [sumf, List.length_cons]
    have : B * ((r.length + 1 : Nat) : Int) = B * (r.length : Int) + B := by rw [Int.natCast_add, Int.mul_add]; simp
    omega

theorem all_take_succ (f : Ord → Bool) (l : List Ord) (k : Nat) (h : k < l.length) : (l.take (k + 1)).all f = ((l.take k).all f && f l[k]) := by
  rw [take_snoc l k h, List.all_append]; simp

theorem valid_yes {most : Int} {l : List Ord} (h : l.length ≤ 12) (h2 : (l.take l.length).all (okB most) = true) : validB most l = true := by
  rw [List.take_length] at h2; simp [validB, h, h2]
theorem valid_no {most : Int} {l : List Ord} {k : Nat} (h : k < l.length) (h2 : okB most l[k] = false) : validB most l = false := by
  have : l.all (okB most) = false := by
    rw [List.all_eq_false]; exact ⟨l[k], List.getElem_mem h, by simp [h2]⟩
  simp [validB, this]
theorem valid_long {most : Int} {l : List Ord} (h : ¬ l.length ≤ 12) : validB most l = false := by simp [validB, h]

theorem ok_of_valid {most : Int} {l : List Ord} (h : validB most l = true) : l.length ≤ 12 ∧ ∀ o ∈ l, 1 ≤ o.price ∧ o.price ≤ 99 ∧ 1 ≤ o.qty ∧ o.qty ≤ most := by
  simp only [validB, Bool.and_eq_true, decide_eq_true_eq, List.all_eq_true, okB] at h
  exact ⟨h.1, fun o ho => by have := h.2 o ho; omega⟩

theorem sideq_mk (b s : Bool) (pr q p : Int) : sideq b p ⟨s, pr, q⟩ = if willB s pr p && s == b then q else 0 := rfl
theorem sideq_bd (sell : Bool) (p : Int) (o : Ord) (h : 1 ≤ o.qty ∧ o.qty ≤ 20) : 0 ≤ sideq sell p o ∧ sideq sell p o ≤ 20 := by
  unfold sideq; split <;> omega

theorem side_take_bd {l : List Ord} (hv : validB 20 l = true) (sell : Bool) (p : Int) (k : Nat) : 0 ≤ sumf (sideq sell p) (l.take k) ∧ sumf (sideq sell p) (l.take k) ≤ 240 := by
  obtain ⟨h1, h2⟩ := ok_of_valid hv
  have := sumf_bd (sideq sell p) 20 (l.take k) (fun o ho => sideq_bd sell p o (by have := h2 o (List.mem_of_mem_take ho); omega))
  have hl : (l.take k).length ≤ l.length := by simp [List.length_take]; omega
  omega
theorem dem_bd {l : List Ord} (hv : validB 20 l = true) (p : Int) : 0 ≤ dem l p ∧ dem l p ≤ 240 := by
  have := side_take_bd hv false p l.length; rw [List.take_length] at this; exact this
theorem sup_bd {l : List Ord} (hv : validB 20 l = true) (p : Int) : 0 ≤ sup l p ∧ sup l p ≤ 240 := by
  have := side_take_bd hv true p l.length; rw [List.take_length] at this; exact this

end Mk
