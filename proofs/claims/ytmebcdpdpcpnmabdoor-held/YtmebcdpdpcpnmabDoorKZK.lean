import Derived.Test.YtmebcdpdpcpnmabDoorKZJ
namespace Go.Proofs.YtmebcdpdpcpnmabDoor
open Go.RowKit

theorem ordN_at (l : List Mk.Stand) : ∀ (n i : Nat), i < n → (Mk.ordN l n)[4 * i + 1]? = some (Mk.std l i).who.toNat ∧ (Mk.ordN l n)[4 * i + 2]? = some (Mk.std l i).o.price.toNat ∧ (Mk.ordN l n)[4 * i + 3]? = some (Mk.std l i).o.qty.toNat
  | 0, i, h => by omega
  | n + 1, i, h => by
    have hl := Mk.ordN_len l n
    simp only [Mk.ordN]
    by_cases e : i = n
    · subst e
      rw [List.getElem?_append_right (by omega), List.getElem?_append_right (by omega), List.getElem?_append_right (by omega), hl]
      refine ⟨?_, ?_, ?_⟩
      · rw [show 4 * i + 1 - 4 * i = 1 by omega]; rfl
      · rw [show 4 * i + 2 - 4 * i = 2 by omega]; rfl
      · rw [show 4 * i + 3 - 4 * i = 3 by omega]; rfl
    · rw [List.getElem?_append_left (by omega), List.getElem?_append_left (by omega), List.getElem?_append_left (by omega)]
      exact ordN_at l n i (by omega)
theorem sid_at (l : List Mk.Stand) : ∀ (n i : Nat), i < n → Mk.bt (Mk.sidL l n) i = if (Mk.std l i).o.sell then 83 else 66
  | 0, i, h => by omega
  | n + 1, i, h => by
    have hz := Mk.sidL_size l n
    simp only [Mk.sidL]
    by_cases e : i = n
    · subst e
      have h0 : Mk.bt (Mk.sidL l i ++ (if (Mk.std l i).o.sell then Mk.chS else Mk.chB)) ((Mk.sidL l i).size + 0) = Mk.bt (if (Mk.std l i).o.sell then Mk.chS else Mk.chB) 0 := Mk.bt_right
      rw [hz, Nat.add_zero] at h0
      rw [h0]
      split <;> rfl
    · rw [Mk.bt_left (by omega)]
      exact sid_at l n i (by omega)
theorem seen_ord {b : Nat} {M : Mk.Mkt} (hM : M.Fine) {sv : Value} {w : World} (h : Seen b M sv w) :
    ∃ av go co gs cs, sv = .agg #[av, .int .i64 M.house, .slice (some ⟨go, 0, none⟩) 2 co, .slice (some ⟨gs, 0, none⟩) 2 cs] ∧ ∀ v, v < 2 → ∃ oa oc, w.cell? ⟨go, v, none⟩ = some (.slice oa (4 * (M.bk v).length) oc) ∧ 4 * (M.bk v).length ≤ oc ∧ w.cell? ⟨gs, v, none⟩ = some (.string (Mk.sides (Mk.batT M v))) ∧
      ∀ i, i < (M.bk v).length → ∃ g, oa = some ⟨g, 0, none⟩ ∧ w.cell? ⟨g, 4 * i + 1, none⟩ = some (.int .i64 (Mk.std (M.bk v) i).who) ∧ w.cell? ⟨g, 4 * i + 2, none⟩ = some (.int .i64 (Mk.std (M.bk v) i).o.price) ∧ w.cell? ⟨g, 4 * i + 3, none⟩ = some (.int .i64 (Mk.std (M.bk v) i).o.qty) := by
  obtain ⟨av, fa, ov, fo, sd, rfl, _, _, hord, hinn, hsid⟩ := h
  obtain ⟨oa, co, rfl⟩ := own_form hord
  obtain ⟨go, rfl⟩ := own_some hord (by omega)
  obtain ⟨sa, cs, rfl⟩ := own_form hsid
  obtain ⟨gs, rfl⟩ := own_some hsid (by omega)
  refine ⟨av, go, co, gs, cs, rfl, fun v hv => ?_⟩
  have hi := hinn v hv
  obtain ⟨xa, xc, hx⟩ := own_form hi
  rw [hx] at hi
  refine ⟨xa, xc, ?_, ?_, ?_, fun i hi4 => ?_⟩
  · rw [hord.cellAt v (by omega), List.getElem?_map, List.getElem?_range hv, ← hx]; rfl
  · rcases hi.2 with ⟨h0, h1⟩ | ⟨g, cap, cur, h0, _, _, h1, _⟩
    · omega
    · simp only [Value.slice.injEq] at h0; omega
  · rw [hsid.cellAt v (by omega), List.getElem?_map, List.getElem?_range hv]; rfl
  · obtain ⟨g, rfl⟩ := own_some hi (by omega)
    have hb := Mk.std_bds hM hv hi4
    have ho := ordN_at (M.bk v) (M.bk v).length i hi4
    have at4 : ∀ (j y : Nat), (Mk.ordN (M.bk v) (M.bk v).length)[j]? = some y → j < 4 * (M.bk v).length → w.cell? ⟨g, j, none⟩ = some (.int .i64 (y : Int)) := fun j y hy hj => by
      rw [hi.cellAt j (by omega), Mk.nums_bat hM hv]
      unfold numV
      rw [List.getElem?_map, hy]; rfl
    refine ⟨g, rfl, ?_, ?_, ?_⟩
    · rw [at4 _ _ ho.1 (by omega), Int.toNat_of_nonneg hb.2.1.1]
    · rw [at4 _ _ ho.2.1 (by omega), Int.toNat_of_nonneg (by omega)]
    · rw [at4 _ _ ho.2.2 (by omega), Int.toNat_of_nonneg (by omega)]

/-- one order more: what it needs of client c -/
def Mk.ndStep (c v : Nat) (x : Mk.Stand) (y : Nat → Int) : Nat → Int :=
  if x.who = (c : Int) then (if x.o.sell then upd y (1 + v) (y (1 + v) + x.o.qty) else upd y 0 (y 0 + x.o.price * x.o.qty)) else y
def Mk.ndTo (l : List Mk.Stand) (c v : Nat) (y : Nat → Int) : Nat → Nat → Int
  | 0 => y
  | i + 1 => Mk.ndStep c v (Mk.std l i) (Mk.ndTo l c v y i)
theorem nd_is (l : List Mk.Stand) (c v : Nat) (y : Nat → Int) : ∀ n, n ≤ l.length → Mk.ndTo l c v y n 0 = y 0 + Mk.sumF (Mk.nC c) (l.take n) ∧ Mk.ndTo l c v y n (1 + v) = y (1 + v) + Mk.sumF (Mk.nS c) (l.take n) ∧ ∀ j, j ≠ 0 → j ≠ 1 + v → Mk.ndTo l c v y n j = y j
  | 0, _ => by simp [Mk.ndTo, Mk.sumF]
  | n + 1, h => by
    obtain ⟨h1, h2, h3⟩ := nd_is l c v y n (by omega)
    have et : l.take (n + 1) = l.take n ++ [Mk.std l n] := by rw [Mk.std_at (by omega), List.take_succ_eq_append_getElem (by omega)]
    rw [et, sumF_append, sumF_append]
    simp only [Mk.ndTo, Mk.ndStep, Mk.sumF, Mk.nC, Mk.nS]
    by_cases hw : (Mk.std l n).who = (c : Int)
    · by_cases hs : (Mk.std l n).o.sell = true
      · simp only [hw, hs, if_true]
        refine ⟨?_, ?_, fun j h0 hv => ?_⟩
        · rw [upd_ne _ _ (by omega), h1]; simp
        · rw [upd_self, h2]; simp; omega
        · rw [upd_ne _ _ hv]; exact h3 j h0 hv
      · have hs' : (Mk.std l n).o.sell = false := by simpa using hs
        simp only [hw, hs', if_true]
        refine ⟨?_, ?_, fun j h0 hv => ?_⟩
        · simp only [Bool.false_eq_true, if_false]; rw [upd_self, h1]; simp; omega
        · simp only [Bool.false_eq_true, if_false]; rw [upd_ne _ _ (by omega), h2]; simp
        · simp only [Bool.false_eq_true, if_false]; rw [upd_ne _ _ h0]; exact h3 j h0 hv
    · simp only [hw, and_false, if_false]
      exact ⟨by omega, by omega, h3⟩
theorem nd_bd {l : List Mk.Stand} (hl : ∀ x ∈ l, 1 ≤ x.o.price ∧ x.o.price ≤ 99 ∧ 1 ≤ x.o.qty ∧ x.o.qty ≤ 20) {c v : Nat} {y : Nat → Int} {B : Int} (hy : ∀ j, 0 ≤ y j ∧ y j ≤ B) : ∀ n, n ≤ l.length → ∀ j, 0 ≤ Mk.ndTo l c v y n j ∧ Mk.ndTo l c v y n j ≤ B + 1980 * n
  | 0, _, j => by have := hy j; simp only [Mk.ndTo]; omega
  | n + 1, h, j => by
    have ih := nd_bd hl (c := c) (v := v) hy n (by omega)
    have hx := hl (Mk.std l n) (by rw [Mk.std_at (by omega)]; exact List.getElem_mem _)
    have hm := mul_bd3 (a := (Mk.std l n).o.price) (b := (Mk.std l n).o.qty) (A := 99) (B := 20) ⟨by omega, by omega⟩ ⟨by omega, by omega⟩
    simp only [Mk.ndTo, Mk.ndStep]
    have i0 := ih 0
    have i1 := ih (1 + v)
    have ij := ih j
    split
    · split
      · unfold upd; split <;> omega
      · unfold upd; split <;> omega
    · omega
/-- all that the orders need of client c -/
def Mk.ndAll (M : Mk.Mkt) (c : Nat) : Nat → Int := Mk.ndTo (M.bk 1) c 1 (Mk.ndTo (M.bk 0) c 0 (fun _ => 0) (M.bk 0).length) (M.bk 1).length
theorem nd_all {M : Mk.Mkt} (h : Mk.Sound M) {c : Nat} (hc : c < 4) : Mk.ndAll M c 0 = M.ch c ∧ Mk.ndAll M c 1 = M.sh 0 c ∧ Mk.ndAll M c 2 = M.sh 1 c := by
  have a := nd_is (M.bk 0) c 0 (fun _ => 0) _ (Nat.le_refl _)
  have b := nd_is (M.bk 1) c 1 (Mk.ndTo (M.bk 0) c 0 (fun _ => 0) (M.bk 0).length) _ (Nat.le_refl _)
  rw [List.take_length] at a b
  have e0 := h.ch c hc
  have e1 := h.sh 0 c (by omega) hc
  have e2 := h.sh 1 c (by omega) hc
  have b1 : Mk.ndAll M c 0 = Mk.ndTo (M.bk 0) c 0 (fun _ => 0) (M.bk 0).length 0 + Mk.sumF (Mk.nC c) (M.bk 1) := b.1
  have b2 : Mk.ndAll M c 2 = Mk.ndTo (M.bk 0) c 0 (fun _ => 0) (M.bk 0).length 2 + Mk.sumF (Mk.nS c) (M.bk 1) := b.2.1
  have b3 : Mk.ndAll M c 1 = Mk.ndTo (M.bk 0) c 0 (fun _ => 0) (M.bk 0).length 1 := b.2.2 1 (by omega) (by omega)
  have a1 := a.1
  have a2 : Mk.ndTo (M.bk 0) c 0 (fun _ => 0) (M.bk 0).length 1 = 0 + Mk.sumF (Mk.nS c) (M.bk 0) := a.2.1
  have a3 := a.2.2 2 (by omega) (by omega)
  exact ⟨by omega, by omega, by omega⟩

end Go.Proofs.YtmebcdpdpcpnmabDoor
