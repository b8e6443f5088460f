import Derived.Test.YtmebcdpdpcpnmaaGreatDoorG1
import Derived.Test.YtmebcdpdpcpnmaaGreatDoorE1
import Derived.Test.YtmebcdpdpcpnmaaGreatDoorPlain8
import Derived.Deep.Cut
namespace Go.Proofs.YtmebcdpdpcpnmaaGreatDoor
open Go.RowKit

/-- block g is the orders l, a row of the call's own -/
def Own (w : World) (g : Nat) (l : List Mk.Ord) : Prop := w.rowIs g 123 (l.length * 3) (cellOf l)

theorem Own.at {w : World} {g : Nat} {l : List Mk.Ord} (h : Own w g l) : At w g 0 l := at_of_row h (Nat.le_refl _) (fun _ _ => rfl)
theorem Own.lt {w : World} {g : Nat} {l : List Mk.Ord} (h : Own w g l) : g < w.heap.size := World.rowIs.lt h
theorem Own.below {w w' : World} {g n : Nat} {l : List Mk.Ord} (h : Own w g l) (hb : Below n w w') (hn : g < n) : Own w' g l := row_below h hb hn
theorem Own.frozen {w : World} {g : Nat} {l : List Mk.Ord} (h : Own w g l) (j : Nat) : w.frozen? ⟨g, j, none⟩ = false := World.rowIs.frozen h j
theorem Own.store {w : World} {g : Nat} {l : List Mk.Ord} (h : Own w g l) {i : Nat} (hi : i < l.length) (o : Mk.Ord) :
    Own (((w.setCell ⟨g, i * 3, none⟩ (.bool o.sell)).setCell ⟨g, i * 3 + 1, none⟩ (.int .i64 o.price)).setCell ⟨g, i * 3 + 1 + 1, none⟩ (.int .i64 o.qty)) g (l.set i o) := by
  unfold Own at h ⊢
  rw [List.length_set]
  refine World.rowIs.congr (((World.rowIs.set h _ _).set _ _).set _ _) (fun j hj => ?_)
  have hd : (l.set i o).getD (j / 3) Mk.ozero = if j / 3 = i then o else l.getD (j / 3) Mk.ozero := Mk.getD_set l i o hi (j / 3)
  unfold cellOf
  rw [hd]
  by_cases h2 : j = i * 3 + 1 + 1
  · rw [if_pos h2, if_neg (by omega), if_neg (by omega), if_pos (by omega)]
  · rw [if_neg h2]
    by_cases h1 : j = i * 3 + 1
    · rw [if_pos h1, if_neg (by omega), if_pos (by omega), if_pos (by omega)]
    · rw [if_neg h1]
      by_cases h0 : j = i * 3
      · rw [if_pos h0, if_pos (by omega), if_pos (by omega)]
      · rw [if_neg h0, if_neg (c := j / 3 = i) (by omega)]

theorem pick_nat {x : Int} {n : Nat} (hn : 1 ≤ n) : ∃ i : Nat, i < n ∧ x % (n : Int) = i := by
  have h1 : 0 ≤ x % (n : Int) := Int.emod_nonneg _ (by omega)
  have h2 : x % (n : Int) < n := Int.emod_lt_of_pos _ (by omega)
  obtain ⟨i, hi⟩ := Int.eq_ofNat_of_zero_le h1
  exact ⟨i, by omega, hi⟩
theorem pick_neg {c : Int} {n : Nat} (h : c < 0) : -(c + 1).tmod (n : Int) = (-(c + 1)) % (n : Int) := by
  rw [← Int.neg_tmod, Int.tmod_eq_emod_of_nonneg (by omega)]

set_option maxHeartbeats 400000 in
theorem pick_any (c : Int) (n : Nat) (w : World) (h1 : -9223372036854775808 ≤ c) (h2 : c ≤ 9223372036854775807) (hn : 1 ≤ n) (hn2 : n ≤ 100000000) :
    Calls Tryz.prog 21 #[.int .i64 c, .int .i64 n] w fun e w' => ∃ i : Nat, i < n ∧ e = .returned (.int .i64 i) ∧ w' = w := by
  by_cases h : c < 0
  · obtain ⟨i, hi, he⟩ := pick_nat (x := -(c + 1)) hn
    have he' := (pick_neg (n := n) h).trans he
    have HE : Hid (-(c + 1).tmod (n : Int) = i) := he'
    clear he he'
    go_enter Tryz.func21, Tryz.ntmps21
    go_wp2
    go_ret
    exact ⟨i, hi, ret_int HE.out, rfl⟩
  · obtain ⟨i, hi, he⟩ := pick_nat (x := c) hn
    have HE : Hid (c % (n : Int) = i) := he
    clear he
    go_enter Tryz.func21, Tryz.ntmps21
    go_wp2
    go_ret
    exact ⟨i, hi, ret_int HE.out, rfl⟩

/-- what both sides get together -/
theorem Mk.uni_side {l : List Mk.Ord} (hv : Mk.validB 20 l = true) (b : Bool) : Mk.sideSum l b (Mk.uni l) = Mk.vol l (Mk.best l 98) := by
  by_cases hz : Mk.vol l (Mk.best l 98) = 0
  · rw [hz]
    exact Mk.sumn_zero (fun i _ => by simp [Mk.uni, hz])
  · have hb := Mk.less_bd (Mk.dem_bd hv (Mk.best l 98)) (Mk.sup_bd hv (Mk.best l 98))
    have hV : 1 ≤ Mk.vol l (Mk.best l 98) := by
      have : 0 ≤ Mk.vol l (Mk.best l 98) := hb.1
      omega
    rw [← Mk.side_total hV b]
    unfold Mk.sideSum
    exact Mk.sumn_congr (fun i _ => by simp [Mk.uni, hz])
theorem Mk.uni_bd {l : List Mk.Ord} (hv : Mk.validB 20 l = true) (i : Nat) : 0 ≤ Mk.uni l i ∧ Mk.uni l i ≤ 5000 := by
  unfold Mk.uni
  split
  · omega
  · have := Mk.getsf_bd (p := (Mk.best l 98 : Int)) hv i
    omega
theorem Mk.swap_price {l : List Mk.Ord} {i k : Nat} (hi : i < l.length) (hk : k < l.length) : Mk.price (Mk.swapL l i k) = Mk.price l := by
  unfold Mk.price; rw [Mk.swapL_best hi hk, Mk.swapL_vol hi hk]

theorem uniform_n (a : Option Addr) (n cap : Nat) (l : List Mk.Ord) (hn : l.length = n) (w : World) (hv : Mk.validB 20 l = true) (hR : Rd w a l) :
    Calls Tryz.prog 39 #[.slice a n cap] w fun e w' => ∃ g, e = .returned (.tuple #[.slice (some ⟨g, 0, none⟩) n n, .int .i64 (Mk.price l), .int .i64 0]) ∧ w.heap.size ≤ g ∧ Below w.heap.size w w' ∧ w'.rowIs g 3 n (fun i => .int .i64 (Mk.uni l i)) := by
  subst hn; exact uniform_any a cap l w hv hR
end Go.Proofs.YtmebcdpdpcpnmaaGreatDoor
