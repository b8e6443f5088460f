import Derived.Test.YtmebcdpdpcpnmaaG1
import Derived.Test.YtmebcdpdpcpnmaaE1
import Derived.Test.YtmebcdpdpcpnmaaPlain8
import Derived.Deep.Cut
namespace Go.Proofs.Ytmebcdpdpcpnmaa
open Go.RowKit

/-- block g is the orders l, a row of the call's own -/
def Own (w : World) (g : Nat) (l : List Mk.Ord) : Prop := w.rowIs g 36 (l.length * 3) (cellOf l)

theorem Own.at {w : World} {g : Nat} {l : List Mk.Ord} (h : Own w g l) : At w g 0 l := at_of_row h (Nat.le_refl _) (fun _ _ => rfl)
theorem Own.lt {w : World} {g : Nat} {l : List Mk.Ord} (h : Own w g l) : g < w.heap.size := World.rowIs.lt h
theorem Own.below {w w' : World} {g n : Nat} {l : List Mk.Ord} (h : Own w g l) (hb : Below n w w') (hn : g < n) : Own w' g l := row_below h hb hn
theorem Own.frozen {w : World} {g : Nat} {l : List Mk.Ord} (h : Own w g l) (j : Nat) : w.frozen? ⟨g, j, none⟩ = false := World.rowIs.frozen h j
theorem Own.store {w : World} {g : Nat} {l : List Mk.Ord} (h : Own w g l) {i : Nat} (hi : i < l.length) (o : Mk.Ord) :
    Own (((w.setCell ⟨g, i * 3, none⟩ (.bool o.sell)).setCell ⟨g, i * 3 + 1, none⟩ (.int .i64 o.price)).setCell ⟨g, i * 3 + 1 + 1, none⟩ (.int .i64 o.qty)) g (l.set i o) := by
  unfold Own at h ⊢
  rw [List.length_set]
  refine World.rowIs.congr (((World.rowIs.set h _ _).set _ _).set _ _) (fun j hj => ?_)
  have hd : (l.set i o).getD (j / 3) Mk.ozero = if j / 3 = i then o else l.getD (j / 3) Mk.ozero := Mk.getD_set l i o hi (j / 3)
  unfold cellOf
  rw [hd]
  by_cases h2 : j = i * 3 + 1 + 1
  · rw [if_pos h2, if_neg (by omega), if_neg (by omega), if_pos (by omega)]
  · rw [if_neg h2]
    by_cases h1 : j = i * 3 + 1
    · rw [if_pos h1, if_neg (by omega), if_pos (by omega), if_pos (by omega)]
    · rw [if_neg h1]
      by_cases h0 : j = i * 3
      · rw [if_pos h0, if_pos (by omega), if_pos (by omega)]
      · rw [if_neg h0, if_neg (c := j / 3 = i) (by omega)]

theorem pick_nat {x : Int} {n : Nat} (hn : 1 ≤ n) : ∃ i : Nat, i < n ∧ x % (n : Int) = i := by
  have h1 : 0 ≤ x % (n : Int) := Int.emod_nonneg _ (by omega)
  have h2 : x % (n : Int) < n := Int.emod_lt_of_pos _ (by omega)
  obtain ⟨i, hi⟩ := Int.eq_ofNat_of_zero_le h1
  exact ⟨i, by omega, hi⟩
theorem pick_neg {c : Int} {n : Nat} (h : c < 0) : -(c + 1).tmod (n : Int) = (-(c + 1)) % (n : Int) := by
  rw [← Int.neg_tmod, Int.tmod_eq_emod_of_nonneg (by omega)]

set_option maxHeartbeats 400000 in
theorem pick_any (c : Int) (n : Nat) (w : World) (h1 : -9223372036854775808 ≤ c) (h2 : c ≤ 9223372036854775807) (hn : 1 ≤ n) (hn2 : n ≤ 100000000) :
    Calls Try.prog 19 #[.int .i64 c, .int .i64 n] w fun e w' => ∃ i : Nat, i < n ∧ e = .returned (.int .i64 i) ∧ w' = w := by
  by_cases h : c < 0
  · obtain ⟨i, hi, he⟩ := pick_nat (x := -(c + 1)) hn
    have he' := (pick_neg (n := n) h).trans he
    have HE : Hid (-(c + 1).tmod (n : Int) = i) := he'
    clear he he'
    go_enter Try.func19, Try.ntmps19
    go_wp2
    go_ret
    exact ⟨i, hi, ret_int HE.out, rfl⟩
  · obtain ⟨i, hi, he⟩ := pick_nat (x := c) hn
    have HE : Hid (c % (n : Int) = i) := he
    clear he
    go_enter Try.func19, Try.ntmps19
    go_wp2
    go_ret
    exact ⟨i, hi, ret_int HE.out, rfl⟩

/-- what both sides get together -/
theorem Mk.uni_side {l : List Mk.Ord} (hv : Mk.validB 20 l = true) (b : Bool) : Mk.sideSum l b (Mk.uni l) = Mk.vol l (Mk.best l 98) := by
  by_cases hz : Mk.vol l (Mk.best l 98) = 0
  · rw [hz]
    exact Mk.sumn_zero (fun i _ => by simp [Mk.uni, hz])
  · have hb := Mk.less_bd (Mk.dem_bd hv (Mk.best l 98)) (Mk.sup_bd hv (Mk.best l 98))
    have hV : 1 ≤ Mk.vol l (Mk.best l 98) := by
      have : 0 ≤ Mk.vol l (Mk.best l 98) := hb.1
      omega
    rw [← Mk.side_total hV b]
    unfold Mk.sideSum
    exact Mk.sumn_congr (fun i _ => by simp [Mk.uni, hz])
theorem Mk.uni_bd {l : List Mk.Ord} (hv : Mk.validB 20 l = true) (i : Nat) : 0 ≤ Mk.uni l i ∧ Mk.uni l i ≤ 5000 := by
  unfold Mk.uni
  split
  · omega
  · have := Mk.getsf_bd (p := (Mk.best l 98 : Int)) hv i
    omega
theorem Mk.swap_price {l : List Mk.Ord} {i k : Nat} (hi : i < l.length) (hk : k < l.length) : Mk.price (Mk.swapL l i k) = Mk.price l := by
  unfold Mk.price; rw [Mk.swapL_best hi hk, Mk.swapL_vol hi hk]

theorem uniform_n (a : Option Addr) (n cap : Nat) (l : List Mk.Ord) (hn : l.length = n) (w : World) (hv : Mk.validB 20 l = true) (hR : Rd w a l) :
    Calls Try.prog 13 #[.slice a n cap] w fun e w' => ∃ g, e = .returned (.tuple #[.slice (some ⟨g, 0, none⟩) n n, .int .i64 (Mk.price l), .int .i64 0]) ∧ w.heap.size ≤ g ∧ Below w.heap.size w w' ∧ w'.rowIs g 3 n (fun i => .int .i64 (Mk.uni l i)) := by
  subst hn; exact uniform_any a cap l w hv hR
theorem got_n (b off cap n : Nat) (l : List Mk.Ord) (hn : l.length = n) (g : Nat) (F : Nat → Int) (sell : Bool) (w : World) (h12 : n ≤ 12) (hF : ∀ i, 0 ≤ F i ∧ F i ≤ 5000) (hR : At w b off l) (hrow : w.rowIs g 3 l.length (fun i => .int .i64 (F i))) :
    Calls Try.prog 16 #[.slice (some ⟨b, off, none⟩) n cap, .slice (some ⟨g, 0, none⟩) n n, .bool sell] w fun e w' => e = .returned (.int .i64 (Mk.sideSum l sell F)) ∧ w' = w := by
  subst hn; exact got_some b off cap l g F sell w h12 hF hR hrow

set_option maxRecDepth 100000 in
set_option maxHeartbeats 2000000 in
theorem comes_some (b off cap : Nat) (l : List Mk.Ord) (x y : Int) (w : World) (hv : Mk.validB 20 l = true) (hne : l ≠ []) (hR : At w b off l)
    (hx1 : -9223372036854775808 ≤ x) (hx2 : x ≤ 9223372036854775807) (hy1 : -9223372036854775808 ≤ y) (hy2 : y ≤ 9223372036854775807) :
    Calls Try.prog 7 #[.slice (some ⟨b, off, none⟩) l.length cap, .int .i64 x, .int .i64 y] w fun e w' => e = .returned (.bool true) ∧ Below w.heap.size w w' := by
  have HA : Hid (At w b off l) := hR
  have HR : Hid (Rd w (some ⟨b, off, none⟩) l) := .inr ⟨b, off, rfl, hR⟩
  have HV : Hid (Mk.validB 20 l = true) := hv
  have h12 := (Mk.ok_of_valid hv).1
  have hpos : 0 < l.length := List.length_pos_iff.2 hne
  have hl0 : ((l.length : Int) == 0) = false := by simp; omega
  obtain ⟨W1, hmk, hb1, hz1, f, hrow1⟩ := make_orders w l.length (by omega)
  obtain ⟨W2, hcp, hb2, hrow2⟩ := copy_orders W1 w.heap.size (l.length * 3) l.length l.length f b off cap l hrow1 (Nat.le_refl _) (Nat.le_refl _) (hR.below hb1)
  have HB2 : Hid (Below w.heap.size w W2) := hb1.trans (hb2 _ (Nat.le_refl _))
  have HO2 : Hid (Own W2 w.heap.size l) := World.rowIs.congr hrow2 (fun j hj => by rw [if_pos hj])
  clear hR hb1 hb2 hrow1 hrow2 hne
  go_enter Try.func7, Try.ntmps7
  go_wp2_with fail
  refine (valid_any _ cap l _ _ HR.out).mono ?_
  rintro e w1 ⟨rfl, hw1⟩
  obtain rfl := hw1.symm
  go_wp2_with fail
  refine (pick_any x _ _ hx1 hx2 (by omega) (by omega)).mono ?_
  rintro e w1 ⟨i, hi, rfl, hw1⟩
  obtain rfl := hw1.symm
  go_wp2_with fail
  refine (pick_any y _ _ hy1 hy2 (by omega) (by omega)).mono ?_
  rintro e w1 ⟨k, hk, rfl, hw1⟩
  obtain rfl := hw1.symm
  clear hmk hcp hx1 hx2 hy1 hy2
  have hi' : (i : Int) < (l.length : Int) := by omega
  have hk' : (k : Int) < (l.length : Int) := by omega
  obtain ⟨c0, c1, c2⟩ := (HA.out.below HB2.out) k hk
  have o0 := World.rowIs.cell HO2.out (i := i * 3) (by omega)
  have o1 := World.rowIs.cell HO2.out (i := i * 3 + 1) (by omega)
  have o2 := World.rowIs.cell HO2.out (i := i * 3 + 2) (by omega)
  have z0 := HO2.out.frozen (i * 3)
  have z1 := HO2.out.frozen (i * 3 + 1)
  have z2 := HO2.out.frozen (i * 3 + 2)
  go_upto_region 9 with fail
  have HO3 : Hid (Own (((W2.setCell ⟨w.heap.size, i * 3, none⟩ (.bool l[k].sell)).setCell ⟨w.heap.size, i * 3 + 1, none⟩ (.int .i64 l[k].price)).setCell ⟨w.heap.size, i * 3 + 2, none⟩ (.int .i64 l[k].qty)) w.heap.size (l.set i l[k])) := HO2.out.store hi l[k]
  have HB3 : Hid (Below w.heap.size w (((W2.setCell ⟨w.heap.size, i * 3, none⟩ (.bool l[k].sell)).setCell ⟨w.heap.size, i * 3 + 1, none⟩ (.int .i64 l[k].price)).setCell ⟨w.heap.size, i * 3 + 2, none⟩ (.int .i64 l[k].qty))) := ((HB2.out.setCell (Nat.le_refl _) _).setCell (Nat.le_refl _) _).setCell (Nat.le_refl _) _
  generalize ((W2.setCell ⟨w.heap.size, i * 3, none⟩ (.bool l[k].sell)).setCell ⟨w.heap.size, i * 3 + 1, none⟩ (.int .i64 l[k].price)).setCell ⟨w.heap.size, i * 3 + 2, none⟩ (.int .i64 l[k].qty) = W3 at *
  clear c0 c1 c2 o0 o1 o2 z0 z1 z2 HB2 HO2
  obtain ⟨c0, c1, c2⟩ := (HA.out.below HB3.out) i hi
  have o0 := World.rowIs.cell HO3.out (i := k * 3) (by simp; omega)
  have o1 := World.rowIs.cell HO3.out (i := k * 3 + 1) (by simp; omega)
  have o2 := World.rowIs.cell HO3.out (i := k * 3 + 2) (by simp; omega)
  have z0 := HO3.out.frozen (k * 3)
  have z1 := HO3.out.frozen (k * 3 + 1)
  have z2 := HO3.out.frozen (k * 3 + 2)
  go_upto_region 10 with fail
  have HO4 : Hid (Own (((W3.setCell ⟨w.heap.size, k * 3, none⟩ (.bool l[i].sell)).setCell ⟨w.heap.size, k * 3 + 1, none⟩ (.int .i64 l[i].price)).setCell ⟨w.heap.size, k * 3 + 2, none⟩ (.int .i64 l[i].qty)) w.heap.size (Mk.swapL l i k)) := by
    have h := HO3.out.store (i := k) (by simpa using hk) l[i]
    unfold Mk.swapL
    rw [Mk.getD_at hi, Mk.getD_at hk]
    exact h
  have HB4 : Hid (Below w.heap.size w (((W3.setCell ⟨w.heap.size, k * 3, none⟩ (.bool l[i].sell)).setCell ⟨w.heap.size, k * 3 + 1, none⟩ (.int .i64 l[i].price)).setCell ⟨w.heap.size, k * 3 + 2, none⟩ (.int .i64 l[i].qty))) := ((HB3.out.setCell (Nat.le_refl _) _).setCell (Nat.le_refl _) _).setCell (Nat.le_refl _) _
  generalize ((W3.setCell ⟨w.heap.size, k * 3, none⟩ (.bool l[i].sell)).setCell ⟨w.heap.size, k * 3 + 1, none⟩ (.int .i64 l[i].price)).setCell ⟨w.heap.size, k * 3 + 2, none⟩ (.int .i64 l[i].qty) = W4 at *
  clear c0 c1 c2 o0 o1 o2 z0 z1 z2 HB3 HO3
  have HV' : Hid (Mk.validB 20 (Mk.swapL l i k) = true) := Mk.swapL_valid hi hk HV.out
  have hlen := Mk.swapL_length l i k
  go_wp2_with fail
  refine (uniform_any _ cap l _ HV.out (HR.out.below HB4.out)).mono ?_
  rintro e w5 ⟨g1, rfl, hg1, hb5, hrow5⟩
  have HB5 : Hid (Below W4.heap.size W4 w5) := hb5
  have HRow5 : Hid (w5.rowIs g1 3 l.length (fun j => .int .i64 (Mk.uni l j))) := hrow5
  clear hb5 hrow5
  have HO5 : Hid (Own w5 w.heap.size (Mk.swapL l i k)) := HO4.out.below HB5.out HO4.out.lt
  go_wp2_with fail
  refine (uniform_n _ l.length l.length (Mk.swapL l i k) hlen _ HV'.out (.inr ⟨_, _, rfl, HO5.out.at⟩)).mono ?_
  rintro e w6 ⟨g2, rfl, hg2, hb6, hrow6⟩
  have HB6 : Hid (Below w5.heap.size w5 w6) := hb6
  have HRow6 : Hid (w6.rowIs g2 3 (Mk.swapL l i k).length (fun j => .int .i64 (Mk.uni (Mk.swapL l i k) j))) := (by rw [hlen]; exact hrow6 : w6.rowIs g2 3 (Mk.swapL l i k).length (fun j => .int .i64 (Mk.uni (Mk.swapL l i k) j)))
  clear hb6 hrow6
  have HB7 : Hid (Below w.heap.size w w6) := HB4.out.trans ((HB5.out.trans (HB6.out.mono HB5.out.size)).mono HB4.out.size)
  have HA6 : Hid (At w6 b off l) := HA.out.below HB7.out
  have HR6 : Hid (w6.rowIs g1 3 l.length (fun j => .int .i64 (Mk.uni l j))) := row_below HRow5.out HB6.out (World.rowIs.lt HRow5.out)
  have HO6 : Hid (Own w6 w.heap.size (Mk.swapL l i k)) := HO5.out.below HB6.out HO5.out.lt
  have hpr := Mk.swap_price (l := l) hi hk
  have hs1 := Mk.uni_side HV.out true
  have hs2 : Mk.sideSum (Mk.swapL l i k) true (Mk.uni (Mk.swapL l i k)) = Mk.vol l (Mk.best l 98) := by rw [Mk.uni_side HV'.out, Mk.swapL_best hi hk, Mk.swapL_vol hi hk]
  have HL : Hid ((Mk.swapL l i k).length = l.length) := hlen
  clear hlen
  go_wp2_with fail
  refine (got_some b off cap l g1 (Mk.uni l) true _ h12 (Mk.uni_bd HV.out) HA6.out HR6.out).mono ?_
  rintro e w7 ⟨rfl, hw7⟩
  obtain rfl := hw7.symm
  go_wp2_with fail
  refine (got_n w.heap.size 0 l.length l.length (Mk.swapL l i k) HL.out g2 (Mk.uni (Mk.swapL l i k)) true _ h12 (Mk.uni_bd HV'.out) HO6.out.at HRow6.out).mono ?_
  rintro e w7 ⟨rfl, hw7⟩
  obtain rfl := hw7.symm
  go_wp2
  go_ret
  exact ⟨rfl, HB7.out⟩

end Go.Proofs.Ytmebcdpdpcpnmaa
