import Derived.Test.YtmebcdpdpcpnmabDoorJ3
import Derived.Laws.CopyRow
import Derived.Laws.CopyOwn
import Derived.Test.YtmebcdpdpcpnmabDoorJ2
import Derived.Deep.QuietTactic
import Derived.BigQuiet
import Derived.Deep.Cut
import Derived.StillTactics
import Derived.OwnWalk
import Derived.Laws.Pointers
import Derived.Deep.RegionHeld3
import Derived.Deep.AppendLies
namespace Go.Proofs.YtmebcdpdpcpnmabDoor
open Go.RowKit

/-- cell j of the orders l, laid one behind the other -/
def cellOf (l : List Mk.Ord) (j : Nat) : Value :=
  if j % 3 = 0 then .bool (l.getD (j / 3) Mk.ozero).sell else if j % 3 = 1 then .int .i64 (l.getD (j / 3) Mk.ozero).price else .int .i64 (l.getD (j / 3) Mk.ozero).qty

theorem cellOf_one (l : List Mk.Ord) (j : Nat) : (cellOf l j).oneCell' = true := by
  unfold cellOf; split
  · rfl
  · split <;> rfl
theorem cellOf_0 (l : List Mk.Ord) {i : Nat} (h : i < l.length) : cellOf l (i * 3) = .bool l[i].sell := by
  unfold cellOf
  rw [if_pos (by omega), show i * 3 / 3 = i by omega, Mk.getD_at h]
theorem cellOf_1 (l : List Mk.Ord) {i : Nat} (h : i < l.length) : cellOf l (i * 3 + 1) = .int .i64 l[i].price := by
  unfold cellOf
  rw [if_neg (by omega), if_pos (by omega), show (i * 3 + 1) / 3 = i by omega, Mk.getD_at h]
theorem cellOf_2 (l : List Mk.Ord) {i : Nat} (h : i < l.length) : cellOf l (i * 3 + 1 + 1) = .int .i64 l[i].qty := by
  unfold cellOf
  rw [if_neg (by omega), if_neg (by omega), show (i * 3 + 1 + 1) / 3 = i by omega, Mk.getD_at h]

theorem At.cell {w : World} {b off : Nat} {l : List Mk.Ord} (h : At w b off l) {j : Nat} (hj : j < l.length * 3) : w.cell? ⟨b, off + j, none⟩ = some (cellOf l j) := by
  have hi : j / 3 < l.length := by omega
  obtain ⟨c0, c1, c2⟩ := h (j / 3) hi
  obtain h3 | h3 | h3 : j = j / 3 * 3 ∨ j = j / 3 * 3 + 1 ∨ j = j / 3 * 3 + 1 + 1 := by omega
  · have e := cellOf_0 l hi
    rw [← h3] at e c0
    rw [e]; exact c0
  · have e := cellOf_1 l hi
    rw [← h3] at e
    rw [e]
    have : off + j = off + j / 3 * 3 + 1 := by omega
    rw [this]; exact c1
  · have e := cellOf_2 l hi
    rw [← h3] at e
    rw [e]
    have : off + j = off + j / 3 * 3 + 1 + 1 := by omega
    rw [this]; exact c2

/-- a row of cells whose head is the orders l -/
theorem at_of_row {w : World} {g m t : Nat} {f : Nat → Value} {l : List Mk.Ord} (h : w.rowIs g t m f) (hm : l.length * 3 ≤ m) (hf : ∀ j, j < l.length * 3 → f j = cellOf l j) : At w g 0 l := by
  intro i hi
  refine ⟨?_, ?_, ?_⟩
  · rw [Nat.zero_add, h.cell (by omega), hf _ (by omega), cellOf_0 l hi]
  · rw [Nat.zero_add, h.cell (by omega), hf _ (by omega), cellOf_1 l hi]
  · rw [Nat.zero_add, h.cell (by omega), hf _ (by omega), cellOf_2 l hi]

theorem Tryd.infoOrder : (Tryd.prog.info? 84).map (fun i => (i.zero, i.size, i.bytes)) = some (some (.agg #[.bool false, .int .i64 0, .int .i64 0]), 3, 24) := by kernel_rfl

/-- make([]api.Order, n): a new row of 3 n cells -/
theorem make_orders (w : World) (n : Nat) (hn : n ≤ 2000000) :
    ∃ W, (Instr.makeSlice 125 (.int .i64 (n : Int)) (.int .i64 (n : Int))).run Tryd.prog w = .ok (.slice (some ⟨w.heap.size, 0, none⟩) n n) W ∧
      Below w.heap.size w W ∧ w.heap.size < W.heap.size ∧ ∃ f, W.rowIs w.heap.size 84 (n * 3) f := by
  obtain ⟨i, hi, hzz⟩ := Option.map_eq_some_iff.1 Tryd.infoOrder
  simp only [Prod.mk.injEq] at hzz
  obtain ⟨hz, hs, hb⟩ := hzz
  have hr := run_make (P := Tryd.prog) w 125 84 i _ Tryd.underlying125 hi hz .i64 .i64 n n (by omega) (Int.le_refl _) (by rw [hb]; omega) (by omega)
  rw [hs] at hr
  simp only [Int.toNat_natCast] at hr
  refine ⟨_, hr, (Below.refl _ _).alloc (Nat.le_refl _) _, by simp, ?_⟩
  have hsz := size_madeCells (Value.agg #[.bool false, .int .i64 0, .int .i64 0]).cells (n * 3)
  have := World.rowIs_alloc w (madeCells (Value.agg #[.bool false, .int .i64 0, .int .i64 0]).cells (n * 3)) 84 (fun i => (madeCells (Value.agg #[.bool false, .int .i64 0, .int .i64 0]).cells (n * 3))[i]?.getD undef) (fun i hi => by rw [Array.getElem?_eq_getElem hi]; rfl)
  rw [hsz] at this
  exact ⟨_, this⟩

/-- copy(dst, src), both of orders: dst a row of the call's own with room for all -/
theorem copy_orders (w : World) (g m dLen dCap : Nat) (f : Nat → Value) (b off cap : Nat) (l : List Mk.Ord) (hg : w.rowIs g 84 m f) (hd : l.length ≤ dLen) (hm : l.length * 3 ≤ m) (hA : At w b off l) :
    ∃ W, (∀ ty, (Builtin.copy_ #[125, 125] ty #[.slice (some ⟨g, 0, none⟩) dLen dCap, .slice (some ⟨b, off, none⟩) l.length cap]).run Tryd.prog w = .ok (.int .i64 (l.length : Int)) W) ∧
      (∀ B, B ≤ g → Below B w W) ∧ W.rowIs g 84 m (fun j => if j < l.length * 3 then cellOf l j else f j) := by
  obtain ⟨cur, hcur, hsz, hc⟩ := hg
  let cs : List Value := (List.range (l.length * 3)).map (cellOf l)
  have hlen : cs.length = l.length * 3 := by simp [cs]
  have hcs : ∀ j v, cs[j]? = some v → j < l.length * 3 ∧ v = cellOf l j := by
    intro j v h
    have hj : j < cs.length := by
      apply Classical.byContradiction
      intro h'
      rw [List.getElem?_eq_none (by omega)] at h
      cases h
    rw [hlen] at hj
    refine ⟨hj, ?_⟩
    simp [cs, List.getElem?_map, List.getElem?_range hj] at h
    exact h.symm
  have hsrc : ∀ j v, cs[j]? = some v → w.cell? ((⟨b, off, none⟩ : Addr).add j) = some v := by
    intro j v h
    obtain ⟨hj, rfl⟩ := hcs j v h
    have : (⟨b, off, none⟩ : Addr).add j = ⟨b, off + j, none⟩ := by unfold Addr.add; split <;> simp_all
    rw [this]; exact hA.cell hj
  have h1 : ∀ v ∈ cs, v.oneCell' = true := by
    intro v hv
    simp only [cs, List.mem_map] at hv
    obtain ⟨j, _, rfl⟩ := hv
    exact cellOf_one l j
  have hl' := run_loadCells_list (P := Tryd.prog) w ⟨b, off, none⟩ cs hsrc
  have hst := run_storeCells_at Tryd.prog g 0 84 cs 0 cur w hcur (by rw [hlen, hsz]; omega) h1
  obtain ⟨i, hi, hzz⟩ := Option.map_eq_some_iff.1 Tryd.infoOrder
  simp only [Prod.mk.injEq] at hzz
  obtain ⟨hz, hs, hb⟩ := hzz
  refine ⟨w.setRow g (cur.toList.take (0 + 0) ++ cs ++ cur.toList.drop (0 + 0 + cs.length)).toArray, fun ty => ?_, fun B hB => below_setRow (Below.refl _ _) hB _, ?_⟩
  · have hmin : Nat.min l.length dLen = l.length := Nat.min_eq_left hd
    rw [hlen] at hl'
    simp [Builtin.copy_, run_underlying Tryd.underlying125, Builtin.lenOf, Builtin.firstCells, sizeOf, typeInfo, hi, hs, hmin, hl', hst, goInt]
  · refine ⟨_, setRow_heap w g cur _ _ _ hcur, by simp [hlen, hsz]; omega, fun j hj => ?_⟩
    simp only [Nat.add_zero, Nat.zero_add, List.take_zero, List.nil_append, List.getElem?_toArray]
    by_cases h : j < l.length * 3
    · rw [if_pos h, List.getElem?_append_left (by omega)]
      simp [cs, List.getElem?_map, List.getElem?_range h]
    · rw [if_neg h, List.getElem?_append_right (by omega), List.getElem?_drop, hlen]
      rw [show l.length * 3 + (j - l.length * 3) = j by omega]
      have := hc j hj
      simpa using this

end Go.Proofs.YtmebcdpdpcpnmabDoor

namespace Go.Proofs.YtmebcdpdpcpnmabDoor
open Go.RowKit

end Go.Proofs.YtmebcdpdpcpnmabDoor

/- Plain mathematics: two orders in one another's place. -/
namespace Mk

theorem sumn_update (g : Nat → Int) (v : Int) (n i : Nat) (hi : i < n) : sumn (fun j => if j = i then v else g j) n = sumn g n - g i + v := by
  induction n with
  | zero => omega
  | succ k ih =>
    simp only [sumn]
    by_cases h : i = k
    · subst h
      rw [sumn_congr (g := g) (fun j hj => if_neg (by omega)), if_pos rfl]; omega
    · rw [ih (by omega), if_neg (by omega)]; omega

def swapL (l : List Ord) (i k : Nat) : List Ord := (l.set i (l.getD k ozero)).set k (l.getD i ozero)

theorem swapL_length (l : List Ord) (i k : Nat) : (swapL l i k).length = l.length := by simp [swapL]

theorem getD_set (l : List Ord) (i : Nat) (o : Ord) (hi : i < l.length) (j : Nat) : (l.set i o).getD j ozero = if j = i then o else l.getD j ozero := by
  simp only [List.getD]
  by_cases h : j = i
  · subst h; simp [List.getElem?_set_self hi]
  · rw [if_neg h, List.getElem?_set_ne (by omega)]

theorem sumf_set (f : Ord → Int) (l : List Ord) (i : Nat) (o : Ord) (hi : i < l.length) : sumf f (l.set i o) = sumf f l - f (l.getD i ozero) + f o := by
  rw [sumf_n, sumf_n, List.length_set]
  rw [← sumn_update (fun j => f (l.getD j ozero)) (f o) l.length i hi]
  refine sumn_congr (fun j _ => ?_)
  rw [getD_set l i o hi j]
  by_cases h : j = i
  · rw [if_pos h, if_pos h]
  · rw [if_neg h, if_neg h]

theorem swapL_sum (f : Ord → Int) (l : List Ord) (i k : Nat) (hi : i < l.length) (hk : k < l.length) : sumf f (swapL l i k) = sumf f l := by
  unfold swapL
  rw [sumf_set f _ k _ (by simpa using hk), sumf_set f l i _ hi, getD_set l i _ hi k]
  by_cases h : k = i
  · subst h; rw [if_pos rfl]; omega
  · rw [if_neg h]; omega

theorem swapL_mem (l : List Ord) (i k : Nat) (hi : i < l.length) (hk : k < l.length) (o : Ord) (h : o ∈ swapL l i k) : o ∈ l := by
  unfold swapL at h
  have h1 := List.mem_or_eq_of_mem_set h
  rcases h1 with h1 | h1
  · have h2 := List.mem_or_eq_of_mem_set h1
    rcases h2 with h2 | h2
    · exact h2
    · rw [h2, getD_at hk]; exact List.getElem_mem hk
  · rw [h1, getD_at hi]; exact List.getElem_mem hi

theorem swapL_valid {l : List Ord} {i k : Nat} (hi : i < l.length) (hk : k < l.length) (hv : validB 20 l = true) : validB 20 (swapL l i k) = true := by
  simp only [validB, Bool.and_eq_true, decide_eq_true_eq, List.all_eq_true] at hv ⊢
  refine ⟨by rw [swapL_length]; exact hv.1, fun o ho => hv.2 o (swapL_mem l i k hi hk o ho)⟩

theorem swapL_dem {l : List Ord} {i k : Nat} (hi : i < l.length) (hk : k < l.length) (p : Int) : dem (swapL l i k) p = dem l p := swapL_sum _ l i k hi hk
theorem swapL_sup {l : List Ord} {i k : Nat} (hi : i < l.length) (hk : k < l.length) (p : Int) : sup (swapL l i k) p = sup l p := swapL_sum _ l i k hi hk
theorem swapL_best {l : List Ord} {i k : Nat} (hi : i < l.length) (hk : k < l.length) (n : Nat) : best (swapL l i k) n = best l n := by
  induction n with
  | zero => rfl
  | succ n ih => simp only [best, ih, swapL_dem hi hk, swapL_sup hi hk]
theorem swapL_vol {l : List Ord} {i k : Nat} (hi : i < l.length) (hk : k < l.length) (p : Int) : vol (swapL l i k) p = vol l p := by
  unfold vol; rw [swapL_dem hi hk, swapL_sup hi hk]

end Mk

namespace Go.Proofs.YtmebcdpdpcpnmabDoor
open Go.RowKit

/-- block g is the orders l, a row of the call's own -/
def Own (w : World) (g : Nat) (l : List Mk.Ord) : Prop := w.rowIs g 84 (l.length * 3) (cellOf l)

theorem Own.at {w : World} {g : Nat} {l : List Mk.Ord} (h : Own w g l) : At w g 0 l := at_of_row h (Nat.le_refl _) (fun _ _ => rfl)
theorem Own.lt {w : World} {g : Nat} {l : List Mk.Ord} (h : Own w g l) : g < w.heap.size := World.rowIs.lt h
theorem Own.below {w w' : World} {g n : Nat} {l : List Mk.Ord} (h : Own w g l) (hb : Below n w w') (hn : g < n) : Own w' g l := row_below h hb hn
theorem Own.frozen {w : World} {g : Nat} {l : List Mk.Ord} (h : Own w g l) (j : Nat) : w.frozen? ⟨g, j, none⟩ = false := World.rowIs.frozen h j
theorem Own.store {w : World} {g : Nat} {l : List Mk.Ord} (h : Own w g l) {i : Nat} (hi : i < l.length) (o : Mk.Ord) :
    Own (((w.setCell ⟨g, i * 3, none⟩ (.bool o.sell)).setCell ⟨g, i * 3 + 1, none⟩ (.int .i64 o.price)).setCell ⟨g, i * 3 + 1 + 1, none⟩ (.int .i64 o.qty)) g (l.set i o) := by
  unfold Own at h ⊢
  rw [List.length_set]
  refine World.rowIs.congr (((World.rowIs.set h _ _).set _ _).set _ _) (fun j hj => ?_)
  have hd : (l.set i o).getD (j / 3) Mk.ozero = if j / 3 = i then o else l.getD (j / 3) Mk.ozero := Mk.getD_set l i o hi (j / 3)
  unfold cellOf
  rw [hd]
  by_cases h2 : j = i * 3 + 1 + 1
  · rw [if_pos h2, if_neg (by omega), if_neg (by omega), if_pos (by omega)]
  · rw [if_neg h2]
    by_cases h1 : j = i * 3 + 1
    · rw [if_pos h1, if_neg (by omega), if_pos (by omega), if_pos (by omega)]
    · rw [if_neg h1]
      by_cases h0 : j = i * 3
      · rw [if_pos h0, if_pos (by omega), if_pos (by omega)]
      · rw [if_neg h0, if_neg (c := j / 3 = i) (by omega)]

theorem pick_nat {x : Int} {n : Nat} (hn : 1 ≤ n) : ∃ i : Nat, i < n ∧ x % (n : Int) = i := by
  have h1 : 0 ≤ x % (n : Int) := Int.emod_nonneg _ (by omega)
  have h2 : x % (n : Int) < n := Int.emod_lt_of_pos _ (by omega)
  obtain ⟨i, hi⟩ := Int.eq_ofNat_of_zero_le h1
  exact ⟨i, by omega, hi⟩
theorem pick_neg {c : Int} {n : Nat} (h : c < 0) : -(c + 1).tmod (n : Int) = (-(c + 1)) % (n : Int) := by
  rw [← Int.neg_tmod, Int.tmod_eq_emod_of_nonneg (by omega)]

set_option maxHeartbeats 400000 in
theorem pick_any (c : Int) (n : Nat) (w : World) (h1 : -9223372036854775808 ≤ c) (h2 : c ≤ 9223372036854775807) (hn : 1 ≤ n) (hn2 : n ≤ 100000000) :
    Calls Tryd.prog 18 #[.int .i64 c, .int .i64 n] w fun e w' => ∃ i : Nat, i < n ∧ e = .returned (.int .i64 i) ∧ w' = w := by
  by_cases h : c < 0
  · obtain ⟨i, hi, he⟩ := pick_nat (x := -(c + 1)) hn
    have he' := (pick_neg (n := n) h).trans he
    have HE : Hid (-(c + 1).tmod (n : Int) = i) := he'
    clear he he'
    go_enter Tryd.func18, Tryd.ntmps18
    go_wp2
    go_ret
    exact ⟨i, hi, ret_int HE.out, rfl⟩
  · obtain ⟨i, hi, he⟩ := pick_nat (x := c) hn
    have HE : Hid (c % (n : Int) = i) := he
    clear he
    go_enter Tryd.func18, Tryd.ntmps18
    go_wp2
    go_ret
    exact ⟨i, hi, ret_int HE.out, rfl⟩

/-- what both sides get together -/
theorem Mk.uni_side {l : List Mk.Ord} (hv : Mk.validB 20 l = true) (b : Bool) : Mk.sideSum l b (Mk.uni l) = Mk.vol l (Mk.best l 98) := by
  by_cases hz : Mk.vol l (Mk.best l 98) = 0
  · rw [hz]
    exact Mk.sumn_zero (fun i _ => by simp [Mk.uni, hz])
  · have hb := Mk.less_bd (Mk.dem_bd hv (Mk.best l 98)) (Mk.sup_bd hv (Mk.best l 98))
    have hV : 1 ≤ Mk.vol l (Mk.best l 98) := by
      have : 0 ≤ Mk.vol l (Mk.best l 98) := hb.1
      omega
    rw [← Mk.side_total hV b]
    unfold Mk.sideSum
    exact Mk.sumn_congr (fun i _ => by simp [Mk.uni, hz])
theorem Mk.uni_bd {l : List Mk.Ord} (hv : Mk.validB 20 l = true) (i : Nat) : 0 ≤ Mk.uni l i ∧ Mk.uni l i ≤ 5000 := by
  unfold Mk.uni
  split
  · omega
  · have := Mk.getsf_bd (p := (Mk.best l 98 : Int)) hv i
    omega
theorem Mk.swap_price {l : List Mk.Ord} {i k : Nat} (hi : i < l.length) (hk : k < l.length) : Mk.price (Mk.swapL l i k) = Mk.price l := by
  unfold Mk.price; rw [Mk.swapL_best hi hk, Mk.swapL_vol hi hk]

theorem uniform_n (a : Option Addr) (n cap : Nat) (l : List Mk.Ord) (hn : l.length = n) (w : World) (hv : Mk.validB 20 l = true) (hR : Rd w a l) :
    Calls Tryd.prog 81 #[.slice a n cap] w fun e w' => ∃ g, e = .returned (.tuple #[.slice (some ⟨g, 0, none⟩) n n, .int .i64 (Mk.price l), .int .i64 0]) ∧ w.heap.size ≤ g ∧ Below w.heap.size w w' ∧ w'.rowIs g 3 n (fun i => .int .i64 (Mk.uni l i)) := by
  subst hn; exact uniform_any a cap l w hv hR
end Go.Proofs.YtmebcdpdpcpnmabDoor

namespace Go.Proofs.YtmebcdpdpcpnmabDoor
open Go.RowKit

/-- the two orders of the caller's that lie in the spare room -/
def o7 : Mk.Ord := ⟨false, 7, 0⟩
def o8 : Mk.Ord := ⟨false, 8, 0⟩
theorem get7 (l : List Mk.Ord) (h : l.length < (l ++ [o7, o8]).length) : (l ++ [o7, o8])[l.length] = o7 := by simp
theorem get8 (l : List Mk.Ord) (h : l.length + 1 < (l ++ [o7, o8]).length) : (l ++ [o7, o8])[l.length + 1] = o8 := by simp

/-- copy of no order -/
theorem copy_none (w : World) (g : Nat) (dLen dCap : Nat) (a : Option Addr) (cap ty : Nat) :
    (Builtin.copy_ #[125, 125] ty #[.slice (some ⟨g, 0, none⟩) dLen dCap, .slice a 0 cap]).run Tryd.prog w = .ok (.int .i64 0) w := by
  obtain ⟨i, hi, hzz⟩ := Option.map_eq_some_iff.1 Tryd.infoOrder
  have hmin : Nat.min 0 dLen = 0 := Nat.min_eq_left (Nat.zero_le _)
  cases a with
  | none => simp [Builtin.copy_, run_underlying Tryd.underlying125, Builtin.lenOf, Builtin.firstCells, sizeOf, typeInfo, hi, hmin, goInt, storeCells]
  | some a =>
    have hl := run_loadCells_list (P := Tryd.prog) w a [] (fun j v h => by simp at h)
    simp at hl
    simp [Builtin.copy_, run_underlying Tryd.underlying125, Builtin.lenOf, Builtin.firstCells, sizeOf, typeInfo, hi, hmin, goInt, storeCells, hl]

/-- copy of any orders into a row of the call's own -/
theorem copy_any (w : World) (g m dLen dCap : Nat) (f : Nat → Value) (a : Option Addr) (cap : Nat) (l : List Mk.Ord) (hg : w.rowIs g 84 m f) (hd : l.length ≤ dLen) (hm : l.length * 3 ≤ m) (hR : Rd w a l) :
    ∃ W, (∀ ty, (Builtin.copy_ #[125, 125] ty #[.slice (some ⟨g, 0, none⟩) dLen dCap, .slice a l.length cap]).run Tryd.prog w = .ok (.int .i64 (l.length : Int)) W) ∧
      (∀ B, B ≤ g → Below B w W) ∧ W.rowIs g 84 m (fun j => if j < l.length * 3 then cellOf l j else f j) := by
  rcases hR with rfl | ⟨b, off, rfl, hR⟩
  · exact ⟨w, fun ty => copy_none w g dLen dCap a cap ty, fun B _ => Below.refl _ _, World.rowIs.congr hg (fun j _ => by simp)⟩
  · exact copy_orders w g m dLen dCap f b off cap l hg hd hm hR

theorem cellOf_left (l r : List Mk.Ord) {j : Nat} (hj : j < l.length * 3) : cellOf (l ++ r) j = cellOf l j := by
  unfold cellOf
  have : (l ++ r).getD (j / 3) Mk.ozero = l.getD (j / 3) Mk.ozero := by simp [List.getD, List.getElem?_append_left (show j / 3 < l.length by omega)]
  rw [this]

end Go.Proofs.YtmebcdpdpcpnmabDoor

namespace Go.Proofs.YtmebcdpdpcpnmabDoor
open Go.RowKit

theorem Own.spare {w : World} {g : Nat} {l : List Mk.Ord} (h : Own w g (l ++ [o7, o8])) :
    w.cell? ⟨g, l.length * 3, none⟩ = some (.bool false) ∧ w.cell? ⟨g, l.length * 3 + 1, none⟩ = some (.int .i64 7) ∧ w.cell? ⟨g, l.length * 3 + 1 + 1, none⟩ = some (.int .i64 0) ∧
    w.cell? ⟨g, (l.length + 1) * 3, none⟩ = some (.bool false) ∧ w.cell? ⟨g, (l.length + 1) * 3 + 1, none⟩ = some (.int .i64 8) ∧ w.cell? ⟨g, (l.length + 1) * 3 + 1 + 1, none⟩ = some (.int .i64 0) := by
  obtain ⟨a0, a1, a2⟩ := h.at l.length (by simp)
  obtain ⟨b0, b1, b2⟩ := h.at (l.length + 1) (by simp)
  rw [Nat.zero_add] at a0 a1 a2 b0 b1 b2
  rw [get7] at a0 a1 a2
  rw [get8] at b0 b1 b2
  exact ⟨a0, a1, a2, b0, b1, b2⟩
theorem Own.head {w : World} {g : Nat} {l r : List Mk.Ord} (h : Own w g (l ++ r)) : At w g 0 l :=
  at_of_row h (by simp; omega) (fun j hj => cellOf_left l r hj)

end Go.Proofs.YtmebcdpdpcpnmabDoor

namespace Go.Proofs.YtmebcdpdpcpnmabDoor
open Go.RowKit

/-- the cells of the first k orders -/
def cellsTo (l : List Mk.Ord) (k : Nat) : List Value := (List.range (k * 3)).map (cellOf l)
theorem cellsTo_succ (l : List Mk.Ord) (k : Nat) (hk : k < l.length) : cellsTo l (k + 1) = cellsTo l k ++ [.bool l[k].sell, .int .i64 l[k].price, .int .i64 l[k].qty] := by
  unfold cellsTo
  rw [show (k + 1) * 3 = k * 3 + 1 + 1 + 1 by omega, List.range_succ, List.range_succ, List.range_succ]
  simp [cellOf_0 l hk, cellOf_1 l hk, cellOf_2 l hk]

theorem own_far {w : World} {base e size : Nat} {v : Value} {n : Nat} {xs : List Value} (h : w.ownsRow base e size v n xs) {b : Nat} (hb : b < base) : v.ownBlock ≠ some b := by
  rcases h.2 with ⟨rfl, _⟩ | ⟨g, cap, cur, rfl, hg, _⟩
  · simp [Value.ownBlock]
  · simp [Value.ownBlock]; omega
theorem own_ge {w : World} {base e size : Nat} {v : Value} {n : Nat} {xs : List Value} (h : w.ownsRow base e size v n xs) (k : Nat) (hk : v.ownBlock = some k) : base ≤ k := by
  apply Classical.byContradiction
  intro hlt
  exact own_far h (by omega) hk

/-- an owned row of the orders' cells, as a slice that reads as the orders -/
theorem rd_of_own {w : World} {base e : Nat} {v : Value} {l : List Mk.Ord} (h : w.ownsRow base e 3 v l.length (cellsTo l l.length)) : ∃ a cap, v = .slice a l.length cap ∧ Rd w a l := by
  rcases h.2 with ⟨rfl, h0⟩ | ⟨g, cap, cur, rfl, hg, hh, hc1, hc2, hsz, htake⟩
  · rw [h0]
    exact ⟨none, 0, rfl, .inl (List.eq_nil_of_length_eq_zero h0)⟩
  · refine ⟨_, cap, rfl, .inr ⟨g, 0, rfl, ?_⟩⟩
    have hcell : ∀ j, j < l.length * 3 → w.cell? ⟨g, j, none⟩ = some (cellOf l j) := by
      intro j hj
      have h1 : w.cell? ⟨g, j, none⟩ = cur[j]? := by simp [World.cell?, hh]
      rw [h1]
      have h2 : (cur.toList.take (l.length * 3))[j]? = some (cellOf l j) := by
        rw [htake]; simp [cellsTo, List.getElem?_map, List.getElem?_range hj]
      rw [List.getElem?_take_of_lt hj] at h2
      simpa using h2
    intro i hi
    refine ⟨?_, ?_, ?_⟩
    · rw [Nat.zero_add, hcell _ (by omega), cellOf_0 l hi]
    · rw [Nat.zero_add, hcell _ (by omega), cellOf_1 l hi]
    · rw [Nat.zero_add, hcell _ (by omega), cellOf_2 l hi]

end Go.Proofs.YtmebcdpdpcpnmabDoor

namespace Go.Proofs.YtmebcdpdpcpnmabDoor
open Go.RowKit

theorem own_below {w w' : World} {base e size n m : Nat} {v : Value} {xs : List Value} (h : w.ownsRow base e size v n xs) (hb : Below m w w') (hm : ∀ k, v.ownBlock = some k → k < m) : w'.ownsRow base e size v n xs := by
  refine ⟨h.1, ?_⟩
  rcases h.2 with h0 | ⟨g, cap, cur, rfl, hg, hh, hr⟩
  · exact .inl h0
  · exact .inr ⟨g, cap, cur, rfl, hg, (hb.block g (hm g rfl)).trans hh, hr⟩
theorem own_kind {w : World} {base e size n : Nat} {v : Value} {xs : List Value} (h : w.ownsRow base e size v n xs) {g : Nat} (hg : v.ownBlock = some g) : ∃ c, w.heap[g]? = some (.cells c e (0, 0)) := by
  rcases h.2 with ⟨rfl, _⟩ | ⟨g', cap, cur, rfl, _, hh, _⟩
  · simp [Value.ownBlock] at hg
  · have : g' = g := by simpa [Value.ownBlock] using hg
    subst this
    exact ⟨cur, hh⟩
/-- a row of numbers is no row of lists -/
theorem row_far {w : World} {base b n k : Nat} {v : Value} {xs : List Value} {f : Nat → Value} (h : w.rowIs b 3 n f) (ho : w.ownsRow base 27 1 v k xs) : some b ≠ v.ownBlock := by
  intro e
  obtain ⟨c, hc⟩ := own_kind ho e.symm
  obtain ⟨c', hc', _⟩ := h
  rw [hc] at hc'
  simp at hc'
theorem row_grown {w w' : World} {base b n k : Nat} {v : Value} {xs : List Value} {f : Nat → Value} (h : w.rowIs b 3 n f) (ho : w.ownsRow base 27 1 v k xs) (hg : w.grownBy w' v.ownBlock) : w'.rowIs b 3 n f :=
  h.of_block (hg.block b h.lt (row_far h ho))

/-- what else lies there and stays as it is: some blocks, and the first cell of the World's box -/
structure Gst where
  X : Nat → Prop
  H : Nat → Option Obj
  v0 : Value
/-- what the World's box holds: the row of the lists that came out, and the row of those that they must read as -/
structure Pt (G : Gst) (w : World) (B : Nat) (vo : Value) (m1 : Nat) (xs : List Value) (vw : Value) (m2 : Nat) (ys : List Value) : Prop where
  c0 : w.cell? ⟨B, 0, none⟩ = some G.v0
  f0 : w.frozen? ⟨B, 0, none⟩ = false
  c1 : w.cell? ⟨B, 1, none⟩ = some vo
  c2 : w.cell? ⟨B, 2, none⟩ = some vw
  f1 : w.frozen? ⟨B, 1, none⟩ = false
  f2 : w.frozen? ⟨B, 2, none⟩ = false
  own1 : w.ownsRow (B + 1) 27 1 vo m1 xs
  own2 : w.ownsRow (B + 1) 27 1 vw m2 ys
  sep : ∀ k, vo.ownBlock = some k → vw.ownBlock ≠ some k
  gst : ∀ k, G.X k → k < w.heap.size ∧ w.heap[k]? = G.H k ∧ k ≠ B ∧ vo.ownBlock ≠ some k ∧ vw.ownBlock ≠ some k

section
variable {G : Gst} {w w' : World} {B m1 m2 : Nat} {vo vw : Value} {xs ys : List Value}

theorem Pt.lt (h : Pt G w B vo m1 xs vw m2 ys) : B < w.heap.size := blk_lt h.c1
theorem Pt.below (h : Pt G w B vo m1 xs vw m2 ys) (hb : Below w.heap.size w w') : Pt G w' B vo m1 xs vw m2 ys :=
  ⟨(hb.cell (p := ⟨B, 0, none⟩) h.lt).trans h.c0, (hb.frozen (p := ⟨B, 0, none⟩) h.lt).trans h.f0, (hb.cell (p := ⟨B, 1, none⟩) h.lt).trans h.c1, (hb.cell (p := ⟨B, 2, none⟩) h.lt).trans h.c2, (hb.frozen (p := ⟨B, 1, none⟩) h.lt).trans h.f1, (hb.frozen (p := ⟨B, 2, none⟩) h.lt).trans h.f2,
    own_below h.own1 hb (fun k hk => (h.own1.lt k hk).2), own_below h.own2 hb (fun k hk => (h.own2.lt k hk).2), h.sep, fun k hk => ⟨Nat.lt_of_lt_of_le (h.gst k hk).1 hb.size, (hb.block k (h.gst k hk).1).trans (h.gst k hk).2.1, (h.gst k hk).2.2⟩⟩
theorem Pt.alloc (h : Pt G w B vo m1 xs vw m2 ys) (o : Obj) : Pt G (w.alloc o) B vo m1 xs vw m2 ys := h.below ((Below.refl _ _).alloc (Nat.le_refl _) o)
theorem Pt.far1 (h : Pt G w B vo m1 xs vw m2 ys) : some B ≠ vo.ownBlock := fun e => by have := (h.own1.lt B e.symm).1; omega
theorem Pt.far2 (h : Pt G w B vo m1 xs vw m2 ys) : some B ≠ vw.ownBlock := fun e => by have := (h.own2.lt B e.symm).1; omega
/-- behind an append to the first row: the box is as it was -/
theorem Pt.mid1 (h : Pt G w B vo m1 xs vw m2 ys) (hg : w.grownBy w' vo.ownBlock) : w'.cell? ⟨B, 1, none⟩ = some vo ∧ w'.frozen? ⟨B, 1, none⟩ = false ∧ w'.cell? ⟨B, 2, none⟩ = some vw ∧ w'.frozen? ⟨B, 2, none⟩ = false :=
  ⟨(hg.cell_far ⟨B, 1, none⟩ h.lt h.far1).trans h.c1, (hg.frozen_far ⟨B, 1, none⟩ h.lt h.far1).trans h.f1, (hg.cell_far ⟨B, 2, none⟩ h.lt h.far1).trans h.c2, (hg.frozen_far ⟨B, 2, none⟩ h.lt h.far1).trans h.f2⟩
theorem Pt.mid2 (h : Pt G w B vo m1 xs vw m2 ys) (hg : w.grownBy w' vw.ownBlock) : w'.cell? ⟨B, 1, none⟩ = some vo ∧ w'.frozen? ⟨B, 1, none⟩ = false ∧ w'.cell? ⟨B, 2, none⟩ = some vw ∧ w'.frozen? ⟨B, 2, none⟩ = false :=
  ⟨(hg.cell_far ⟨B, 1, none⟩ h.lt h.far2).trans h.c1, (hg.frozen_far ⟨B, 1, none⟩ h.lt h.far2).trans h.f1, (hg.cell_far ⟨B, 2, none⟩ h.lt h.far2).trans h.c2, (hg.frozen_far ⟨B, 2, none⟩ h.lt h.far2).trans h.f2⟩
theorem Pt.app1 (h : Pt G w B vo m1 xs vw m2 ys) {gg n cap : Nat} {zs : List Value} (hg : w.grownBy w' vo.ownBlock) (ho : w'.ownsRow (B + 1) 27 1 (.slice (some ⟨gg, 0, none⟩) n cap) n zs) (hat : vo.ownBlock = some gg ∨ gg = w.heap.size) :
    Pt G (w'.setCell ⟨B, 1, none⟩ (.slice (some ⟨gg, 0, none⟩) n cap)) B (.slice (some ⟨gg, 0, none⟩) n cap) n zs vw m2 ys := by
  obtain ⟨a1, a2, a3, a4⟩ := h.mid1 hg
  have a5 : w'.cell? ⟨B, 0, none⟩ = some G.v0 := (hg.cell_far ⟨B, 0, none⟩ h.lt h.far1).trans h.c0
  have a6 : w'.frozen? ⟨B, 0, none⟩ = false := (hg.frozen_far ⟨B, 0, none⟩ h.lt h.far1).trans h.f0
  refine ⟨cell_set_ne (by omega) a5, by simpa using a6, cell_set_same a1, cell_set_ne (by omega) a3, by simpa using a2, by simpa using a4, ownsRow_setCell_below ho (by simp) _, ownsRow_setCell_below (h.own2.kept hg ?_) (by simp) _, ?_, fun k hk => ?_⟩
  · cases hv : vw.ownBlock with
    | none => exact .inl rfl
    | some k => exact .inr (fun e => h.sep k e.symm hv)
  · intro k hk
    have : gg = k := by simpa [Value.ownBlock] using hk
    subst this
    rcases hat with hat | hat
    · exact h.sep _ hat
    · intro e
      have := (h.own2.lt _ e).2
      omega
  · obtain ⟨x1, x2, x3, x4, x5⟩ := h.gst k hk
    refine ⟨by have := hg.size; simpa using (by omega : k < w'.heap.size), (Below.heap_setCell w' _ _ k x3).trans ((hg.block k x1 (fun e => x4 e.symm)).trans x2), x3, fun e => ?_, x5⟩
    have e' : gg = k := by simpa [Value.ownBlock] using e
    rcases hat with hat | hat
    · exact x4 (e' ▸ hat)
    · omega
theorem Pt.app2 (h : Pt G w B vo m1 xs vw m2 ys) {gg n cap : Nat} {zs : List Value} (hg : w.grownBy w' vw.ownBlock) (ho : w'.ownsRow (B + 1) 27 1 (.slice (some ⟨gg, 0, none⟩) n cap) n zs) (hat : vw.ownBlock = some gg ∨ gg = w.heap.size) :
    Pt G (w'.setCell ⟨B, 2, none⟩ (.slice (some ⟨gg, 0, none⟩) n cap)) B vo m1 xs (.slice (some ⟨gg, 0, none⟩) n cap) n zs := by
  obtain ⟨a1, a2, a3, a4⟩ := h.mid2 hg
  have a5 : w'.cell? ⟨B, 0, none⟩ = some G.v0 := (hg.cell_far ⟨B, 0, none⟩ h.lt h.far2).trans h.c0
  have a6 : w'.frozen? ⟨B, 0, none⟩ = false := (hg.frozen_far ⟨B, 0, none⟩ h.lt h.far2).trans h.f0
  refine ⟨cell_set_ne (by omega) a5, by simpa using a6, cell_set_ne (by omega) a1, cell_set_same a3, by simpa using a2, by simpa using a4, ownsRow_setCell_below (h.own1.kept hg ?_) (by simp) _, ownsRow_setCell_below ho (by simp) _, ?_, fun k hk => ?_⟩
  · cases hv : vo.ownBlock with
    | none => exact .inl rfl
    | some k => exact .inr (fun e => h.sep k hv e.symm)
  · intro k hk e
    have : gg = k := by simpa [Value.ownBlock] using e
    subst this
    rcases hat with hat | hat
    · exact h.sep _ hk hat
    · have := (h.own1.lt _ hk).2
      omega
  · obtain ⟨x1, x2, x3, x4, x5⟩ := h.gst k hk
    refine ⟨by have := hg.size; simpa using (by omega : k < w'.heap.size), (Below.heap_setCell w' _ _ k x3).trans ((hg.block k x1 (fun e => x5 e.symm)).trans x2), x3, x4, fun e => ?_⟩
    have e' : gg = k := by simpa [Value.ownBlock] using e
    rcases hat with hat | hat
    · exact x5 (e' ▸ hat)
    · omega
/-- a store into a row of numbers leaves the box as it is -/
theorem Pt.setRow (h : Pt G w B vo m1 xs vw m2 ys) {g n j : Nat} {f : Nat → Value} (hr : w.rowIs g 3 n f) (hB : B < g) (hX : ¬ G.X g) (u : Value) : Pt G (w.setCell ⟨g, j, none⟩ u) B vo m1 xs vw m2 ys := by
  have hblk : ∀ k, k ≠ g → (w.setCell ⟨g, j, none⟩ u).heap[k]? = w.heap[k]? := fun k hk => Below.heap_setCell w _ u k hk
  have hown : ∀ {v : Value} {m : Nat} {zs : List Value}, w.ownsRow (B + 1) 27 1 v m zs → (w.setCell ⟨g, j, none⟩ u).ownsRow (B + 1) 27 1 v m zs := by
    intro v m zs ho
    have hf := row_far hr ho
    refine ⟨ho.1, ?_⟩
    rcases ho.2 with h0 | ⟨g', cap, cur, rfl, hg, hh, hr'⟩
    · exact .inl h0
    · exact .inr ⟨g', cap, cur, rfl, hg, (hblk g' (fun e => hf (by rw [e]; rfl))).trans hh, hr'⟩
  exact ⟨cell_set_ne (by omega) h.c0, by simpa using h.f0, cell_set_ne (by omega) h.c1, cell_set_ne (by omega) h.c2, by simpa using h.f1, by simpa using h.f2, hown h.own1, hown h.own2, h.sep,
    fun k hk => ⟨by simpa using (h.gst k hk).1, (hblk k (fun e => hX (e ▸ hk))).trans (h.gst k hk).2.1, (h.gst k hk).2.2⟩⟩
end

end Go.Proofs.YtmebcdpdpcpnmabDoor
