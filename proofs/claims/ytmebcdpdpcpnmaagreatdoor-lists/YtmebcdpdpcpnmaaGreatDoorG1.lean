import Derived.Test.YtmebcdpdpcpnmaaGreatDoorB4
import Derived.Test.YtmebcdpdpcpnmaaGreatDoorPlain7
import Derived.Laws.CopyRow
import Derived.Laws.CopyOwn
namespace Go.Proofs.YtmebcdpdpcpnmaaGreatDoor
open Go.RowKit

/-- cell j of the orders l, laid one behind the other -/
def cellOf (l : List Mk.Ord) (j : Nat) : Value :=
  if j % 3 = 0 then .bool (l.getD (j / 3) Mk.ozero).sell else if j % 3 = 1 then .int .i64 (l.getD (j / 3) Mk.ozero).price else .int .i64 (l.getD (j / 3) Mk.ozero).qty

theorem cellOf_one (l : List Mk.Ord) (j : Nat) : (cellOf l j).oneCell' = true := by
  unfold cellOf; split
  · rfl
  · split <;> rfl
theorem cellOf_0 (l : List Mk.Ord) {i : Nat} (h : i < l.length) : cellOf l (i * 3) = .bool l[i].sell := by
  unfold cellOf
  rw [if_pos (by omega), show i * 3 / 3 = i by omega, Mk.getD_at h]
theorem cellOf_1 (l : List Mk.Ord) {i : Nat} (h : i < l.length) : cellOf l (i * 3 + 1) = .int .i64 l[i].price := by
  unfold cellOf
  rw [if_neg (by omega), if_pos (by omega), show (i * 3 + 1) / 3 = i by omega, Mk.getD_at h]
theorem cellOf_2 (l : List Mk.Ord) {i : Nat} (h : i < l.length) : cellOf l (i * 3 + 1 + 1) = .int .i64 l[i].qty := by
  unfold cellOf
  rw [if_neg (by omega), if_neg (by omega), show (i * 3 + 1 + 1) / 3 = i by omega, Mk.getD_at h]

theorem At.cell {w : World} {b off : Nat} {l : List Mk.Ord} (h : At w b off l) {j : Nat} (hj : j < l.length * 3) : w.cell? ⟨b, off + j, none⟩ = some (cellOf l j) := by
  have hi : j / 3 < l.length := by omega
  obtain ⟨c0, c1, c2⟩ := h (j / 3) hi
  obtain h3 | h3 | h3 : j = j / 3 * 3 ∨ j = j / 3 * 3 + 1 ∨ j = j / 3 * 3 + 1 + 1 := by omega
  · have e := cellOf_0 l hi
    rw [← h3] at e c0
    rw [e]; exact c0
  · have e := cellOf_1 l hi
    rw [← h3] at e
    rw [e]
    have : off + j = off + j / 3 * 3 + 1 := by omega
    rw [this]; exact c1
  · have e := cellOf_2 l hi
    rw [← h3] at e
    rw [e]
    have : off + j = off + j / 3 * 3 + 1 + 1 := by omega
    rw [this]; exact c2

/-- a row of cells whose head is the orders l -/
theorem at_of_row {w : World} {g m t : Nat} {f : Nat → Value} {l : List Mk.Ord} (h : w.rowIs g t m f) (hm : l.length * 3 ≤ m) (hf : ∀ j, j < l.length * 3 → f j = cellOf l j) : At w g 0 l := by
  intro i hi
  refine ⟨?_, ?_, ?_⟩
  · rw [Nat.zero_add, h.cell (by omega), hf _ (by omega), cellOf_0 l hi]
  · rw [Nat.zero_add, h.cell (by omega), hf _ (by omega), cellOf_1 l hi]
  · rw [Nat.zero_add, h.cell (by omega), hf _ (by omega), cellOf_2 l hi]

theorem Tryz.infoOrder : (Tryz.prog.info? 123).map (fun i => (i.zero, i.size, i.bytes)) = some (some (.agg #[.bool false, .int .i64 0, .int .i64 0]), 3, 24) := by kernel_rfl

/-- make([]api.Order, n): a new row of 3 n cells -/
theorem make_orders (w : World) (n : Nat) (hn : n ≤ 2000000) :
    ∃ W, (Instr.makeSlice 31 (.int .i64 (n : Int)) (.int .i64 (n : Int))).run Tryz.prog w = .ok (.slice (some ⟨w.heap.size, 0, none⟩) n n) W ∧
      Below w.heap.size w W ∧ w.heap.size < W.heap.size ∧ ∃ f, W.rowIs w.heap.size 123 (n * 3) f := by
  obtain ⟨i, hi, hzz⟩ := Option.map_eq_some_iff.1 Tryz.infoOrder
  simp only [Prod.mk.injEq] at hzz
  obtain ⟨hz, hs, hb⟩ := hzz
  have hr := run_make (P := Tryz.prog) w 31 123 i _ Tryz.underlying31 hi hz .i64 .i64 n n (by omega) (Int.le_refl _) (by rw [hb]; omega) (by omega)
  rw [hs] at hr
  simp only [Int.toNat_natCast] at hr
  refine ⟨_, hr, (Below.refl _ _).alloc (Nat.le_refl _) _, by simp, ?_⟩
  have hsz := size_madeCells (Value.agg #[.bool false, .int .i64 0, .int .i64 0]).cells (n * 3)
  have := World.rowIs_alloc w (madeCells (Value.agg #[.bool false, .int .i64 0, .int .i64 0]).cells (n * 3)) 123 (fun i => (madeCells (Value.agg #[.bool false, .int .i64 0, .int .i64 0]).cells (n * 3))[i]?.getD undef) (fun i hi => by rw [Array.getElem?_eq_getElem hi]; rfl)
  rw [hsz] at this
  exact ⟨_, this⟩

/-- copy(dst, src), both of orders: dst a row of the call's own with room for all -/
theorem copy_orders (w : World) (g m dLen dCap : Nat) (f : Nat → Value) (b off cap : Nat) (l : List Mk.Ord) (hg : w.rowIs g 123 m f) (hd : l.length ≤ dLen) (hm : l.length * 3 ≤ m) (hA : At w b off l) :
    ∃ W, (∀ ty, (Builtin.copy_ #[31, 31] ty #[.slice (some ⟨g, 0, none⟩) dLen dCap, .slice (some ⟨b, off, none⟩) l.length cap]).run Tryz.prog w = .ok (.int .i64 (l.length : Int)) W) ∧
      (∀ B, B ≤ g → Below B w W) ∧ W.rowIs g 123 m (fun j => if j < l.length * 3 then cellOf l j else f j) := by
  obtain ⟨cur, hcur, hsz, hc⟩ := hg
  let cs : List Value := (List.range (l.length * 3)).map (cellOf l)
  have hlen : cs.length = l.length * 3 := by simp [cs]
  have hcs : ∀ j v, cs[j]? = some v → j < l.length * 3 ∧ v = cellOf l j := by
    intro j v h
    have hj : j < cs.length := by
      apply Classical.byContradiction
      intro h'
      rw [List.getElem?_eq_none (by omega)] at h
      cases h
    rw [hlen] at hj
    refine ⟨hj, ?_⟩
    simp [cs, List.getElem?_map, List.getElem?_range hj] at h
    exact h.symm
  have hsrc : ∀ j v, cs[j]? = some v → w.cell? ((⟨b, off, none⟩ : Addr).add j) = some v := by
    intro j v h
    obtain ⟨hj, rfl⟩ := hcs j v h
    have : (⟨b, off, none⟩ : Addr).add j = ⟨b, off + j, none⟩ := by unfold Addr.add; split <;> simp_all
    rw [this]; exact hA.cell hj
  have h1 : ∀ v ∈ cs, v.oneCell' = true := by
    intro v hv
    simp only [cs, List.mem_map] at hv
    obtain ⟨j, _, rfl⟩ := hv
    exact cellOf_one l j
  have hl' := run_loadCells_list (P := Tryz.prog) w ⟨b, off, none⟩ cs hsrc
  have hst := run_storeCells_at Tryz.prog g 0 123 cs 0 cur w hcur (by rw [hlen, hsz]; omega) h1
  obtain ⟨i, hi, hzz⟩ := Option.map_eq_some_iff.1 Tryz.infoOrder
  simp only [Prod.mk.injEq] at hzz
  obtain ⟨hz, hs, hb⟩ := hzz
  refine ⟨w.setRow g (cur.toList.take (0 + 0) ++ cs ++ cur.toList.drop (0 + 0 + cs.length)).toArray, fun ty => ?_, fun B hB => below_setRow (Below.refl _ _) hB _, ?_⟩
  · have hmin : Nat.min l.length dLen = l.length := Nat.min_eq_left hd
    rw [hlen] at hl'
    simp [Builtin.copy_, run_underlying Tryz.underlying31, Builtin.lenOf, Builtin.firstCells, sizeOf, typeInfo, hi, hs, hmin, hl', hst, goInt]
  · refine ⟨_, setRow_heap w g cur _ _ _ hcur, by simp [hlen, hsz]; omega, fun j hj => ?_⟩
    simp only [Nat.add_zero, Nat.zero_add, List.take_zero, List.nil_append, List.getElem?_toArray]
    by_cases h : j < l.length * 3
    · rw [if_pos h, List.getElem?_append_left (by omega)]
      simp [cs, List.getElem?_map, List.getElem?_range h]
    · rw [if_neg h, List.getElem?_append_right (by omega), List.getElem?_drop, hlen]
      rw [show l.length * 3 + (j - l.length * 3) = j by omega]
      have := hc j hj
      simpa using this

end Go.Proofs.YtmebcdpdpcpnmaaGreatDoor
