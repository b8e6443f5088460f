import Derived.Test.YtljeahgpkeohlaaGreatDoorJ3
import Derived.Laws.CopyRow
import Derived.Laws.CopyOwn
import Derived.StillTactics
import Derived.OwnWalk
import Derived.Laws.Pointers
import Derived.Deep.RegionHeld3
import Derived.Deep.AppendLies
import Derived.Test.YtljeahgpkeohlaaGreatDoorJ6
namespace Go.Proofs.YtljeahgpkeohlaaGreatDoor
open Go.RowKit

/-- cell j of the orders l, laid one behind the other -/
def cellOf (l : List Mk.Ord) (j : Nat) : Value :=
  if j % 3 = 0 then .bool (l.getD (j / 3) Mk.ozero).sell else if j % 3 = 1 then .int .i64 (l.getD (j / 3) Mk.ozero).price else .int .i64 (l.getD (j / 3) Mk.ozero).qty

theorem cellOf_one (l : List Mk.Ord) (j : Nat) : (cellOf l j).oneCell' = true := by
  unfold cellOf; split
  · rfl
  · split <;> rfl
theorem cellOf_0 (l : List Mk.Ord) {i : Nat} (h : i < l.length) : cellOf l (i * 3) = .bool l[i].sell := by
  unfold cellOf
  rw [if_pos (by omega), show i * 3 / 3 = i by omega, Mk.getD_at h]
theorem cellOf_1 (l : List Mk.Ord) {i : Nat} (h : i < l.length) : cellOf l (i * 3 + 1) = .int .i64 l[i].price := by
  unfold cellOf
  rw [if_neg (by omega), if_pos (by omega), show (i * 3 + 1) / 3 = i by omega, Mk.getD_at h]
theorem cellOf_2 (l : List Mk.Ord) {i : Nat} (h : i < l.length) : cellOf l (i * 3 + 1 + 1) = .int .i64 l[i].qty := by
  unfold cellOf
  rw [if_neg (by omega), if_neg (by omega), show (i * 3 + 1 + 1) / 3 = i by omega, Mk.getD_at h]

theorem At.cell {w : World} {b off : Nat} {l : List Mk.Ord} (h : At w b off l) {j : Nat} (hj : j < l.length * 3) : w.cell? ⟨b, off + j, none⟩ = some (cellOf l j) := by
  have hi : j / 3 < l.length := by omega
  obtain ⟨c0, c1, c2⟩ := h (j / 3) hi
  obtain h3 | h3 | h3 : j = j / 3 * 3 ∨ j = j / 3 * 3 + 1 ∨ j = j / 3 * 3 + 1 + 1 := by omega
  · have e := cellOf_0 l hi
    rw [← h3] at e c0
    rw [e]; exact c0
  · have e := cellOf_1 l hi
    rw [← h3] at e
    rw [e]
    have : off + j = off + j / 3 * 3 + 1 := by omega
    rw [this]; exact c1
  · have e := cellOf_2 l hi
    rw [← h3] at e
    rw [e]
    have : off + j = off + j / 3 * 3 + 1 + 1 := by omega
    rw [this]; exact c2

/-- a row of cells whose head is the orders l -/
theorem at_of_row {w : World} {g m t : Nat} {f : Nat → Value} {l : List Mk.Ord} (h : w.rowIs g t m f) (hm : l.length * 3 ≤ m) (hf : ∀ j, j < l.length * 3 → f j = cellOf l j) : At w g 0 l := by
  intro i hi
  refine ⟨?_, ?_, ?_⟩
  · rw [Nat.zero_add, h.cell (by omega), hf _ (by omega), cellOf_0 l hi]
  · rw [Nat.zero_add, h.cell (by omega), hf _ (by omega), cellOf_1 l hi]
  · rw [Nat.zero_add, h.cell (by omega), hf _ (by omega), cellOf_2 l hi]

theorem Tryz.infoOrder : (Tryz.prog.info? 121).map (fun i => (i.zero, i.size, i.bytes)) = some (some (.agg #[.bool false, .int .i64 0, .int .i64 0]), 3, 24) := by kernel_rfl

/-- make([]api.Order, n): a new row of 3 n cells -/
theorem make_orders (w : World) (n : Nat) (hn : n ≤ 2000000) :
    ∃ W, (Instr.makeSlice 31 (.int .i64 (n : Int)) (.int .i64 (n : Int))).run Tryz.prog w = .ok (.slice (some ⟨w.heap.size, 0, none⟩) n n) W ∧
      Below w.heap.size w W ∧ w.heap.size < W.heap.size ∧ ∃ f, W.rowIs w.heap.size 121 (n * 3) f := by
  obtain ⟨i, hi, hzz⟩ := Option.map_eq_some_iff.1 Tryz.infoOrder
  simp only [Prod.mk.injEq] at hzz
  obtain ⟨hz, hs, hb⟩ := hzz
  have hr := run_make (P := Tryz.prog) w 31 121 i _ Tryz.underlying31 hi hz .i64 .i64 n n (by omega) (Int.le_refl _) (by rw [hb]; omega) (by omega)
  rw [hs] at hr
  simp only [Int.toNat_natCast] at hr
  refine ⟨_, hr, (Below.refl _ _).alloc (Nat.le_refl _) _, by simp, ?_⟩
  have hsz := size_madeCells (Value.agg #[.bool false, .int .i64 0, .int .i64 0]).cells (n * 3)
  have := World.rowIs_alloc w (madeCells (Value.agg #[.bool false, .int .i64 0, .int .i64 0]).cells (n * 3)) 121 (fun i => (madeCells (Value.agg #[.bool false, .int .i64 0, .int .i64 0]).cells (n * 3))[i]?.getD undef) (fun i hi => by rw [Array.getElem?_eq_getElem hi]; rfl)
  rw [hsz] at this
  exact ⟨_, this⟩

/-- copy(dst, src), both of orders: dst a row of the call's own with room for all -/
theorem copy_orders (w : World) (g m dLen dCap : Nat) (f : Nat → Value) (b off cap : Nat) (l : List Mk.Ord) (hg : w.rowIs g 121 m f) (hd : l.length ≤ dLen) (hm : l.length * 3 ≤ m) (hA : At w b off l) :
    ∃ W, (∀ ty, (Builtin.copy_ #[31, 31] ty #[.slice (some ⟨g, 0, none⟩) dLen dCap, .slice (some ⟨b, off, none⟩) l.length cap]).run Tryz.prog w = .ok (.int .i64 (l.length : Int)) W) ∧
      (∀ B, B ≤ g → Below B w W) ∧ W.rowIs g 121 m (fun j => if j < l.length * 3 then cellOf l j else f j) := by
  obtain ⟨cur, hcur, hsz, hc⟩ := hg
  let cs : List Value := (List.range (l.length * 3)).map (cellOf l)
  have hlen : cs.length = l.length * 3 := by simp [cs]
  have hcs : ∀ j v, cs[j]? = some v → j < l.length * 3 ∧ v = cellOf l j := by
    intro j v h
    have hj : j < cs.length := by
      apply Classical.byContradiction
      intro h'
      rw [List.getElem?_eq_none (by omega)] at h
      cases h
    rw [hlen] at hj
    refine ⟨hj, ?_⟩
    simp [cs, List.getElem?_map, List.getElem?_range hj] at h
    exact h.symm
  have hsrc : ∀ j v, cs[j]? = some v → w.cell? ((⟨b, off, none⟩ : Addr).add j) = some v := by
    intro j v h
    obtain ⟨hj, rfl⟩ := hcs j v h
    have : (⟨b, off, none⟩ : Addr).add j = ⟨b, off + j, none⟩ := by unfold Addr.add; split <;> simp_all
    rw [this]; exact hA.cell hj
  have h1 : ∀ v ∈ cs, v.oneCell' = true := by
    intro v hv
    simp only [cs, List.mem_map] at hv
    obtain ⟨j, _, rfl⟩ := hv
    exact cellOf_one l j
  have hl' := run_loadCells_list (P := Tryz.prog) w ⟨b, off, none⟩ cs hsrc
  have hst := run_storeCells_at Tryz.prog g 0 121 cs 0 cur w hcur (by rw [hlen, hsz]; omega) h1
  obtain ⟨i, hi, hzz⟩ := Option.map_eq_some_iff.1 Tryz.infoOrder
  simp only [Prod.mk.injEq] at hzz
  obtain ⟨hz, hs, hb⟩ := hzz
  refine ⟨w.setRow g (cur.toList.take (0 + 0) ++ cs ++ cur.toList.drop (0 + 0 + cs.length)).toArray, fun ty => ?_, fun B hB => below_setRow (Below.refl _ _) hB _, ?_⟩
  · have hmin : Nat.min l.length dLen = l.length := Nat.min_eq_left hd
    rw [hlen] at hl'
    simp [Builtin.copy_, run_underlying Tryz.underlying31, Builtin.lenOf, Builtin.firstCells, sizeOf, typeInfo, hi, hs, hmin, hl', hst, goInt]
  · refine ⟨_, setRow_heap w g cur _ _ _ hcur, by simp [hlen, hsz]; omega, fun j hj => ?_⟩
    simp only [Nat.add_zero, Nat.zero_add, List.take_zero, List.nil_append, List.getElem?_toArray]
    by_cases h : j < l.length * 3
    · rw [if_pos h, List.getElem?_append_left (by omega)]
      simp [cs, List.getElem?_map, List.getElem?_range h]
    · rw [if_neg h, List.getElem?_append_right (by omega), List.getElem?_drop, hlen]
      rw [show l.length * 3 + (j - l.length * 3) = j by omega]
      have := hc j hj
      simpa using this

end Go.Proofs.YtljeahgpkeohlaaGreatDoor

namespace Go.Proofs.YtljeahgpkeohlaaGreatDoor
open Go.RowKit

theorem Tryz.infoRef : (Tryz.prog.info? 118).map (fun i => (i.zero, i.size, i.bytes)) = some (some (.agg #[.bool false, .int .i64 0, .int .i64 0]), 3, 24) := by kernel_rfl

/-- the cells of the first k orders -/
def cellsTo (l : List Mk.Ord) (k : Nat) : List Value := (List.range (k * 3)).map (cellOf l)
theorem cellsTo_succ (l : List Mk.Ord) (k : Nat) (hk : k < l.length) : cellsTo l (k + 1) = cellsTo l k ++ [.bool l[k].sell, .int .i64 l[k].price, .int .i64 l[k].qty] := by
  unfold cellsTo
  rw [show (k + 1) * 3 = k * 3 + 1 + 1 + 1 by omega, List.range_succ, List.range_succ, List.range_succ]
  simp [cellOf_0 l hk, cellOf_1 l hk, cellOf_2 l hk]

theorem own_far {w : World} {base e size : Nat} {v : Value} {n : Nat} {xs : List Value} (h : w.ownsRow base e size v n xs) {b : Nat} (hb : b < base) : v.ownBlock ≠ some b := by
  rcases h.2 with ⟨rfl, _⟩ | ⟨g, cap, cur, rfl, hg, _⟩
  · simp [Value.ownBlock]
  · simp [Value.ownBlock]; omega
theorem own_ge {w : World} {base e size : Nat} {v : Value} {n : Nat} {xs : List Value} (h : w.ownsRow base e size v n xs) (k : Nat) (hk : v.ownBlock = some k) : base ≤ k := by
  apply Classical.byContradiction
  intro hlt
  exact own_far h (by omega) hk

set_option maxRecDepth 100000 in
set_option maxHeartbeats 3200000 in
theorem theirs_some (b off cap : Nat) (l : List Mk.Ord) (w : World) (hn : l.length ≤ 1048576) (hR : At w b off l) (hb0 : b < w.heap.size) :
    Calls Tryz.prog 37 #[.slice (some ⟨b, off, none⟩) l.length cap] w fun e w' => ∃ v, e = .returned v ∧ w'.ownsRow w.heap.size 118 3 v l.length (cellsTo l l.length) ∧ Below w.heap.size w w' := by
  obtain ⟨i0, hi0, hz0, hz1, hz2⟩ := info_parts Tryz.infoRef
  have HA : Hid (At w b off l) := hR
  clear hR
  go_enter Tryz.func37, Tryz.ntmps37
  go_wp2
  go_loopw [3, 4] (fun v i wr => ∃ k : Nat, k ≤ l.length ∧ i = .int .i64 k ∧ wr.ownsRow w.heap.size 118 3 v k (cellsTo l k) ∧ Below w.heap.size w wr) (fun _ i _ => l.length - (intOf i).toNat)
  case atStart => exact ⟨0, Nat.zero_le _, rfl, ⟨by simp [cellsTo], .inl ⟨rfl, rfl⟩⟩, Below.refl _ _⟩
  case round =>
    obtain ⟨k, hk, rfl, hown, hb⟩ := hrel
    have Hb : Hid (Below w.heap.size w wr) := hb
    clear hb
    by_cases hlt : k < l.length
    · obtain ⟨c0, c1, c2⟩ := At.below HA.out Hb.out k hlt
      have hob := own_far hown hb0
      have hsz := Hb.out.size
      have hbw : b < wr.heap.size := blk_lt c0
      have hlt0 : (0 : Int) ≤ (k : Int) := Int.natCast_nonneg _
      have hlt' : (k : Int) < (l.length : Int) := by omega
      go_wp2_with fail
      go_region_held3 (fun w' => w'.cell? ⟨b, off + k * 3, none⟩ = some (.bool l[k].sell) ∧ w'.cell? ⟨b, off + k * 3 + 1, none⟩ = some (.int .i64 l[k].price) ∧ w'.cell? ⟨b, off + k * 3 + 2, none⟩ = some (.int .i64 l[k].qty))
        (first
          | go_keep
          | (go_split_ands
             refine ⟨?_, ?_, ?_⟩
             · (rw [hgrow.cell_far _ (by simp; omega) (Ne.symm hob)]; assumption)
             · (rw [hgrow.cell_far _ (by simp; omega) (Ne.symm hob)]; assumption)
             · (rw [hgrow.cell_far _ (by simp; omega) (Ne.symm hob)]; assumption)))
        ((refine step_append_lies _ (by rfl) _ _ _ (by rfl) w.heap.size 118 i0 _ 3 24 Tryz.underlying93 hi0 hz0 hz1 hz2 rfl (by omega) _ k (cellsTo l k) (by rfl) ((hown.alloc _).drew)
            ⟨wr.heap.size, 0, none⟩ 1 1 [.bool l[k].sell, .int .i64 l[k].price, .int .i64 l[k].qty] (by rfl) (by rfl) (World.news_of_block (cs := #[.bool l[k].sell, .int .i64 l[k].price, .int .i64 l[k].qty]) (t := 118) (fr := (0, 0)) (heap_alloc_new wr _)) (by simp [Value.oneCell'])
            (by omega) (by unfold maxLen; omega) (by omega) (by simp; omega) (wr.heap.size + 1) (by simp) ?_; intro gg cap' w1 hown1 hgrow hat hlt1))
      go_wp2
      go_roundw
      case rel => exact ⟨k + 1, by omega, by go_num, by rw [cellsTo_succ l k hlt]; exact hown1, Below.grown ((Hb.out.alloc hsz _).drew) hgrow (by simp; omega) (fun j hj => own_ge hown j hj)⟩
      case measure => simp [intOf]; omega
    · obtain rfl : k = l.length := by omega
      go_wp2
      go_ret
      exact ⟨_, rfl, hown, Hb.out⟩

set_option maxHeartbeats 1000000 in
theorem theirs_nil (a : Option Addr) (cap : Nat) (w : World) :
    Calls Tryz.prog 37 #[.slice a 0 cap] w fun e w' => e = .returned (.slice none 0 0) ∧ Below w.heap.size w w' := by
  go_enter Tryz.func37, Tryz.ntmps37
  go_wp2
  go_loop [3, 4] (fun v i => i = .int .i64 0 ∧ v = .slice none 0 0) (fun _ i => 0)
  case atStart => exact ⟨rfl, rfl⟩
  case round =>
    obtain ⟨rfl, rfl⟩ := hrel
    go_wp2
    go_ret
    exact ⟨rfl, Below.refl _ _⟩

/-- an owned row of the orders' cells, as a slice that reads as the orders -/
theorem rd_of_own {w : World} {base e : Nat} {v : Value} {l : List Mk.Ord} (h : w.ownsRow base e 3 v l.length (cellsTo l l.length)) : ∃ a cap, v = .slice a l.length cap ∧ Rd w a l := by
  rcases h.2 with ⟨rfl, h0⟩ | ⟨g, cap, cur, rfl, hg, hh, hc1, hc2, hsz, htake⟩
  · rw [h0]
    exact ⟨none, 0, rfl, .inl (List.eq_nil_of_length_eq_zero h0)⟩
  · refine ⟨_, cap, rfl, .inr ⟨g, 0, rfl, ?_⟩⟩
    have hcell : ∀ j, j < l.length * 3 → w.cell? ⟨g, j, none⟩ = some (cellOf l j) := by
      intro j hj
      have h1 : w.cell? ⟨g, j, none⟩ = cur[j]? := by simp [World.cell?, hh]
      rw [h1]
      have h2 : (cur.toList.take (l.length * 3))[j]? = some (cellOf l j) := by
        rw [htake]; simp [cellsTo, List.getElem?_map, List.getElem?_range hj]
      rw [List.getElem?_take_of_lt hj] at h2
      simpa using h2
    intro i hi
    refine ⟨?_, ?_, ?_⟩
    · rw [Nat.zero_add, hcell _ (by omega), cellOf_0 l hi]
    · rw [Nat.zero_add, hcell _ (by omega), cellOf_1 l hi]
    · rw [Nat.zero_add, hcell _ (by omega), cellOf_2 l hi]

theorem theirs_any (a : Option Addr) (cap : Nat) (l : List Mk.Ord) (w : World) (hn : l.length ≤ 1048576) (hR : Rd w a l) :
    Calls Tryz.prog 37 #[.slice a l.length cap] w fun e w' => ∃ a' cap', e = .returned (.slice a' l.length cap') ∧ Rd w' a' l ∧ Below w.heap.size w w' := by
  rcases hR with rfl | ⟨b, off, rfl, hR⟩
  · refine (theirs_nil a cap w).mono ?_
    rintro e w' ⟨rfl, hb⟩
    exact ⟨none, 0, rfl, .inl rfl, hb⟩
  · by_cases hl : l = []
    · subst hl
      refine (theirs_nil _ cap w).mono ?_
      rintro e w' ⟨rfl, hb⟩
      exact ⟨none, 0, rfl, .inl rfl, hb⟩
    · have hpos : 0 < l.length := List.length_pos_iff.2 hl
      refine (theirs_some b off cap l w hn hR (blk_lt (hR 0 hpos).1)).mono ?_
      rintro e w' ⟨v, rfl, hown, hb⟩
      obtain ⟨a', cap', rfl, hR'⟩ := rd_of_own hown
      exact ⟨a', cap', rfl, hR', hb⟩

end Go.Proofs.YtljeahgpkeohlaaGreatDoor

namespace Go.Proofs.YtljeahgpkeohlaaGreatDoor
open Go.RowKit

theorem Tryz.infoStr : (Tryz.prog.info? 9).map (fun i => (i.zero, i.size, i.bytes)) = some (some (.string ⟨#[]⟩), 1, 16) := by kernel_rfl

set_option maxRecDepth 100000 in
set_option maxHeartbeats 2000000 in
theorem cut_any (s : ByteArray) (w : World) (hs : s.size ≤ 1000000) :
    Calls Tryz.prog 41 #[.string s] w fun e w' => ∃ v, e = .returned v ∧ w'.ownsRow w.heap.size 9 1 v (Mk.words s).length ((Mk.words s).map .string) ∧ Below w.heap.size w w' := by
  obtain ⟨i0, hi0, hz0, hz1, hz2⟩ := info_parts Tryz.infoStr
  go_enter Tryz.func41, Tryz.ntmps41
  go_wp2
  go_loopw [3, 4, 5] (fun v f j wr => ∃ k : Nat, k ≤ s.size ∧ j = .int .i64 k ∧ f = .int .i64 ((Mk.cutTo s k).2 : Int) ∧ wr.ownsRow w.heap.size 9 1 v (Mk.cutTo s k).1.length ((Mk.cutTo s k).1.map .string) ∧ Below w.heap.size w wr) (fun _ _ j _ => s.size - (intOf j).toNat)
  case atStart => exact ⟨0, Nat.zero_le _, rfl, rfl, ⟨by simp [Mk.cutTo], .inl ⟨rfl, rfl⟩⟩, Below.refl _ _⟩
  case round =>
    obtain ⟨k, hk, rfl, rfl, hown, hb⟩ := hrel
    have Hb : Hid (Below w.heap.size w wr) := hb
    clear hb
    obtain ⟨q1, q2⟩ := Mk.cutTo_le s k
    have q1' : ((Mk.cutTo s k).2 : Int) ≤ (k : Int) := by omega
    have hsz := Hb.out.size
    by_cases hlt : k < s.size
    · have hlt' : (k : Int) < (s.size : Int) := by omega
      have HB : Hid (s[k].toNat = Mk.bt s k) := Mk.bt_at hlt
      by_cases hsp : s[k].toNat = 32
      · have hsp' : ((s[k].toNat : Int) == 32) = true := by rw [beq_iff_eq]; omega
        have HC : Hid (Mk.cutTo s (k + 1) = ((Mk.cutTo s k).1 ++ [s.extract (Mk.cutTo s k).2 k], k + 1)) := Mk.cutTo_yes (by rw [← HB.out]; exact hsp)
        have hle : ((Mk.cutTo s k).2 : Int) ≤ (k : Int) ∧ (k : Int) ≤ (s.size : Int) := by omega
        clear hsp
        go_wp2_with (at_builtin; (refine wpList_append_lies _ rfl _ _ _ rfl w.heap.size 9 i0 _ 1 16 Tryz.underlying25 hi0 hz0 hz1 hz2 rfl (by omega) _ (Mk.cutTo s k).1.length ((Mk.cutTo s k).1.map .string) rfl (hown.alloc _) ⟨wr.heap.size, 0, none⟩ 1 1 [.string (s.extract (Mk.cutTo s k).2 k)] rfl rfl (World.news_of_block (cs := #[.string (s.extract (Mk.cutTo s k).2 k)]) (t := 9) (fr := (0, 0)) (heap_alloc_new wr _)) (by simp [Value.oneCell']) (by omega) (by unfold maxLen; omega) (by omega) (by simp; omega) (wr.heap.size + 1) (by simp) ?_; intro gg cap' w1 hown1 hgrow hat hlt1))
        have HO1 := (show Hid _ from hown1)
        have HB1 : Hid (Below w.heap.size w w1) := Below.grown (Hb.out.alloc hsz _) hgrow (by simp; omega) (fun j hj => own_ge hown j hj)
        clear hown1 hgrow hat hown
        go_wp2
        go_roundw
        case rel =>
          refine ⟨k + 1, by omega, by go_num, by rw [HC.out]; go_num, ?_, HB1.out⟩
          rw [HC.out]
          simp only [List.length_append, List.length_cons, List.length_nil, Nat.zero_add, List.map_append, List.map_cons, List.map_nil]
          exact HO1.out
        case measure => simp [intOf]; omega
      · have hsp' : ((s[k].toNat : Int) == 32) = false := by rw [beq_eq_false_iff_ne]; omega
        have HC : Hid (Mk.cutTo s (k + 1) = Mk.cutTo s k) := Mk.cutTo_no (by rw [← HB.out]; exact hsp)
        have HO1 := (show Hid _ from hown)
        clear hsp hown
        go_wp2
        go_roundw
        case rel =>
          refine ⟨k + 1, by omega, by go_num, by rw [HC.out], ?_, Hb.out⟩
          rw [HC.out]
          exact HO1.out
        case measure => simp [intOf]; omega
    · obtain rfl : k = s.size := by omega
      have HW : Hid (Mk.words s = (Mk.cutTo s s.size).1 ++ [s.extract (Mk.cutTo s s.size).2 s.size]) := rfl
      go_wp2_with (at_builtin; (refine wpList_append_lies _ rfl _ _ _ rfl w.heap.size 9 i0 _ 1 16 Tryz.underlying25 hi0 hz0 hz1 hz2 rfl (by omega) _ (Mk.cutTo s s.size).1.length ((Mk.cutTo s s.size).1.map .string) rfl (hown.alloc _) ⟨wr.heap.size, 0, none⟩ 1 1 [.string (s.extract (Mk.cutTo s s.size).2 s.size)] rfl rfl (World.news_of_block (cs := #[.string (s.extract (Mk.cutTo s s.size).2 s.size)]) (t := 9) (fr := (0, 0)) (heap_alloc_new wr _)) (by simp [Value.oneCell']) (by omega) (by unfold maxLen; omega) (by omega) (by simp; omega) (wr.heap.size + 1) (by simp) ?_; intro gg cap' w1 hown1 hgrow hat hlt1))
      have HO1 := (show Hid _ from hown1)
      have HB1 : Hid (Below w.heap.size w w1) := Below.grown (Hb.out.alloc hsz _) hgrow (by simp; omega) (fun j hj => own_ge hown j hj)
      clear hown1 hgrow hat hown
      go_wp2
      go_ret
      refine ⟨_, rfl, ?_, HB1.out⟩
      rw [HW.out]
      simp only [List.length_append, List.length_cons, List.length_nil, Nat.zero_add, List.map_append, List.map_cons, List.map_nil]
      exact HO1.out

end Go.Proofs.YtljeahgpkeohlaaGreatDoor

/- Plain mathematics of the document's market: the words of commands. -/
namespace Mk

inductive Wd where
  | pay
  | draw
  | bring
  | fetch
  | buy
  | sell
  | drop
  | mode
  | close

/-- the text of a word -/
def Wd.text : Wd → ByteArray
  | .pay => ⟨#[112, 97, 121]⟩
  | .draw => ⟨#[100, 114, 97, 119]⟩
  | .bring => ⟨#[98, 114, 105, 110, 103]⟩
  | .fetch => ⟨#[102, 101, 116, 99, 104]⟩
  | .buy => ⟨#[98, 117, 121]⟩
  | .sell => ⟨#[115, 101, 108, 108]⟩
  | .drop => ⟨#[100, 114, 111, 112]⟩
  | .mode => ⟨#[109, 111, 100, 101]⟩
  | .close => ⟨#[99, 108, 111, 115, 101]⟩
/-- the least and the greatest of the numbers that belong to a word -/
def Wd.lo : Wd → List Nat
  | .pay => [1]
  | .draw => [1]
  | .bring => [0, 1]
  | .fetch => [0, 1]
  | .buy => [0, 1, 1]
  | .sell => [0, 1, 1]
  | .drop => [0, 0]
  | .mode => [0]
  | .close => [0]
def Wd.hi : Wd → List Nat
  | .pay => [9999]
  | .draw => [9999]
  | .bring => [1, 999]
  | .fetch => [1, 999]
  | .buy => [1, 99, 20]
  | .sell => [1, 99, 20]
  | .drop => [1, 11]
  | .mode => [1]
  | .close => [1]

def isW (s : ByteArray) (d : Wd) : Bool := s.toList == d.text.toList
/-- the word that a text is -/
def wd (s : ByteArray) : Option Wd :=
  if isW s .pay then some .pay else
  if isW s .draw then some .draw else
  if isW s .bring then some .bring else
  if isW s .fetch then some .fetch else
  if isW s .buy then some .buy else
  if isW s .sell then some .sell else
  if isW s .drop then some .drop else
  if isW s .mode then some .mode else
  if isW s .close then some .close else
  none
theorem bytes_eq {a b : ByteArray} (h : a.data.toList = b.data.toList) : a = b := by
  cases a; cases b
  simp at h
  rw [h]
theorem isW_no {s : ByteArray} {d : Wd} (h : wd s = none) : isW s d = false := by
  unfold wd at h
  by_cases hpay : isW s .pay = true
  · rw [if_pos hpay] at h; cases h
  rw [if_neg hpay] at h
  by_cases hdraw : isW s .draw = true
  · rw [if_pos hdraw] at h; cases h
  rw [if_neg hdraw] at h
  by_cases hbring : isW s .bring = true
  · rw [if_pos hbring] at h; cases h
  rw [if_neg hbring] at h
  by_cases hfetch : isW s .fetch = true
  · rw [if_pos hfetch] at h; cases h
  rw [if_neg hfetch] at h
  by_cases hbuy : isW s .buy = true
  · rw [if_pos hbuy] at h; cases h
  rw [if_neg hbuy] at h
  by_cases hsell : isW s .sell = true
  · rw [if_pos hsell] at h; cases h
  rw [if_neg hsell] at h
  by_cases hdrop : isW s .drop = true
  · rw [if_pos hdrop] at h; cases h
  rw [if_neg hdrop] at h
  by_cases hmode : isW s .mode = true
  · rw [if_pos hmode] at h; cases h
  rw [if_neg hmode] at h
  by_cases hclose : isW s .close = true
  · rw [if_pos hclose] at h; cases h
  rw [if_neg hclose] at h
  cases d
  · exact Bool.eq_false_iff.2 hpay
  · exact Bool.eq_false_iff.2 hdraw
  · exact Bool.eq_false_iff.2 hbring
  · exact Bool.eq_false_iff.2 hfetch
  · exact Bool.eq_false_iff.2 hbuy
  · exact Bool.eq_false_iff.2 hsell
  · exact Bool.eq_false_iff.2 hdrop
  · exact Bool.eq_false_iff.2 hmode
  · exact Bool.eq_false_iff.2 hclose
theorem lo_hi (d : Wd) : d.lo.length = d.hi.length ∧ d.lo.length ≤ 3 := by cases d <;> decide

end Mk
