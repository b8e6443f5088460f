import Derived.Test.YtmebcdpdpcpnmaaGreatDoorG1
import Derived.StillTactics
import Derived.OwnWalk
import Derived.Laws.Pointers
import Derived.Deep.RegionHeld3
import Derived.Deep.AppendLies
namespace Go.Proofs.YtmebcdpdpcpnmaaGreatDoor
open Go.RowKit

theorem Tryz.infoRef : (Tryz.prog.info? 120).map (fun i => (i.zero, i.size, i.bytes)) = some (some (.agg #[.bool false, .int .i64 0, .int .i64 0]), 3, 24) := by kernel_rfl

/-- the cells of the first k orders -/
def cellsTo (l : List Mk.Ord) (k : Nat) : List Value := (List.range (k * 3)).map (cellOf l)
theorem cellsTo_succ (l : List Mk.Ord) (k : Nat) (hk : k < l.length) : cellsTo l (k + 1) = cellsTo l k ++ [.bool l[k].sell, .int .i64 l[k].price, .int .i64 l[k].qty] := by
  unfold cellsTo
  rw [show (k + 1) * 3 = k * 3 + 1 + 1 + 1 by omega, List.range_succ, List.range_succ, List.range_succ]
  simp [cellOf_0 l hk, cellOf_1 l hk, cellOf_2 l hk]

theorem own_far {w : World} {base e size : Nat} {v : Value} {n : Nat} {xs : List Value} (h : w.ownsRow base e size v n xs) {b : Nat} (hb : b < base) : v.ownBlock ≠ some b := by
  rcases h.2 with ⟨rfl, _⟩ | ⟨g, cap, cur, rfl, hg, _⟩
  · simp [Value.ownBlock]
  · simp [Value.ownBlock]; omega
theorem own_ge {w : World} {base e size : Nat} {v : Value} {n : Nat} {xs : List Value} (h : w.ownsRow base e size v n xs) (k : Nat) (hk : v.ownBlock = some k) : base ≤ k := by
  apply Classical.byContradiction
  intro hlt
  exact own_far h (by omega) hk

set_option maxRecDepth 100000 in
set_option maxHeartbeats 3200000 in
theorem theirs_some (b off cap : Nat) (l : List Mk.Ord) (w : World) (hn : l.length ≤ 1048576) (hR : At w b off l) (hb0 : b < w.heap.size) :
    Calls Tryz.prog 41 #[.slice (some ⟨b, off, none⟩) l.length cap] w fun e w' => ∃ v, e = .returned v ∧ w'.ownsRow w.heap.size 120 3 v l.length (cellsTo l l.length) ∧ Below w.heap.size w w' := by
  obtain ⟨i0, hi0, hz0, hz1, hz2⟩ := info_parts Tryz.infoRef
  have HA : Hid (At w b off l) := hR
  clear hR
  go_enter Tryz.func41, Tryz.ntmps41
  go_wp2
  go_loopw [3, 4] (fun v i wr => ∃ k : Nat, k ≤ l.length ∧ i = .int .i64 k ∧ wr.ownsRow w.heap.size 120 3 v k (cellsTo l k) ∧ Below w.heap.size w wr) (fun _ i _ => l.length - (intOf i).toNat)
  case atStart => exact ⟨0, Nat.zero_le _, rfl, ⟨by simp [cellsTo], .inl ⟨rfl, rfl⟩⟩, Below.refl _ _⟩
  case round =>
    obtain ⟨k, hk, rfl, hown, hb⟩ := hrel
    have Hb : Hid (Below w.heap.size w wr) := hb
    clear hb
    by_cases hlt : k < l.length
    · obtain ⟨c0, c1, c2⟩ := At.below HA.out Hb.out k hlt
      have hob := own_far hown hb0
      have hsz := Hb.out.size
      have hbw : b < wr.heap.size := blk_lt c0
      have hlt0 : (0 : Int) ≤ (k : Int) := Int.natCast_nonneg _
      have hlt' : (k : Int) < (l.length : Int) := by omega
      go_wp2_with fail
      go_region_held3 (fun w' => w'.cell? ⟨b, off + k * 3, none⟩ = some (.bool l[k].sell) ∧ w'.cell? ⟨b, off + k * 3 + 1, none⟩ = some (.int .i64 l[k].price) ∧ w'.cell? ⟨b, off + k * 3 + 2, none⟩ = some (.int .i64 l[k].qty))
        (first
          | go_keep
          | (go_split_ands
             refine ⟨?_, ?_, ?_⟩
             · (rw [hgrow.cell_far _ (by simp; omega) (Ne.symm hob)]; assumption)
             · (rw [hgrow.cell_far _ (by simp; omega) (Ne.symm hob)]; assumption)
             · (rw [hgrow.cell_far _ (by simp; omega) (Ne.symm hob)]; assumption)))
        ((refine step_append_lies _ (by rfl) _ _ _ (by rfl) w.heap.size 120 i0 _ 3 24 Tryz.underlying96 hi0 hz0 hz1 hz2 rfl (by omega) _ k (cellsTo l k) (by rfl) ((hown.alloc _).drew)
            ⟨wr.heap.size, 0, none⟩ 1 1 [.bool l[k].sell, .int .i64 l[k].price, .int .i64 l[k].qty] (by rfl) (by rfl) (World.news_of_block (cs := #[.bool l[k].sell, .int .i64 l[k].price, .int .i64 l[k].qty]) (t := 120) (fr := (0, 0)) (heap_alloc_new wr _)) (by simp [Value.oneCell'])
            (by omega) (by unfold maxLen; omega) (by omega) (by simp; omega) (wr.heap.size + 1) (by simp) ?_; intro gg cap' w1 hown1 hgrow hat hlt1))
      go_wp2
      go_roundw
      case rel => exact ⟨k + 1, by omega, by go_num, by rw [cellsTo_succ l k hlt]; exact hown1, Below.grown ((Hb.out.alloc hsz _).drew) hgrow (by simp; omega) (fun j hj => own_ge hown j hj)⟩
      case measure => simp [intOf]; omega
    · obtain rfl : k = l.length := by omega
      go_wp2
      go_ret
      exact ⟨_, rfl, hown, Hb.out⟩

set_option maxHeartbeats 1000000 in
theorem theirs_nil (a : Option Addr) (cap : Nat) (w : World) :
    Calls Tryz.prog 41 #[.slice a 0 cap] w fun e w' => e = .returned (.slice none 0 0) ∧ Below w.heap.size w w' := by
  go_enter Tryz.func41, Tryz.ntmps41
  go_wp2
  go_loop [3, 4] (fun v i => i = .int .i64 0 ∧ v = .slice none 0 0) (fun _ i => 0)
  case atStart => exact ⟨rfl, rfl⟩
  case round =>
    obtain ⟨rfl, rfl⟩ := hrel
    go_wp2
    go_ret
    exact ⟨rfl, Below.refl _ _⟩

/-- an owned row of the orders' cells, as a slice that reads as the orders -/
theorem rd_of_own {w : World} {base e : Nat} {v : Value} {l : List Mk.Ord} (h : w.ownsRow base e 3 v l.length (cellsTo l l.length)) : ∃ a cap, v = .slice a l.length cap ∧ Rd w a l := by
  rcases h.2 with ⟨rfl, h0⟩ | ⟨g, cap, cur, rfl, hg, hh, hc1, hc2, hsz, htake⟩
  · rw [h0]
    exact ⟨none, 0, rfl, .inl (List.eq_nil_of_length_eq_zero h0)⟩
  · refine ⟨_, cap, rfl, .inr ⟨g, 0, rfl, ?_⟩⟩
    have hcell : ∀ j, j < l.length * 3 → w.cell? ⟨g, j, none⟩ = some (cellOf l j) := by
      intro j hj
      have h1 : w.cell? ⟨g, j, none⟩ = cur[j]? := by simp [World.cell?, hh]
      rw [h1]
      have h2 : (cur.toList.take (l.length * 3))[j]? = some (cellOf l j) := by
        rw [htake]; simp [cellsTo, List.getElem?_map, List.getElem?_range hj]
      rw [List.getElem?_take_of_lt hj] at h2
      simpa using h2
    intro i hi
    refine ⟨?_, ?_, ?_⟩
    · rw [Nat.zero_add, hcell _ (by omega), cellOf_0 l hi]
    · rw [Nat.zero_add, hcell _ (by omega), cellOf_1 l hi]
    · rw [Nat.zero_add, hcell _ (by omega), cellOf_2 l hi]

theorem theirs_any (a : Option Addr) (cap : Nat) (l : List Mk.Ord) (w : World) (hn : l.length ≤ 1048576) (hR : Rd w a l) :
    Calls Tryz.prog 41 #[.slice a l.length cap] w fun e w' => ∃ a' cap', e = .returned (.slice a' l.length cap') ∧ Rd w' a' l ∧ Below w.heap.size w w' := by
  rcases hR with rfl | ⟨b, off, rfl, hR⟩
  · refine (theirs_nil a cap w).mono ?_
    rintro e w' ⟨rfl, hb⟩
    exact ⟨none, 0, rfl, .inl rfl, hb⟩
  · by_cases hl : l = []
    · subst hl
      refine (theirs_nil _ cap w).mono ?_
      rintro e w' ⟨rfl, hb⟩
      exact ⟨none, 0, rfl, .inl rfl, hb⟩
    · have hpos : 0 < l.length := List.length_pos_iff.2 hl
      refine (theirs_some b off cap l w hn hR (blk_lt (hR 0 hpos).1)).mono ?_
      rintro e w' ⟨v, rfl, hown, hb⟩
      obtain ⟨a', cap', rfl, hR'⟩ := rd_of_own hown
      exact ⟨a', cap', rfl, hR', hb⟩

end Go.Proofs.YtmebcdpdpcpnmaaGreatDoor
