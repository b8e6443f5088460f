import Derived.Test.YtmebcdpdpcpnmaaGreatDoorJ6
import Derived.Test.YtmebcdpdpcpnmaaGreatDoorJ5
import Derived.Laws.CopyRow
import Derived.Deep.Cut
import Derived.Laws.OwnMore
namespace Go.Proofs.YtmebcdpdpcpnmaaGreatDoor
open Go.RowKit

theorem Own.spare {w : World} {g : Nat} {l : List Mk.Ord} (h : Own w g (l ++ [o7, o8])) :
    w.cell? ⟨g, l.length * 3, none⟩ = some (.bool false) ∧ w.cell? ⟨g, l.length * 3 + 1, none⟩ = some (.int .i64 7) ∧ w.cell? ⟨g, l.length * 3 + 1 + 1, none⟩ = some (.int .i64 0) ∧
    w.cell? ⟨g, (l.length + 1) * 3, none⟩ = some (.bool false) ∧ w.cell? ⟨g, (l.length + 1) * 3 + 1, none⟩ = some (.int .i64 8) ∧ w.cell? ⟨g, (l.length + 1) * 3 + 1 + 1, none⟩ = some (.int .i64 0) := by
  obtain ⟨a0, a1, a2⟩ := h.at l.length (by simp)
  obtain ⟨b0, b1, b2⟩ := h.at (l.length + 1) (by simp)
  rw [Nat.zero_add] at a0 a1 a2 b0 b1 b2
  rw [get7] at a0 a1 a2
  rw [get8] at b0 b1 b2
  exact ⟨a0, a1, a2, b0, b1, b2⟩
theorem Own.head {w : World} {g : Nat} {l r : List Mk.Ord} (h : Own w g (l ++ r)) : At w g 0 l :=
  at_of_row h (by simp; omega) (fun j hj => cellOf_left l r hj)

set_option maxRecDepth 100000 in
set_option maxHeartbeats 1000000 in
theorem still_some (g b off cap : Nat) (l : List Mk.Ord) (w : World) (hn : l.length ≤ 1048576) (hO : Own w g (l ++ [o7, o8])) (hR : At w b off l) :
    Calls Tryz.prog 40 #[.slice (some ⟨g, 0, none⟩) l.length (l.length + 2), .slice (some ⟨b, off, none⟩) l.length cap] w fun e w' => e = .returned (.bool true) ∧ ∃ m, w' = w.drewN m := by
  have HA : Hid (At w b off l) := hR
  have HG : Hid (At w g 0 l) := hO.head
  obtain ⟨a0, a1, a2, b0, b1, b2⟩ := hO.spare
  clear hO hR
  go_enter Tryz.func40, Tryz.ntmps40
  go_wp2
  go_loopw [7] (fun i wr => ∃ k : Nat, k ≤ l.length ∧ i = .int .i64 k ∧ ∃ m, wr = w.drewN m) (fun i _ => l.length - (intOf i).toNat)
  case atStart => exact ⟨0, Nat.zero_le _, rfl, 0, rfl⟩
  case round =>
    obtain ⟨k, hk, rfl, m, rfl⟩ := hrel
    by_cases hlt : k < l.length
    · obtain ⟨c0, c1, c2⟩ := HA.out k hlt
      obtain ⟨d0, d1, d2⟩ := HG.out k hlt
      rw [Nat.zero_add] at d0 d1 d2
      have hlt' : (k : Int) < (l.length : Int) := by omega
      go_wp2
      go_quiet (fail)
      go_wp2
      go_roundw
      case rel => exact ⟨k + 1, by omega, by go_num, _, rfl⟩
      case measure => simp [intOf]; omega
    · obtain rfl : k = l.length := by omega
      go_wp2
      go_ret
      exact ⟨rfl, _, rfl⟩

set_option maxRecDepth 100000 in
set_option maxHeartbeats 1000000 in
theorem still_nil (g : Nat) (a : Option Addr) (cap : Nat) (w : World) (hO : Own w g [o7, o8]) :
    Calls Tryz.prog 40 #[.slice (some ⟨g, 0, none⟩) 0 2, .slice a 0 cap] w fun e w' => e = .returned (.bool true) ∧ ∃ m, w' = w.drewN m := by
  obtain ⟨a0, a1, a2, b0, b1, b2⟩ := Own.spare (l := []) hO
  simp only [List.length_nil, Nat.zero_mul, Nat.zero_add, Nat.one_mul] at a0 a1 a2 b0 b1 b2
  clear hO
  go_enter Tryz.func40, Tryz.ntmps40
  go_wp2
  go_loop [7] (fun i => i = .int .i64 0) (fun i => 0)
  case atStart => rfl
  case round =>
    subst hrel
    go_wp2
    go_ret
    exact ⟨rfl, 0, rfl⟩

theorem still_any (g : Nat) (a : Option Addr) (cap : Nat) (l : List Mk.Ord) (w : World) (hn : l.length ≤ 1048576) (hO : Own w g (l ++ [o7, o8])) (hR : Rd w a l) :
    Calls Tryz.prog 40 #[.slice (some ⟨g, 0, none⟩) l.length (l.length + 2), .slice a l.length cap] w fun e w' => e = .returned (.bool true) ∧ ∃ m, w' = w.drewN m := by
  rcases hR with rfl | ⟨b, off, rfl, hR⟩
  · exact still_nil g a cap w hO
  · exact still_some g b off cap l w hn hO hR

set_option maxRecDepth 100000 in
set_option maxHeartbeats 1000000 in
theorem same_some (g h n : Nat) (F : Nat → Int) (w : World) (hn : n ≤ 1048576) (h1 : w.rowIs g 3 n (fun i => .int .i64 (F i))) (h2 : w.rowIs h 3 n (fun i => .int .i64 (F i))) :
    Calls Tryz.prog 23 #[.slice (some ⟨g, 0, none⟩) n n, .slice (some ⟨h, 0, none⟩) n n] w fun e w' => e = .returned (.bool true) ∧ ∃ m, w' = w.drewN m := by
  have H1 : Hid (w.rowIs g 3 n (fun i => .int .i64 (F i))) := h1
  have H2 : Hid (w.rowIs h 3 n (fun i => .int .i64 (F i))) := h2
  clear h1 h2
  go_enter Tryz.func23, Tryz.ntmps23
  go_wp2
  go_loopw [5] (fun i wr => ∃ k : Nat, k ≤ n ∧ i = .int .i64 k ∧ ∃ m, wr = w.drewN m) (fun i _ => n - (intOf i).toNat)
  case atStart => exact ⟨0, Nat.zero_le _, rfl, 0, rfl⟩
  case round =>
    obtain ⟨k, hk, rfl, m, rfl⟩ := hrel
    by_cases hlt : k < n
    · have c1 := World.rowIs.cell H1.out hlt
      have c2 := World.rowIs.cell H2.out hlt
      have hlt' : (k : Int) < (n : Int) := by omega
      go_wp2
      go_quiet (fail)
      go_wp2
      go_roundw
      case rel => exact ⟨k + 1, by omega, by go_num, _, rfl⟩
      case measure => simp [intOf]; omega
    · go_wp2
      go_ret
      exact ⟨rfl, _, rfl⟩

set_option maxHeartbeats 1000000 in
theorem same_nil (w : World) :
    Calls Tryz.prog 23 #[.slice none 0 0, .slice none 0 0] w fun e w' => e = .returned (.bool true) ∧ ∃ m, w' = w.drewN m := by
  go_enter Tryz.func23, Tryz.ntmps23
  go_wp2
  go_loop [5] (fun i => i = .int .i64 0) (fun i => 0)
  case atStart => rfl
  case round =>
    subst hrel
    go_wp2
    go_ret
    exact ⟨rfl, 0, rfl⟩

theorem num_any (e : Int) (w : World) : Calls Tryz.prog 20 #[.int .i64 e] w fun x w' => x = .returned (.int .i64 e) ∧ w' = w := by
  go_enter Tryz.func20, Tryz.ntmps20
  go_wp2
  go_ret
  exact ⟨rfl, rfl⟩

end Go.Proofs.YtmebcdpdpcpnmaaGreatDoor

namespace Go.Proofs.YtmebcdpdpcpnmaaGreatDoor
open Go.RowKit

theorem own_below {w w' : World} {base e size n m : Nat} {v : Value} {xs : List Value} (h : w.ownsRow base e size v n xs) (hb : Below m w w') (hm : ∀ k, v.ownBlock = some k → k < m) : w'.ownsRow base e size v n xs := by
  refine ⟨h.1, ?_⟩
  rcases h.2 with h0 | ⟨g, cap, cur, rfl, hg, hh, hr⟩
  · exact .inl h0
  · exact .inr ⟨g, cap, cur, rfl, hg, (hb.block g (hm g rfl)).trans hh, hr⟩
theorem own_kind {w : World} {base e size n : Nat} {v : Value} {xs : List Value} (h : w.ownsRow base e size v n xs) {g : Nat} (hg : v.ownBlock = some g) : ∃ c, w.heap[g]? = some (.cells c e (0, 0)) := by
  rcases h.2 with ⟨rfl, _⟩ | ⟨g', cap, cur, rfl, _, hh, _⟩
  · simp [Value.ownBlock] at hg
  · have : g' = g := by simpa [Value.ownBlock] using hg
    subst this
    exact ⟨cur, hh⟩
/-- a row of numbers is no row of lists -/
theorem row_far {w : World} {base b n k : Nat} {v : Value} {xs : List Value} {f : Nat → Value} (h : w.rowIs b 3 n f) (ho : w.ownsRow base 53 1 v k xs) : some b ≠ v.ownBlock := by
  intro e
  obtain ⟨c, hc⟩ := own_kind ho e.symm
  obtain ⟨c', hc', _⟩ := h
  rw [hc] at hc'
  simp at hc'
theorem row_grown {w w' : World} {base b n k : Nat} {v : Value} {xs : List Value} {f : Nat → Value} (h : w.rowIs b 3 n f) (ho : w.ownsRow base 53 1 v k xs) (hg : w.grownBy w' v.ownBlock) : w'.rowIs b 3 n f :=
  h.of_block (hg.block b h.lt (row_far h ho))

/-- what else lies there and stays as it is: some blocks, and the first cell of the World's box -/
structure Gst where
  X : Nat → Prop
  H : Nat → Option Obj
  v0 : Value
/-- what the World's box holds: the row of the lists that came out, and the row of those that they must read as -/
structure Pt (G : Gst) (w : World) (B : Nat) (vo : Value) (m1 : Nat) (xs : List Value) (vw : Value) (m2 : Nat) (ys : List Value) : Prop where
  c0 : w.cell? ⟨B, 0, none⟩ = some G.v0
  f0 : w.frozen? ⟨B, 0, none⟩ = false
  c1 : w.cell? ⟨B, 1, none⟩ = some vo
  c2 : w.cell? ⟨B, 2, none⟩ = some vw
  f1 : w.frozen? ⟨B, 1, none⟩ = false
  f2 : w.frozen? ⟨B, 2, none⟩ = false
  own1 : w.ownsRow (B + 1) 53 1 vo m1 xs
  own2 : w.ownsRow (B + 1) 53 1 vw m2 ys
  sep : ∀ k, vo.ownBlock = some k → vw.ownBlock ≠ some k
  gst : ∀ k, G.X k → k < w.heap.size ∧ w.heap[k]? = G.H k ∧ k ≠ B ∧ vo.ownBlock ≠ some k ∧ vw.ownBlock ≠ some k

section
variable {G : Gst} {w w' : World} {B m1 m2 : Nat} {vo vw : Value} {xs ys : List Value}

theorem Pt.lt (h : Pt G w B vo m1 xs vw m2 ys) : B < w.heap.size := blk_lt h.c1
theorem Pt.below (h : Pt G w B vo m1 xs vw m2 ys) (hb : Below w.heap.size w w') : Pt G w' B vo m1 xs vw m2 ys :=
  ⟨(hb.cell (p := ⟨B, 0, none⟩) h.lt).trans h.c0, (hb.frozen (p := ⟨B, 0, none⟩) h.lt).trans h.f0, (hb.cell (p := ⟨B, 1, none⟩) h.lt).trans h.c1, (hb.cell (p := ⟨B, 2, none⟩) h.lt).trans h.c2, (hb.frozen (p := ⟨B, 1, none⟩) h.lt).trans h.f1, (hb.frozen (p := ⟨B, 2, none⟩) h.lt).trans h.f2,
    own_below h.own1 hb (fun k hk => (h.own1.lt k hk).2), own_below h.own2 hb (fun k hk => (h.own2.lt k hk).2), h.sep, fun k hk => ⟨Nat.lt_of_lt_of_le (h.gst k hk).1 hb.size, (hb.block k (h.gst k hk).1).trans (h.gst k hk).2.1, (h.gst k hk).2.2⟩⟩
theorem Pt.alloc (h : Pt G w B vo m1 xs vw m2 ys) (o : Obj) : Pt G (w.alloc o) B vo m1 xs vw m2 ys := h.below ((Below.refl _ _).alloc (Nat.le_refl _) o)
theorem Pt.far1 (h : Pt G w B vo m1 xs vw m2 ys) : some B ≠ vo.ownBlock := fun e => by have := (h.own1.lt B e.symm).1; omega
theorem Pt.far2 (h : Pt G w B vo m1 xs vw m2 ys) : some B ≠ vw.ownBlock := fun e => by have := (h.own2.lt B e.symm).1; omega
/-- behind an append to the first row: the box is as it was -/
theorem Pt.mid1 (h : Pt G w B vo m1 xs vw m2 ys) (hg : w.grownBy w' vo.ownBlock) : w'.cell? ⟨B, 1, none⟩ = some vo ∧ w'.frozen? ⟨B, 1, none⟩ = false ∧ w'.cell? ⟨B, 2, none⟩ = some vw ∧ w'.frozen? ⟨B, 2, none⟩ = false :=
  ⟨(hg.cell_far ⟨B, 1, none⟩ h.lt h.far1).trans h.c1, (hg.frozen_far ⟨B, 1, none⟩ h.lt h.far1).trans h.f1, (hg.cell_far ⟨B, 2, none⟩ h.lt h.far1).trans h.c2, (hg.frozen_far ⟨B, 2, none⟩ h.lt h.far1).trans h.f2⟩
theorem Pt.mid2 (h : Pt G w B vo m1 xs vw m2 ys) (hg : w.grownBy w' vw.ownBlock) : w'.cell? ⟨B, 1, none⟩ = some vo ∧ w'.frozen? ⟨B, 1, none⟩ = false ∧ w'.cell? ⟨B, 2, none⟩ = some vw ∧ w'.frozen? ⟨B, 2, none⟩ = false :=
  ⟨(hg.cell_far ⟨B, 1, none⟩ h.lt h.far2).trans h.c1, (hg.frozen_far ⟨B, 1, none⟩ h.lt h.far2).trans h.f1, (hg.cell_far ⟨B, 2, none⟩ h.lt h.far2).trans h.c2, (hg.frozen_far ⟨B, 2, none⟩ h.lt h.far2).trans h.f2⟩
theorem Pt.app1 (h : Pt G w B vo m1 xs vw m2 ys) {gg n cap : Nat} {zs : List Value} (hg : w.grownBy w' vo.ownBlock) (ho : w'.ownsRow (B + 1) 53 1 (.slice (some ⟨gg, 0, none⟩) n cap) n zs) (hat : vo.ownBlock = some gg ∨ gg = w.heap.size) :
    Pt G (w'.setCell ⟨B, 1, none⟩ (.slice (some ⟨gg, 0, none⟩) n cap)) B (.slice (some ⟨gg, 0, none⟩) n cap) n zs vw m2 ys := by
  obtain ⟨a1, a2, a3, a4⟩ := h.mid1 hg
  have a5 : w'.cell? ⟨B, 0, none⟩ = some G.v0 := (hg.cell_far ⟨B, 0, none⟩ h.lt h.far1).trans h.c0
  have a6 : w'.frozen? ⟨B, 0, none⟩ = false := (hg.frozen_far ⟨B, 0, none⟩ h.lt h.far1).trans h.f0
  refine ⟨cell_set_ne (by omega) a5, by simpa using a6, cell_set_same a1, cell_set_ne (by omega) a3, by simpa using a2, by simpa using a4, ownsRow_setCell_below ho (by simp) _, ownsRow_setCell_below (h.own2.kept hg ?_) (by simp) _, ?_, fun k hk => ?_⟩
  · cases hv : vw.ownBlock with
    | none => exact .inl rfl
    | some k => exact .inr (fun e => h.sep k e.symm hv)
  · intro k hk
    have : gg = k := by simpa [Value.ownBlock] using hk
    subst this
    rcases hat with hat | hat
    · exact h.sep _ hat
    · intro e
      have := (h.own2.lt _ e).2
      omega
  · obtain ⟨x1, x2, x3, x4, x5⟩ := h.gst k hk
    refine ⟨by have := hg.size; simpa using (by omega : k < w'.heap.size), (Below.heap_setCell w' _ _ k x3).trans ((hg.block k x1 (fun e => x4 e.symm)).trans x2), x3, fun e => ?_, x5⟩
    have e' : gg = k := by simpa [Value.ownBlock] using e
    rcases hat with hat | hat
    · exact x4 (e' ▸ hat)
    · omega
theorem Pt.app2 (h : Pt G w B vo m1 xs vw m2 ys) {gg n cap : Nat} {zs : List Value} (hg : w.grownBy w' vw.ownBlock) (ho : w'.ownsRow (B + 1) 53 1 (.slice (some ⟨gg, 0, none⟩) n cap) n zs) (hat : vw.ownBlock = some gg ∨ gg = w.heap.size) :
    Pt G (w'.setCell ⟨B, 2, none⟩ (.slice (some ⟨gg, 0, none⟩) n cap)) B vo m1 xs (.slice (some ⟨gg, 0, none⟩) n cap) n zs := by
  obtain ⟨a1, a2, a3, a4⟩ := h.mid2 hg
  have a5 : w'.cell? ⟨B, 0, none⟩ = some G.v0 := (hg.cell_far ⟨B, 0, none⟩ h.lt h.far2).trans h.c0
  have a6 : w'.frozen? ⟨B, 0, none⟩ = false := (hg.frozen_far ⟨B, 0, none⟩ h.lt h.far2).trans h.f0
  refine ⟨cell_set_ne (by omega) a5, by simpa using a6, cell_set_ne (by omega) a1, cell_set_same a3, by simpa using a2, by simpa using a4, ownsRow_setCell_below (h.own1.kept hg ?_) (by simp) _, ownsRow_setCell_below ho (by simp) _, ?_, fun k hk => ?_⟩
  · cases hv : vo.ownBlock with
    | none => exact .inl rfl
    | some k => exact .inr (fun e => h.sep k hv e.symm)
  · intro k hk e
    have : gg = k := by simpa [Value.ownBlock] using e
    subst this
    rcases hat with hat | hat
    · exact h.sep _ hk hat
    · have := (h.own1.lt _ hk).2
      omega
  · obtain ⟨x1, x2, x3, x4, x5⟩ := h.gst k hk
    refine ⟨by have := hg.size; simpa using (by omega : k < w'.heap.size), (Below.heap_setCell w' _ _ k x3).trans ((hg.block k x1 (fun e => x5 e.symm)).trans x2), x3, x4, fun e => ?_⟩
    have e' : gg = k := by simpa [Value.ownBlock] using e
    rcases hat with hat | hat
    · exact x5 (e' ▸ hat)
    · omega
/-- a store into a row of numbers leaves the box as it is -/
theorem Pt.setRow (h : Pt G w B vo m1 xs vw m2 ys) {g n j : Nat} {f : Nat → Value} (hr : w.rowIs g 3 n f) (hB : B < g) (hX : ¬ G.X g) (u : Value) : Pt G (w.setCell ⟨g, j, none⟩ u) B vo m1 xs vw m2 ys := by
  have hblk : ∀ k, k ≠ g → (w.setCell ⟨g, j, none⟩ u).heap[k]? = w.heap[k]? := fun k hk => Below.heap_setCell w _ u k hk
  have hown : ∀ {v : Value} {m : Nat} {zs : List Value}, w.ownsRow (B + 1) 53 1 v m zs → (w.setCell ⟨g, j, none⟩ u).ownsRow (B + 1) 53 1 v m zs := by
    intro v m zs ho
    have hf := row_far hr ho
    refine ⟨ho.1, ?_⟩
    rcases ho.2 with h0 | ⟨g', cap, cur, rfl, hg, hh, hr'⟩
    · exact .inl h0
    · exact .inr ⟨g', cap, cur, rfl, hg, (hblk g' (fun e => hf (by rw [e]; rfl))).trans hh, hr'⟩
  exact ⟨cell_set_ne (by omega) h.c0, by simpa using h.f0, cell_set_ne (by omega) h.c1, cell_set_ne (by omega) h.c2, by simpa using h.f1, by simpa using h.f2, hown h.own1, hown h.own2, h.sep,
    fun k hk => ⟨by simpa using (h.gst k hk).1, (hblk k (fun e => hX (e ▸ hk))).trans (h.gst k hk).2.1, (h.gst k hk).2.2⟩⟩
end

end Go.Proofs.YtmebcdpdpcpnmaaGreatDoor

namespace Go.Proofs.YtmebcdpdpcpnmaaGreatDoor
open Go.RowKit

theorem Tryz.infoInts : (Tryz.prog.info? 53).map (fun i => (i.zero, i.size, i.bytes)) = some (some (.slice none 0 0), 1, 24) := by kernel_rfl

/-- copy(dst, src), rows of n numbers each: dst reads as src -/
theorem copy_ints (w : World) (d s n : Nat) (f : Nat → Value) (F : Nat → Int) (hd : w.rowIs d 3 n f) (hs : w.rowIs s 3 n (fun j => .int .i64 (F j))) :
    ∃ W, (∀ ty, (Builtin.copy_ #[53, 53] ty #[.slice (some ⟨d, 0, none⟩) n n, .slice (some ⟨s, 0, none⟩) n n]).run Tryz.prog w = .ok (.int .i64 (n : Int)) W) ∧
      (∀ B, B ≤ d → Below B w W) ∧ W.rowIs d 3 n (fun j => .int .i64 (F j)) := by
  obtain ⟨cur, hcur, hsz, hc⟩ := hd
  let cs : List Value := (List.range n).map (fun j => .int .i64 (F j))
  have hlen : cs.length = n := by simp [cs]
  have hcs : ∀ j v, cs[j]? = some v → j < n ∧ v = .int .i64 (F j) := by
    intro j v h
    have hj : j < cs.length := by
      apply Classical.byContradiction
      intro h'
      rw [List.getElem?_eq_none (by omega)] at h
      cases h
    rw [hlen] at hj
    refine ⟨hj, ?_⟩
    simp [cs, List.getElem?_map, List.getElem?_range hj] at h
    exact h.symm
  have hsrc : ∀ j v, cs[j]? = some v → w.cell? ((⟨s, 0, none⟩ : Addr).add j) = some v := by
    intro j v h
    obtain ⟨hj, rfl⟩ := hcs j v h
    have : (⟨s, 0, none⟩ : Addr).add j = ⟨s, j, none⟩ := by unfold Addr.add; split <;> simp_all
    rw [this]; exact hs.cell hj
  have h1 : ∀ v ∈ cs, v.oneCell' = true := by
    intro v hv
    simp only [cs, List.mem_map] at hv
    obtain ⟨j, _, rfl⟩ := hv
    rfl
  have hl' := run_loadCells_list (P := Tryz.prog) w ⟨s, 0, none⟩ cs hsrc
  have hst := run_storeCells_at Tryz.prog d 0 3 cs 0 cur w hcur (by rw [hlen, hsz]; omega) h1
  obtain ⟨i, hi, hzz⟩ := Option.map_eq_some_iff.1 Tryz.infoInt
  simp only [Prod.mk.injEq] at hzz
  obtain ⟨hz, hs', hb⟩ := hzz
  refine ⟨w.setRow d (cur.toList.take (0 + 0) ++ cs ++ cur.toList.drop (0 + 0 + cs.length)).toArray, fun ty => ?_, fun B hB => below_setRow (Below.refl _ _) hB _, ?_⟩
  · have hmin : Nat.min n n = n := Nat.min_self n
    rw [hlen] at hl'
    simp [Builtin.copy_, run_underlying Tryz.underlying53, Builtin.lenOf, Builtin.firstCells, sizeOf, typeInfo, hi, hs', hmin, hl', hst, goInt]
  · refine ⟨_, setRow_heap w d cur _ _ _ hcur, by simp [hlen, hsz], fun j hj => ?_⟩
    simp only [Nat.add_zero, Nat.zero_add, List.take_zero, List.nil_append, List.getElem?_toArray]
    rw [List.getElem?_append_left (by omega)]
    simp [cs, List.getElem?_map, List.getElem?_range hj]

/-- the lists that came out: how many; list i: its block, the block of what it must read as, how long, the numbers -/
structure Outs where
  m : Nat
  g : Nat → Nat
  h : Nat → Nat
  n : Nat → Nat
  F : Nat → Nat → Int

def sls (g n : Nat → Nat) (m : Nat) : List Value := (List.range m).map (fun i => .slice (some ⟨g i, 0, none⟩) (n i) (n i))

structure St (G : Gst) (w : World) (B : Nat) (o : Outs) (vo vw : Value) : Prop where
  pt : Pt G w B vo o.m (sls o.g o.n o.m) vw o.m (sls o.h o.n o.m)
  rg : ∀ i, i < o.m → w.rowIs (o.g i) 3 (o.n i) (fun j => .int .i64 (o.F i j))
  rh : ∀ i, i < o.m → w.rowIs (o.h i) 3 (o.n i) (fun j => .int .i64 (o.F i j))
  pos : ∀ i, i < o.m → 1 ≤ o.n i ∧ o.n i ≤ 12
  lo : ∀ i, i < o.m → B < o.g i
  gh : ∀ i, i < o.m → o.g i < o.h i
  hg : ∀ i j, i < j → j < o.m → o.h i < o.g j
  gx : ∀ i, i < o.m → ¬ G.X (o.g i) ∧ ¬ G.X (o.h i)

theorem St.below {G : Gst} {w w' : World} {B : Nat} {o : Outs} {vo vw : Value} (h : St G w B o vo vw) (hb : Below w.heap.size w w') : St G w' B o vo vw :=
  ⟨h.pt.below hb, fun i hi => row_below (h.rg i hi) hb (h.rg i hi).lt, fun i hi => row_below (h.rh i hi) hb (h.rh i hi).lt, h.pos, h.lo, h.gh, h.hg, h.gx⟩

/-- one list more -/
def Outs.push (o : Outs) (g h n : Nat) (F : Nat → Int) : Outs :=
  ⟨o.m + 1, fun i => if i = o.m then g else o.g i, fun i => if i = o.m then h else o.h i, fun i => if i = o.m then n else o.n i, fun i => if i = o.m then F else o.F i⟩
theorem sls_push (g n : Nat → Nat) (m b k : Nat) : sls (fun i => if i = m then b else g i) (fun i => if i = m then k else n i) (m + 1) = sls g n m ++ [.slice (some ⟨b, 0, none⟩) k k] := by
  unfold sls
  rw [List.range_succ, List.map_append]
  congr 1
  · refine List.map_congr_left (fun i hi => ?_)
    have : i ≠ m := by have := List.mem_range.1 hi; omega
    simp [this]
  · simp
theorem St.push {G : Gst} {w : World} {B : Nat} {o : Outs} {vo vw : Value} {g h n : Nat} {F : Nat → Int}
    (pt : Pt G w B vo (o.m + 1) (sls o.g o.n o.m ++ [.slice (some ⟨g, 0, none⟩) n n]) vw (o.m + 1) (sls o.h o.n o.m ++ [.slice (some ⟨h, 0, none⟩) n n]))
    (rg : ∀ i, i < o.m → w.rowIs (o.g i) 3 (o.n i) (fun j => .int .i64 (o.F i j))) (rh : ∀ i, i < o.m → w.rowIs (o.h i) 3 (o.n i) (fun j => .int .i64 (o.F i j)))
    (hg : w.rowIs g 3 n (fun j => .int .i64 (F j))) (hh : w.rowIs h 3 n (fun j => .int .i64 (F j)))
    (pos : ∀ i, i < o.m → 1 ≤ o.n i ∧ o.n i ≤ 12) (lo : ∀ i, i < o.m → B < o.g i) (gh : ∀ i, i < o.m → o.g i < o.h i) (hg' : ∀ i j, i < j → j < o.m → o.h i < o.g j)
    (hn : 1 ≤ n ∧ n ≤ 12) (hB : B < g) (hgh : g < h) (hnew : ∀ i, i < o.m → o.h i < g) (gx : ∀ i, i < o.m → ¬ G.X (o.g i) ∧ ¬ G.X (o.h i)) (gx' : ¬ G.X g ∧ ¬ G.X h) : St G w B (o.push g h n F) vo vw := by
  refine ⟨?_, ?_, ?_, ?_, ?_, ?_, ?_, ?_⟩
  · show Pt G w B vo (o.m + 1) (sls (fun i => if i = o.m then g else o.g i) (fun i => if i = o.m then n else o.n i) (o.m + 1)) vw (o.m + 1) (sls (fun i => if i = o.m then h else o.h i) (fun i => if i = o.m then n else o.n i) (o.m + 1))
    rw [sls_push, sls_push]; exact pt
  all_goals simp only [Outs.push]
  · intro i hi
    by_cases e : i = o.m
    · simp only [e, if_true]; exact hg
    · simp only [e, if_false]; exact rg i (by omega)
  · intro i hi
    by_cases e : i = o.m
    · simp only [e, if_true]; exact hh
    · simp only [e, if_false]; exact rh i (by omega)
  · intro i hi
    by_cases e : i = o.m
    · simp only [e, if_true]; exact hn
    · simp only [e, if_false]; exact pos i (by omega)
  · intro i hi
    by_cases e : i = o.m
    · simp only [e, if_true]; exact hB
    · simp only [e, if_false]; exact lo i (by omega)
  · intro i hi
    by_cases e : i = o.m
    · simp only [e, if_true]; exact hgh
    · simp only [e, if_false]; exact gh i (by omega)
  · intro i j hij hj
    have hi : i ≠ o.m := by omega
    simp only [hi, if_false]
    by_cases e : j = o.m
    · simp only [e, if_true]; exact hnew i (by omega)
    · simp only [e, if_false]; exact hg' i j hij (by omega)
  · intro i hi
    by_cases e : i = o.m
    · simp only [e, if_true]; exact gx'
    · simp only [e, if_false]; exact gx i (by omega)

end Go.Proofs.YtmebcdpdpcpnmaaGreatDoor

namespace Go.Proofs.YtmebcdpdpcpnmaaGreatDoor
open Go.RowKit

set_option maxRecDepth 100000 in
set_option maxHeartbeats 2000000 in
theorem keep_none (B : Nat) (a : Option Addr) (w : World) :
    Calls Tryz.prog 25 #[.pointer (some ⟨B, 0, none⟩), .slice a 0 0] w fun e w' => e = .returned (.tuple #[]) ∧ w' = w := by
  go_enter Tryz.func25, Tryz.ntmps25
  go_wp2
  (try simp only [Exit.inBlock, Exit.then]); refine bodyPost_ret (results_none rfl _ _ _) rfl ?_
  exact ⟨rfl, rfl⟩

set_option maxRecDepth 100000 in
set_option maxHeartbeats 2000000 in
theorem keep_some {G : Gst} (B g n : Nat) (o : Outs) (vo vw : Value) (F : Nat → Int) (w : World) (hS : St G w B o vo vw) (hrow : w.rowIs g 3 n (fun j => .int .i64 (F j))) (hn : 1 ≤ n ∧ n ≤ 12) (hB : B < g) (hnew : ∀ i, i < o.m → o.h i < g) (hm : o.m ≤ 1048576) (hX : ¬ G.X g) :
    Calls Tryz.prog 25 #[.pointer (some ⟨B, 0, none⟩), .slice (some ⟨g, 0, none⟩) n n] w fun e w' => e = .returned (.tuple #[]) ∧ ∃ vo' vw', St G w' B (o.push g w.heap.size n F) vo' vw' ∧ Below B w w' := by
  obtain ⟨i0, hi0, hz0, hz1, hz2⟩ := info_parts Tryz.infoInts
  have HS : Hid (St G w B o vo vw) := hS
  have HN : Hid (∀ i, i < o.m → o.h i < g) := hnew
  have HX2 : Hid (¬ G.X g ∧ ¬ G.X w.heap.size) := ⟨hX, fun h => by have := (hS.pt.gst _ h).1; omega⟩
  clear hX
  have hmk := run_make_row' (P := Tryz.prog) 53 3 (.int .i64 0) 8 Tryz.underlying53 Tryz.infoInt rfl .i64 .i64 n (by omega) (by omega)
  have hn0 : ((n : Int) == 0) = false := by simp; omega
  have hW1 : Below w.heap.size w (w.alloc (.cells (madeCells #[.int .i64 0] n) 3)) := (Below.refl _ _).alloc (Nat.le_refl _) _
  obtain ⟨W2, hcp, hb2, hrh⟩ := copy_ints (w.alloc (.cells (madeCells #[.int .i64 0] n) 3)) w.heap.size g n (fun _ => .int .i64 0) F (World.rowIs_made w (.int .i64 0) n 3) (row_below hrow hW1 hrow.lt)
  have HB2 : Hid (Below w.heap.size w W2) := hW1.trans (hb2 _ (Nat.le_refl _))
  have HRg : Hid (W2.rowIs g 3 n (fun j => .int .i64 (F j))) := row_below hrow HB2.out hrow.lt
  have HRh : Hid (W2.rowIs w.heap.size 3 n (fun j => .int .i64 (F j))) := hrh
  have hgw : g < w.heap.size := hrow.lt
  have hS2 : St G W2 B o vo vw := hS.below HB2.out
  have HS2 : Hid (St G W2 B o vo vw) := hS2
  have hBw : B < W2.heap.size := hS2.pt.lt
  have k1 := hS2.pt.c1
  clear hS hnew hW1 hb2 hrh hrow
  go_enter Tryz.func25, Tryz.ntmps25
  go_upto_region 4 with fail
  have HPA : Hid (Pt G (W2.alloc (.cells #[.slice (some ⟨g, 0, none⟩) n n] 53)) B vo o.m (sls o.g o.n o.m) vw o.m (sls o.h o.n o.m)) := HS2.out.pt.alloc _
  clear hmk hcp
  go_upto_region 5 with (at_builtin; (refine wpList_append_lies _ rfl _ _ _ rfl (B + 1) 53 i0 _ 1 24 Tryz.underlying28 hi0 hz0 hz1 hz2 rfl (by omega) vo o.m (sls o.g o.n o.m) rfl HPA.out.own1 ⟨W2.heap.size, 0, none⟩ 1 1 [.slice (some ⟨g, 0, none⟩) n n] rfl rfl (World.news_of_block (cs := #[.slice (some ⟨g, 0, none⟩) n n]) (t := 53) (fr := (0, 0)) (heap_alloc_new W2 _)) (by simp [Value.oneCell']) (by omega) (by unfold maxLen; omega) (by omega) (by simp; omega) (W2.heap.size + 1) (by simp) ?_; intro g3 cap3 w3 hown3 hgrow3 hat3 hlt3))
  obtain ⟨q1, q2, q3, q4⟩ := HPA.out.mid1 hgrow3
  have HP3 : Hid (Pt G (w3.setCell ⟨B, 1, none⟩ (.slice (some ⟨g3, 0, none⟩) (o.m + 1) cap3)) B (.slice (some ⟨g3, 0, none⟩) (o.m + 1) cap3) (o.m + 1) (sls o.g o.n o.m ++ [.slice (some ⟨g, 0, none⟩) n n]) vw o.m (sls o.h o.n o.m)) := HPA.out.app1 hgrow3 hown3 (by simpa using hat3)
  have HO1 : Hid ((W2.alloc (.cells #[.slice (some ⟨g, 0, none⟩) n n] 53)).ownsRow (B + 1) 53 1 vo o.m (sls o.g o.n o.m)) := HPA.out.own1
  have HG3 : Hid ((W2.alloc (.cells #[.slice (some ⟨g, 0, none⟩) n n] 53)).grownBy w3 vo.ownBlock) := hgrow3
  have HR3 : Hid (∀ b k (f : Nat → Value), W2.rowIs b 3 k f → B < b → (w3.setCell ⟨B, 1, none⟩ (.slice (some ⟨g3, 0, none⟩) (o.m + 1) cap3)).rowIs b 3 k f) := fun b k f h hb => (row_grown (h.alloc _) HO1.out HG3.out).setOther (by show b ≠ B; omega) _
  have HB3 : Hid (Below B w (w3.setCell ⟨B, 1, none⟩ (.slice (some ⟨g3, 0, none⟩) (o.m + 1) cap3))) := by
    have hb0 : Below B w (W2.alloc (.cells #[.slice (some ⟨g, 0, none⟩) n n] 53)) := (HB2.out.mono (by omega)).alloc (by omega) _
    have hb1 : Below B w w3 := Below.grown hb0 HG3.out (by simp; omega) (fun k hk => by have := (HO1.out.lt k hk).1; omega)
    exact hb1.setCell (Nat.le_refl _) _
  clear hown3 hgrow3 hat3 k1 HPA HO1 HG3
  go_upto_region 6 with fail
  have hlt3' : B < (w3.setCell ⟨B, 1, none⟩ (.slice (some ⟨g3, 0, none⟩) (o.m + 1) cap3)).heap.size := HP3.out.lt
  generalize w3.setCell ⟨B, 1, none⟩ (.slice (some ⟨g3, 0, none⟩) (o.m + 1) cap3) = W3 at *
  clear q1 q2 q3 q4
  have k2 := HP3.out.c2
  have HPB : Hid (Pt G (W3.alloc (.cells #[.slice (some ⟨w.heap.size, 0, none⟩) n n] 53)) B (.slice (some ⟨g3, 0, none⟩) (o.m + 1) cap3) (o.m + 1) (sls o.g o.n o.m ++ [.slice (some ⟨g, 0, none⟩) n n]) vw o.m (sls o.h o.n o.m)) := HP3.out.alloc _
  go_upto_region 7 with (at_builtin; (refine wpList_append_lies _ rfl _ _ _ rfl (B + 1) 53 i0 _ 1 24 Tryz.underlying28 hi0 hz0 hz1 hz2 rfl (by omega) vw o.m (sls o.h o.n o.m) rfl HPB.out.own2 ⟨W3.heap.size, 0, none⟩ 1 1 [.slice (some ⟨w.heap.size, 0, none⟩) n n] rfl rfl (World.news_of_block (cs := #[.slice (some ⟨w.heap.size, 0, none⟩) n n]) (t := 53) (fr := (0, 0)) (heap_alloc_new W3 _)) (by simp [Value.oneCell']) (by omega) (by unfold maxLen; omega) (by omega) (by simp; omega) (W3.heap.size + 1) (by simp) ?_; intro g4 cap4 w4 hown4 hgrow4 hat4 hlt4))
  obtain ⟨q1, q2, q3, q4⟩ := HPB.out.mid2 hgrow4
  have HP4 : Hid (Pt G (w4.setCell ⟨B, 2, none⟩ (.slice (some ⟨g4, 0, none⟩) (o.m + 1) cap4)) B (.slice (some ⟨g3, 0, none⟩) (o.m + 1) cap3) (o.m + 1) (sls o.g o.n o.m ++ [.slice (some ⟨g, 0, none⟩) n n]) (.slice (some ⟨g4, 0, none⟩) (o.m + 1) cap4) (o.m + 1) (sls o.h o.n o.m ++ [.slice (some ⟨w.heap.size, 0, none⟩) n n])) := HPB.out.app2 hgrow4 hown4 (by simpa using hat4)
  have HR4 : Hid (∀ b k (f : Nat → Value), W2.rowIs b 3 k f → B < b → (w4.setCell ⟨B, 2, none⟩ (.slice (some ⟨g4, 0, none⟩) (o.m + 1) cap4)).rowIs b 3 k f) := fun b k f h hb => (row_grown ((HR3.out b k f h hb).alloc _) HPB.out.own2 hgrow4).setOther (by show b ≠ B; omega) _
  have HB4 : Hid (Below B w (w4.setCell ⟨B, 2, none⟩ (.slice (some ⟨g4, 0, none⟩) (o.m + 1) cap4))) := by
    have hb0 : Below B w (W3.alloc (.cells #[.slice (some ⟨w.heap.size, 0, none⟩) n n] 53)) := HB3.out.alloc (by omega) _
    have hb1 : Below B w w4 := Below.grown hb0 hgrow4 (by simp; omega) (fun k hk => by have := (HPB.out.own2.lt k hk).1; omega)
    exact hb1.setCell (Nat.le_refl _) _
  clear hown4 hgrow4 hat4 k2
  go_wp2
  go_end0
  refine ⟨rfl, _, _, St.push HP4.out (fun i hi => HR4.out _ _ _ (HS2.out.rg i hi) (HS2.out.lo i hi)) (fun i hi => HR4.out _ _ _ (HS2.out.rh i hi) ?_) (HR4.out _ _ _ HRg.out hB) (HR4.out _ _ _ HRh.out ?_) HS2.out.pos HS2.out.lo HS2.out.gh HS2.out.hg hn hB hgw HN.out HS2.out.gx HX2.out, HB4.out⟩
  · have := HS2.out.lo i hi
    have := HS2.out.gh i hi
    omega
  · omega

end Go.Proofs.YtmebcdpdpcpnmaaGreatDoor

namespace Go.Proofs.YtmebcdpdpcpnmaaGreatDoor
open Go.RowKit

theorem own_form {w : World} {base e size n : Nat} {v : Value} {xs : List Value} (h : w.ownsRow base e size v n xs) : ∃ a c, v = .slice a n c := by
  rcases h.2 with ⟨rfl, rfl⟩ | ⟨g, cap, cur, rfl, _⟩
  · exact ⟨none, 0, rfl⟩
  · exact ⟨_, _, rfl⟩
theorem own_some {w : World} {base e size n c : Nat} {a : Option Addr} {xs : List Value} (h : w.ownsRow base e size (.slice a n c) n xs) (hn : 0 < n) : ∃ g, a = some ⟨g, 0, none⟩ := by
  obtain ⟨g, cap, hv, _⟩ := h.form hn
  exact ⟨g, by injection hv⟩
theorem sls_get (g n : Nat → Nat) {m i : Nat} (hi : i < m) : (sls g n m)[i]? = some (.slice (some ⟨g i, 0, none⟩) (n i) (n i)) := by
  unfold sls; simp [List.getElem?_map, List.getElem?_range hi]
theorem St.cellO {G : Gst} {w : World} {B : Nat} {o : Outs} {gv c i : Nat} {vw : Value} (h : St G w B o (.slice (some ⟨gv, 0, none⟩) o.m c) vw) (hi : i < o.m) : w.cell? ⟨gv, i, none⟩ = some (.slice (some ⟨o.g i, 0, none⟩) (o.n i) (o.n i)) := by
  rw [h.pt.own1.cellAt i (by omega), sls_get _ _ hi]
theorem St.cellW {G : Gst} {w : World} {B : Nat} {o : Outs} {hv c i : Nat} {vo : Value} (h : St G w B o vo (.slice (some ⟨hv, 0, none⟩) o.m c)) (hi : i < o.m) : w.cell? ⟨hv, i, none⟩ = some (.slice (some ⟨o.h i, 0, none⟩) (o.n i) (o.n i)) := by
  rw [h.pt.own2.cellAt i (by omega), sls_get _ _ hi]

set_option maxRecDepth 100000 in
set_option maxHeartbeats 2000000 in
theorem looks_any {G : Gst} (B : Nat) (o : Outs) (vo vw : Value) (w : World) (hm : o.m ≤ 1048576) (hS : St G w B o vo vw) :
    Calls Tryz.prog 13 #[.pointer (some ⟨B, 0, none⟩)] w fun e w' => e = .returned (.bool true) ∧ Below w.heap.size w w' := by
  obtain ⟨ao, co, rfl⟩ := own_form hS.pt.own1
  obtain ⟨aw, cw, rfl⟩ := own_form hS.pt.own2
  have HS : Hid (St G w B o (.slice ao o.m co) (.slice aw o.m cw)) := hS
  clear hS
  go_enter Tryz.func13, Tryz.ntmps13
  go_wp2
  go_loopw [3] (fun i wr => ∃ k : Nat, k ≤ o.m ∧ i = .int .i64 k ∧ Below w.heap.size w wr) (fun i _ => o.m - (intOf i).toNat)
  case atStart => exact ⟨0, Nat.zero_le _, rfl, Below.refl _ _⟩
  case round =>
    obtain ⟨k, hk, rfl, hb⟩ := hrel
    have Hb : Hid (Below w.heap.size w wr) := hb
    have HSr : Hid (St G wr B o (.slice ao o.m co) (.slice aw o.m cw)) := HS.out.below hb
    have c1 := HSr.out.pt.c1
    have c2 := HSr.out.pt.c2
    clear hb
    by_cases hlt : k < o.m
    · obtain ⟨go, rfl⟩ := own_some HSr.out.pt.own1 (by omega)
      obtain ⟨gw, rfl⟩ := own_some HSr.out.pt.own2 (by omega)
      have d1 := HSr.out.cellO hlt
      have d2 := HSr.out.cellW hlt
      have hlt' : (k : Int) < (o.m : Int) := by omega
      have hpos := HSr.out.pos k hlt
      have HR1 : Hid (∀ q, (wr.drewN q).rowIs (o.g k) 3 (o.n k) (fun j => .int .i64 (o.F k j))) := fun q => row_below (HSr.out.rg k hlt) (below_drewN (Below.refl _ _) q) (HSr.out.rg k hlt).lt
      have HR2 : Hid (∀ q, (wr.drewN q).rowIs (o.h k) 3 (o.n k) (fun j => .int .i64 (o.F k j))) := fun q => row_below (HSr.out.rh k hlt) (below_drewN (Below.refl _ _) q) (HSr.out.rh k hlt).lt
      have HSm : Hid (∀ q, Calls Tryz.prog 23 #[.slice (some ⟨o.g k, 0, none⟩) (o.n k) (o.n k), .slice (some ⟨o.h k, 0, none⟩) (o.n k) (o.n k)] (wr.drewN q) fun e w' => e = .returned (.bool true) ∧ ∃ m, w' = (wr.drewN q).drewN m) := fun q => same_some (o.g k) (o.h k) (o.n k) (o.F k) _ (by omega) (HR1.out q) (HR2.out q)
      go_wp2
      go_quiet ((go_at_call 23; exact Calls.quiet_of (HSm.out _)))
      go_wp2
      go_roundw
      case rel => exact ⟨k + 1, by omega, by go_num, below_drewN Hb.out _⟩
      case measure => simp [intOf]; omega
    · go_wp2
      go_ret
      exact ⟨rfl, Hb.out⟩

end Go.Proofs.YtmebcdpdpcpnmaaGreatDoor
