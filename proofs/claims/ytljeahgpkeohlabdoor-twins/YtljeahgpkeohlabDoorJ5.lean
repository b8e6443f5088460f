import Derived.Test.YtljeahgpkeohlabDoorJ4
import Derived.Laws.CopyRow
import Derived.Deep.Cut
import Derived.Laws.OwnMore
import Derived.Test.YtljeahgpkeohlabDoorJ1
import Derived.Deep.QuietTactic
import Derived.BigQuiet
import Derived.Test.YtljeahgpkeohlabDoorJ3
namespace Go.Proofs.YtljeahgpkeohlabDoor
open Go.RowKit

theorem own_below {w w' : World} {base e size n m : Nat} {v : Value} {xs : List Value} (h : w.ownsRow base e size v n xs) (hb : Below m w w') (hm : ∀ k, v.ownBlock = some k → k < m) : w'.ownsRow base e size v n xs := by
  refine ⟨h.1, ?_⟩
  rcases h.2 with h0 | ⟨g, cap, cur, rfl, hg, hh, hr⟩
  · exact .inl h0
  · exact .inr ⟨g, cap, cur, rfl, hg, (hb.block g (hm g rfl)).trans hh, hr⟩
theorem own_kind {w : World} {base e size n : Nat} {v : Value} {xs : List Value} (h : w.ownsRow base e size v n xs) {g : Nat} (hg : v.ownBlock = some g) : ∃ c, w.heap[g]? = some (.cells c e (0, 0)) := by
  rcases h.2 with ⟨rfl, _⟩ | ⟨g', cap, cur, rfl, _, hh, _⟩
  · simp [Value.ownBlock] at hg
  · have : g' = g := by simpa [Value.ownBlock] using hg
    subst this
    exact ⟨cur, hh⟩
/-- a row of numbers is no row of lists -/
theorem row_far {w : World} {base b n k : Nat} {v : Value} {xs : List Value} {f : Nat → Value} (h : w.rowIs b 3 n f) (ho : w.ownsRow base 27 1 v k xs) : some b ≠ v.ownBlock := by
  intro e
  obtain ⟨c, hc⟩ := own_kind ho e.symm
  obtain ⟨c', hc', _⟩ := h
  rw [hc] at hc'
  simp at hc'
theorem row_grown {w w' : World} {base b n k : Nat} {v : Value} {xs : List Value} {f : Nat → Value} (h : w.rowIs b 3 n f) (ho : w.ownsRow base 27 1 v k xs) (hg : w.grownBy w' v.ownBlock) : w'.rowIs b 3 n f :=
  h.of_block (hg.block b h.lt (row_far h ho))

/-- what the World's box holds: the row of the lists that came out, and the row of those that they must read as -/
structure Pt (w : World) (B : Nat) (vo : Value) (m1 : Nat) (xs : List Value) (vw : Value) (m2 : Nat) (ys : List Value) : Prop where
  c1 : w.cell? ⟨B, 1, none⟩ = some vo
  c2 : w.cell? ⟨B, 2, none⟩ = some vw
  f1 : w.frozen? ⟨B, 1, none⟩ = false
  f2 : w.frozen? ⟨B, 2, none⟩ = false
  own1 : w.ownsRow (B + 1) 27 1 vo m1 xs
  own2 : w.ownsRow (B + 1) 27 1 vw m2 ys
  sep : ∀ k, vo.ownBlock = some k → vw.ownBlock ≠ some k

section
variable {w w' : World} {B m1 m2 : Nat} {vo vw : Value} {xs ys : List Value}

theorem Pt.lt (h : Pt w B vo m1 xs vw m2 ys) : B < w.heap.size := blk_lt h.c1
theorem Pt.below (h : Pt w B vo m1 xs vw m2 ys) (hb : Below w.heap.size w w') : Pt w' B vo m1 xs vw m2 ys :=
  ⟨(hb.cell (p := ⟨B, 1, none⟩) h.lt).trans h.c1, (hb.cell (p := ⟨B, 2, none⟩) h.lt).trans h.c2, (hb.frozen (p := ⟨B, 1, none⟩) h.lt).trans h.f1, (hb.frozen (p := ⟨B, 2, none⟩) h.lt).trans h.f2,
    own_below h.own1 hb (fun k hk => (h.own1.lt k hk).2), own_below h.own2 hb (fun k hk => (h.own2.lt k hk).2), h.sep⟩
theorem Pt.alloc (h : Pt w B vo m1 xs vw m2 ys) (o : Obj) : Pt (w.alloc o) B vo m1 xs vw m2 ys := h.below ((Below.refl _ _).alloc (Nat.le_refl _) o)
theorem Pt.far1 (h : Pt w B vo m1 xs vw m2 ys) : some B ≠ vo.ownBlock := fun e => by have := (h.own1.lt B e.symm).1; omega
theorem Pt.far2 (h : Pt w B vo m1 xs vw m2 ys) : some B ≠ vw.ownBlock := fun e => by have := (h.own2.lt B e.symm).1; omega
/-- behind an append to the first row: the box is as it was -/
theorem Pt.mid1 (h : Pt w B vo m1 xs vw m2 ys) (hg : w.grownBy w' vo.ownBlock) : w'.cell? ⟨B, 1, none⟩ = some vo ∧ w'.frozen? ⟨B, 1, none⟩ = false ∧ w'.cell? ⟨B, 2, none⟩ = some vw ∧ w'.frozen? ⟨B, 2, none⟩ = false :=
  ⟨(hg.cell_far ⟨B, 1, none⟩ h.lt h.far1).trans h.c1, (hg.frozen_far ⟨B, 1, none⟩ h.lt h.far1).trans h.f1, (hg.cell_far ⟨B, 2, none⟩ h.lt h.far1).trans h.c2, (hg.frozen_far ⟨B, 2, none⟩ h.lt h.far1).trans h.f2⟩
theorem Pt.mid2 (h : Pt w B vo m1 xs vw m2 ys) (hg : w.grownBy w' vw.ownBlock) : w'.cell? ⟨B, 1, none⟩ = some vo ∧ w'.frozen? ⟨B, 1, none⟩ = false ∧ w'.cell? ⟨B, 2, none⟩ = some vw ∧ w'.frozen? ⟨B, 2, none⟩ = false :=
  ⟨(hg.cell_far ⟨B, 1, none⟩ h.lt h.far2).trans h.c1, (hg.frozen_far ⟨B, 1, none⟩ h.lt h.far2).trans h.f1, (hg.cell_far ⟨B, 2, none⟩ h.lt h.far2).trans h.c2, (hg.frozen_far ⟨B, 2, none⟩ h.lt h.far2).trans h.f2⟩
theorem Pt.app1 (h : Pt w B vo m1 xs vw m2 ys) {gg n cap : Nat} {zs : List Value} (hg : w.grownBy w' vo.ownBlock) (ho : w'.ownsRow (B + 1) 27 1 (.slice (some ⟨gg, 0, none⟩) n cap) n zs) (hat : vo.ownBlock = some gg ∨ gg = w.heap.size) :
    Pt (w'.setCell ⟨B, 1, none⟩ (.slice (some ⟨gg, 0, none⟩) n cap)) B (.slice (some ⟨gg, 0, none⟩) n cap) n zs vw m2 ys := by
  obtain ⟨a1, a2, a3, a4⟩ := h.mid1 hg
  refine ⟨cell_set_same a1, cell_set_ne (by omega) a3, by simpa using a2, by simpa using a4, ownsRow_setCell_below ho (by simp) _, ownsRow_setCell_below (h.own2.kept hg ?_) (by simp) _, ?_⟩
  · cases hv : vw.ownBlock with
    | none => exact .inl rfl
    | some k => exact .inr (fun e => h.sep k e.symm hv)
  · intro k hk
    have : gg = k := by simpa [Value.ownBlock] using hk
    subst this
    rcases hat with hat | hat
    · exact h.sep _ hat
    · intro e
      have := (h.own2.lt _ e).2
      omega
theorem Pt.app2 (h : Pt w B vo m1 xs vw m2 ys) {gg n cap : Nat} {zs : List Value} (hg : w.grownBy w' vw.ownBlock) (ho : w'.ownsRow (B + 1) 27 1 (.slice (some ⟨gg, 0, none⟩) n cap) n zs) (hat : vw.ownBlock = some gg ∨ gg = w.heap.size) :
    Pt (w'.setCell ⟨B, 2, none⟩ (.slice (some ⟨gg, 0, none⟩) n cap)) B vo m1 xs (.slice (some ⟨gg, 0, none⟩) n cap) n zs := by
  obtain ⟨a1, a2, a3, a4⟩ := h.mid2 hg
  refine ⟨cell_set_ne (by omega) a1, cell_set_same a3, by simpa using a2, by simpa using a4, ownsRow_setCell_below (h.own1.kept hg ?_) (by simp) _, ownsRow_setCell_below ho (by simp) _, ?_⟩
  · cases hv : vo.ownBlock with
    | none => exact .inl rfl
    | some k => exact .inr (fun e => h.sep k hv e.symm)
  · intro k hk e
    have : gg = k := by simpa [Value.ownBlock] using e
    subst this
    rcases hat with hat | hat
    · exact h.sep _ hk hat
    · have := (h.own1.lt _ hk).2
      omega
/-- a store into a row of numbers leaves the box as it is -/
theorem Pt.setRow (h : Pt w B vo m1 xs vw m2 ys) {g n j : Nat} {f : Nat → Value} (hr : w.rowIs g 3 n f) (hB : B < g) (u : Value) : Pt (w.setCell ⟨g, j, none⟩ u) B vo m1 xs vw m2 ys := by
  have hblk : ∀ k, k ≠ g → (w.setCell ⟨g, j, none⟩ u).heap[k]? = w.heap[k]? := fun k hk => Below.heap_setCell w _ u k hk
  have hown : ∀ {v : Value} {m : Nat} {zs : List Value}, w.ownsRow (B + 1) 27 1 v m zs → (w.setCell ⟨g, j, none⟩ u).ownsRow (B + 1) 27 1 v m zs := by
    intro v m zs ho
    have hf := row_far hr ho
    refine ⟨ho.1, ?_⟩
    rcases ho.2 with h0 | ⟨g', cap, cur, rfl, hg, hh, hr'⟩
    · exact .inl h0
    · exact .inr ⟨g', cap, cur, rfl, hg, (hblk g' (fun e => hf (by rw [e]; rfl))).trans hh, hr'⟩
  exact ⟨cell_set_ne (by omega) h.c1, cell_set_ne (by omega) h.c2, by simpa using h.f1, by simpa using h.f2, hown h.own1, hown h.own2, h.sep⟩
end

end Go.Proofs.YtljeahgpkeohlabDoor

namespace Go.Proofs.YtljeahgpkeohlabDoor
open Go.RowKit

theorem Tryd.infoInts : (Tryd.prog.info? 27).map (fun i => (i.zero, i.size, i.bytes)) = some (some (.slice none 0 0), 1, 24) := by kernel_rfl

/-- copy(dst, src), rows of n numbers each: dst reads as src -/
theorem copy_ints (w : World) (d s n : Nat) (f : Nat → Value) (F : Nat → Int) (hd : w.rowIs d 3 n f) (hs : w.rowIs s 3 n (fun j => .int .i64 (F j))) :
    ∃ W, (∀ ty, (Builtin.copy_ #[27, 27] ty #[.slice (some ⟨d, 0, none⟩) n n, .slice (some ⟨s, 0, none⟩) n n]).run Tryd.prog w = .ok (.int .i64 (n : Int)) W) ∧
      (∀ B, B ≤ d → Below B w W) ∧ W.rowIs d 3 n (fun j => .int .i64 (F j)) := by
  obtain ⟨cur, hcur, hsz, hc⟩ := hd
  let cs : List Value := (List.range n).map (fun j => .int .i64 (F j))
  have hlen : cs.length = n := by simp [cs]
  have hcs : ∀ j v, cs[j]? = some v → j < n ∧ v = .int .i64 (F j) := by
    intro j v h
    have hj : j < cs.length := by
      apply Classical.byContradiction
      intro h'
      rw [List.getElem?_eq_none (by omega)] at h
      cases h
    rw [hlen] at hj
    refine ⟨hj, ?_⟩
    simp [cs, List.getElem?_map, List.getElem?_range hj] at h
    exact h.symm
  have hsrc : ∀ j v, cs[j]? = some v → w.cell? ((⟨s, 0, none⟩ : Addr).add j) = some v := by
    intro j v h
    obtain ⟨hj, rfl⟩ := hcs j v h
    have : (⟨s, 0, none⟩ : Addr).add j = ⟨s, j, none⟩ := by unfold Addr.add; split <;> simp_all
    rw [this]; exact hs.cell hj
  have h1 : ∀ v ∈ cs, v.oneCell' = true := by
    intro v hv
    simp only [cs, List.mem_map] at hv
    obtain ⟨j, _, rfl⟩ := hv
    rfl
  have hl' := run_loadCells_list (P := Tryd.prog) w ⟨s, 0, none⟩ cs hsrc
  have hst := run_storeCells_at Tryd.prog d 0 3 cs 0 cur w hcur (by rw [hlen, hsz]; omega) h1
  obtain ⟨i, hi, hzz⟩ := Option.map_eq_some_iff.1 Tryd.infoInt
  simp only [Prod.mk.injEq] at hzz
  obtain ⟨hz, hs', hb⟩ := hzz
  refine ⟨w.setRow d (cur.toList.take (0 + 0) ++ cs ++ cur.toList.drop (0 + 0 + cs.length)).toArray, fun ty => ?_, fun B hB => below_setRow (Below.refl _ _) hB _, ?_⟩
  · have hmin : Nat.min n n = n := Nat.min_self n
    rw [hlen] at hl'
    simp [Builtin.copy_, run_underlying Tryd.underlying27, Builtin.lenOf, Builtin.firstCells, sizeOf, typeInfo, hi, hs', hmin, hl', hst, goInt]
  · refine ⟨_, setRow_heap w d cur _ _ _ hcur, by simp [hlen, hsz], fun j hj => ?_⟩
    simp only [Nat.add_zero, Nat.zero_add, List.take_zero, List.nil_append, List.getElem?_toArray]
    rw [List.getElem?_append_left (by omega)]
    simp [cs, List.getElem?_map, List.getElem?_range hj]

/-- the lists that came out: how many; list i: its block, the block of what it must read as, how long, the numbers -/
structure Outs where
  m : Nat
  g : Nat → Nat
  h : Nat → Nat
  n : Nat → Nat
  F : Nat → Nat → Int

def sls (g n : Nat → Nat) (m : Nat) : List Value := (List.range m).map (fun i => .slice (some ⟨g i, 0, none⟩) (n i) (n i))

structure St (w : World) (B : Nat) (o : Outs) (vo vw : Value) : Prop where
  pt : Pt w B vo o.m (sls o.g o.n o.m) vw o.m (sls o.h o.n o.m)
  rg : ∀ i, i < o.m → w.rowIs (o.g i) 3 (o.n i) (fun j => .int .i64 (o.F i j))
  rh : ∀ i, i < o.m → w.rowIs (o.h i) 3 (o.n i) (fun j => .int .i64 (o.F i j))
  pos : ∀ i, i < o.m → 1 ≤ o.n i ∧ o.n i ≤ 12
  lo : ∀ i, i < o.m → B < o.g i
  gh : ∀ i, i < o.m → o.g i < o.h i
  hg : ∀ i j, i < j → j < o.m → o.h i < o.g j

theorem St.below {w w' : World} {B : Nat} {o : Outs} {vo vw : Value} (h : St w B o vo vw) (hb : Below w.heap.size w w') : St w' B o vo vw :=
  ⟨h.pt.below hb, fun i hi => row_below (h.rg i hi) hb (h.rg i hi).lt, fun i hi => row_below (h.rh i hi) hb (h.rh i hi).lt, h.pos, h.lo, h.gh, h.hg⟩

/-- one list more -/
def Outs.push (o : Outs) (g h n : Nat) (F : Nat → Int) : Outs :=
  ⟨o.m + 1, fun i => if i = o.m then g else o.g i, fun i => if i = o.m then h else o.h i, fun i => if i = o.m then n else o.n i, fun i => if i = o.m then F else o.F i⟩
theorem sls_push (g n : Nat → Nat) (m b k : Nat) : sls (fun i => if i = m then b else g i) (fun i => if i = m then k else n i) (m + 1) = sls g n m ++ [.slice (some ⟨b, 0, none⟩) k k] := by
  unfold sls
  rw [List.range_succ, List.map_append]
  congr 1
  · refine List.map_congr_left (fun i hi => ?_)
    have : i ≠ m := by have := List.mem_range.1 hi; omega
    simp [this]
  · simp
theorem St.push {w : World} {B : Nat} {o : Outs} {vo vw : Value} {g h n : Nat} {F : Nat → Int}
    (pt : Pt w B vo (o.m + 1) (sls o.g o.n o.m ++ [.slice (some ⟨g, 0, none⟩) n n]) vw (o.m + 1) (sls o.h o.n o.m ++ [.slice (some ⟨h, 0, none⟩) n n]))
    (rg : ∀ i, i < o.m → w.rowIs (o.g i) 3 (o.n i) (fun j => .int .i64 (o.F i j))) (rh : ∀ i, i < o.m → w.rowIs (o.h i) 3 (o.n i) (fun j => .int .i64 (o.F i j)))
    (hg : w.rowIs g 3 n (fun j => .int .i64 (F j))) (hh : w.rowIs h 3 n (fun j => .int .i64 (F j)))
    (pos : ∀ i, i < o.m → 1 ≤ o.n i ∧ o.n i ≤ 12) (lo : ∀ i, i < o.m → B < o.g i) (gh : ∀ i, i < o.m → o.g i < o.h i) (hg' : ∀ i j, i < j → j < o.m → o.h i < o.g j)
    (hn : 1 ≤ n ∧ n ≤ 12) (hB : B < g) (hgh : g < h) (hnew : ∀ i, i < o.m → o.h i < g) : St w B (o.push g h n F) vo vw := by
  refine ⟨?_, ?_, ?_, ?_, ?_, ?_, ?_⟩
  · show Pt w B vo (o.m + 1) (sls (fun i => if i = o.m then g else o.g i) (fun i => if i = o.m then n else o.n i) (o.m + 1)) vw (o.m + 1) (sls (fun i => if i = o.m then h else o.h i) (fun i => if i = o.m then n else o.n i) (o.m + 1))
    rw [sls_push, sls_push]; exact pt
  all_goals simp only [Outs.push]
  · intro i hi
    by_cases e : i = o.m
    · simp only [e, if_true]; exact hg
    · simp only [e, if_false]; exact rg i (by omega)
  · intro i hi
    by_cases e : i = o.m
    · simp only [e, if_true]; exact hh
    · simp only [e, if_false]; exact rh i (by omega)
  · intro i hi
    by_cases e : i = o.m
    · simp only [e, if_true]; exact hn
    · simp only [e, if_false]; exact pos i (by omega)
  · intro i hi
    by_cases e : i = o.m
    · simp only [e, if_true]; exact hB
    · simp only [e, if_false]; exact lo i (by omega)
  · intro i hi
    by_cases e : i = o.m
    · simp only [e, if_true]; exact hgh
    · simp only [e, if_false]; exact gh i (by omega)
  · intro i j hij hj
    have hi : i ≠ o.m := by omega
    simp only [hi, if_false]
    by_cases e : j = o.m
    · simp only [e, if_true]; exact hnew i (by omega)
    · simp only [e, if_false]; exact hg' i j hij (by omega)

end Go.Proofs.YtljeahgpkeohlabDoor

namespace Go.Proofs.YtljeahgpkeohlabDoor
open Go.RowKit

end Go.Proofs.YtljeahgpkeohlabDoor

namespace Go.Proofs.YtljeahgpkeohlabDoor
open Go.RowKit

theorem own_form {w : World} {base e size n : Nat} {v : Value} {xs : List Value} (h : w.ownsRow base e size v n xs) : ∃ a c, v = .slice a n c := by
  rcases h.2 with ⟨rfl, rfl⟩ | ⟨g, cap, cur, rfl, _⟩
  · exact ⟨none, 0, rfl⟩
  · exact ⟨_, _, rfl⟩
theorem own_some {w : World} {base e size n c : Nat} {a : Option Addr} {xs : List Value} (h : w.ownsRow base e size (.slice a n c) n xs) (hn : 0 < n) : ∃ g, a = some ⟨g, 0, none⟩ := by
  obtain ⟨g, cap, hv, _⟩ := h.form hn
  exact ⟨g, by injection hv⟩
theorem sls_get (g n : Nat → Nat) {m i : Nat} (hi : i < m) : (sls g n m)[i]? = some (.slice (some ⟨g i, 0, none⟩) (n i) (n i)) := by
  unfold sls; simp [List.getElem?_map, List.getElem?_range hi]
theorem St.cellO {w : World} {B : Nat} {o : Outs} {gv c i : Nat} {vw : Value} (h : St w B o (.slice (some ⟨gv, 0, none⟩) o.m c) vw) (hi : i < o.m) : w.cell? ⟨gv, i, none⟩ = some (.slice (some ⟨o.g i, 0, none⟩) (o.n i) (o.n i)) := by
  rw [h.pt.own1.cellAt i (by omega), sls_get _ _ hi]
theorem St.cellW {w : World} {B : Nat} {o : Outs} {hv c i : Nat} {vo : Value} (h : St w B o vo (.slice (some ⟨hv, 0, none⟩) o.m c)) (hi : i < o.m) : w.cell? ⟨hv, i, none⟩ = some (.slice (some ⟨o.h i, 0, none⟩) (o.n i) (o.n i)) := by
  rw [h.pt.own2.cellAt i (by omega), sls_get _ _ hi]

end Go.Proofs.YtljeahgpkeohlabDoor

namespace Go.Proofs.YtljeahgpkeohlabDoor
open Go.RowKit

end Go.Proofs.YtljeahgpkeohlabDoor

/- Plain mathematics: the document's share is the program's. -/
namespace Mk

def aheadN (a b : Int) (i k : Nat) : Bool := decide (b < a) || (decide (a = b) && decide (i < k))
def inSide (l : List Ord) (p : Int) (b : Bool) (j : Nat) : Bool := willB (l.getD j ozero).sell (l.getD j ozero).price p && (l.getD j ozero).sell == b
def rpart (l : List Ord) (p v t : Int) (b : Bool) (j : Nat) : Int := if inSide l p b j then v * (l.getD j ozero).qty / t else 0
def rahead (l : List Ord) (p v t : Int) (i j : Nat) : Bool := inSide l p (l.getD i ozero).sell j && aheadN (v * (l.getD j ozero).qty % t) (v * (l.getD i ozero).qty % t) j i
def rshare (l : List Ord) (p v t : Int) (i : Nat) : Int :=
  v * (l.getD i ozero).qty / t + if (cnt (rahead l p v t i) l.length : Int) < v - sumn (rpart l p v t (l.getD i ozero).sell) l.length then 1 else 0

section
variable {l : List Ord} {p : Int}

theorem L0_unwilling (i : Nat) (h : willB (l.getD i ozero).sell (l.getD i ozero).price p = false) : L0 l (dem l p) (sup l p) p i = 0 ∧ G0 l (dem l p) (sup l p) p i = 0 := by
  obtain ⟨e1, e2⟩ := share_no (d := dem l p) (s := sup l p) (p := p) (o := l.getD i ozero) (.inr h)
  exact ⟨e2, e1⟩
theorem L0_willing (hV : 1 ≤ vol l p) (i : Nat) (h : willB (l.getD i ozero).sell (l.getD i ozero).price p = true) :
    L0 l (dem l p) (sup l p) p i = vol l p * (l.getD i ozero).qty % sideT (dem l p) (sup l p) (l.getD i ozero).sell ∧ G0 l (dem l p) (sup l p) p i = vol l p * (l.getD i ozero).qty / sideT (dem l p) (sup l p) (l.getD i ozero).sell := by
  obtain ⟨h1, h2⟩ := one_le hV
  obtain ⟨e1, e2⟩ := share_yes (d := dem l p) (s := sup l p) (p := p) (o := l.getD i ozero) (by rw [tot_of]; unfold sideT; split <;> assumption) h
  exact ⟨e2, e1⟩

theorem part_sum (hV : 1 ≤ vol l p) (b : Bool) : sumn (rpart l p (vol l p) (sideT (dem l p) (sup l p) b) b) l.length = sideSum l b (G0 l (dem l p) (sup l p) p) := by
  unfold sideSum
  refine sumn_congr (fun j _ => ?_)
  unfold rpart inSide
  rcases Bool.eq_false_or_eq_true (willB (l.getD j ozero).sell (l.getD j ozero).price p) with hw | hw
  · by_cases hs : (l.getD j ozero).sell = b
    · rw [hw, if_pos hs, (L0_willing hV j hw).2, hs]; simp
    · rw [hw, if_neg hs]
      have : ((l.getD j ozero).sell == b) = false := by simpa using hs
      rw [this]; simp
  · rw [hw, (L0_unwilling j hw).2]; simp

/-- THE DOCUMENT's SHARE of a willing order is the program's -/
theorem rshare_is (hV : 1 ≤ vol l p) {i : Nat} (hw : willB (l.getD i ozero).sell (l.getD i ozero).price p = true) :
    rshare l p (vol l p) (sideT (dem l p) (sup l p) (l.getD i ozero).sell) i = getsf l (dem l p) (sup l p) p i := by
  obtain ⟨eL, eG⟩ := L0_willing hV i hw
  unfold rshare getsf
  rw [← eG, part_sum hV]
  congr 1
  by_cases hb : (l.getD i ozero).sell = long l p
  · rw [hb, ← left_is hV]
    by_cases hz : 0 < L0 l (dem l p) (sup l p) p i
    · have e : cnt (rahead l p (vol l p) (sideT (dem l p) (sup l p) (long l p)) i) l.length = place (L0 l (dem l p) (sup l p) p) l.length i := by
        unfold place
        refine cnt_congr (fun j _ => ?_)
        unfold rahead inSide
        rcases Bool.eq_false_or_eq_true (willB (l.getD j ozero).sell (l.getD j ozero).price p) with hwj | hwj
        · by_cases hs : (l.getD j ozero).sell = (l.getD i ozero).sell
          · have eLj := (L0_willing hV j hwj).1
            rw [hs, hb] at eLj
            rw [hb] at eL
            rw [hwj, hs, ← eLj, ← eL]
            simp only [beq_self_eq_true, Bool.and_self, Bool.true_and]
            rw [Bool.eq_iff_iff, ahead_iff]
            simp [aheadN]
          · have hs' : ((l.getD j ozero).sell == (l.getD i ozero).sell) = false := by simpa using hs
            have h0 : L0 l (dem l p) (sup l p) p j = 0 := L0_short j (by revert hs hb; cases (l.getD j ozero).sell <;> cases (l.getD i ozero).sell <;> cases long l p <;> simp)
            rw [hs', Bool.and_false, Bool.false_and]
            symm
            rw [← Bool.not_eq_true, ahead_iff]
            omega
        · rw [hwj, Bool.false_and, Bool.false_and]
          have h0 := (L0_unwilling j hwj).1
          symm
          rw [← Bool.not_eq_true, ahead_iff]
          omega
      rw [e]
    · have h1 : ¬ (place (L0 l (dem l p) (sup l p) p) l.length i : Int) < left0 l (dem l p) (sup l p) p := fun h => hz (more_lost hV h)
      have h2 : ¬ (cnt (rahead l p (vol l p) (sideT (dem l p) (sup l p) (long l p)) i) l.length : Int) < left0 l (dem l p) (sup l p) p := by
        intro h
        have h3 : losers l p ≤ cnt (rahead l p (vol l p) (sideT (dem l p) (sup l p) (long l p)) i) l.length := by
          unfold losers
          refine cnt_mono (fun j _ hj => ?_)
          have hj' : 0 < L0 l (dem l p) (sup l p) p j := by simpa using hj
          have hwj : willB (l.getD j ozero).sell (l.getD j ozero).price p = true := by
            rcases Bool.eq_false_or_eq_true (willB (l.getD j ozero).sell (l.getD j ozero).price p) with h' | h'
            · exact h'
            · have := (L0_unwilling j h').1; omega
          have hs : (l.getD j ozero).sell = long l p := by
            apply Classical.byContradiction
            intro hne
            have := L0_short j (show (l.getD j ozero).sell = !long l p by revert hne; cases (l.getD j ozero).sell <;> cases long l p <;> simp)
            omega
          have eLj := (L0_willing hV j hwj).1
          rw [hs] at eLj
          rw [hb] at eL
          unfold rahead inSide
          rw [hwj, hs, hb, ← eLj, ← eL]
          have hb' := (L0_bd hV i).1
          simp [aheadN]
          omega
        have h4 := (left_bd hV).2
        omega
      rw [if_neg h1, if_neg h2]
  · have hb' : (l.getD i ozero).sell = !long l p := by revert hb; cases (l.getD i ozero).sell <;> cases long l p <;> simp
    have h0 := L0_short i hb'
    have h1 : ¬ (place (L0 l (dem l p) (sup l p) p) l.length i : Int) < left0 l (dem l p) (sup l p) p := fun h => by have := more_lost hV h; omega
    rw [if_neg h1, hb', short_sum hV, if_neg (by omega)]

end
end Mk

namespace Go.Proofs.YtljeahgpkeohlabDoor
open Go.RowKit

theorem aheadN_lt {a b : Int} {i k : Nat} (h : b < a) : Mk.aheadN a b i k = true := by simp [Mk.aheadN, h]
theorem aheadN_eq {a b : Int} {i k : Nat} (h : a = b) : Mk.aheadN a b i k = decide (i < k) := by simp [Mk.aheadN, h]
theorem aheadN_ne {a b : Int} {i k : Nat} (h : ¬ a = b) : decide (b < a) = Mk.aheadN a b i k := by simp [Mk.aheadN, h]

theorem share_yes_i {l : List Mk.Ord} {k : Nat} (hk : k < l.length) (p v t : Int) (b : Bool) (hw : Mk.willB l[k].sell l[k].price p = true) (hs : l[k].sell = b) : Mk.rpart l p v t b k = v * l[k].qty / t ∧ Mk.inSide l p b k = true := by
  have : Mk.inSide l p b k = true := by unfold Mk.inSide; rw [Mk.getD_at hk, hw, hs]; simp
  exact ⟨by unfold Mk.rpart; rw [this, Mk.getD_at hk]; rfl, this⟩
theorem share_no_i {l : List Mk.Ord} {k : Nat} (hk : k < l.length) (p v t : Int) (b : Bool) (h : Mk.willB l[k].sell l[k].price p = false ∨ l[k].sell ≠ b) : Mk.rpart l p v t b k = 0 ∧ Mk.inSide l p b k = false := by
  have : Mk.inSide l p b k = false := by
    unfold Mk.inSide; rw [Mk.getD_at hk]
    rcases h with h | h
    · rw [h]; rfl
    · have : (l[k].sell == b) = false := by simpa using h
      rw [this, Bool.and_false]
  exact ⟨by unfold Mk.rpart; rw [this]; rfl, this⟩
theorem rpart_bd {l : List Mk.Ord} (hv : Mk.validB 20 l = true) {v t : Int} (bv : 0 ≤ v ∧ v ≤ 240) (bt : 1 ≤ t) (p : Int) (b : Bool) (j : Nat) : 0 ≤ Mk.rpart l p v t b j ∧ Mk.rpart l p v t b j ≤ 4800 := by
  unfold Mk.rpart
  split
  · refine Mk.div_bd (Mk.mul_bd bv ?_) bt
    by_cases h : j < l.length
    · have := (Mk.ok_of_valid hv).2 l[j] (List.getElem_mem h)
      rw [Mk.getD_at h]; omega
    · simp [List.getD, List.getElem?_eq_none (Nat.le_of_not_lt h), Mk.ozero]
  · omega

end Go.Proofs.YtljeahgpkeohlabDoor

namespace Go.Proofs.YtljeahgpkeohlabDoor
open Go.RowKit

/-- what Price holds behind k rounds -/
def PriceAt (l : List Mk.Ord) (k : Nat) (a b c : Int) : Prop := (k = 0 ∧ a = 0 ∧ b = 0 ∧ c = 0) ∨ ∃ m, k = m + 1 ∧ a = Mk.best l m ∧ b = Mk.vol l (Mk.best l m) ∧ c = Mk.gap l (Mk.best l m)

theorem price_yes {l : List Mk.Ord} {k : Nat} {pa pb pc a b c : Int} (h : PriceAt l k pa pb pc)
    (hc : (a = (k : Int) + 1 ∧ b = Mk.less (Mk.dem l ((k : Int) + 1)) (Mk.sup l ((k : Int) + 1)) ∧ c = Mk.apart (Mk.dem l ((k : Int) + 1)) (Mk.sup l ((k : Int) + 1))) ∧
      (pa = 0 ∨ pb < Mk.less (Mk.dem l ((k : Int) + 1)) (Mk.sup l ((k : Int) + 1)) ∨ Mk.less (Mk.dem l ((k : Int) + 1)) (Mk.sup l ((k : Int) + 1)) = pb ∧ Mk.apart (Mk.dem l ((k : Int) + 1)) (Mk.sup l ((k : Int) + 1)) < pc)) : PriceAt l (k + 1) a b c := by
  obtain ⟨⟨rfl, rfl, rfl⟩, hc⟩ := hc
  right
  rcases h with ⟨rfl, _⟩ | ⟨m, rfl, rfl, rfl, rfl⟩
  · exact ⟨0, rfl, by simp [Mk.best], by simp [Mk.best, Mk.vol], by simp [Mk.best, Mk.gap]⟩
  · have e : ((m + 1 : Nat) : Int) + 1 = (m : Int) + 2 := by omega
    rw [e] at hc ⊢
    have hb := Mk.best_bd l m
    have hbt : Mk.best l (m + 1) = m + 2 := Mk.best_yes l m ((Mk.better_iff l _ _).2 (by
      rcases hc with h0 | h1 | ⟨h2, h3⟩
      · omega
      · exact .inl h1
      · exact .inr ⟨h2, h3⟩))
    refine ⟨m + 1, rfl, ?_, ?_, ?_⟩
    · rw [hbt]; omega
    · rw [hbt]; rfl
    · rw [hbt]; rfl
theorem price_no {l : List Mk.Ord} {k : Nat} {pa pb pc : Int} (h : PriceAt l k pa pb pc)
    (hc : ¬ (pa = 0 ∨ pb < Mk.less (Mk.dem l ((k : Int) + 1)) (Mk.sup l ((k : Int) + 1)) ∨ Mk.less (Mk.dem l ((k : Int) + 1)) (Mk.sup l ((k : Int) + 1)) = pb ∧ Mk.apart (Mk.dem l ((k : Int) + 1)) (Mk.sup l ((k : Int) + 1)) < pc)) : PriceAt l (k + 1) pa pb pc := by
  right
  rcases h with ⟨rfl, rfl, _, _⟩ | ⟨m, rfl, rfl, rfl, rfl⟩
  · exact absurd (.inl rfl) hc
  · have e : ((m + 1 : Nat) : Int) + 1 = (m : Int) + 2 := by omega
    rw [e] at hc
    have hbt : Mk.best l (m + 1) = Mk.best l m := Mk.best_no l m (by
      rw [← Bool.not_eq_true, Mk.better_iff]
      intro h
      apply hc
      rcases h with h1 | ⟨h2, h3⟩
      · exact .inr (.inl h1)
      · exact .inr (.inr ⟨h2, h3⟩))
    refine ⟨m + 1, rfl, ?_, ?_, ?_⟩ <;> rw [hbt]

end Go.Proofs.YtljeahgpkeohlabDoor

namespace Go.Proofs.YtljeahgpkeohlabDoor
open Go.RowKit

end Go.Proofs.YtljeahgpkeohlabDoor

namespace Go.Proofs.YtljeahgpkeohlabDoor
open Go.RowKit

end Go.Proofs.YtljeahgpkeohlabDoor
