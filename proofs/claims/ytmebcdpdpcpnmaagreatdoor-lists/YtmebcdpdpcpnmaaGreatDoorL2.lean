import Derived.Test.YtmebcdpdpcpnmaaGreatDoorL1
namespace Go.Proofs.YtmebcdpdpcpnmaaGreatDoor
open Go.RowKit

theorem Tryz.infoInts : (Tryz.prog.info? 53).map (fun i => (i.zero, i.size, i.bytes)) = some (some (.slice none 0 0), 1, 24) := by kernel_rfl

/-- copy(dst, src), rows of n numbers each: dst reads as src -/
theorem copy_ints (w : World) (d s n : Nat) (f : Nat → Value) (F : Nat → Int) (hd : w.rowIs d 3 n f) (hs : w.rowIs s 3 n (fun j => .int .i64 (F j))) :
    ∃ W, (∀ ty, (Builtin.copy_ #[53, 53] ty #[.slice (some ⟨d, 0, none⟩) n n, .slice (some ⟨s, 0, none⟩) n n]).run Tryz.prog w = .ok (.int .i64 (n : Int)) W) ∧
      (∀ B, B ≤ d → Below B w W) ∧ W.rowIs d 3 n (fun j => .int .i64 (F j)) := by
  obtain ⟨cur, hcur, hsz, hc⟩ := hd
  let cs : List Value := (List.range n).map (fun j => .int .i64 (F j))
  have hlen : cs.length = n := by simp [cs]
  have hcs : ∀ j v, cs[j]? = some v → j < n ∧ v = .int .i64 (F j) := by
    intro j v h
    have hj : j < cs.length := by
      apply Classical.byContradiction
      intro h'
      rw [List.getElem?_eq_none (by omega)] at h
      cases h
    rw [hlen] at hj
    refine ⟨hj, ?_⟩
    simp [cs, List.getElem?_map, List.getElem?_range hj] at h
    exact h.symm
  have hsrc : ∀ j v, cs[j]? = some v → w.cell? ((⟨s, 0, none⟩ : Addr).add j) = some v := by
    intro j v h
    obtain ⟨hj, rfl⟩ := hcs j v h
    have : (⟨s, 0, none⟩ : Addr).add j = ⟨s, j, none⟩ := by unfold Addr.add; split <;> simp_all
    rw [this]; exact hs.cell hj
  have h1 : ∀ v ∈ cs, v.oneCell' = true := by
    intro v hv
    simp only [cs, List.mem_map] at hv
    obtain ⟨j, _, rfl⟩ := hv
    rfl
  have hl' := run_loadCells_list (P := Tryz.prog) w ⟨s, 0, none⟩ cs hsrc
  have hst := run_storeCells_at Tryz.prog d 0 3 cs 0 cur w hcur (by rw [hlen, hsz]; omega) h1
  obtain ⟨i, hi, hzz⟩ := Option.map_eq_some_iff.1 Tryz.infoInt
  simp only [Prod.mk.injEq] at hzz
  obtain ⟨hz, hs', hb⟩ := hzz
  refine ⟨w.setRow d (cur.toList.take (0 + 0) ++ cs ++ cur.toList.drop (0 + 0 + cs.length)).toArray, fun ty => ?_, fun B hB => below_setRow (Below.refl _ _) hB _, ?_⟩
  · have hmin : Nat.min n n = n := Nat.min_self n
    rw [hlen] at hl'
    simp [Builtin.copy_, run_underlying Tryz.underlying53, Builtin.lenOf, Builtin.firstCells, sizeOf, typeInfo, hi, hs', hmin, hl', hst, goInt]
  · refine ⟨_, setRow_heap w d cur _ _ _ hcur, by simp [hlen, hsz], fun j hj => ?_⟩
    simp only [Nat.add_zero, Nat.zero_add, List.take_zero, List.nil_append, List.getElem?_toArray]
    rw [List.getElem?_append_left (by omega)]
    simp [cs, List.getElem?_map, List.getElem?_range hj]

/-- the lists that came out: how many; list i: its block, the block of what it must read as, how long, the numbers -/
structure Outs where
  m : Nat
  g : Nat → Nat
  h : Nat → Nat
  n : Nat → Nat
  F : Nat → Nat → Int

def sls (g n : Nat → Nat) (m : Nat) : List Value := (List.range m).map (fun i => .slice (some ⟨g i, 0, none⟩) (n i) (n i))

structure St (G : Gst) (w : World) (B : Nat) (o : Outs) (vo vw : Value) : Prop where
  pt : Pt G w B vo o.m (sls o.g o.n o.m) vw o.m (sls o.h o.n o.m)
  rg : ∀ i, i < o.m → w.rowIs (o.g i) 3 (o.n i) (fun j => .int .i64 (o.F i j))
  rh : ∀ i, i < o.m → w.rowIs (o.h i) 3 (o.n i) (fun j => .int .i64 (o.F i j))
  pos : ∀ i, i < o.m → 1 ≤ o.n i ∧ o.n i ≤ 12
  lo : ∀ i, i < o.m → B < o.g i
  gh : ∀ i, i < o.m → o.g i < o.h i
  hg : ∀ i j, i < j → j < o.m → o.h i < o.g j
  gx : ∀ i, i < o.m → ¬ G.X (o.g i) ∧ ¬ G.X (o.h i)

theorem St.below {G : Gst} {w w' : World} {B : Nat} {o : Outs} {vo vw : Value} (h : St G w B o vo vw) (hb : Below w.heap.size w w') : St G w' B o vo vw :=
  ⟨h.pt.below hb, fun i hi => row_below (h.rg i hi) hb (h.rg i hi).lt, fun i hi => row_below (h.rh i hi) hb (h.rh i hi).lt, h.pos, h.lo, h.gh, h.hg, h.gx⟩

/-- one list more -/
def Outs.push (o : Outs) (g h n : Nat) (F : Nat → Int) : Outs :=
  ⟨o.m + 1, fun i => if i = o.m then g else o.g i, fun i => if i = o.m then h else o.h i, fun i => if i = o.m then n else o.n i, fun i => if i = o.m then F else o.F i⟩
theorem sls_push (g n : Nat → Nat) (m b k : Nat) : sls (fun i => if i = m then b else g i) (fun i => if i = m then k else n i) (m + 1) = sls g n m ++ [.slice (some ⟨b, 0, none⟩) k k] := by
  unfold sls
  rw [List.range_succ, List.map_append]
  congr 1
  · refine List.map_congr_left (fun i hi => ?_)
    have : i ≠ m := by have := List.mem_range.1 hi; omega
    simp [this]
  · simp
theorem St.push {G : Gst} {w : World} {B : Nat} {o : Outs} {vo vw : Value} {g h n : Nat} {F : Nat → Int}
    (pt : Pt G w B vo (o.m + 1) (sls o.g o.n o.m ++ [.slice (some ⟨g, 0, none⟩) n n]) vw (o.m + 1) (sls o.h o.n o.m ++ [.slice (some ⟨h, 0, none⟩) n n]))
    (rg : ∀ i, i < o.m → w.rowIs (o.g i) 3 (o.n i) (fun j => .int .i64 (o.F i j))) (rh : ∀ i, i < o.m → w.rowIs (o.h i) 3 (o.n i) (fun j => .int .i64 (o.F i j)))
    (hg : w.rowIs g 3 n (fun j => .int .i64 (F j))) (hh : w.rowIs h 3 n (fun j => .int .i64 (F j)))
    (pos : ∀ i, i < o.m → 1 ≤ o.n i ∧ o.n i ≤ 12) (lo : ∀ i, i < o.m → B < o.g i) (gh : ∀ i, i < o.m → o.g i < o.h i) (hg' : ∀ i j, i < j → j < o.m → o.h i < o.g j)
    (hn : 1 ≤ n ∧ n ≤ 12) (hB : B < g) (hgh : g < h) (hnew : ∀ i, i < o.m → o.h i < g) (gx : ∀ i, i < o.m → ¬ G.X (o.g i) ∧ ¬ G.X (o.h i)) (gx' : ¬ G.X g ∧ ¬ G.X h) : St G w B (o.push g h n F) vo vw := by
  refine ⟨?_, ?_, ?_, ?_, ?_, ?_, ?_, ?_⟩
  · show Pt G w B vo (o.m + 1) (sls (fun i => if i = o.m then g else o.g i) (fun i => if i = o.m then n else o.n i) (o.m + 1)) vw (o.m + 1) (sls (fun i => if i = o.m then h else o.h i) (fun i => if i = o.m then n else o.n i) (o.m + 1))
    rw [sls_push, sls_push]; exact pt
  all_goals simp only [Outs.push]
  · intro i hi
    by_cases e : i = o.m
    · simp only [e, if_true]; exact hg
    · simp only [e, if_false]; exact rg i (by omega)
  · intro i hi
    by_cases e : i = o.m
    · simp only [e, if_true]; exact hh
    · simp only [e, if_false]; exact rh i (by omega)
  · intro i hi
    by_cases e : i = o.m
    · simp only [e, if_true]; exact hn
    · simp only [e, if_false]; exact pos i (by omega)
  · intro i hi
    by_cases e : i = o.m
    · simp only [e, if_true]; exact hB
    · simp only [e, if_false]; exact lo i (by omega)
  · intro i hi
    by_cases e : i = o.m
    · simp only [e, if_true]; exact hgh
    · simp only [e, if_false]; exact gh i (by omega)
  · intro i j hij hj
    have hi : i ≠ o.m := by omega
    simp only [hi, if_false]
    by_cases e : j = o.m
    · simp only [e, if_true]; exact hnew i (by omega)
    · simp only [e, if_false]; exact hg' i j hij (by omega)
  · intro i hi
    by_cases e : i = o.m
    · simp only [e, if_true]; exact gx'
    · simp only [e, if_false]; exact gx i (by omega)

end Go.Proofs.YtmebcdpdpcpnmaaGreatDoor
