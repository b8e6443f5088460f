import Derived.Test.YtmebcdpdpcpnmabDoorJ4
import Derived.Deep.Cut
import Derived.Laws.OwnMore
import Derived.Test.YtmebcdpdpcpnmabDoorJ1
import Derived.Test.YtmebcdpdpcpnmabDoorJ3
import Derived.Deep.QuietTactic
import Derived.BigQuiet
namespace Go.Proofs.YtmebcdpdpcpnmabDoor
open Go.RowKit

theorem Tryd.infoInts : (Tryd.prog.info? 27).map (fun i => (i.zero, i.size, i.bytes)) = some (some (.slice none 0 0), 1, 24) := by kernel_rfl

/-- copy(dst, src), rows of n numbers each: dst reads as src -/
theorem copy_ints (w : World) (d s n : Nat) (f : Nat → Value) (F : Nat → Int) (hd : w.rowIs d 3 n f) (hs : w.rowIs s 3 n (fun j => .int .i64 (F j))) :
    ∃ W, (∀ ty, (Builtin.copy_ #[27, 27] ty #[.slice (some ⟨d, 0, none⟩) n n, .slice (some ⟨s, 0, none⟩) n n]).run Tryd.prog w = .ok (.int .i64 (n : Int)) W) ∧
      (∀ B, B ≤ d → Below B w W) ∧ W.rowIs d 3 n (fun j => .int .i64 (F j)) := by
  obtain ⟨cur, hcur, hsz, hc⟩ := hd
  let cs : List Value := (List.range n).map (fun j => .int .i64 (F j))
  have hlen : cs.length = n := by simp [cs]
  have hcs : ∀ j v, cs[j]? = some v → j < n ∧ v = .int .i64 (F j) := by
    intro j v h
    have hj : j < cs.length := by
      apply Classical.byContradiction
      intro h'
      rw [List.getElem?_eq_none (by omega)] at h
      cases h
    rw [hlen] at hj
    refine ⟨hj, ?_⟩
    simp [cs, List.getElem?_map, List.getElem?_range hj] at h
    exact h.symm
  have hsrc : ∀ j v, cs[j]? = some v → w.cell? ((⟨s, 0, none⟩ : Addr).add j) = some v := by
    intro j v h
    obtain ⟨hj, rfl⟩ := hcs j v h
    have : (⟨s, 0, none⟩ : Addr).add j = ⟨s, j, none⟩ := by unfold Addr.add; split <;> simp_all
    rw [this]; exact hs.cell hj
  have h1 : ∀ v ∈ cs, v.oneCell' = true := by
    intro v hv
    simp only [cs, List.mem_map] at hv
    obtain ⟨j, _, rfl⟩ := hv
    rfl
  have hl' := run_loadCells_list (P := Tryd.prog) w ⟨s, 0, none⟩ cs hsrc
  have hst := run_storeCells_at Tryd.prog d 0 3 cs 0 cur w hcur (by rw [hlen, hsz]; omega) h1
  obtain ⟨i, hi, hzz⟩ := Option.map_eq_some_iff.1 Tryd.infoInt
  simp only [Prod.mk.injEq] at hzz
  obtain ⟨hz, hs', hb⟩ := hzz
  refine ⟨w.setRow d (cur.toList.take (0 + 0) ++ cs ++ cur.toList.drop (0 + 0 + cs.length)).toArray, fun ty => ?_, fun B hB => below_setRow (Below.refl _ _) hB _, ?_⟩
  · have hmin : Nat.min n n = n := Nat.min_self n
    rw [hlen] at hl'
    simp [Builtin.copy_, run_underlying Tryd.underlying27, Builtin.lenOf, Builtin.firstCells, sizeOf, typeInfo, hi, hs', hmin, hl', hst, goInt]
  · refine ⟨_, setRow_heap w d cur _ _ _ hcur, by simp [hlen, hsz], fun j hj => ?_⟩
    simp only [Nat.add_zero, Nat.zero_add, List.take_zero, List.nil_append, List.getElem?_toArray]
    rw [List.getElem?_append_left (by omega)]
    simp [cs, List.getElem?_map, List.getElem?_range hj]

/-- the lists that came out: how many; list i: its block, the block of what it must read as, how long, the numbers -/
structure Outs where
  m : Nat
  g : Nat → Nat
  h : Nat → Nat
  n : Nat → Nat
  F : Nat → Nat → Int

def sls (g n : Nat → Nat) (m : Nat) : List Value := (List.range m).map (fun i => .slice (some ⟨g i, 0, none⟩) (n i) (n i))

structure St (G : Gst) (w : World) (B : Nat) (o : Outs) (vo vw : Value) : Prop where
  pt : Pt G w B vo o.m (sls o.g o.n o.m) vw o.m (sls o.h o.n o.m)
  rg : ∀ i, i < o.m → w.rowIs (o.g i) 3 (o.n i) (fun j => .int .i64 (o.F i j))
  rh : ∀ i, i < o.m → w.rowIs (o.h i) 3 (o.n i) (fun j => .int .i64 (o.F i j))
  pos : ∀ i, i < o.m → 1 ≤ o.n i ∧ o.n i ≤ 12
  lo : ∀ i, i < o.m → B < o.g i
  gh : ∀ i, i < o.m → o.g i < o.h i
  hg : ∀ i j, i < j → j < o.m → o.h i < o.g j
  gx : ∀ i, i < o.m → ¬ G.X (o.g i) ∧ ¬ G.X (o.h i)

theorem St.below {G : Gst} {w w' : World} {B : Nat} {o : Outs} {vo vw : Value} (h : St G w B o vo vw) (hb : Below w.heap.size w w') : St G w' B o vo vw :=
  ⟨h.pt.below hb, fun i hi => row_below (h.rg i hi) hb (h.rg i hi).lt, fun i hi => row_below (h.rh i hi) hb (h.rh i hi).lt, h.pos, h.lo, h.gh, h.hg, h.gx⟩

/-- one list more -/
def Outs.push (o : Outs) (g h n : Nat) (F : Nat → Int) : Outs :=
  ⟨o.m + 1, fun i => if i = o.m then g else o.g i, fun i => if i = o.m then h else o.h i, fun i => if i = o.m then n else o.n i, fun i => if i = o.m then F else o.F i⟩
theorem sls_push (g n : Nat → Nat) (m b k : Nat) : sls (fun i => if i = m then b else g i) (fun i => if i = m then k else n i) (m + 1) = sls g n m ++ [.slice (some ⟨b, 0, none⟩) k k] := by
  unfold sls
  rw [List.range_succ, List.map_append]
  congr 1
  · refine List.map_congr_left (fun i hi => ?_)
    have : i ≠ m := by have := List.mem_range.1 hi; omega
    simp [this]
  · simp
theorem St.push {G : Gst} {w : World} {B : Nat} {o : Outs} {vo vw : Value} {g h n : Nat} {F : Nat → Int}
    (pt : Pt G w B vo (o.m + 1) (sls o.g o.n o.m ++ [.slice (some ⟨g, 0, none⟩) n n]) vw (o.m + 1) (sls o.h o.n o.m ++ [.slice (some ⟨h, 0, none⟩) n n]))
    (rg : ∀ i, i < o.m → w.rowIs (o.g i) 3 (o.n i) (fun j => .int .i64 (o.F i j))) (rh : ∀ i, i < o.m → w.rowIs (o.h i) 3 (o.n i) (fun j => .int .i64 (o.F i j)))
    (hg : w.rowIs g 3 n (fun j => .int .i64 (F j))) (hh : w.rowIs h 3 n (fun j => .int .i64 (F j)))
    (pos : ∀ i, i < o.m → 1 ≤ o.n i ∧ o.n i ≤ 12) (lo : ∀ i, i < o.m → B < o.g i) (gh : ∀ i, i < o.m → o.g i < o.h i) (hg' : ∀ i j, i < j → j < o.m → o.h i < o.g j)
    (hn : 1 ≤ n ∧ n ≤ 12) (hB : B < g) (hgh : g < h) (hnew : ∀ i, i < o.m → o.h i < g) (gx : ∀ i, i < o.m → ¬ G.X (o.g i) ∧ ¬ G.X (o.h i)) (gx' : ¬ G.X g ∧ ¬ G.X h) : St G w B (o.push g h n F) vo vw := by
  refine ⟨?_, ?_, ?_, ?_, ?_, ?_, ?_, ?_⟩
  · show Pt G w B vo (o.m + 1) (sls (fun i => if i = o.m then g else o.g i) (fun i => if i = o.m then n else o.n i) (o.m + 1)) vw (o.m + 1) (sls (fun i => if i = o.m then h else o.h i) (fun i => if i = o.m then n else o.n i) (o.m + 1))
    rw [sls_push, sls_push]; exact pt
  all_goals simp only [Outs.push]
  · intro i hi
    by_cases e : i = o.m
    · simp only [e, if_true]; exact hg
    · simp only [e, if_false]; exact rg i (by omega)
  · intro i hi
    by_cases e : i = o.m
    · simp only [e, if_true]; exact hh
    · simp only [e, if_false]; exact rh i (by omega)
  · intro i hi
    by_cases e : i = o.m
    · simp only [e, if_true]; exact hn
    · simp only [e, if_false]; exact pos i (by omega)
  · intro i hi
    by_cases e : i = o.m
    · simp only [e, if_true]; exact hB
    · simp only [e, if_false]; exact lo i (by omega)
  · intro i hi
    by_cases e : i = o.m
    · simp only [e, if_true]; exact hgh
    · simp only [e, if_false]; exact gh i (by omega)
  · intro i j hij hj
    have hi : i ≠ o.m := by omega
    simp only [hi, if_false]
    by_cases e : j = o.m
    · simp only [e, if_true]; exact hnew i (by omega)
    · simp only [e, if_false]; exact hg' i j hij (by omega)
  · intro i hi
    by_cases e : i = o.m
    · simp only [e, if_true]; exact gx'
    · simp only [e, if_false]; exact gx i (by omega)

end Go.Proofs.YtmebcdpdpcpnmabDoor

namespace Go.Proofs.YtmebcdpdpcpnmabDoor
open Go.RowKit

end Go.Proofs.YtmebcdpdpcpnmabDoor

namespace Go.Proofs.YtmebcdpdpcpnmabDoor
open Go.RowKit

theorem own_form {w : World} {base e size n : Nat} {v : Value} {xs : List Value} (h : w.ownsRow base e size v n xs) : ∃ a c, v = .slice a n c := by
  rcases h.2 with ⟨rfl, rfl⟩ | ⟨g, cap, cur, rfl, _⟩
  · exact ⟨none, 0, rfl⟩
  · exact ⟨_, _, rfl⟩
theorem own_some {w : World} {base e size n c : Nat} {a : Option Addr} {xs : List Value} (h : w.ownsRow base e size (.slice a n c) n xs) (hn : 0 < n) : ∃ g, a = some ⟨g, 0, none⟩ := by
  obtain ⟨g, cap, hv, _⟩ := h.form hn
  exact ⟨g, by injection hv⟩
theorem sls_get (g n : Nat → Nat) {m i : Nat} (hi : i < m) : (sls g n m)[i]? = some (.slice (some ⟨g i, 0, none⟩) (n i) (n i)) := by
  unfold sls; simp [List.getElem?_map, List.getElem?_range hi]
theorem St.cellO {G : Gst} {w : World} {B : Nat} {o : Outs} {gv c i : Nat} {vw : Value} (h : St G w B o (.slice (some ⟨gv, 0, none⟩) o.m c) vw) (hi : i < o.m) : w.cell? ⟨gv, i, none⟩ = some (.slice (some ⟨o.g i, 0, none⟩) (o.n i) (o.n i)) := by
  rw [h.pt.own1.cellAt i (by omega), sls_get _ _ hi]
theorem St.cellW {G : Gst} {w : World} {B : Nat} {o : Outs} {hv c i : Nat} {vo : Value} (h : St G w B o vo (.slice (some ⟨hv, 0, none⟩) o.m c)) (hi : i < o.m) : w.cell? ⟨hv, i, none⟩ = some (.slice (some ⟨o.h i, 0, none⟩) (o.n i) (o.n i)) := by
  rw [h.pt.own2.cellAt i (by omega), sls_get _ _ hi]

end Go.Proofs.YtmebcdpdpcpnmabDoor

namespace Go.Proofs.YtmebcdpdpcpnmabDoor
open Go.RowKit

end Go.Proofs.YtmebcdpdpcpnmabDoor

/- Plain mathematics: the document's share is the program's. -/
namespace Mk

def aheadN (a b : Int) (i k : Nat) : Bool := decide (b < a) || (decide (a = b) && decide (i < k))
def inSide (l : List Ord) (p : Int) (b : Bool) (j : Nat) : Bool := willB (l.getD j ozero).sell (l.getD j ozero).price p && (l.getD j ozero).sell == b
def rpart (l : List Ord) (p v t : Int) (b : Bool) (j : Nat) : Int := if inSide l p b j then v * (l.getD j ozero).qty / t else 0
def rahead (l : List Ord) (p v t : Int) (i j : Nat) : Bool := inSide l p (l.getD i ozero).sell j && aheadN (v * (l.getD j ozero).qty % t) (v * (l.getD i ozero).qty % t) j i
def rshare (l : List Ord) (p v t : Int) (i : Nat) : Int :=
  v * (l.getD i ozero).qty / t + if (cnt (rahead l p v t i) l.length : Int) < v - sumn (rpart l p v t (l.getD i ozero).sell) l.length then 1 else 0

section
variable {l : List Ord} {p : Int}

theorem L0_unwilling (i : Nat) (h : willB (l.getD i ozero).sell (l.getD i ozero).price p = false) : L0 l (dem l p) (sup l p) p i = 0 ∧ G0 l (dem l p) (sup l p) p i = 0 := by
  obtain ⟨e1, e2⟩ := share_no (d := dem l p) (s := sup l p) (p := p) (o := l.getD i ozero) (.inr h)
  exact ⟨e2, e1⟩
theorem L0_willing (hV : 1 ≤ vol l p) (i : Nat) (h : willB (l.getD i ozero).sell (l.getD i ozero).price p = true) :
    L0 l (dem l p) (sup l p) p i = vol l p * (l.getD i ozero).qty % sideT (dem l p) (sup l p) (l.getD i ozero).sell ∧ G0 l (dem l p) (sup l p) p i = vol l p * (l.getD i ozero).qty / sideT (dem l p) (sup l p) (l.getD i ozero).sell := by
  obtain ⟨h1, h2⟩ := one_le hV
  obtain ⟨e1, e2⟩ := share_yes (d := dem l p) (s := sup l p) (p := p) (o := l.getD i ozero) (by rw [tot_of]; unfold sideT; split <;> assumption) h
  exact ⟨e2, e1⟩

theorem part_sum (hV : 1 ≤ vol l p) (b : Bool) : sumn (rpart l p (vol l p) (sideT (dem l p) (sup l p) b) b) l.length = sideSum l b (G0 l (dem l p) (sup l p) p) := by
  unfold sideSum
  refine sumn_congr (fun j _ => ?_)
  unfold rpart inSide
  rcases Bool.eq_false_or_eq_true (willB (l.getD j ozero).sell (l.getD j ozero).price p) with hw | hw
  · by_cases hs : (l.getD j ozero).sell = b
    · rw [hw, if_pos hs, (L0_willing hV j hw).2, hs]; simp
    · rw [hw, if_neg hs]
      have : ((l.getD j ozero).sell == b) = false := by simpa using hs
      rw [this]; simp
  · rw [hw, (L0_unwilling j hw).2]; simp

/-- THE DOCUMENT's SHARE of a willing order is the program's -/
theorem rshare_is (hV : 1 ≤ vol l p) {i : Nat} (hw : willB (l.getD i ozero).sell (l.getD i ozero).price p = true) :
    rshare l p (vol l p) (sideT (dem l p) (sup l p) (l.getD i ozero).sell) i = getsf l (dem l p) (sup l p) p i := by
  obtain ⟨eL, eG⟩ := L0_willing hV i hw
  unfold rshare getsf
  rw [← eG, part_sum hV]
  congr 1
  by_cases hb : (l.getD i ozero).sell = long l p
  · rw [hb, ← left_is hV]
    by_cases hz : 0 < L0 l (dem l p) (sup l p) p i
    · have e : cnt (rahead l p (vol l p) (sideT (dem l p) (sup l p) (long l p)) i) l.length = place (L0 l (dem l p) (sup l p) p) l.length i := by
        unfold place
        refine cnt_congr (fun j _ => ?_)
        unfold rahead inSide
        rcases Bool.eq_false_or_eq_true (willB (l.getD j ozero).sell (l.getD j ozero).price p) with hwj | hwj
        · by_cases hs : (l.getD j ozero).sell = (l.getD i ozero).sell
          · have eLj := (L0_willing hV j hwj).1
            rw [hs, hb] at eLj
            rw [hb] at eL
            rw [hwj, hs, ← eLj, ← eL]
            simp only [beq_self_eq_true, Bool.and_self, Bool.true_and]
            rw [Bool.eq_iff_iff, ahead_iff]
            simp [aheadN]
          · have hs' : ((l.getD j ozero).sell == (l.getD i ozero).sell) = false := by simpa using hs
            have h0 : L0 l (dem l p) (sup l p) p j = 0 := L0_short j (by revert hs hb; cases (l.getD j ozero).sell <;> cases (l.getD i ozero).sell <;> cases long l p <;> simp)
            rw [hs', Bool.and_false, Bool.false_and]
            symm
            rw [← Bool.not_eq_true, ahead_iff]
            omega
        · rw [hwj, Bool.false_and, Bool.false_and]
          have h0 := (L0_unwilling j hwj).1
          symm
          rw [← Bool.not_eq_true, ahead_iff]
          omega
      rw [e]
    · have h1 : ¬ (place (L0 l (dem l p) (sup l p) p) l.length i : Int) < left0 l (dem l p) (sup l p) p := fun h => hz (more_lost hV h)
      have h2 : ¬ (cnt (rahead l p (vol l p) (sideT (dem l p) (sup l p) (long l p)) i) l.length : Int) < left0 l (dem l p) (sup l p) p := by
        intro h
        have h3 : losers l p ≤ cnt (rahead l p (vol l p) (sideT (dem l p) (sup l p) (long l p)) i) l.length := by
          unfold losers
          refine cnt_mono (fun j _ hj => ?_)
          have hj' : 0 < L0 l (dem l p) (sup l p) p j := by simpa using hj
          have hwj : willB (l.getD j ozero).sell (l.getD j ozero).price p = true := by
            rcases Bool.eq_false_or_eq_true (willB (l.getD j ozero).sell (l.getD j ozero).price p) with h' | h'
            · exact h'
            · have := (L0_unwilling j h').1; omega
          have hs : (l.getD j ozero).sell = long l p := by
            apply Classical.byContradiction
            intro hne
            have := L0_short j (show (l.getD j ozero).sell = !long l p by revert hne; cases (l.getD j ozero).sell <;> cases long l p <;> simp)
            omega
          have eLj := (L0_willing hV j hwj).1
          rw [hs] at eLj
          rw [hb] at eL
          unfold rahead inSide
          rw [hwj, hs, hb, ← eLj, ← eL]
          have hb' := (L0_bd hV i).1
          simp [aheadN]
          omega
        have h4 := (left_bd hV).2
        omega
      rw [if_neg h1, if_neg h2]
  · have hb' : (l.getD i ozero).sell = !long l p := by revert hb; cases (l.getD i ozero).sell <;> cases long l p <;> simp
    have h0 := L0_short i hb'
    have h1 : ¬ (place (L0 l (dem l p) (sup l p) p) l.length i : Int) < left0 l (dem l p) (sup l p) p := fun h => by have := more_lost hV h; omega
    rw [if_neg h1, hb', short_sum hV, if_neg (by omega)]

end
end Mk

namespace Go.Proofs.YtmebcdpdpcpnmabDoor
open Go.RowKit

theorem aheadN_lt {a b : Int} {i k : Nat} (h : b < a) : Mk.aheadN a b i k = true := by simp [Mk.aheadN, h]
theorem aheadN_eq {a b : Int} {i k : Nat} (h : a = b) : Mk.aheadN a b i k = decide (i < k) := by simp [Mk.aheadN, h]
theorem aheadN_ne {a b : Int} {i k : Nat} (h : ¬ a = b) : decide (b < a) = Mk.aheadN a b i k := by simp [Mk.aheadN, h]

theorem share_yes_i {l : List Mk.Ord} {k : Nat} (hk : k < l.length) (p v t : Int) (b : Bool) (hw : Mk.willB l[k].sell l[k].price p = true) (hs : l[k].sell = b) : Mk.rpart l p v t b k = v * l[k].qty / t ∧ Mk.inSide l p b k = true := by
  have : Mk.inSide l p b k = true := by unfold Mk.inSide; rw [Mk.getD_at hk, hw, hs]; simp
  exact ⟨by unfold Mk.rpart; rw [this, Mk.getD_at hk]; rfl, this⟩
theorem share_no_i {l : List Mk.Ord} {k : Nat} (hk : k < l.length) (p v t : Int) (b : Bool) (h : Mk.willB l[k].sell l[k].price p = false ∨ l[k].sell ≠ b) : Mk.rpart l p v t b k = 0 ∧ Mk.inSide l p b k = false := by
  have : Mk.inSide l p b k = false := by
    unfold Mk.inSide; rw [Mk.getD_at hk]
    rcases h with h | h
    · rw [h]; rfl
    · have : (l[k].sell == b) = false := by simpa using h
      rw [this, Bool.and_false]
  exact ⟨by unfold Mk.rpart; rw [this]; rfl, this⟩
theorem rpart_bd {l : List Mk.Ord} (hv : Mk.validB 20 l = true) {v t : Int} (bv : 0 ≤ v ∧ v ≤ 240) (bt : 1 ≤ t) (p : Int) (b : Bool) (j : Nat) : 0 ≤ Mk.rpart l p v t b j ∧ Mk.rpart l p v t b j ≤ 4800 := by
  unfold Mk.rpart
  split
  · refine Mk.div_bd (Mk.mul_bd bv ?_) bt
    by_cases h : j < l.length
    · have := (Mk.ok_of_valid hv).2 l[j] (List.getElem_mem h)
      rw [Mk.getD_at h]; omega
    · simp [List.getD, List.getElem?_eq_none (Nat.le_of_not_lt h), Mk.ozero]
  · omega

end Go.Proofs.YtmebcdpdpcpnmabDoor

namespace Go.Proofs.YtmebcdpdpcpnmabDoor
open Go.RowKit

/-- what Price holds behind k rounds -/
def PriceAt (l : List Mk.Ord) (k : Nat) (a b c : Int) : Prop := (k = 0 ∧ a = 0 ∧ b = 0 ∧ c = 0) ∨ ∃ m, k = m + 1 ∧ a = Mk.best l m ∧ b = Mk.vol l (Mk.best l m) ∧ c = Mk.gap l (Mk.best l m)

theorem price_yes {l : List Mk.Ord} {k : Nat} {pa pb pc a b c : Int} (h : PriceAt l k pa pb pc)
    (hc : (a = (k : Int) + 1 ∧ b = Mk.less (Mk.dem l ((k : Int) + 1)) (Mk.sup l ((k : Int) + 1)) ∧ c = Mk.apart (Mk.dem l ((k : Int) + 1)) (Mk.sup l ((k : Int) + 1))) ∧
      (pa = 0 ∨ pb < Mk.less (Mk.dem l ((k : Int) + 1)) (Mk.sup l ((k : Int) + 1)) ∨ Mk.less (Mk.dem l ((k : Int) + 1)) (Mk.sup l ((k : Int) + 1)) = pb ∧ Mk.apart (Mk.dem l ((k : Int) + 1)) (Mk.sup l ((k : Int) + 1)) < pc)) : PriceAt l (k + 1) a b c := by
  obtain ⟨⟨rfl, rfl, rfl⟩, hc⟩ := hc
  right
  rcases h with ⟨rfl, _⟩ | ⟨m, rfl, rfl, rfl, rfl⟩
  · exact ⟨0, rfl, by simp [Mk.best], by simp [Mk.best, Mk.vol], by simp [Mk.best, Mk.gap]⟩
  · have e : ((m + 1 : Nat) : Int) + 1 = (m : Int) + 2 := by omega
    rw [e] at hc ⊢
    have hb := Mk.best_bd l m
    have hbt : Mk.best l (m + 1) = m + 2 := Mk.best_yes l m ((Mk.better_iff l _ _).2 (by
      rcases hc with h0 | h1 | ⟨h2, h3⟩
      · omega
      · exact .inl h1
      · exact .inr ⟨h2, h3⟩))
    refine ⟨m + 1, rfl, ?_, ?_, ?_⟩
    · rw [hbt]; omega
    · rw [hbt]; rfl
    · rw [hbt]; rfl
theorem price_no {l : List Mk.Ord} {k : Nat} {pa pb pc : Int} (h : PriceAt l k pa pb pc)
    (hc : ¬ (pa = 0 ∨ pb < Mk.less (Mk.dem l ((k : Int) + 1)) (Mk.sup l ((k : Int) + 1)) ∨ Mk.less (Mk.dem l ((k : Int) + 1)) (Mk.sup l ((k : Int) + 1)) = pb ∧ Mk.apart (Mk.dem l ((k : Int) + 1)) (Mk.sup l ((k : Int) + 1)) < pc)) : PriceAt l (k + 1) pa pb pc := by
  right
  rcases h with ⟨rfl, rfl, _, _⟩ | ⟨m, rfl, rfl, rfl, rfl⟩
  · exact absurd (.inl rfl) hc
  · have e : ((m + 1 : Nat) : Int) + 1 = (m : Int) + 2 := by omega
    rw [e] at hc
    have hbt : Mk.best l (m + 1) = Mk.best l m := Mk.best_no l m (by
      rw [← Bool.not_eq_true, Mk.better_iff]
      intro h
      apply hc
      rcases h with h1 | ⟨h2, h3⟩
      · exact .inr (.inl h1)
      · exact .inr (.inr ⟨h2, h3⟩))
    refine ⟨m + 1, rfl, ?_, ?_, ?_⟩ <;> rw [hbt]

end Go.Proofs.YtmebcdpdpcpnmabDoor

namespace Go.Proofs.YtmebcdpdpcpnmabDoor
open Go.RowKit

end Go.Proofs.YtmebcdpdpcpnmabDoor

namespace Go.Proofs.YtmebcdpdpcpnmabDoor
open Go.RowKit

end Go.Proofs.YtmebcdpdpcpnmabDoor

/- Plain mathematics: a row of one side, by a key (least first; of the same key, who came first); ranks. -/
namespace Mk

def ahd (z : Nat → Int) (M : Nat → Bool) (i j : Nat) : Bool := M j && (decide (z j < z i) || (decide (z j = z i) && decide (j < i)))
def rankZ (n : Nat) (z : Nat → Int) (M : Nat → Bool) (i : Nat) : Nat := cnt (ahd z M i) n

theorem ahd_iff (z : Nat → Int) (M : Nat → Bool) (i j : Nat) : ahd z M i j = true ↔ M j = true ∧ (z j < z i ∨ z j = z i ∧ j < i) := by simp [ahd]
theorem ahd_no {z : Nat → Int} {M : Nat → Bool} {i j : Nat} (h : ¬ (M j = true ∧ (z j < z i ∨ z j = z i ∧ j < i))) : ahd z M i j = false := by
  rw [← Bool.not_eq_true, ahd_iff]; exact h

theorem cnt_exists {P Q : Nat → Bool} {n : Nat} (h : cnt P n < cnt Q n) : ∃ j, j < n ∧ Q j = true ∧ P j = false := by
  apply Classical.byContradiction
  intro hne
  have : cnt Q n ≤ cnt P n := cnt_mono (fun i hi hq => by
    cases hp : P i with
    | true => rfl
    | false => exact absurd ⟨i, hi, hq, hp⟩ hne)
  omega
theorem cnt_split {P : Nat → Bool} {n i : Nat} (hi : i < n) : cnt P n = cnt (fun x => P x && decide (x ≠ i)) n + if P i then 1 else 0 := by
  induction n with
  | zero => omega
  | succ k ih =>
    simp only [cnt]
    by_cases e : i = k
    · subst e
      have h0 : cnt (fun x => P x && decide (x ≠ i)) i = cnt P i := by
        refine cnt_congr (fun x hx => ?_)
        have hne : x ≠ i := by omega
        simp [hne]
      rw [h0]; simp
    · rw [ih (by omega)]
      have : k ≠ i := by omega
      simp [this]; omega

section
variable {n : Nat} {z z' : Nat → Int} {M : Nat → Bool}

theorem rankZ_lt {i j : Nat} (hj : j < n) (h : ahd z M i j = true) : rankZ n z M j < rankZ n z M i := by
  unfold rankZ
  have h' := (ahd_iff z M i j).1 h
  refine cnt_lt (j := j) (fun x _ hx => ?_) hj h (ahd_no (by omega))
  rw [ahd_iff] at hx ⊢
  exact ⟨hx.1, by omega⟩
theorem ahd_total {i j : Nat} (hi : M i = true) (hj : M j = true) (hne : i ≠ j) : ahd z M i j = true ∨ ahd z M j i = true := by
  rw [ahd_iff, ahd_iff]
  by_cases h : z j < z i ∨ z j = z i ∧ j < i
  · exact .inl ⟨hj, h⟩
  · exact .inr ⟨hi, by omega⟩
theorem rankZ_inj {i j : Nat} (hi : i < n) (hj : j < n) (mi : M i = true) (mj : M j = true) (h : rankZ n z M i = rankZ n z M j) : i = j := by
  apply Classical.byContradiction
  intro hne
  rcases ahd_total (z := z) mi mj hne with h1 | h1
  · have := rankZ_lt hj h1; omega
  · have := rankZ_lt hi h1; omega
theorem rankZ_bd {i : Nat} (hi : i < n) (mi : M i = true) : rankZ n z M i < cnt M n :=
  cnt_lt (j := i) (fun x _ hx => ((ahd_iff z M i x).1 hx).1) hi mi (ahd_no (by omega))
/-- who has the lesser rank has no greater key -/
theorem rankZ_mono {i j : Nat} (hj : j < n) (mj : M j = true) (h : rankZ n z M i ≤ rankZ n z M j) : z i ≤ z j := by
  apply Classical.byContradiction
  intro hne
  have := rankZ_lt (i := i) hj ((ahd_iff z M i j).2 ⟨mj, .inl (by omega)⟩)
  omega

theorem cntM_step (m : Nat) : cnt (fun i => M i && decide (rankZ n z M i < m + 1)) n ≤ cnt (fun i => M i && decide (rankZ n z M i < m)) n + 1 := by
  have h1 := cnt_or (n := n) (R := fun i => M i && decide (rankZ n z M i < m + 1)) (P := fun i => M i && decide (rankZ n z M i < m)) (Q := fun i => M i && decide (rankZ n z M i = m)) (fun i _ h => by
    simp at h ⊢
    by_cases e : rankZ n z M i = m
    · exact .inr ⟨h.1, e⟩
    · exact .inl ⟨h.1, by omega⟩)
  have h2 : cnt (fun i => M i && decide (rankZ n z M i = m)) n ≤ 1 := cnt_one (fun i j hi hj h3 h4 => by
    simp at h3 h4
    exact rankZ_inj (z := z) hi hj h3.1 h4.1 (by omega))
  omega
theorem cntM_le (m : Nat) : cnt (fun i => M i && decide (rankZ n z M i < m)) n ≤ m := by
  induction m with
  | zero => rw [cnt_false (fun i _ => by simp)]; omega
  | succ k ih => have := cntM_step (n := n) (z := z) (M := M) k; omega
theorem cntM_ge (j : Nat) : ∀ m, m + j = cnt M n → m ≤ cnt (fun i => M i && decide (rankZ n z M i < m)) n := by
  induction j with
  | zero =>
    intro m hm
    have : cnt (fun i => M i && decide (rankZ n z M i < m)) n = cnt M n := cnt_congr (fun i hi => by
      cases hM : M i with
      | false => rfl
      | true => have := rankZ_bd (z := z) hi hM
                simp; omega)
    omega
  | succ j ih =>
    intro m hm
    have h1 := ih (m + 1) (by omega)
    have h2 := cntM_step (n := n) (z := z) (M := M) m
    omega
/-- of the first m of a side there are m -/
theorem cntM_eq {m : Nat} (h : m ≤ cnt M n) : cnt (fun i => M i && decide (rankZ n z M i < m)) n = m :=
  Nat.le_antisymm (cntM_le m) (cntM_ge (cnt M n - m) m (by omega))
theorem rankZ_exists {m : Nat} (h : m < cnt M n) : ∃ j, j < n ∧ M j = true ∧ rankZ n z M j = m := by
  have h1 := cntM_eq (n := n) (z := z) (M := M) (m := m) (by omega)
  have h2 := cntM_eq (n := n) (z := z) (M := M) (m := m + 1) (by omega)
  obtain ⟨j, hj, hq, hp⟩ := cnt_exists (P := fun i => M i && decide (rankZ n z M i < m)) (Q := fun i => M i && decide (rankZ n z M i < m + 1)) (n := n) (by omega)
  simp at hq
  refine ⟨j, hj, hq.1, ?_⟩
  simp [hq.1] at hp
  omega

/- the others, without i -/
def M0 (M : Nat → Bool) (i j : Nat) : Bool := M j && decide (j ≠ i)

theorem rankZ_split {i : Nat} (hi : i < n) (mi : M i = true) (j : Nat) : rankZ n z M j = rankZ n z (M0 M i) j + if z i < z j ∨ z i = z j ∧ i < j then 1 else 0 := by
  unfold rankZ
  rw [cnt_split (P := ahd z M j) hi]
  have e1 : cnt (fun x => ahd z M j x && decide (x ≠ i)) n = cnt (ahd z (M0 M i) j) n := cnt_congr (fun x _ => by
    unfold ahd M0
    cases M x <;> cases decide (x ≠ i) <;> simp)
  rw [e1]
  congr 1
  by_cases h : z i < z j ∨ z i = z j ∧ i < j
  · rw [if_pos h, if_pos ((ahd_iff z M j i).2 ⟨mi, h⟩)]
  · rw [if_neg h, ahd_no (fun hh => h hh.2)]; simp
theorem rankZ_self {i : Nat} (hi : i < n) (mi : M i = true) : rankZ n z M i = rankZ n z (M0 M i) i := by
  rw [rankZ_split hi mi i, if_neg (by omega)]; omega
/-- j of the others stands ahead of i just if fewer of the others stand ahead of j than of i -/
theorem ahd_rank {i j : Nat} (hi : i < n) (mi : M i = true) (hj : j < n) (mj : M j = true) (hne : j ≠ i) : (z j < z i ∨ z j = z i ∧ j < i) ↔ rankZ n z (M0 M i) j < rankZ n z M i := by
  rw [rankZ_self hi mi]
  constructor
  · intro h
    exact rankZ_lt hj ((ahd_iff z (M0 M i) i j).2 ⟨by simp [M0, mj, hne], h⟩)
  · intro h
    apply Classical.byContradiction
    intro hno
    have : rankZ n z (M0 M i) i ≤ rankZ n z (M0 M i) j := by
      unfold rankZ
      refine cnt_mono (fun x _ hx => ?_)
      rw [ahd_iff] at hx ⊢
      exact ⟨hx.1, by omega⟩
    omega
/-- the others' ranks among themselves do not hang on i's key -/
theorem rank0_congr {i : Nat} (hz : ∀ j, j ≠ i → z' j = z j) {j : Nat} (hne : j ≠ i) : rankZ n z' (M0 M i) j = rankZ n z (M0 M i) j := by
  unfold rankZ
  refine cnt_congr (fun x _ => ?_)
  unfold ahd
  by_cases hx : x = i
  · subst hx; simp [M0]
  · rw [hz x hx, hz j hne]
/-- behind i: who has rank m is the one of the others behind m - 1 of the others -/
theorem rank_behind {i : Nat} (hi : i < n) (mi : M i = true) {m : Nat} (hm : rankZ n z M i < m) {j : Nat} (hj : j < n) (mj : M j = true) : rankZ n z M j = m ↔ j ≠ i ∧ rankZ n z (M0 M i) j + 1 = m := by
  by_cases e : j = i
  · subst e
    constructor
    · intro h; omega
    · intro h; exact absurd rfl h.1
  · have hs := rankZ_split (z := z) hi mi j
    have ha := ahd_rank (z := z) hi mi hj mj e
    by_cases h : z i < z j ∨ z i = z j ∧ i < j
    · rw [if_pos h] at hs
      constructor
      · intro h'; exact ⟨e, by omega⟩
      · intro h'; omega
    · rw [if_neg h] at hs
      have h1 := ha.1 (by omega)
      constructor
      · intro h'; omega
      · intro h'; omega

/-- the key of the one of rank m -/
def keyAt (n : Nat) (z : Nat → Int) (M : Nat → Bool) (m : Nat) : Option Int := ((List.range n).find? (fun j => M j && decide (rankZ n z M j = m))).map z

theorem keyAt_of {j m : Nat} (hj : j < n) (mj : M j = true) (h : rankZ n z M j = m) : keyAt n z M m = some (z j) := by
  unfold keyAt
  cases hf : (List.range n).find? (fun j => M j && decide (rankZ n z M j = m)) with
  | none =>
    have := List.find?_eq_none.1 hf j (List.mem_range.2 hj)
    simp [mj, h] at this
  | some x =>
    have h1 := List.find?_some hf
    have h2 := List.mem_range.1 (List.mem_of_find?_eq_some hf)
    simp at h1
    have : x = j := rankZ_inj (z := z) h2 hj h1.1 mj (by omega)
    rw [this]; rfl
theorem keyAt_inv {m : Nat} {q : Int} (h : keyAt n z M m = some q) : ∃ j, j < n ∧ M j = true ∧ rankZ n z M j = m ∧ z j = q := by
  unfold keyAt at h
  obtain ⟨x, hf, hq⟩ := Option.map_eq_some_iff.1 h
  have h1 := List.find?_some hf
  have h2 := List.mem_range.1 (List.mem_of_find?_eq_some hf)
  simp at h1
  exact ⟨x, h2, h1.1, h1.2, hq⟩
theorem keyAt_none {m : Nat} (h : cnt M n ≤ m) : keyAt n z M m = none := by
  cases hk : keyAt n z M m with
  | none => rfl
  | some q =>
    obtain ⟨j, hj, mj, hr, _⟩ := keyAt_inv hk
    have := rankZ_bd (z := z) hj mj
    omega
theorem keyAt_some {m : Nat} (h : m < cnt M n) : ∃ j, j < n ∧ M j = true ∧ rankZ n z M j = m ∧ keyAt n z M m = some (z j) := by
  obtain ⟨j, hj, mj, hr⟩ := rankZ_exists (z := z) h
  exact ⟨j, hj, mj, hr, keyAt_of hj mj hr⟩

/-- behind i, with both keys, the row is the same -/
theorem keyAt_behind {i : Nat} (hi : i < n) (mi : M i = true) (hz : ∀ j, j ≠ i → z' j = z j) {m : Nat} (h1 : rankZ n z M i < m) (h2 : rankZ n z' M i < m) : keyAt n z' M m = keyAt n z M m := by
  by_cases h : m < cnt M n
  · obtain ⟨j, hj, mj, hr, hk⟩ := keyAt_some (z := z) h
    obtain ⟨hne, hr0⟩ := (rank_behind hi mi h1 hj mj).1 hr
    have hr' : rankZ n z' M j = m := (rank_behind hi mi h2 hj mj).2 ⟨hne, by rw [rank0_congr hz hne]; exact hr0⟩
    rw [hk, keyAt_of hj mj hr', hz j hne]
  · rw [keyAt_none (by omega), keyAt_none (by omega)]
/-- a side's row does not hang on the keys of the other one -/
theorem rankZ_congr (hz : ∀ j, M j = true → z' j = z j) {j : Nat} (mj : M j = true) : rankZ n z' M j = rankZ n z M j := by
  unfold rankZ
  refine cnt_congr (fun x _ => ?_)
  unfold ahd
  cases hx : M x with
  | false => rfl
  | true => rw [hz x hx, hz j mj]
theorem keyAt_congr (hz : ∀ j, M j = true → z' j = z j) (m : Nat) : keyAt n z' M m = keyAt n z M m := by
  by_cases h : m < cnt M n
  · obtain ⟨j, hj, mj, hr, hk⟩ := keyAt_some (z := z) h
    rw [hk, keyAt_of hj mj (by rw [rankZ_congr hz mj]; exact hr), hz j mj]
  · rw [keyAt_none (by omega), keyAt_none (by omega)]

end
end Mk
