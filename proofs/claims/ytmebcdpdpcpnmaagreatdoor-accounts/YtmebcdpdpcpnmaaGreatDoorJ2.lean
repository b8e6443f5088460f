import Derived.Test.YtmebcdpdpcpnmaaGreatDoorJ1
import Derived.Deep.OwnRows
import Derived.Deep.RegionWith
namespace Go.Proofs.YtmebcdpdpcpnmaaGreatDoor
open Go.RowKit

/-- bestLevel's memory at a round's head: its result's block, its best level's block B -/
structure Bs (w wr : World) (B : Nat) (p d s : Int) : Prop where
  below : Below w.heap.size w wr
  lt : w.heap.size < B
  res : LvAt wr w.heap.size 0 0 0
  lv : LvAt wr B p d s

theorem Bs.next {w wr w' : World} {B : Nat} {p d s : Int} (h : Bs w wr B p d s) (hb : Below wr.heap.size wr w') : Bs w w' B p d s :=
  ⟨h.below.trans (hb.mono h.below.size), h.lt, h.res.below hb h.res.lt, h.lv.below hb h.lv.lt⟩
theorem Bs.alloc {w wr : World} {B : Nat} {p d s : Int} (h : Bs w wr B p d s) (o : Obj) : Bs w (wr.alloc o) B p d s :=
  h.next ((Below.refl _ _).alloc (Nat.le_refl _) o)
theorem Bs.set {w wr : World} {B : Nat} {p d s : Int} (h : Bs w wr B p d s) (p' d' s' : Int) : Bs w (((wr.setCell ⟨B, 0, none⟩ (.int .i64 p')).setCell ⟨B, 1, none⟩ (.int .i64 d')).setCell ⟨B, 2, none⟩ (.int .i64 s')) B p' d' s' := by
  have hl := h.lt
  exact ⟨((h.below.setCell (by show _ ≤ B; omega) _).setCell (by show _ ≤ B; omega) _).setCell (by show _ ≤ B; omega) _, h.lt, ((h.res.setOther _ (by omega)).setOther _ (by omega)).setOther _ (by omega), h.lv.set _ _ _⟩

set_option maxHeartbeats 1000000 in
theorem bestLevel_any (a : Option Addr) (cap : Nat) (l : List Mk.Ord) (w : World) (hv : Mk.validB 20 l = true) (hR : Rd w a l) :
    Calls Tryz.prog 58 #[.slice a l.length cap] w fun e w' => e = .returned (.agg #[.int .i64 (Mk.best l 98), .int .i64 (Mk.dem l (Mk.best l 98)), .int .i64 (Mk.sup l (Mk.best l 98))]) ∧ Below w.heap.size w w' := by
  have HV : Hid (Mk.validB 20 l = true) := hv
  have HR : Hid (Rd w a l) := hR
  clear hv hR
  go_enter Tryz.func58, Tryz.ntmps58
  go_wp2_with fail
  refine (levelAt_any a cap l _ _ HV.out (HR.out.below ((Below.refl _ _).alloc (Nat.le_refl _) _))).mono ?_
  rintro e w1 ⟨rfl, hb1⟩
  have hz1 : w.heap.size < w1.heap.size := by have := hb1.size; simp at this; omega
  have hB : Bs w (w1.alloc (.cells #[.int .i64 1, .int .i64 (Mk.dem l 1), .int .i64 (Mk.sup l 1)] 126)) w1.heap.size 1 (Mk.dem l 1) (Mk.sup l 1) := by
    refine ⟨(((Below.refl _ _).alloc (Nat.le_refl _) _).trans (hb1.mono (by simp))).alloc (by omega) _, hz1, ?_, LvAt.born _ _ _ _ _⟩
    exact ((LvAt.born w 0 0 0 126).below hb1 (by simp)).alloc _
  have HB : Hid (Bs w (w1.alloc (.cells #[.int .i64 1, .int .i64 (Mk.dem l 1), .int .i64 (Mk.sup l 1)] 126)) w1.heap.size 1 (Mk.dem l 1) (Mk.sup l 1)) := hB
  clear hB hb1
  go_wp2_with fail
  go_loopw [4] (fun i wr => ∃ k : Nat, k ≤ 98 ∧ i = .int .i64 ((k : Int) + 2) ∧ Bs w wr w1.heap.size (Mk.best l k) (Mk.dem l (Mk.best l k)) (Mk.sup l (Mk.best l k))) (fun i _ => 100 - (intOf i).toNat)
  case atStart => exact ⟨0, by omega, rfl, HB.out⟩
  case round =>
    obtain ⟨k, hk, rfl, hb⟩ := hrel
    have Hb : Hid (Bs w wr w1.heap.size (Mk.best l k) (Mk.dem l (Mk.best l k)) (Mk.sup l (Mk.best l k))) := hb
    obtain ⟨_, hsz, ⟨r0, r1, r2, g0, g1, g2⟩, ⟨e0, e1, e2, f0, f1, f2⟩⟩ := hb
    have hl1 := Hb.out.res.lt
    have hl2 := Hb.out.lv.lt
    by_cases hlt : k < 98
    · have hlt' : ((k : Int) + 2) ≤ 99 := by omega
      have bd := Mk.dem_bd HV.out ((k : Int) + 2)
      have bs := Mk.sup_bd HV.out ((k : Int) + 2)
      have bd' := Mk.dem_bd HV.out (Mk.best l k)
      have bs' := Mk.sup_bd HV.out (Mk.best l k)
      go_wp2_with fail
      refine (levelAt_any a cap l _ _ HV.out (HR.out.below Hb.out.below)).mono ?_
      rintro e w2 ⟨rfl, hb2⟩
      have H2 : Hid (Bs w (w2.alloc (.cells #[.int .i64 ((k : Int) + 2), .int .i64 (Mk.dem l ((k : Int) + 2)), .int .i64 (Mk.sup l ((k : Int) + 2))] 126)) w1.heap.size (Mk.best l k) (Mk.dem l (Mk.best l k)) (Mk.sup l (Mk.best l k))) := (Hb.out.next hb2).alloc _
      obtain ⟨_, _, _, ⟨a0, a1, a2, b0, b1, b2⟩⟩ := Hb.out.next hb2
      have hl3 : w1.heap.size < w2.heap.size := by have := hb2.size; omega
      clear hb2
      go_wp2_with fail
      refine (isBetter_any _ _ _ _ _ _ _ (by omega) (by omega) (by omega) (by omega) (by omega) (by omega) (by omega) (by omega)).mono ?_
      rintro e w3 ⟨rfl, hb3⟩
      have H3 : Hid (Bs w w3 w1.heap.size (Mk.best l k) (Mk.dem l (Mk.best l k)) (Mk.sup l (Mk.best l k))) := H2.out.next hb3
      obtain ⟨_, _, _, ⟨a0', a1', a2', b0', b1', b2'⟩⟩ := H3.out
      obtain ⟨n0, n1, n2, m0, m1, m2⟩ := (LvAt.born w2 ((k : Int) + 2) (Mk.dem l ((k : Int) + 2)) (Mk.sup l ((k : Int) + 2)) 126).below hb3 (by simp)
      clear hb3
      have hne : w1.heap.size ≠ w2.heap.size := by omega
      rcases hbt : Mk.betterB (Mk.dem l ((k : Int) + 2)) (Mk.sup l ((k : Int) + 2)) (Mk.dem l (Mk.best l k)) (Mk.sup l (Mk.best l k)) with _ | _
      · have HT : Hid (Mk.best l (k + 1) = Mk.best l k) := Mk.best_no l k hbt
        go_wp2
        go_roundw
        case rel => exact ⟨k + 1, by omega, by go_num, by rw [HT.out]; exact H3.out⟩
        case measure => simp [intOf]; omega
      · have HT : Hid (Mk.best l (k + 1) = k + 2) := Mk.best_yes l k hbt
        go_wp2
        go_roundw
        case rel => exact ⟨k + 1, by omega, by go_num, by rw [HT.out]; exact H3.out.set _ _ _⟩
        case measure => simp [intOf]; omega
    · have : k = 98 := by omega
      subst this
      go_wp2
      refine bodyPost_ret (v := .agg #[.int .i64 (Mk.best l 98), .int .i64 (Mk.dem l (Mk.best l 98)), .int .i64 (Mk.sup l (Mk.best l 98))]) ?_ rfl ⟨rfl, ((Hb.out.below.setCell (by simp) _).setCell (by simp) _).setCell (by simp) _⟩
      obtain ⟨q0, q1, q2, _, _, _⟩ := Hb.out.res.set (Mk.best l 98) (Mk.dem l (Mk.best l 98)) (Mk.sup l (Mk.best l 98))
      simp [results, Tryz.results58, go_sem, q0, q1, q2]

end Go.Proofs.YtmebcdpdpcpnmaaGreatDoor

/- Plain mathematics: who is served before whom; sums and counts over the first n numbers. -/
namespace Mk

def sumn (f : Nat → Int) : Nat → Int
  | 0 => 0
  | k + 1 => sumn f k + f k

def cnt (P : Nat → Bool) : Nat → Nat
  | 0 => 0
  | k + 1 => cnt P k + if P k then 1 else 0

/-- is j served before i? -/
def aheadB (Z : Nat → Int) (i j : Nat) : Bool := decide (Z i < Z j) || (decide (Z j = Z i) && decide (j < i))
def place (Z : Nat → Int) (n i : Nat) : Nat := cnt (aheadB Z i) n

theorem cnt_le (P : Nat → Bool) (n : Nat) : cnt P n ≤ n := by
  induction n with
  | zero => simp [cnt]
  | succ k ih => simp only [cnt]; split <;> omega

theorem cnt_yes {P : Nat → Bool} {k : Nat} (h : P k = true) : ((cnt P (k + 1) : Nat) : Int) = (cnt P k : Int) + 1 := by simp [cnt, h]
theorem cnt_no {P : Nat → Bool} {k : Nat} (h : P k = false) : ((cnt P (k + 1) : Nat) : Int) = (cnt P k : Int) := by simp [cnt, h]

theorem ahead_iff (Z : Nat → Int) (i j : Nat) : aheadB Z i j = true ↔ (Z i < Z j ∨ Z j = Z i ∧ j < i) := by simp [aheadB]
theorem ahead_yes {Z : Nat → Int} {i k : Nat} (h : Z i < Z k ∨ Z k = Z i ∧ k < i) : ((cnt (aheadB Z i) k : Nat) : Int) + 1 = (cnt (aheadB Z i) (k + 1) : Nat) := (cnt_yes ((ahead_iff Z i k).2 h)).symm
theorem ahead_no {Z : Nat → Int} {i k : Nat} (h : ¬ (Z i < Z k ∨ Z k = Z i ∧ k < i)) : ((cnt (aheadB Z i) k : Nat) : Int) = (cnt (aheadB Z i) (k + 1) : Nat) := (cnt_no (by rw [← Bool.not_eq_true, ahead_iff]; exact h)).symm

end Mk

namespace Go.Proofs.YtmebcdpdpcpnmaaGreatDoor
open Go.RowKit

set_option maxHeartbeats 1000000 in
theorem placeOf_any (g n : Nat) (Z : Nat → Int) (i : Nat) (w : World) (hi : i < n) (hn : n ≤ 12) (hrow : w.rowIs g 3 n (fun j => .int .i64 (Z j))) :
    Calls Tryz.prog 92 #[.int .i64 i, .slice (some ⟨g, 0, none⟩) n n] w fun e w' => e = .returned (.int .i64 (Mk.place Z n i)) ∧ w' = w := by
  have HR : Hid (w.rowIs g 3 n (fun j => .int .i64 (Z j))) := hrow
  have ci := hrow.cell hi
  have hi' : (i : Int) < (n : Int) := by omega
  have ht1 : decide (n ≤ i) = false := by simp; omega
  have ht2 : ¬ n ≤ i := by omega
  clear hrow
  go_enter Tryz.func92, Tryz.ntmps92
  go_wp2
  go_loop [5, 20] (fun c j => ∃ k : Nat, k ≤ n ∧ j = .int .i64 k ∧ c = .int .i64 (Mk.cnt (Mk.aheadB Z i) k)) (fun _ j => n - (intOf j).toNat)
  case atStart => exact ⟨0, Nat.zero_le _, rfl, rfl⟩
  case round =>
    obtain ⟨k, hk, rfl, rfl⟩ := hrel
    have hc := Mk.cnt_le (Mk.aheadB Z i) k
    by_cases hlt : k < n
    · have ck := World.rowIs.cell HR.out hlt
      have hlt' : (k : Int) < (n : Int) := by omega
      go_wp2
      all_goals
        go_round
        case rel =>
          refine ⟨k + 1, by omega, by go_num, ?_⟩
          first
            | (refine congrArg _ (Mk.ahead_yes ?_); omega)
            | (refine congrArg _ (Mk.ahead_no ?_); omega)
        case measure => simp [intOf]; omega
    · go_wp2
      go_ret
      have : k = n := by omega
      subst this
      exact ⟨rfl, rfl⟩

end Go.Proofs.YtmebcdpdpcpnmaaGreatDoor

/- Plain mathematics: what each order gets. -/
namespace Mk

def tot (d s : Int) (o : Ord) : Int := if o.sell then s else d
def offB (d s p : Int) (o : Ord) : Bool := decide (tot d s o < 1) || !willB o.sell o.price p
def shareo (d s p : Int) (o : Ord) : Int := if offB d s p o then 0 else less d s * o.qty / tot d s o
def losto (d s p : Int) (o : Ord) : Int := if offB d s p o then 0 else less d s * o.qty % tot d s o
def ozero : Ord := ⟨false, 0, 0⟩
def G0 (l : List Ord) (d s p : Int) (i : Nat) : Int := shareo d s p (l.getD i ozero)
def L0 (l : List Ord) (d s p : Int) (i : Nat) : Int := losto d s p (l.getD i ozero)
def left0 (l : List Ord) (d s p : Int) : Int := 2 * less d s - sumn (G0 l d s p) l.length
def getsf (l : List Ord) (d s p : Int) (i : Nat) : Int := G0 l d s p i + if (place (L0 l d s p) l.length i : Int) < left0 l d s p then 1 else 0

theorem less_bd {d s : Int} (h1 : 0 ≤ d ∧ d ≤ 240) (h2 : 0 ≤ s ∧ s ≤ 240) : 0 ≤ less d s ∧ less d s ≤ 240 := by unfold less; split <;> omega
theorem mul_bd {v q : Int} (h1 : 0 ≤ v ∧ v ≤ 240) (h2 : 0 ≤ q ∧ q ≤ 20) : 0 ≤ v * q ∧ v * q ≤ 4800 := by
  refine ⟨Int.mul_nonneg h1.1 h2.1, ?_⟩
  calc v * q ≤ 240 * q := Int.mul_le_mul_of_nonneg_right h1.2 h2.1
    _ ≤ 240 * 20 := Int.mul_le_mul_of_nonneg_left h2.2 (by omega)
    _ = 4800 := by omega
theorem div_bd {a t : Int} (h1 : 0 ≤ a ∧ a ≤ 4800) (h : 1 ≤ t) : 0 ≤ a / t ∧ a / t ≤ 4800 := by
  refine ⟨Int.ediv_nonneg h1.1 (by omega), ?_⟩
  exact Int.le_trans (Int.ediv_le_self t h1.1) h1.2
theorem shareo_bd {d s p : Int} {o : Ord} (h1 : 0 ≤ d ∧ d ≤ 240) (h2 : 0 ≤ s ∧ s ≤ 240) (hq : 0 ≤ o.qty ∧ o.qty ≤ 20) : 0 ≤ shareo d s p o ∧ shareo d s p o ≤ 4800 := by
  unfold shareo
  split
  · omega
  · rename_i h
    have : 1 ≤ tot d s o := by
      simp only [offB, Bool.or_eq_true, decide_eq_true_eq, not_or] at h; omega
    exact div_bd (mul_bd (less_bd h1 h2) hq) this
theorem G0_bd {l : List Ord} {d s p : Int} (hv : validB 20 l = true) (h1 : 0 ≤ d ∧ d ≤ 240) (h2 : 0 ≤ s ∧ s ≤ 240) (i : Nat) : 0 ≤ G0 l d s p i ∧ G0 l d s p i ≤ 4800 := by
  unfold G0
  refine shareo_bd h1 h2 ?_
  by_cases h : i < l.length
  · have := (ok_of_valid hv).2 l[i] (List.getElem_mem h)
    simp [List.getD, List.getElem?_eq_getElem h]; omega
  · simp [List.getD, List.getElem?_eq_none (Nat.le_of_not_lt h), ozero]
theorem sumn_bd (f : Nat → Int) (B : Int) (h : ∀ i, 0 ≤ f i ∧ f i ≤ B) (n : Nat) : 0 ≤ sumn f n ∧ sumn f n ≤ B * n := by
  induction n with
  | zero => simp [sumn]
  | succ k ih =>
    have := h k
    have e : B * ((k + 1 : Nat) : Int) = B * (k : Int) + B := by rw [Int.natCast_add, Int.mul_add]; simp
    simp only [sumn]
    omega
theorem G0_at {l : List Ord} {d s p : Int} {k : Nat} (h : k < l.length) : G0 l d s p k = shareo d s p l[k] := by simp [G0, List.getD, List.getElem?_eq_getElem h]
theorem L0_at {l : List Ord} {d s p : Int} {k : Nat} (h : k < l.length) : L0 l d s p k = losto d s p l[k] := by simp [L0, List.getD, List.getElem?_eq_getElem h]

theorem share_no {d s p : Int} {o : Ord} (h : tot d s o < 1 ∨ willB o.sell o.price p = false) : shareo d s p o = 0 ∧ losto d s p o = 0 := by
  have : offB d s p o = true := by simp only [offB, Bool.or_eq_true, decide_eq_true_eq, Bool.not_eq_true']; exact h
  simp [shareo, losto, this]
theorem share_yes {d s p : Int} {o : Ord} (h1 : 1 ≤ tot d s o) (h2 : willB o.sell o.price p = true) : shareo d s p o = less d s * o.qty / tot d s o ∧ losto d s p o = less d s * o.qty % tot d s o := by
  have : offB d s p o = false := by simp only [offB, Bool.or_eq_false_iff, decide_eq_false_iff_not, h2]; exact ⟨by omega, rfl⟩
  simp [shareo, losto, this]
theorem step_off {G : Nat → Int} {k : Nat} (h : G k = 0) (i : Nat) : (if i < k then G i else 0) = if i < k + 1 then G i else 0 := by
  by_cases e : i = k
  · subst e; simp [h]
  · by_cases h1 : i < k
    · rw [if_pos h1, if_pos (by omega)]
    · rw [if_neg h1, if_neg (by omega)]
theorem step_on {G : Nat → Int} {k : Nat} {v : Int} (h : G k = v) (i : Nat) : (if i = k then v else if i < k then G i else 0) = if i < k + 1 then G i else 0 := by
  by_cases e : i = k
  · subst e; simp [h]
  · rw [if_neg e]
    by_cases h1 : i < k
    · rw [if_pos h1, if_pos (by omega)]
    · rw [if_neg h1, if_neg (by omega)]
theorem tot_bd {d s : Int} {o : Ord} (h1 : 0 ≤ d ∧ d ≤ 240) (h2 : 0 ≤ s ∧ s ≤ 240) : 0 ≤ tot d s o ∧ tot d s o ≤ 240 := by unfold tot; split <;> assumption

theorem getsf_yes {l : List Ord} {d s p : Int} {k : Nat} (h : (place (L0 l d s p) l.length k : Int) < 2 * less d s - sumn (G0 l d s p) l.length) : getsf l d s p k = G0 l d s p k + 1 := by
  unfold getsf left0; rw [if_pos h]
theorem getsf_no {l : List Ord} {d s p : Int} {k : Nat} (h : ¬ (place (L0 l d s p) l.length k : Int) < 2 * less d s - sumn (G0 l d s p) l.length) : getsf l d s p k = G0 l d s p k := by
  unfold getsf left0; rw [if_neg h]; omega
theorem step2_off {G F : Nat → Int} {k : Nat} (h : F k = G k) (i : Nat) : (if i < k then F i else G i) = if i < k + 1 then F i else G i := by
  by_cases e : i = k
  · subst e; simp [h]
  · by_cases h1 : i < k
    · rw [if_pos h1, if_pos (by omega)]
    · rw [if_neg h1, if_neg (by omega)]
theorem step2_on {G F : Nat → Int} {k : Nat} {v : Int} (h : F k = v) (i : Nat) : (if i = k then v else if i < k then F i else G i) = if i < k + 1 then F i else G i := by
  by_cases e : i = k
  · subst e; simp [h]
  · rw [if_neg e]
    by_cases h1 : i < k
    · rw [if_pos h1, if_pos (by omega)]
    · rw [if_neg h1, if_neg (by omega)]

end Mk

namespace Go.Proofs.YtmebcdpdpcpnmaaGreatDoor
open Go.RowKit

theorem row_below {w w' : World} {b n m : Nat} {t : TypeId} {f : Nat → Value} (h : w.rowIs b t n f) (hb : Below m w w') (hm : b < m) : w'.rowIs b t n f := h.of_block (hb.block b hm)

/-- the memory of 'shares': the level's box, the row 'gets', the row 'lost' -/
structure Sh (w wr : World) (n : Nat) (p d s : Int) (G L : Nat → Int) : Prop where
  below : Below w.heap.size w wr
  lv : LvAt wr w.heap.size p d s
  gets : wr.rowIs (w.heap.size + 1) 3 n (fun i => .int .i64 (G i))
  lost : wr.rowIs (w.heap.size + 1 + 1) 3 n (fun i => .int .i64 (L i))

theorem Sh.next {w wr w' : World} {n : Nat} {p d s : Int} {G L : Nat → Int} (h : Sh w wr n p d s G L) (hb : Below wr.heap.size wr w') : Sh w w' n p d s G L :=
  ⟨h.below.trans (hb.mono h.below.size), h.lv.below hb h.lv.lt, row_below h.gets hb h.gets.lt, row_below h.lost hb h.lost.lt⟩
theorem Sh.alloc {w wr : World} {n : Nat} {p d s : Int} {G L : Nat → Int} (h : Sh w wr n p d s G L) (o : Obj) : Sh w (wr.alloc o) n p d s G L :=
  h.next ((Below.refl _ _).alloc (Nat.le_refl _) o)
theorem Sh.setG {w wr : World} {n : Nat} {p d s : Int} {G L : Nat → Int} (h : Sh w wr n p d s G L) (i : Nat) (v : Int) : Sh w (wr.setCell ⟨w.heap.size + 1, i, none⟩ (.int .i64 v)) n p d s (fun j => if j = i then v else G j) L :=
  ⟨h.below.setCell (by simp) _, h.lv.setOther _ (by omega), (h.gets.set i (.int .i64 v)).congr (fun j _ => by by_cases e : j = i <;> simp [e]), h.lost.setOther (by simp) _⟩
theorem Sh.setL {w wr : World} {n : Nat} {p d s : Int} {G L : Nat → Int} (h : Sh w wr n p d s G L) (i : Nat) (v : Int) : Sh w (wr.setCell ⟨w.heap.size + 1 + 1, i, none⟩ (.int .i64 v)) n p d s G (fun j => if j = i then v else L j) :=
  ⟨h.below.setCell (by show w.heap.size ≤ w.heap.size + 1 + 1; omega) _, h.lv.setOther _ (by omega), h.gets.setOther (by simp) _, (h.lost.set i (.int .i64 v)).congr (fun j _ => by by_cases e : j = i <;> simp [e])⟩
theorem Sh.congr {w wr : World} {n : Nat} {p d s : Int} {G L G' L' : Nat → Int} (h : Sh w wr n p d s G L) (hG : ∀ i, i < n → G i = G' i) (hL : ∀ i, i < n → L i = L' i) : Sh w wr n p d s G' L' :=
  ⟨h.below, h.lv, h.gets.congr (fun i hi => by rw [hG i hi]), h.lost.congr (fun i hi => by rw [hL i hi])⟩

theorem Tryz.infoInt : (Tryz.prog.info? 3).map (fun i => (i.zero, i.size, i.bytes)) = some (some (.int .i64 0), 1, 8) := by kernel_rfl

theorem sideTotal_tot (p d s : Int) (b : Bool) (pr q : Int) (w : World) :
    Calls Tryz.prog 90 #[.agg #[.int .i64 p, .int .i64 d, .int .i64 s], .agg #[.bool b, .int .i64 pr, .int .i64 q]] w fun e w' =>
      e = .returned (.int .i64 (Mk.tot d s ⟨b, pr, q⟩)) ∧ w' = (w.alloc (.cells #[.int .i64 p, .int .i64 d, .int .i64 s] 126)).alloc (.cells #[.bool b, .int .i64 pr, .int .i64 q] 123) :=
  sideTotal_any p d s b pr q w

set_option maxHeartbeats 1000000 in
theorem shares_some (b off cap : Nat) (l : List Mk.Ord) (p d s : Int) (w : World) (hv : Mk.validB 20 l = true) (bd : 0 ≤ d ∧ d ≤ 240) (bs : 0 ≤ s ∧ s ≤ 240) (hR : At w b off l) :
    Calls Tryz.prog 60 #[.agg #[.int .i64 p, .int .i64 d, .int .i64 s], .slice (some ⟨b, off, none⟩) l.length cap] w fun e w' =>
      e = .returned (.slice (some ⟨w.heap.size + 1, 0, none⟩) l.length l.length) ∧ Below w.heap.size w w' ∧ w'.rowIs (w.heap.size + 1) 3 l.length (fun i => .int .i64 (Mk.getsf l d s p i)) := by
  obtain ⟨h12, hok⟩ := Mk.ok_of_valid hv
  have HV : Hid (Mk.validB 20 l = true) := hv
  have HO : Hid (∀ o ∈ l, 1 ≤ o.price ∧ o.price ≤ 99 ∧ 1 ≤ o.qty ∧ o.qty ≤ 20) := hok
  have HR : Hid (At w b off l) := hR
  clear hv hok hR
  have bV := Mk.less_bd bd bs
  have hmk := run_make_row' (P := Tryz.prog) 53 3 (.int .i64 0) 8 Tryz.underlying53 Tryz.infoInt rfl .i64 .i64 l.length (by omega) (by omega)
  go_enter Tryz.func60, Tryz.ntmps60
  go_wp2_with (go_at_call 59; refine (traded_any _ _ _ _).mono ?_; rintro e w' ⟨rfl, rfl⟩)
  go_loopw [8, 25] (fun lf i wr => ∃ k : Nat, k ≤ l.length ∧ i = .int .i64 k ∧ lf = .int .i64 (2 * Mk.less d s - Mk.sumn (Mk.G0 l d s p) k) ∧ Sh w wr l.length p d s (fun i => if i < k then Mk.G0 l d s p i else 0) (fun i => if i < k then Mk.L0 l d s p i else 0)) (fun _ i _ => l.length - (intOf i).toNat)
  case atStart =>
    refine ⟨0, Nat.zero_le _, rfl, by simp [Mk.sumn], ?_⟩
    have h1 := (((LvAt.born w p d s 126).alloc (.cells (madeCells #[.int .i64 0] l.length) 3)).alloc (.cells (madeCells #[.int .i64 0] l.length) 3)).alloc (.cells #[.int .i64 p, .int .i64 d, .int .i64 s] 126)
    have h2 := ((World.rowIs_made (w.alloc (.cells #[.int .i64 p, .int .i64 d, .int .i64 s] 126)) (.int .i64 0) l.length 3).alloc (.cells (madeCells #[.int .i64 0] l.length) 3)).alloc (.cells #[.int .i64 p, .int .i64 d, .int .i64 s] 126)
    have h3 := (World.rowIs_made ((w.alloc (.cells #[.int .i64 p, .int .i64 d, .int .i64 s] 126)).alloc (.cells (madeCells #[.int .i64 0] l.length) 3)) (.int .i64 0) l.length 3).alloc (.cells #[.int .i64 p, .int .i64 d, .int .i64 s] 126)
    simp only [World.size_alloc] at h2 h3
    exact ⟨((((Below.refl _ _).alloc (Nat.le_refl _) _).alloc (by simp) _).alloc (by simp; omega) _).alloc (by simp; omega) _, h1, h2.congr (fun i _ => by simp), h3.congr (fun i _ => by simp)⟩
  case round =>
    obtain ⟨k, hk, rfl, rfl, hb⟩ := hrel
    have Hb : Hid (Sh w wr l.length p d s (fun i => if i < k then Mk.G0 l d s p i else 0) (fun i => if i < k then Mk.L0 l d s p i else 0)) := hb
    obtain ⟨_, ⟨v0, v1, v2, _, _, _⟩, _, _⟩ := hb
    have z2 : w.heap.size + 1 + 1 < wr.heap.size := Hb.out.lost.lt
    have y1 : w.heap.size < wr.heap.size + 1 := by omega
    have y2 : w.heap.size < wr.heap.size + 1 + 1 := by omega
    have y3 : w.heap.size < wr.heap.size + 1 + 1 + 1 := by omega
    have x1 : w.heap.size + 1 < wr.heap.size + 1 := by omega
    have x2 : w.heap.size + 1 < wr.heap.size + 1 + 1 := by omega
    have x3 : w.heap.size + 1 < wr.heap.size + 1 + 1 + 1 := by omega
    have t1 : w.heap.size + 1 + 1 < wr.heap.size + 1 := by omega
    have t2 : w.heap.size + 1 + 1 < wr.heap.size + 1 + 1 := by omega
    have t3 : w.heap.size + 1 + 1 < wr.heap.size + 1 + 1 + 1 := by omega
    have z1 : w.heap.size + 1 < wr.heap.size := by omega
    have z0 : w.heap.size < wr.heap.size := by omega
    have z0' : w.heap.size ≤ wr.heap.size := by omega
    have sb := Mk.sumn_bd (Mk.G0 l d s p) 4800 (fun i => Mk.G0_bd HV.out bd bs i) k
    have sb1 : 0 ≤ Mk.sumn (Mk.G0 l d s p) k := sb.1
    have sb2 : Mk.sumn (Mk.G0 l d s p) k ≤ 57600 := by omega
    clear sb
    by_cases hlt : k < l.length
    · obtain ⟨c0, c1, c2⟩ := At.below HR.out Hb.out.below k hlt
      have hbl := blk_lt c0
      have gc := Hb.out.gets.cell hlt
      have lc := Hb.out.lost.cell hlt
      have gf := Hb.out.gets.frozen k
      have lf := Hb.out.lost.frozen k
      simp only [Nat.lt_irrefl, if_false] at gc lc
      have hq := HO.out _ (List.getElem_mem hlt)
      have hlt' : (k : Int) < (l.length : Int) := by omega
      have HG : Hid (Mk.G0 l d s p k = Mk.shareo d s p l[k]) := Mk.G0_at hlt
      have HL : Hid (Mk.L0 l d s p k = Mk.losto d s p l[k]) := Mk.L0_at hlt
      revert c0 c1 c2 hq HG HL
      generalize l[k] = o
      obtain ⟨sl, pr, q⟩ := o
      intro c0 c1 c2 hq HG HL
      simp only at c0 c1 c2 hq
      obtain ⟨q1, q2⟩ : 0 ≤ q ∧ q ≤ 20 := by omega
      clear hq
      have mb := Mk.mul_bd bV ⟨q1, q2⟩
      have tb := Mk.tot_bd (o := ⟨sl, pr, q⟩) bd bs
      by_cases ht : Mk.tot d s ⟨sl, pr, q⟩ < 1
      · have HN : Hid (Mk.G0 l d s p k = 0 ∧ Mk.L0 l d s p k = 0) := by
          have := Mk.share_no (p := p) (o := ⟨sl, pr, q⟩) (.inl ht)
          exact ⟨HG.out.trans this.1, HL.out.trans this.2⟩
        go_wp2_with (first | (go_at_call 90; refine (sideTotal_tot _ _ _ _ _ _ _).mono ?_; rintro e w' ⟨rfl, rfl⟩) | (go_at_call 91; refine (mwilling_any _ _ _ _ _).mono ?_; rintro e w' ⟨rfl, rfl⟩))
        go_roundw
        case rel => exact ⟨k + 1, by omega, by go_num, by simp [Mk.sumn, HN.out.1], (((Hb.out.alloc _).alloc _).alloc _).congr (fun i _ => Mk.step_off HN.out.1 i) (fun i _ => Mk.step_off HN.out.2 i)⟩
        case measure => simp [intOf]; omega
      · have ht' : 1 ≤ Mk.tot d s ⟨sl, pr, q⟩ := by omega
        have db := Mk.div_bd mb ht'
        rcases Bool.eq_false_or_eq_true (Mk.willB sl pr p) with hw | hw
        · have HN : Hid (Mk.G0 l d s p k = Mk.less d s * q / Mk.tot d s ⟨sl, pr, q⟩ ∧ Mk.L0 l d s p k = Mk.less d s * q % Mk.tot d s ⟨sl, pr, q⟩) := by
            have := Mk.share_yes (p := p) (o := ⟨sl, pr, q⟩) ht' hw
            exact ⟨HG.out.trans this.1, HL.out.trans this.2⟩
          go_wp2_with (first | (go_at_call 90; refine (sideTotal_tot _ _ _ _ _ _ _).mono ?_; rintro e w' ⟨rfl, rfl⟩) | (go_at_call 91; refine (mwilling_any _ _ _ _ _).mono ?_; rintro e w' ⟨rfl, rfl⟩))
          go_roundw
          case rel => exact ⟨k + 1, by omega, by go_num, by simp only [Mk.sumn, HN.out.1]; go_num, ((((((Hb.out.setG k _).setL k _).alloc _).alloc _).alloc _).alloc _).congr (fun i _ => Mk.step_on HN.out.1 i) (fun i _ => Mk.step_on HN.out.2 i)⟩
          case measure => simp [intOf]; omega
        · have HN : Hid (Mk.G0 l d s p k = 0 ∧ Mk.L0 l d s p k = 0) := by
            have := Mk.share_no (d := d) (s := s) (p := p) (o := ⟨sl, pr, q⟩) (.inr hw)
            exact ⟨HG.out.trans this.1, HL.out.trans this.2⟩
          go_wp2_with (first | (go_at_call 90; refine (sideTotal_tot _ _ _ _ _ _ _).mono ?_; rintro e w' ⟨rfl, rfl⟩) | (go_at_call 91; refine (mwilling_any _ _ _ _ _).mono ?_; rintro e w' ⟨rfl, rfl⟩))
          go_roundw
          case rel => exact ⟨k + 1, by omega, by go_num, by simp [Mk.sumn, HN.out.1], ((((Hb.out.alloc _).alloc _).alloc _).alloc _).congr (fun i _ => Mk.step_off HN.out.1 i) (fun i _ => Mk.step_off HN.out.2 i)⟩
          case measure => simp [intOf]; omega
    · obtain rfl : k = l.length := by omega
      have H1 : Hid (Sh w wr l.length p d s (Mk.G0 l d s p) (Mk.L0 l d s p)) := Hb.out.congr (fun i hi => by simp [hi]) (fun i hi => by simp [hi])
      clear Hb
      obtain ⟨wo, rfl⟩ : ∃ wo : World, wo = wr := ⟨_, rfl⟩
      go_wp2
      go_loopw [69] (fun i wr => ∃ k : Nat, k ≤ l.length ∧ i = .int .i64 k ∧ Sh w wr l.length p d s (fun i => if i < k then Mk.getsf l d s p i else Mk.G0 l d s p i) (Mk.L0 l d s p)) (fun i _ => l.length - (intOf i).toNat)
      case atStart => exact ⟨0, Nat.zero_le _, rfl, H1.out.congr (fun i _ => by simp) (fun i _ => rfl)⟩
      case round =>
        clear H1 v0 v1 v2
        obtain ⟨k, hk2, rfl, hb⟩ := hrel
        have Hb : Hid (Sh w wr l.length p d s (fun i => if i < k then Mk.getsf l d s p i else Mk.G0 l d s p i) (Mk.L0 l d s p)) := hb
        clear hb
        by_cases hlt : k < l.length
        · have gc := Hb.out.gets.cell hlt
          have gf := Hb.out.gets.frozen k
          simp only [Nat.lt_irrefl, if_false] at gc
          have hlt' : (k : Int) < (l.length : Int) := by omega
          have gb := Mk.G0_bd (p := p) HV.out bd bs k
          by_cases hp : (Mk.place (Mk.L0 l d s p) l.length k : Int) < 2 * Mk.less d s - Mk.sumn (Mk.G0 l d s p) l.length
          · have HG := (show Hid _ from Mk.getsf_yes hp)
            go_wp2_with (go_at_call 92; refine (placeOf_any _ _ (Mk.L0 l d s p) k _ hlt h12 Hb.out.lost).mono ?_; rintro e w' ⟨rfl, rfl⟩)
            go_roundw
            case rel => exact ⟨k + 1, by omega, by go_num, (Hb.out.setG k _).congr (fun i _ => Mk.step2_on HG.out i) (fun i _ => rfl)⟩
            case measure => simp [intOf]; omega
          · have HG := (show Hid _ from Mk.getsf_no hp)
            go_wp2_with (go_at_call 92; refine (placeOf_any _ _ (Mk.L0 l d s p) k _ hlt h12 Hb.out.lost).mono ?_; rintro e w' ⟨rfl, rfl⟩)
            go_roundw
            case rel => exact ⟨k + 1, by omega, by go_num, Hb.out.congr (fun i _ => Mk.step2_off HG.out i) (fun i _ => rfl)⟩
            case measure => simp [intOf]; omega
        · obtain rfl : k = l.length := by omega
          go_wp2
          go_ret
          exact ⟨rfl, Hb.out.below, Hb.out.gets.congr (fun i hi => by simp [hi])⟩

end Go.Proofs.YtmebcdpdpcpnmaaGreatDoor

namespace Go.Proofs.YtmebcdpdpcpnmaaGreatDoor
open Go.RowKit

theorem At.drew {w : World} {b off : Nat} {l : List Mk.Ord} (h : At w b off l) : At w.drew b off l := h
theorem LvAt.next {W W' w' : World} {B : Nat} {p d s : Int} (h : LvAt W B p d s) (e : W'.heap = W.heap) (hb : Below W'.heap.size W' w') : w'.cell? ⟨B, 0, none⟩ = some (.int .i64 p) := by
  have hl := h.lt
  rw [hb.cell (p := ⟨B, 0, none⟩) (by rw [e]; exact hl)]
  have := h.c0
  simpa [World.cell?, e] using this

set_option maxHeartbeats 1000000 in
theorem uniform_bad (a : Option Addr) (cap : Nat) (l : List Mk.Ord) (w : World) (hv : Mk.validB 20 l = false) (hR : Rd w a l) :
    Calls Tryz.prog 39 #[.slice a l.length cap] w fun e w' => e = .returned (.tuple #[.slice none 0 0, .int .i64 0, .int .i64 1]) ∧ Below w.heap.size w w' := by
  have HR : Hid (Rd w a l) := hR
  clear hR
  go_enter Tryz.func39, Tryz.ntmps39
  go_wp2_with (go_at_call 57; refine (isBatch_any a cap l _ HR.out).mono ?_; rintro e w1 ⟨rfl, hb1⟩)
  go_ret3
  exact ⟨rfl, by assumption⟩

set_option maxHeartbeats 1000000 in
theorem uniform_zero (a : Option Addr) (cap : Nat) (l : List Mk.Ord) (w : World) (hv : Mk.validB 20 l = true) (hR : Rd w a l) (hz : Mk.vol l (Mk.best l 98) = 0) :
    Calls Tryz.prog 39 #[.slice a l.length cap] w fun e w' => ∃ g, e = .returned (.tuple #[.slice (some ⟨g, 0, none⟩) l.length l.length, .int .i64 0, .int .i64 0]) ∧ w.heap.size ≤ g ∧ Below w.heap.size w w' ∧ w'.rowIs g 3 l.length (fun _ => .int .i64 0) := by
  have HR : Hid (Rd w a l) := hR
  have HV : Hid (Mk.validB 20 l = true) := hv
  have h12 := (Mk.ok_of_valid hv).1
  have hz' : (Mk.less (Mk.dem l (Mk.best l 98)) (Mk.sup l (Mk.best l 98)) == 0) = true := by simpa [Mk.vol] using hz
  have hmk := run_make_row' (P := Tryz.prog) 53 3 (.int .i64 0) 8 Tryz.underlying53 Tryz.infoInt rfl .i64 .i64 l.length (by omega) (by omega)
  clear hR hz
  go_enter Tryz.func39, Tryz.ntmps39
  go_wp2_with fail
  refine (isBatch_any a cap l _ HR.out).mono ?_
  rintro e w1 ⟨rfl, hb1⟩
  have Hb1 : Hid (Below w.heap.size w w1) := hb1
  clear hb1
  go_wp2_with fail
  refine (bestLevel_any a cap l _ HV.out (HR.out.below Hb1.out)).mono ?_
  rintro e w2 ⟨rfl, hb2⟩
  have Hb2 : Hid (Below w.heap.size w w2) := Hb1.out.trans (hb2.mono Hb1.out.size)
  clear hb2
  go_wp2_with (go_at_call 59; refine (traded_any _ _ _ _).mono ?_; rintro e w' ⟨rfl, rfl⟩)
  go_ret3
  have hs := Hb2.out.size
  have hrow := World.rowIs_made ((w2.alloc (.cells #[.int .i64 (Mk.best l 98), .int .i64 (Mk.dem l (Mk.best l 98)), .int .i64 (Mk.sup l (Mk.best l 98))] 126)).alloc (.cells #[.int .i64 (Mk.best l 98), .int .i64 (Mk.dem l (Mk.best l 98)), .int .i64 (Mk.sup l (Mk.best l 98))] 126)) (.int .i64 0) l.length 3
  simp only [World.size_alloc] at hrow
  refine ⟨w2.heap.size + 1 + 1, rfl, ?_, ?_, hrow⟩
  · omega
  · exact ((Hb2.out.alloc hs _).alloc (by simp; omega) _).alloc (by simp; omega) _

set_option maxHeartbeats 1000000 in
theorem uniform_some (b off cap : Nat) (l : List Mk.Ord) (w : World) (hv : Mk.validB 20 l = true) (hR : At w b off l) (hz : Mk.vol l (Mk.best l 98) ≠ 0) :
    Calls Tryz.prog 39 #[.slice (some ⟨b, off, none⟩) l.length cap] w fun e w' => ∃ g, e = .returned (.tuple #[.slice (some ⟨g, 0, none⟩) l.length l.length, .int .i64 (Mk.best l 98), .int .i64 0]) ∧ w.heap.size ≤ g ∧ Below w.heap.size w w' ∧ w'.rowIs g 3 l.length (fun i => .int .i64 (Mk.getsf l (Mk.dem l (Mk.best l 98)) (Mk.sup l (Mk.best l 98)) (Mk.best l 98) i)) := by
  have HR : Hid (At w b off l) := hR
  have HV : Hid (Mk.validB 20 l = true) := hv
  have hz' : (Mk.less (Mk.dem l (Mk.best l 98)) (Mk.sup l (Mk.best l 98)) == 0) = false := by simpa [Mk.vol] using hz
  clear hR hz
  go_enter Tryz.func39, Tryz.ntmps39
  go_wp2_with fail
  refine (isBatch_any _ cap l _ (.inr ⟨b, off, rfl, HR.out⟩)).mono ?_
  rintro e w1 ⟨rfl, hb1⟩
  have Hb1 : Hid (Below w.heap.size w w1) := hb1
  clear hb1
  go_wp2_with fail
  refine (bestLevel_any _ cap l _ HV.out (.inr ⟨b, off, rfl, HR.out.below Hb1.out⟩)).mono ?_
  rintro e w2 ⟨rfl, hb2⟩
  have Hb2 : Hid (Below w.heap.size w w2) := Hb1.out.trans (hb2.mono Hb1.out.size)
  clear hb2
  go_wp2_with (go_at_call 59; refine (traded_any _ _ _ _).mono ?_; rintro e w' ⟨rfl, rfl⟩)
  have hs := Hb2.out.size
  have HBW : Hid (Below w.heap.size w _) := (Hb2.out.alloc hs (.cells #[.int .i64 (Mk.best l 98), .int .i64 (Mk.dem l (Mk.best l 98)), .int .i64 (Mk.sup l (Mk.best l 98))] 126)).alloc (by simp; omega) (.cells #[.int .i64 (Mk.best l 98), .int .i64 (Mk.dem l (Mk.best l 98)), .int .i64 (Mk.sup l (Mk.best l 98))] 126)
  have HLV : Hid (LvAt _ w2.heap.size _ _ _) := (LvAt.born w2 (Mk.best l 98) (Mk.dem l (Mk.best l 98)) (Mk.sup l (Mk.best l 98)) 126).alloc (.cells #[.int .i64 (Mk.best l 98), .int .i64 (Mk.dem l (Mk.best l 98)), .int .i64 (Mk.sup l (Mk.best l 98))] 126)
  have HAt : Hid (At _ b off l) := HR.out.below HBW.out
  generalize (w2.alloc (.cells #[.int .i64 (Mk.best l 98), .int .i64 (Mk.dem l (Mk.best l 98)), .int .i64 (Mk.sup l (Mk.best l 98))] 126)).alloc (.cells #[.int .i64 (Mk.best l 98), .int .i64 (Mk.dem l (Mk.best l 98)), .int .i64 (Mk.sup l (Mk.best l 98))] 126) = W at *
  obtain ⟨l0, l1, l2, _, _, _⟩ := HLV.out
  go_region_with (go_at_call 60; (refine (shares_some b off cap l _ _ _ _ HV.out (Mk.dem_bd HV.out _) (Mk.sup_bd HV.out _) ?_).mono ?_; exact HAt.out.drew; rintro e w' ⟨rfl, hb', hrow⟩; have q0 := LvAt.next (W' := W.drew) HLV.out rfl hb'))
  all_goals
    go_wp2
    go_ret3
    refine ⟨W.heap.size + 1, rfl, ?_, HBW.out.drew.trans (Below.mono hb' HBW.out.size), hrow⟩
    have := HBW.out.size
    omega

theorem Mk.vol_nil (p : Int) : Mk.vol [] p = 0 := by simp [Mk.vol, Mk.dem, Mk.sup, Mk.sumf, Mk.less]

/-- market.Uniform of a batch: its price, what each order gets -/
def Mk.price (l : List Mk.Ord) : Int := if Mk.vol l (Mk.best l 98) = 0 then 0 else Mk.best l 98
def Mk.uni (l : List Mk.Ord) (i : Nat) : Int := if Mk.vol l (Mk.best l 98) = 0 then 0 else Mk.getsf l (Mk.dem l (Mk.best l 98)) (Mk.sup l (Mk.best l 98)) (Mk.best l 98) i

theorem uniform_any (a : Option Addr) (cap : Nat) (l : List Mk.Ord) (w : World) (hv : Mk.validB 20 l = true) (hR : Rd w a l) :
    Calls Tryz.prog 39 #[.slice a l.length cap] w fun e w' => ∃ g, e = .returned (.tuple #[.slice (some ⟨g, 0, none⟩) l.length l.length, .int .i64 (Mk.price l), .int .i64 0]) ∧ w.heap.size ≤ g ∧ Below w.heap.size w w' ∧ w'.rowIs g 3 l.length (fun i => .int .i64 (Mk.uni l i)) := by
  by_cases hz : Mk.vol l (Mk.best l 98) = 0
  · unfold Mk.price Mk.uni
    simp only [hz, if_true]
    exact uniform_zero a cap l w hv hR hz
  · rcases hR with rfl | ⟨b, off, rfl, hR⟩
    · exact absurd (Mk.vol_nil _) hz
    · unfold Mk.price Mk.uni
      simp only [hz, if_false]
      exact uniform_some b off cap l w hv hR hz

end Go.Proofs.YtmebcdpdpcpnmaaGreatDoor
