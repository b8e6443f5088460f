import Derived.Test.YtmebcdpdpcpnmaaGreatDoorRows
import Derived.WalkKit
import Derived.WalkSpells
import Derived.WalkLawsBesides
import Derived.Deep.QuietTactic
import Derived.BigQuiet
import Derived.Laws.IdiomStrings
import Derived.Laws.Concat
/- Plain mathematics of the clearings: no program in sight. -/
namespace Mk

structure Ord where
  sell : Bool
  price : Int
  qty : Int

def willB (s : Bool) (p c : Int) : Bool := if s then decide (p ≤ c) else decide (c ≤ p)
def less (d s : Int) : Int := if d < s then d else s
def apart (d s : Int) : Int := if d < s then s - d else d - s

def okB (most : Int) (o : Ord) : Bool := decide (1 ≤ o.price) && decide (o.price ≤ 99) && decide (1 ≤ o.qty) && decide (o.qty ≤ most)
def validB (most : Int) (l : List Ord) : Bool := decide (l.length ≤ 12) && l.all (okB most)

def sumf (f : Ord → Int) : List Ord → Int
  | [] => 0
  | o :: r => f o + sumf f r

theorem sumf_append (f : Ord → Int) (a b : List Ord) : sumf f (a ++ b) = sumf f a + sumf f b := by
  induction a with
  | nil => simp [sumf]
  | cons x r ih => simp [sumf, ih]; omega

def sideq (sell : Bool) (p : Int) (o : Ord) : Int := if willB o.sell o.price p && o.sell == sell then o.qty else 0
def dem (l : List Ord) (p : Int) : Int := sumf (sideq false p) l
def sup (l : List Ord) (p : Int) : Int := sumf (sideq true p) l

theorem take_snoc {α : Type} (l : List α) (k : Nat) (h : k < l.length) : l.take (k + 1) = l.take k ++ [l[k]] :=
  List.take_succ_eq_append_getElem h

theorem sumf_take_succ (f : Ord → Int) (l : List Ord) (k : Nat) (h : k < l.length) : sumf f (l.take (k + 1)) = sumf f (l.take k) + f l[k] := by
  rw [take_snoc l k h, sumf_append]; simp [sumf]

theorem sumf_bd (f : Ord → Int) (B : Int) (l : List Ord) (h : ∀ o ∈ l, 0 ≤ f o ∧ f o ≤ B) : 0 ≤ sumf f l ∧ sumf f l ≤ B * l.length := by
  induction l with
  | nil => simp [sumf]
  | cons x r ih =>
    have h1 := h x (by simp)
    have h2 := ih (fun o ho => h o (by simp [ho]))
    simp only [sumf, List.length_cons]
    have : B * ((r.length + 1 : Nat) : Int) = B * (r.length : Int) + B := by rw [Int.natCast_add, Int.mul_add]; simp
    omega

theorem all_take_succ (f : Ord → Bool) (l : List Ord) (k : Nat) (h : k < l.length) : (l.take (k + 1)).all f = ((l.take k).all f && f l[k]) := by
  rw [take_snoc l k h, List.all_append]; simp

theorem valid_yes {most : Int} {l : List Ord} (h : l.length ≤ 12) (h2 : (l.take l.length).all (okB most) = true) : validB most l = true := by
  rw [List.take_length] at h2; simp [validB, h, h2]
theorem valid_no {most : Int} {l : List Ord} {k : Nat} (h : k < l.length) (h2 : okB most l[k] = false) : validB most l = false := by
  have : l.all (okB most) = false := by
    rw [List.all_eq_false]; exact ⟨l[k], List.getElem_mem h, by simp [h2]⟩
  simp [validB, this]
theorem valid_long {most : Int} {l : List Ord} (h : ¬ l.length ≤ 12) : validB most l = false := by simp [validB, h]

theorem ok_of_valid {most : Int} {l : List Ord} (h : validB most l = true) : l.length ≤ 12 ∧ ∀ o ∈ l, 1 ≤ o.price ∧ o.price ≤ 99 ∧ 1 ≤ o.qty ∧ o.qty ≤ most := by
  simp only [validB, Bool.and_eq_true, decide_eq_true_eq, List.all_eq_true, okB] at h
  exact ⟨h.1, fun o ho => by have := h.2 o ho; omega⟩

theorem sideq_mk (b s : Bool) (pr q p : Int) : sideq b p ⟨s, pr, q⟩ = if willB s pr p && s == b then q else 0 := rfl
theorem sideq_bd (sell : Bool) (p : Int) (o : Ord) (h : 1 ≤ o.qty ∧ o.qty ≤ 20) : 0 ≤ sideq sell p o ∧ sideq sell p o ≤ 20 := by
  unfold sideq; split <;> omega

theorem side_take_bd {l : List Ord} (hv : validB 20 l = true) (sell : Bool) (p : Int) (k : Nat) : 0 ≤ sumf (sideq sell p) (l.take k) ∧ sumf (sideq sell p) (l.take k) ≤ 240 := by
  obtain ⟨h1, h2⟩ := ok_of_valid hv
  have := sumf_bd (sideq sell p) 20 (l.take k) (fun o ho => sideq_bd sell p o (by have := h2 o (List.mem_of_mem_take ho); omega))
  have hl : (l.take k).length ≤ l.length := by simp [List.length_take]; omega
  omega
theorem dem_bd {l : List Ord} (hv : validB 20 l = true) (p : Int) : 0 ≤ dem l p ∧ dem l p ≤ 240 := by
  have := side_take_bd hv false p l.length; rw [List.take_length] at this; exact this
theorem sup_bd {l : List Ord} (hv : validB 20 l = true) (p : Int) : 0 ≤ sup l p ∧ sup l p ≤ 240 := by
  have := side_take_bd hv true p l.length; rw [List.take_length] at this; exact this

end Mk

namespace Go.Proofs.YtmebcdpdpcpnmaaGreatDoor
open Go.RowKit

/-- an order, as a value -/
abbrev ordV (o : Mk.Ord) : Value := .agg #[.bool o.sell, .int .i64 o.price, .int .i64 o.qty]

set_option maxHeartbeats 400000 in
theorem mwilling_any (s : Bool) (p q c : Int) (w : World) :
    Calls Tryz.prog 91 #[.agg #[.bool s, .int .i64 p, .int .i64 q], .int .i64 c] w fun e w' =>
      e = .returned (.bool (Mk.willB s p c)) ∧ w' = w.alloc (.cells #[.bool s, .int .i64 p, .int .i64 q] 123) := by
  cases s
  all_goals
    go_enter Tryz.func91, Tryz.ntmps91
    go_wp2
    go_ret
    exact ⟨by simp [Mk.willB], rfl⟩

set_option maxHeartbeats 400000 in
theorem traded_any (p d s : Int) (w : World) :
    Calls Tryz.prog 59 #[.agg #[.int .i64 p, .int .i64 d, .int .i64 s]] w fun e w' =>
      e = .returned (.int .i64 (Mk.less d s)) ∧ w' = w.alloc (.cells #[.int .i64 p, .int .i64 d, .int .i64 s] 126) := by
  by_cases h : d < s
  all_goals
    go_enter Tryz.func59, Tryz.ntmps59
    go_wp2
    go_ret
    exact ⟨by simp [Mk.less]; omega, rfl⟩

set_option maxHeartbeats 400000 in
theorem apart_any (p d s : Int) (w : World) (h1 : 0 ≤ d) (h2 : d ≤ 1000) (h3 : 0 ≤ s) (h4 : s ≤ 1000) :
    Calls Tryz.prog 112 #[.agg #[.int .i64 p, .int .i64 d, .int .i64 s]] w fun e w' =>
      e = .returned (.int .i64 (Mk.apart d s)) ∧ w' = w.alloc (.cells #[.int .i64 p, .int .i64 d, .int .i64 s] 126) := by
  by_cases h : d < s
  all_goals
    go_enter Tryz.func112, Tryz.ntmps112
    go_wp2
    go_ret
    exact ⟨by simp [Mk.apart]; omega, rfl⟩

set_option maxHeartbeats 400000 in
theorem sideTotal_any (p d s : Int) (b : Bool) (pr q : Int) (w : World) :
    Calls Tryz.prog 90 #[.agg #[.int .i64 p, .int .i64 d, .int .i64 s], .agg #[.bool b, .int .i64 pr, .int .i64 q]] w fun e w' =>
      e = .returned (.int .i64 (if b then s else d)) ∧ w' = (w.alloc (.cells #[.int .i64 p, .int .i64 d, .int .i64 s] 126)).alloc (.cells #[.bool b, .int .i64 pr, .int .i64 q] 123) := by
  cases b
  all_goals
    go_enter Tryz.func90, Tryz.ntmps90
    go_wp2
    go_ret
    exact ⟨by simp, rfl⟩

end Go.Proofs.YtmebcdpdpcpnmaaGreatDoor

namespace Go.Proofs.YtmebcdpdpcpnmaaGreatDoor
open Go.RowKit

/-- the orders l lie in memory behind the slice address a -/
def Rd (w : World) (a : Option Addr) (l : List Mk.Ord) : Prop :=
  l = [] ∨ ∃ b off : Nat, a = some ⟨b, off, none⟩ ∧ ∀ (i : Nat) (h : i < l.length), w.cell? ⟨b, off + i * 3, none⟩ = some (.bool l[i].sell) ∧ w.cell? ⟨b, off + i * 3 + 1, none⟩ = some (.int .i64 l[i].price) ∧ w.cell? ⟨b, off + i * 3 + 1 + 1, none⟩ = some (.int .i64 l[i].qty)

theorem ret_bool {a b : Bool} (h : a = b) : Ending.returned (.bool a) = .returned (.bool b) := by rw [h]
theorem ret_int {k : IntKind} {a b : Int} (h : a = b) : Ending.returned (.int k a) = .returned (.int k b) := by rw [h]

end Go.Proofs.YtmebcdpdpcpnmaaGreatDoor

namespace Go.Proofs.YtmebcdpdpcpnmaaGreatDoor
open Go.RowKit

theorem blk_lt {w : World} {b o : Nat} {v : Value} (h : w.cell? ⟨b, o, none⟩ = some v) : b < w.heap.size := by
  apply Classical.byContradiction
  intro hb
  have : w.heap[b]? = none := by simp; omega
  simp [World.cell?, this] at h

/-- the orders l, at block b from offset off on -/
def At (w : World) (b off : Nat) (l : List Mk.Ord) : Prop :=
  ∀ (i : Nat) (h : i < l.length), w.cell? ⟨b, off + i * 3, none⟩ = some (.bool l[i].sell) ∧ w.cell? ⟨b, off + i * 3 + 1, none⟩ = some (.int .i64 l[i].price) ∧ w.cell? ⟨b, off + i * 3 + 1 + 1, none⟩ = some (.int .i64 l[i].qty)

theorem At.below {w w' : World} {b off : Nat} {l : List Mk.Ord} (h : At w b off l) (hb : Below w.heap.size w w') : At w' b off l := by
  intro i hi
  obtain ⟨c0, c1, c2⟩ := h i hi
  have hl := blk_lt c0
  exact ⟨(hb.cell (p := ⟨b, _, none⟩) hl).trans c0, (hb.cell (p := ⟨b, _, none⟩) hl).trans c1, (hb.cell (p := ⟨b, _, none⟩) hl).trans c2⟩
theorem Rd.below {w w' : World} {a : Option Addr} {l : List Mk.Ord} (h : Rd w a l) (hb : Below w.heap.size w w') : Rd w' a l := by
  rcases h with h | ⟨b, off, h, hR⟩
  · exact .inl h
  · exact .inr ⟨b, off, h, At.below (w := w) (fun i hi => hR i hi) hb⟩

end Go.Proofs.YtmebcdpdpcpnmaaGreatDoor

namespace Go.Proofs.YtmebcdpdpcpnmaaGreatDoor
open Go.RowKit

/-- levelAt's memory at a round's head: its result's block, its level's block -/
structure Lv (w wr : World) (p d s : Int) : Prop where
  below : Below w.heap.size w wr
  size : w.heap.size + 1 < wr.heap.size
  c0 : wr.cell? ⟨w.heap.size + 1, 0, none⟩ = some (.int .i64 p)
  c1 : wr.cell? ⟨w.heap.size + 1, 1, none⟩ = some (.int .i64 d)
  c2 : wr.cell? ⟨w.heap.size + 1, 2, none⟩ = some (.int .i64 s)
  f1 : wr.frozen? ⟨w.heap.size + 1, 1, none⟩ = false
  f2 : wr.frozen? ⟨w.heap.size + 1, 2, none⟩ = false
  r0 : wr.cell? ⟨w.heap.size, 0, none⟩ = some (.int .i64 0)
  r1 : wr.cell? ⟨w.heap.size, 1, none⟩ = some (.int .i64 0)
  r2 : wr.cell? ⟨w.heap.size, 2, none⟩ = some (.int .i64 0)
  g0 : wr.frozen? ⟨w.heap.size, 0, none⟩ = false
  g1 : wr.frozen? ⟨w.heap.size, 1, none⟩ = false
  g2 : wr.frozen? ⟨w.heap.size, 2, none⟩ = false

theorem cell_al {w : World} {b o : Nat} {v : Value} {ob : Obj} (h : w.cell? ⟨b, o, none⟩ = some v) : (w.alloc ob).cell? ⟨b, o, none⟩ = some v := by
  rw [World.cell?_alloc_past _ _ _ (blk_lt h)]; exact h
theorem froz_al {w : World} {b o : Nat} {v : Bool} {ob : Obj} (hb : b < w.heap.size) (h : w.frozen? ⟨b, o, none⟩ = v) : (w.alloc ob).frozen? ⟨b, o, none⟩ = v := by
  rw [← h]; exact (((Below.refl w.heap.size w).alloc (Nat.le_refl _) ob).frozen (p := ⟨b, o, none⟩) hb)
theorem cell_set_ne {w : World} {b o b' o' : Nat} {v u : Value} (hne : b ≠ b' ∨ o ≠ o') (h : w.cell? ⟨b, o, none⟩ = some v) : (w.setCell ⟨b', o', none⟩ u).cell? ⟨b, o, none⟩ = some v := by
  rw [World.cell?_setCell_other]; exact h
  intro e; injection e with e1 e2; omega

theorem cell_set_same {w : World} {b o : Nat} {v u : Value} (h : w.cell? ⟨b, o, none⟩ = some v) : (w.setCell ⟨b, o, none⟩ u).cell? ⟨b, o, none⟩ = some u := World.cell?_setCell_same _ _ _ h

theorem Lv.alloc {w wr : World} {p d s : Int} (h : Lv w wr p d s) (o : Obj) : Lv w (wr.alloc o) p d s := by
  have hs := h.size
  exact ⟨h.below.alloc (by omega) o, by simp; omega, cell_al h.c0, cell_al h.c1, cell_al h.c2, froz_al hs h.f1, froz_al hs h.f2, cell_al h.r0, cell_al h.r1, cell_al h.r2, froz_al (by omega) h.g0, froz_al (by omega) h.g1, froz_al (by omega) h.g2⟩
theorem Lv.setD {w wr : World} {p d s : Int} (h : Lv w wr p d s) (d' : Int) : Lv w (wr.setCell ⟨w.heap.size + 1, 1, none⟩ (.int .i64 d')) p d' s :=
  ⟨h.below.setCell (by simp) _, by simpa using h.size, cell_set_ne (by omega) h.c0, cell_set_same h.c1, cell_set_ne (by omega) h.c2, by simpa using h.f1, by simpa using h.f2, cell_set_ne (by omega) h.r0, cell_set_ne (by omega) h.r1, cell_set_ne (by omega) h.r2, by simpa using h.g0, by simpa using h.g1, by simpa using h.g2⟩
theorem Lv.setS {w wr : World} {p d s : Int} (h : Lv w wr p d s) (s' : Int) : Lv w (wr.setCell ⟨w.heap.size + 1, 2, none⟩ (.int .i64 s')) p d s' :=
  ⟨h.below.setCell (by simp) _, by simpa using h.size, cell_set_ne (by omega) h.c0, cell_set_ne (by omega) h.c1, cell_set_same h.c2, by simpa using h.f1, by simpa using h.f2, cell_set_ne (by omega) h.r0, cell_set_ne (by omega) h.r1, cell_set_ne (by omega) h.r2, by simpa using h.g0, by simpa using h.g1, by simpa using h.g2⟩

set_option maxHeartbeats 1000000 in
theorem levelAt_some (b off cap : Nat) (l : List Mk.Ord) (p : Int) (w : World) (hv : Mk.validB 20 l = true) (hR : At w b off l) :
    Calls Tryz.prog 88 #[.slice (some ⟨b, off, none⟩) l.length cap, .int .i64 p] w fun e w' => e = .returned (.agg #[.int .i64 p, .int .i64 (Mk.dem l p), .int .i64 (Mk.sup l p)]) ∧ Below w.heap.size w w' := by
  obtain ⟨h12, hok⟩ := Mk.ok_of_valid hv
  have HV : Hid (Mk.validB 20 l = true) := hv
  have HO : Hid (∀ o ∈ l, 1 ≤ o.price ∧ o.price ≤ 99 ∧ 1 ≤ o.qty ∧ o.qty ≤ 20) := hok
  have HR : Hid (At w b off l) := hR
  clear hv hok hR
  go_enter Tryz.func88, Tryz.ntmps88
  go_wp2
  go_loopw [12] (fun i wr => ∃ k : Nat, k ≤ l.length ∧ i = .int .i64 k ∧ Lv w wr p (Mk.sumf (Mk.sideq false p) (l.take k)) (Mk.sumf (Mk.sideq true p) (l.take k))) (fun i _ => l.length - (intOf i).toNat)
  case atStart =>
    refine ⟨0, Nat.zero_le _, rfl, ?_⟩
    exact ⟨((Below.refl _ _).alloc (Nat.le_refl _) _).alloc (by simp) _, by simp, by simp, by simp [Mk.sumf], by simp [Mk.sumf], by simp [go_sem], by simp [go_sem], by simp, by simp, by simp, by simp [go_sem], by simp [go_sem], by simp [go_sem]⟩
  case round =>
    obtain ⟨k, hk, rfl, hb⟩ := hrel
    have Hb : Hid (Lv w wr p (Mk.sumf (Mk.sideq false p) (l.take k)) (Mk.sumf (Mk.sideq true p) (l.take k))) := hb
    obtain ⟨_, hsz, e0, e1, e2, f1, f2, r0, r1, r2, g0, g1, g2⟩ := hb
    have hsz' : w.heap.size < wr.heap.size := by omega
    have bd := Mk.side_take_bd HV.out false p k
    have bs := Mk.side_take_bd HV.out true p k
    by_cases hlt : k < l.length
    · obtain ⟨c0, c1, c2⟩ := At.below HR.out Hb.out.below k hlt
      have hbl := blk_lt c0
      have hd := Mk.sumf_take_succ (Mk.sideq false p) l k hlt
      have hs := Mk.sumf_take_succ (Mk.sideq true p) l k hlt
      have hq := HO.out _ (List.getElem_mem hlt)
      have hlt' : (k : Int) < (l.length : Int) := by omega
      revert c0 c1 c2 hd hs hq
      generalize l[k] = o
      obtain ⟨s, pr, q⟩ := o
      intro c0 c1 c2 hd hs hq
      simp only at c0 c1 c2 hq
      obtain ⟨q1, q2⟩ : 0 ≤ q ∧ q ≤ 20 := by omega
      clear hq
      rw [Mk.sideq_mk] at hd hs
      rcases Bool.eq_false_or_eq_true (Mk.willB s pr p) with hw | hw <;> rw [hw] at hd hs <;> cases s <;> simp at hd hs
      all_goals
        have HD := (show Hid _ from hd)
        have HS := (show Hid _ from hs)
        clear hd hs
        go_wp2_with (go_at_call 91; refine (mwilling_any _ _ _ _ _).mono ?_; rintro e w' ⟨rfl, rfl⟩)
        go_roundw
        case rel =>
          refine ⟨k + 1, by omega, by go_num, ?_⟩
          rw [HD.out, HS.out]
          first
            | exact (Hb.out.alloc _).alloc _
            | exact ((Hb.out.setD _).alloc _).alloc _
            | exact ((Hb.out.setS _).alloc _).alloc _
            | exact ((Hb.out.alloc _).alloc _).setD _
            | exact ((Hb.out.alloc _).alloc _).setS _
        case measure => simp [intOf]; omega
    · go_wp2
      have : k = l.length := by omega
      subst this
      rw [List.take_length] at *
      refine bodyPost_ret (v := .agg #[.int .i64 p, .int .i64 (Mk.dem l p), .int .i64 (Mk.sup l p)]) ?_ rfl ⟨rfl, ((Hb.out.below.setCell (by simp) _).setCell (by simp) _).setCell (by simp) _⟩
      have q2 := fun a b c => cell_set_same (u := c) (cell_set_ne (b' := w.heap.size) (o' := 1) (u := b) (by omega) (cell_set_ne (b' := w.heap.size) (o' := 0) (u := a) (by omega) r2))
      have q1 := fun a b c => cell_set_ne (b' := w.heap.size) (o' := 2) (u := c) (by omega) (cell_set_same (u := b) (cell_set_ne (b' := w.heap.size) (o' := 0) (u := a) (by omega) r1))
      have q0 := fun a b c => cell_set_ne (b' := w.heap.size) (o' := 2) (u := c) (by omega) (cell_set_ne (b' := w.heap.size) (o' := 1) (u := b) (by omega) (cell_set_same (u := a) r0))
      simp [results, Tryz.results88, go_sem, q0, q1, q2]
      exact ⟨rfl, rfl⟩

end Go.Proofs.YtmebcdpdpcpnmaaGreatDoor

/- Plain mathematics of the document's market: texts. -/
namespace Mk

/-- one digit -/
def dg (n : Nat) : ByteArray := ⟨#[UInt8.ofNat (48 + n % 10)]⟩
/-- a number in decimal -/
def dig (n : Nat) : ByteArray := if n < 10 then dg n else dig (n / 10) ++ dg n
termination_by n
decreasing_by omega

theorem dig_small {n : Nat} (h : n < 10) : dig n = dg n := by rw [dig, if_pos h]
theorem dig_great {n : Nat} (h : ¬ n < 10) : dig n = dig (n / 10) ++ dg n := by rw [dig, if_neg h]
theorem dg_size (n : Nat) : (dg n).size = 1 := rfl
theorem dig_size (k : Nat) : ∀ n, n < 10 ^ (k + 1) → (dig n).size ≤ k + 1 := by
  induction k with
  | zero => intro n h; rw [dig_small (by omega), dg_size]; omega
  | succ k ih =>
    intro n h
    by_cases h10 : n < 10
    · rw [dig_small h10, dg_size]; omega
    · rw [dig_great h10, ByteArray.size_append, dg_size]
      have := ih (n / 10) (by rw [Nat.pow_succ] at h; omega)
      omega

def chB : ByteArray := ⟨#[66]⟩
def chS : ByteArray := ⟨#[83]⟩
/-- a purse: what is free, what is held -/
def purseT (f h : Nat) : ByteArray := dig f ++ ⟨#[43]⟩ ++ dig h
/-- an order in a batch -/
def standT (n : Nat) (sell : Bool) (who p q : Nat) : ByteArray := dig n ++ (if sell then chS else chB) ++ dig who ++ ⟨#[64]⟩ ++ dig p ++ ⟨#[120]⟩ ++ dig q

end Mk

namespace Go.Proofs.YtmebcdpdpcpnmaaGreatDoor
open Go.RowKit

/-- string([]byte{d}), d a digit -/
theorem conv_digit (w : World) (n : Nat) : (convert 114 9 (.slice (some ⟨w.heap.size, 0, none⟩) 1 1)).run Tryz.prog (w.alloc (.cells #[.int .u8 (48 + (n : Int) % 10)] 5)) = .ok (.string (Mk.dg n)) (w.alloc (.cells #[.int .u8 (48 + (n : Int) % 10)] 5)) := by
  refine run_convert_bytes_back (w.alloc (.cells #[.int .u8 (48 + (n : Int) % 10)] 5)) 114 9 5 ⟨w.heap.size, 0, none⟩ 1 [UInt8.ofNat (48 + n % 10)] Tryz.underlying114 Tryz.underlying5 Tryz.underlying9 (fun j hj => ?_)
  obtain rfl : j = 0 := by simp at hj; omega
  have e : ((UInt8.ofNat (48 + n % 10)).toNat : Int) = 48 + (n : Int) % 10 := by
    rw [UInt8.toNat_ofNat']
    omega
  simp only [List.getElem_cons_zero, e]
  simp [Addr.add]

set_option maxRecDepth 100000 in
set_option maxHeartbeats 1000000 in
theorem digits_any (k : Nat) : ∀ (n : Nat) (w : World), n < 10 ^ (k + 1) → k ≤ 10 →
    Calls Tryz.prog 55 #[.int .i64 n] w fun e w' => e = .returned (.string (Mk.dig n)) ∧ Below w.heap.size w w' := by
  induction k with
  | zero =>
    intro n w hn _
    have hn' : (n : Int) < 10 := by omega
    have HD : Hid (Mk.dig n = Mk.dg n) := Mk.dig_small (by omega)
    have hcv := conv_digit w n
    go_enter Tryz.func55, Tryz.ntmps55
    go_wp2_with fail
    go_ret
    exact ⟨by rw [HD.out]; rfl, (Below.refl _ _).alloc (Nat.le_refl _) _⟩
  | succ k ih =>
    intro n w hn hk
    have hcv := conv_digit w n
    by_cases h : n < 10
    · have hn' : (n : Int) < 10 := by omega
      have HD : Hid (Mk.dig n = Mk.dg n) := Mk.dig_small h
      go_enter Tryz.func55, Tryz.ntmps55
      go_wp2_with fail
      go_ret
      exact ⟨by rw [HD.out]; rfl, (Below.refl _ _).alloc (Nat.le_refl _) _⟩
    · have hn' : ¬ (n : Int) < 10 := by omega
      have hs := Mk.dig_size k (n / 10) (by rw [Nat.pow_succ] at hn; omega)
      have hs2 := Mk.dg_size n
      have HS : Hid ((Mk.dig (n / 10)).size ≤ k + 1) := hs
      have HI : Hid (∀ w : World, Calls Tryz.prog 55 #[.int .i64 ((n : Int) / 10)] w fun e w' => e = .returned (.string (Mk.dig (n / 10))) ∧ Below w.heap.size w w') := fun w => by
        have := ih (n / 10) w (by rw [Nat.pow_succ] at hn; omega) (by omega)
        rw [Int.natCast_ediv] at this
        exact this
      have HD : Hid (Mk.dig n = Mk.dig (n / 10) ++ Mk.dg n) := Mk.dig_great h
      have hbig : (n : Int) ≤ 1000000000000 := by
        have : n < 10 ^ 12 := Nat.lt_of_lt_of_le hn (Nat.pow_le_pow_right (by omega) (by omega))
        omega
      clear ih hn h hs
      have hadd : ∀ w : World, (Op.stringOp .add (Mk.dig (n / 10)) (Mk.dg n)).run Tryz.prog w = .ok (.string (Mk.dig (n / 10) ++ Mk.dg n)) w := fun w => run_string_add_sum w _ _ (by have := HS.out; have := Mk.dg_size n; omega)
      clear hs2
      go_enter Tryz.func55, Tryz.ntmps55
      go_wp2_with fail
      refine (HI.out _).mono ?_
      rintro e w2 ⟨rfl, hb2⟩
      have HB2 : Hid (Below w.heap.size w w2) := ((Below.refl _ _).alloc (Nat.le_refl _) _).trans (hb2.mono (by simp))
      clear hb2 hcv
      go_wp2_with fail
      go_ret
      exact ⟨by rw [HD.out]; rfl, HB2.out⟩

/-- a number of the market in decimal -/
theorem dig_any (n : Nat) (w : World) (hn : n ≤ 99999) : Calls Tryz.prog 55 #[.int .i64 n] w fun e w' => e = .returned (.string (Mk.dig n)) ∧ Below w.heap.size w w' :=
  digits_any 4 n w (by omega) (by omega)
theorem dig_le (n : Nat) (hn : n ≤ 99999) : (Mk.dig n).size ≤ 5 := Mk.dig_size 4 n (by omega)

set_option maxRecDepth 100000 in
set_option maxHeartbeats 1000000 in
theorem purse_any (f h : Nat) (w : World) (hf : f ≤ 99999) (hh : h ≤ 99999) :
    Calls Tryz.prog 54 #[.agg #[.int .i64 f, .int .i64 h]] w fun e w' => e = .returned (.string (Mk.purseT f h)) ∧ Below w.heap.size w w' := by
  have s1 := dig_le f hf
  have s2 := dig_le h hh
  go_enter Tryz.func54, Tryz.ntmps54
  go_wp2_with fail
  refine (dig_any f _ hf).mono ?_
  rintro e w2 ⟨rfl, hb2⟩
  have x1 : w2.cell? ⟨w.heap.size, 1, none⟩ = some (.int .i64 h) := by rw [hb2.cell (p := ⟨w.heap.size, 1, none⟩) (by simp)]; simp
  have HB2 : Hid (Below w.heap.size w w2) := ((Below.refl _ _).alloc (Nat.le_refl _) _).trans (hb2.mono (by simp))
  clear hb2
  go_wp2_with fail
  refine (dig_any h _ hh).mono ?_
  rintro e w3 ⟨rfl, hb3⟩
  have HB3 : Hid (Below w.heap.size w w3) := HB2.out.trans (hb3.mono HB2.out.size)
  clear hb3
  go_wp2_with fail
  go_ret
  exact ⟨rfl, HB3.out⟩

end Go.Proofs.YtmebcdpdpcpnmaaGreatDoor

/- Plain mathematics of the document's market: commands, read. -/
namespace Mk

/-- byte k of a text -/
def bt (s : ByteArray) (k : Nat) : Nat := if h : k < s.size then s[k].toNat else 0
theorem bt_at {s : ByteArray} {k : Nat} (h : k < s.size) : s[k].toNat = bt s k := by unfold bt; rw [dif_pos h]
theorem bt_lt (s : ByteArray) (k : Nat) : bt s k < 256 := by
  unfold bt
  split
  · exact UInt8.toNat_lt _
  · omega

def isD (s : ByteArray) (j : Nat) : Bool := decide (48 ≤ bt s j) && decide (bt s j ≤ 57)
def digs (s : ByteArray) : Nat → Bool
  | 0 => true
  | k + 1 => digs s k && isD s k
/-- the number that the first k bytes tell -/
def numTo (s : ByteArray) : Nat → Nat
  | 0 => 0
  | k + 1 => numTo s k * 10 + (bt s k - 48)
theorem numTo_lt {s : ByteArray} : ∀ {k : Nat}, digs s k = true → numTo s k < 10 ^ k
  | 0, _ => by simp [numTo]
  | k + 1, h => by
    simp only [digs, isD, Bool.and_eq_true, decide_eq_true_eq] at h
    have := numTo_lt h.1
    simp only [numTo, Nat.pow_succ]
    omega
/-- is the text a number of at most four digits, without noughts ahead? -/
def numOk (s : ByteArray) : Bool := decide (1 ≤ s.size) && decide (s.size ≤ 4) && !(decide (bt s 0 = 48) && decide (1 < s.size)) && digs s s.size
def numV (s : ByteArray) : Nat := if numOk s then numTo s s.size else 0
def numB (s : ByteArray) (lo hi : Nat) : Bool := numOk s && decide (lo ≤ numV s) && decide (numV s ≤ hi)
theorem digs_no {s : ByteArray} {j : Nat} (h : isD s j = false) : ∀ {k : Nat}, j < k → digs s k = false
  | 0, hk => by omega
  | k + 1, hk => by
    simp only [digs]
    by_cases e : j = k
    · subst e; rw [h, Bool.and_false]
    · rw [digs_no h (by omega), Bool.false_and]
theorem numOk_no {s : ByteArray} (h : s.size = 0 ∨ 4 < s.size ∨ bt s 0 = 48 ∧ 1 < s.size ∨ digs s s.size = false) : numOk s = false := by
  unfold numOk
  rcases h with h | h | h | h
  · have : decide (1 ≤ s.size) = false := by rw [decide_eq_false_iff_not]; omega
    rw [this]; rfl
  · have : decide (s.size ≤ 4) = false := by rw [decide_eq_false_iff_not]; omega
    rw [this]; simp
  · simp [h.1, h.2]
  · rw [h, Bool.and_false]
theorem numOk_yes {s : ByteArray} (h1 : 1 ≤ s.size) (h2 : s.size ≤ 4) (h3 : ¬ (bt s 0 = 48 ∧ 1 < s.size)) (h4 : digs s s.size = true) : numOk s = true := by
  unfold numOk
  rw [h4]
  have : (decide (bt s 0 = 48) && decide (1 < s.size)) = false := by
    rw [← Bool.not_eq_true, Bool.and_eq_true, decide_eq_true_eq, decide_eq_true_eq]; exact h3
  rw [this]
  simp [h1, h2]
theorem numV_le (s : ByteArray) : numV s ≤ 9999 := by
  unfold numV
  split
  · rename_i h
    simp only [numOk, Bool.and_eq_true, decide_eq_true_eq] at h
    have h1 := numTo_lt h.2
    have h2 : 10 ^ s.size ≤ 10 ^ 4 := Nat.pow_le_pow_right (by omega) h.1.1.2
    omega
  · omega

/-- the words of a text, up to byte k: those that are whole, and where the next one begins -/
def cutTo (s : ByteArray) : Nat → List ByteArray × Nat
  | 0 => ([], 0)
  | k + 1 => if bt s k = 32 then ((cutTo s k).1 ++ [s.extract (cutTo s k).2 k], k + 1) else cutTo s k
def words (s : ByteArray) : List ByteArray := (cutTo s s.size).1 ++ [s.extract (cutTo s s.size).2 s.size]
theorem cutTo_le (s : ByteArray) : ∀ k, (cutTo s k).2 ≤ k ∧ (cutTo s k).1.length ≤ k
  | 0 => by simp [cutTo]
  | k + 1 => by
    have := cutTo_le s k
    simp only [cutTo]
    split
    · simp; omega
    · omega
theorem cutTo_yes {s : ByteArray} {k : Nat} (h : bt s k = 32) : cutTo s (k + 1) = ((cutTo s k).1 ++ [s.extract (cutTo s k).2 k], k + 1) := if_pos h
theorem cutTo_no {s : ByteArray} {k : Nat} (h : ¬ bt s k = 32) : cutTo s (k + 1) = cutTo s k := if_neg h

end Mk

namespace Go.Proofs.YtmebcdpdpcpnmaaGreatDoor
open Go.RowKit

set_option maxRecDepth 100000 in
set_option maxHeartbeats 2000000 in
theorem number_any (s : ByteArray) (lo hi : Nat) (w : World) (hs : s.size ≤ 1000000) :
    Calls Tryz.prog 48 #[.string s, .int .i64 lo, .int .i64 hi] w fun e w' => e = .returned (.tuple #[.int .i64 (Mk.numV s : Int), .bool (Mk.numB s lo hi)]) ∧ w' = w := by
  have HV : Hid (Mk.numOk s = false → Mk.numV s = 0 ∧ Mk.numB s lo hi = false) := fun h => by unfold Mk.numB Mk.numV; rw [h]; simp
  by_cases h0 : s.size = 0
  · have h0' : ((s.size : Int) == 0) = true := by rw [beq_iff_eq]; omega
    have HZ : Hid (Mk.numV s = 0 ∧ Mk.numB s lo hi = false) := HV.out (Mk.numOk_no (.inl h0))
    clear h0
    go_enter Tryz.func48, Tryz.ntmps48
    go_wp2
    go_ret2
    exact ⟨by rw [HZ.out.1, HZ.out.2]; rfl, rfl⟩
  · have h0' : ((s.size : Int) == 0) = false := by rw [beq_eq_false_iff_ne]; omega
    by_cases h4 : 4 < s.size
    · have h4' : (4 : Int) < (s.size : Int) := by omega
      have HZ : Hid (Mk.numV s = 0 ∧ Mk.numB s lo hi = false) := HV.out (Mk.numOk_no (.inr (.inl h4)))
      clear h0
      go_enter Tryz.func48, Tryz.ntmps48
      go_wp2
      go_ret2
      exact ⟨by rw [HZ.out.1, HZ.out.2]; rfl, rfl⟩
    · have h4' : ¬ (4 : Int) < (s.size : Int) := by omega
      have hpos : 0 < s.size := by omega
      have hpos' : (0 : Int) < (s.size : Int) := by omega
      have HB0 : Hid (s[0].toNat = Mk.bt s 0) := Mk.bt_at hpos
      by_cases hz : s[0].toNat = 48 ∧ 1 < s.size
      · have HZ : Hid (Mk.numV s = 0 ∧ Mk.numB s lo hi = false) := HV.out (Mk.numOk_no (.inr (.inr (.inl ⟨by rw [← HB0.out]; exact hz.1, hz.2⟩))))
        have hz1 : ((s[0].toNat : Int) == 48) = true := by simp; omega
        have hz2 : (1 : Int) < (s.size : Int) := by omega
        clear h0 hz
        go_enter Tryz.func48, Tryz.ntmps48
        go_wp2
        go_ret2
        exact ⟨by rw [HZ.out.1, HZ.out.2]; rfl, rfl⟩
      · have h3 : ¬ (Mk.bt s 0 = 48 ∧ 1 < s.size) := by rw [← HB0.out]; exact hz
        have HY : Hid (Mk.digs s s.size = true → Mk.numOk s = true) := fun h => Mk.numOk_yes (by omega) (by omega) h3 h
        have HN : Hid (Mk.digs s s.size = false → Mk.numOk s = false) := fun h => Mk.numOk_no (.inr (.inr (.inr h)))
        have hg : ((s[0].toNat : Int) == 48) = false ∨ ((s[0].toNat : Int) == 48) = true ∧ ¬ (1 : Int) < (s.size : Int) := by
          by_cases e : s[0].toNat = 48
          · right; exact ⟨by simp; omega, by omega⟩
          · left; simp; omega
        clear h0 hz h3
        rcases hg with hg | ⟨hg, hg2⟩
        all_goals
          go_enter Tryz.func48, Tryz.ntmps48
          go_wp2
          go_loop [8, 9] (fun x j => ∃ k : Nat, k ≤ s.size ∧ j = .int .i64 k ∧ x = .int .i64 (Mk.numTo s k : Int) ∧ Mk.digs s k = true) (fun _ j => s.size - (intOf j).toNat)
          case atStart => exact ⟨0, Nat.zero_le _, rfl, rfl, rfl⟩
          case round =>
            obtain ⟨k, hk, rfl, rfl, hd⟩ := hrel
            have hb := Mk.numTo_lt hd
            have hb2 : 10 ^ k ≤ 10 ^ 4 := Nat.pow_le_pow_right (by omega) (by omega)
            have hb3 : (Mk.numTo s k : Int) ≤ 9999 := by omega
            have HD : Hid (Mk.digs s k = true) := hd
            clear hd hb hb2
            by_cases hlt : k < s.size
            · have hlt' : (k : Int) < (s.size : Int) := by omega
              have HB : Hid (s[k].toNat = Mk.bt s k) := Mk.bt_at hlt
              have h256 : s[k].toNat < 256 := UInt8.toNat_lt _
              by_cases hdig : 48 ≤ s[k].toNat ∧ s[k].toNat ≤ 57
              · have d1 : ¬ (s[k].toNat : Int) < 48 := by omega
                have d2 : ¬ (57 : Int) < (s[k].toNat : Int) := by omega
                have HS : Hid (Mk.digs s (k + 1) = true) := by
                  show (Mk.digs s k && Mk.isD s k) = true
                  rw [HD.out, Bool.true_and]
                  unfold Mk.isD
                  rw [← HB.out]
                  simp [hdig]
                have HE : Hid ((Mk.numTo s (k + 1) : Int) = (Mk.numTo s k : Int) * 10 + ((s[k].toNat : Int) - 48)) := (by
                  show ((Mk.numTo s k * 10 + (Mk.bt s k - 48) : Nat) : Int) = _
                  rw [← HB.out]; omega : (Mk.numTo s (k + 1) : Int) = (Mk.numTo s k : Int) * 10 + ((s[k].toNat : Int) - 48))
                clear hdig
                go_wp2
                go_round
                case rel => exact ⟨k + 1, by omega, by go_num, by rw [HE.out], HS.out⟩
                case measure => simp [intOf]; omega
              · have HZ : Hid (Mk.numV s = 0 ∧ Mk.numB s lo hi = false) := HV.out (HN.out (Mk.digs_no (j := k) (by unfold Mk.isD; rw [← HB.out]; rw [← Bool.not_eq_true]; simpa using hdig) hlt))
                by_cases d1 : (s[k].toNat : Int) < 48
                · clear hdig
                  go_wp2
                  go_ret2
                  exact ⟨by rw [HZ.out.1, HZ.out.2]; rfl, rfl⟩
                · have d2 : (57 : Int) < (s[k].toNat : Int) := by omega
                  clear hdig
                  go_wp2
                  go_ret2
                  exact ⟨by rw [HZ.out.1, HZ.out.2]; rfl, rfl⟩
            · obtain rfl : k = s.size := by omega
              have HZ : Hid (Mk.numV s = Mk.numTo s s.size ∧ Mk.numB s lo hi = (decide (lo ≤ Mk.numTo s s.size) && decide (Mk.numTo s s.size ≤ hi))) := by
                have := HY.out HD.out
                unfold Mk.numB Mk.numV
                rw [this]
                exact ⟨rfl, rfl⟩
              rcases Bool.eq_false_or_eq_true (decide (lo ≤ Mk.numTo s s.size)) with l1 | l1
              · go_wp2
                go_ret2
                exact ⟨by rw [HZ.out.1, HZ.out.2, l1]; simp, rfl⟩
              · go_wp2
                go_ret2
                exact ⟨by rw [HZ.out.1, HZ.out.2, l1]; simp, rfl⟩

end Go.Proofs.YtmebcdpdpcpnmaaGreatDoor

/- Plain mathematics: which level is better; the best price. -/
namespace Mk

def betterB (d s d' s' : Int) : Bool := if less d s ≠ less d' s' then decide (less d' s' < less d s) else decide (apart d s < apart d' s')

/-- the best of the prices 1 .. n + 1 -/
def best (l : List Ord) : Nat → Nat
  | 0 => 1
  | n + 1 => if betterB (dem l ((n + 2 : Nat) : Int)) (sup l ((n + 2 : Nat) : Int)) (dem l (best l n)) (sup l (best l n)) then n + 2 else best l n

theorem best_no (l : List Ord) (k : Nat) (h : betterB (dem l ((k : Int) + 2)) (sup l ((k : Int) + 2)) (dem l (best l k)) (sup l (best l k)) = false) : best l (k + 1) = best l k := by
  have e : ((k + 2 : Nat) : Int) = (k : Int) + 2 := by omega
  rw [best, e, h]; simp
theorem best_yes (l : List Ord) (k : Nat) (h : betterB (dem l ((k : Int) + 2)) (sup l ((k : Int) + 2)) (dem l (best l k)) (sup l (best l k)) = true) : best l (k + 1) = k + 2 := by
  have e : ((k + 2 : Nat) : Int) = (k : Int) + 2 := by omega
  rw [best, e, h]; simp

theorem best_bd (l : List Ord) (n : Nat) : 1 ≤ best l n ∧ best l n ≤ n + 1 := by
  induction n with
  | zero => simp [best]
  | succ n ih => unfold best; split <;> omega

/-- how much can be traded at a price, and how far the sides are apart -/
def vol (l : List Ord) (p : Int) : Int := less (dem l p) (sup l p)
def gap (l : List Ord) (p : Int) : Int := apart (dem l p) (sup l p)

theorem better_iff (l : List Ord) (p q : Int) : betterB (dem l p) (sup l p) (dem l q) (sup l q) = true ↔ (vol l q < vol l p ∨ vol l p = vol l q ∧ gap l p < gap l q) := by
  unfold betterB vol gap
  split <;> simp <;> omega

theorem best_is (l : List Ord) (n : Nat) : ∀ q : Nat, 1 ≤ q → q ≤ n + 1 →
    vol l q ≤ vol l (best l n) ∧ (vol l q = vol l (best l n) → gap l (best l n) ≤ gap l q ∧ (gap l q = gap l (best l n) → best l n ≤ q)) := by
  induction n with
  | zero => intro q h1 h2; obtain rfl : q = 1 := by omega
            simp [best]
  | succ n ih =>
    intro q h1 h2
    have hb := best_bd l n
    have e := better_iff l ((n + 2 : Nat) : Int) (best l n)
    unfold best
    split
    · rename_i hbt
      have hbt' := e.1 hbt
      by_cases hq : q = n + 2
      · subst hq; simp
      · have := ih q h1 (by omega)
        omega
    · rename_i hbt
      have hbt' := (not_congr e).1 hbt
      by_cases hq : q = n + 2
      · subst hq; omega
      · exact ih q h1 (by omega)

end Mk

namespace Go.Proofs.YtmebcdpdpcpnmaaGreatDoor
open Go.RowKit

set_option maxHeartbeats 1000000 in
theorem levelAt_nil (a : Option Addr) (cap : Nat) (p : Int) (w : World) :
    Calls Tryz.prog 88 #[.slice a 0 cap, .int .i64 p] w fun e w' => e = .returned (.agg #[.int .i64 p, .int .i64 0, .int .i64 0]) ∧ Below w.heap.size w w' := by
  go_enter Tryz.func88, Tryz.ntmps88
  go_wp2
  go_loop [12] (fun i => i = .int .i64 0) (fun i => 0)
  case atStart => rfl
  case round =>
    subst hrel
    go_wp2
    refine bodyPost_ret (v := .agg #[.int .i64 p, .int .i64 0, .int .i64 0]) ?_ rfl ⟨rfl, ?_⟩
    · simp [results, Tryz.results88, go_sem]
    · exact ((Below.refl _ _).alloc (Nat.le_refl _) _).alloc (by simp) _

theorem levelAt_any (a : Option Addr) (cap : Nat) (l : List Mk.Ord) (p : Int) (w : World) (hv : Mk.validB 20 l = true) (hR : Rd w a l) :
    Calls Tryz.prog 88 #[.slice a l.length cap, .int .i64 p] w fun e w' => e = .returned (.agg #[.int .i64 p, .int .i64 (Mk.dem l p), .int .i64 (Mk.sup l p)]) ∧ Below w.heap.size w w' := by
  rcases hR with rfl | ⟨b, off, rfl, hR⟩
  · exact levelAt_nil a cap p w
  · exact levelAt_some b off cap l p w hv hR

set_option maxHeartbeats 1000000 in
theorem isBetter_any (p d s p' d' s' : Int) (w : World) (h1 : 0 ≤ d) (h2 : d ≤ 1000) (h3 : 0 ≤ s) (h4 : s ≤ 1000) (k1 : 0 ≤ d') (k2 : d' ≤ 1000) (k3 : 0 ≤ s') (k4 : s' ≤ 1000) :
    Calls Tryz.prog 89 #[.agg #[.int .i64 p, .int .i64 d, .int .i64 s], .agg #[.int .i64 p', .int .i64 d', .int .i64 s']] w fun e w' =>
      e = .returned (.bool (Mk.betterB d s d' s')) ∧ Below w.heap.size w w' := by
  by_cases hne : Mk.less d s = Mk.less d' s'
  · have hb : (Mk.less d s != Mk.less d' s') = false := by simp [hne]
    have HN : Hid (Mk.less d s = Mk.less d' s') := hne
    clear hne
    go_enter Tryz.func89, Tryz.ntmps89
    go_wp2_with (first | (go_at_call 59; refine (traded_any _ _ _ _).mono ?_; rintro e w' ⟨rfl, rfl⟩) | (go_at_call 112; refine (apart_any _ _ _ _ (by assumption) (by assumption) (by assumption) (by assumption)).mono ?_; rintro e w' ⟨rfl, rfl⟩))
    go_ret
    exact ⟨by simp [Mk.betterB, HN.out], by repeat (first | exact Below.refl _ _ | refine Below.alloc ?_ (by simp <;> omega) _)⟩
  · have hb : (Mk.less d s != Mk.less d' s') = true := by simp [hne]
    have HN : Hid (¬ Mk.less d s = Mk.less d' s') := hne
    clear hne
    go_enter Tryz.func89, Tryz.ntmps89
    go_wp2_with (go_at_call 59; refine (traded_any _ _ _ _).mono ?_; rintro e w' ⟨rfl, rfl⟩)
    go_ret
    exact ⟨by simp [Mk.betterB, HN.out], by repeat (first | exact Below.refl _ _ | refine Below.alloc ?_ (by simp <;> omega) _)⟩

/-- a level lies at block B -/
structure LvAt (w : World) (B : Nat) (p d s : Int) : Prop where
  c0 : w.cell? ⟨B, 0, none⟩ = some (.int .i64 p)
  c1 : w.cell? ⟨B, 1, none⟩ = some (.int .i64 d)
  c2 : w.cell? ⟨B, 2, none⟩ = some (.int .i64 s)
  f0 : w.frozen? ⟨B, 0, none⟩ = false
  f1 : w.frozen? ⟨B, 1, none⟩ = false
  f2 : w.frozen? ⟨B, 2, none⟩ = false

theorem LvAt.lt {w : World} {B : Nat} {p d s : Int} (h : LvAt w B p d s) : B < w.heap.size := blk_lt h.c0
theorem LvAt.below {w w' : World} {B n : Nat} {p d s : Int} (h : LvAt w B p d s) (hb : Below n w w') (hn : B < n) : LvAt w' B p d s :=
  ⟨(hb.cell (p := ⟨B, 0, none⟩) hn).trans h.c0, (hb.cell (p := ⟨B, 1, none⟩) hn).trans h.c1, (hb.cell (p := ⟨B, 2, none⟩) hn).trans h.c2, (hb.frozen (p := ⟨B, 0, none⟩) hn).trans h.f0, (hb.frozen (p := ⟨B, 1, none⟩) hn).trans h.f1, (hb.frozen (p := ⟨B, 2, none⟩) hn).trans h.f2⟩
theorem LvAt.alloc {w : World} {B : Nat} {p d s : Int} (h : LvAt w B p d s) (o : Obj) : LvAt (w.alloc o) B p d s :=
  h.below ((Below.refl w.heap.size w).alloc (Nat.le_refl _) o) h.lt
theorem LvAt.born (w : World) (p d s : Int) (t : TypeId) : LvAt (w.alloc (.cells #[.int .i64 p, .int .i64 d, .int .i64 s] t)) w.heap.size p d s :=
  ⟨by simp, by simp, by simp, by simp [go_sem], by simp [go_sem], by simp [go_sem]⟩
theorem LvAt.set {w : World} {B : Nat} {p d s : Int} (h : LvAt w B p d s) (p' d' s' : Int) : LvAt (((w.setCell ⟨B, 0, none⟩ (.int .i64 p')).setCell ⟨B, 1, none⟩ (.int .i64 d')).setCell ⟨B, 2, none⟩ (.int .i64 s')) B p' d' s' :=
  ⟨cell_set_ne (by omega) (cell_set_ne (by omega) (cell_set_same h.c0)), cell_set_ne (by omega) (cell_set_same (cell_set_ne (by omega) h.c1)), cell_set_same (cell_set_ne (by omega) (cell_set_ne (by omega) h.c2)), by simpa using h.f0, by simpa using h.f1, by simpa using h.f2⟩
theorem LvAt.setOther {w : World} {B : Nat} {p d s : Int} (h : LvAt w B p d s) {b o : Nat} (v : Value) (hne : B ≠ b) : LvAt (w.setCell ⟨b, o, none⟩ v) B p d s :=
  ⟨cell_set_ne (by omega) h.c0, cell_set_ne (by omega) h.c1, cell_set_ne (by omega) h.c2, by simpa using h.f0, by simpa using h.f1, by simpa using h.f2⟩

end Go.Proofs.YtmebcdpdpcpnmaaGreatDoor

namespace Go.Proofs.YtmebcdpdpcpnmaaGreatDoor
open Go.RowKit

set_option maxHeartbeats 1000000 in
theorem isBatch_some (b off cap : Nat) (l : List Mk.Ord) (w : World) (h12 : l.length ≤ 12) (hR : At w b off l) :
    Calls Tryz.prog 57 #[.slice (some ⟨b, off, none⟩) l.length cap] w fun e w' => e = .returned (.bool (Mk.validB 20 l)) ∧ Below w.heap.size w w' := by
  have HR : Hid (At w b off l) := hR
  clear hR
  go_enter Tryz.func57, Tryz.ntmps57
  go_wp2
  go_loopw [10] (fun i wr => ∃ k : Nat, k ≤ l.length ∧ i = .int .i64 k ∧ (l.take k).all (Mk.okB 20) = true ∧ Below w.heap.size w wr) (fun i _ => l.length - (intOf i).toNat)
  case atStart => exact ⟨0, Nat.zero_le _, rfl, by simp, Below.refl _ _⟩
  case round =>
    obtain ⟨k, hk, rfl, hall, hb⟩ := hrel
    have Hall := (show Hid _ from hall)
    have Hb := (show Hid _ from hb)
    clear hall hb
    by_cases hlt : k < l.length
    · obtain ⟨c0, c1, c2⟩ := At.below HR.out Hb.out k hlt
      have hbl := blk_lt c0
      have hlt' : (k : Int) < (l.length : Int) := by omega
      have Hno : Hid (∀ h : Mk.okB 20 l[k] = false, Mk.validB 20 l = false) := fun h => Mk.valid_no hlt h
      have Hyes : Hid (∀ h : Mk.okB 20 l[k] = true, (l.take (k + 1)).all (Mk.okB 20) = true) := fun h => by rw [Mk.all_take_succ _ _ _ hlt, Hall.out, h]; rfl
      revert c0 c1 c2 Hno Hyes
      generalize l[k] = o
      obtain ⟨s, pr, q⟩ := o
      intro c0 c1 c2 Hno Hyes
      simp only at c0 c1 c2
      go_wp2
      all_goals first
        | (go_ret; exact ⟨ret_bool (Hno.out (by simp only [Mk.okB, Bool.and_eq_false_iff, decide_eq_false_iff_not]; omega)).symm, Hb.out.alloc Hb.out.size _⟩)
        | (go_roundw
           case rel => exact ⟨k + 1, by omega, by go_num, Hyes.out (by simp only [Mk.okB, Bool.and_eq_true, decide_eq_true_eq]; omega), Hb.out.alloc Hb.out.size _⟩
           case measure => simp [intOf]; omega)
    · go_wp2
      go_ret
      have : k = l.length := by omega
      subst this
      exact ⟨ret_bool (Mk.valid_yes h12 Hall.out).symm, Hb.out⟩

set_option maxHeartbeats 1000000 in
theorem isBatch_nil (a : Option Addr) (cap : Nat) (w : World) :
    Calls Tryz.prog 57 #[.slice a 0 cap] w fun e w' => e = .returned (.bool true) ∧ Below w.heap.size w w' := by
  go_enter Tryz.func57, Tryz.ntmps57
  go_wp2
  go_loop [10] (fun i => i = .int .i64 0) (fun i => 0)
  case atStart => rfl
  case round =>
    subst hrel
    go_wp2
    go_ret
    exact ⟨rfl, Below.refl _ _⟩

set_option maxHeartbeats 1000000 in
theorem isBatch_long (a : Option Addr) (len cap : Nat) (w : World) (h : ¬ len ≤ 12) :
    Calls Tryz.prog 57 #[.slice a len cap] w fun e w' => e = .returned (.bool false) ∧ Below w.heap.size w w' := by
  have h' : (12 : Int) < (len : Int) := by omega
  go_enter Tryz.func57, Tryz.ntmps57
  go_wp2
  go_ret
  exact ⟨rfl, Below.refl _ _⟩

theorem isBatch_any (a : Option Addr) (cap : Nat) (l : List Mk.Ord) (w : World) (hR : Rd w a l) :
    Calls Tryz.prog 57 #[.slice a l.length cap] w fun e w' => e = .returned (.bool (Mk.validB 20 l)) ∧ Below w.heap.size w w' := by
  by_cases h12 : l.length ≤ 12
  · rcases hR with rfl | ⟨b, off, rfl, hR⟩
    · exact isBatch_nil a cap w
    · exact isBatch_some b off cap l w h12 hR
  · rw [Mk.valid_long h12]; exact isBatch_long a l.length cap w h12

end Go.Proofs.YtmebcdpdpcpnmaaGreatDoor
