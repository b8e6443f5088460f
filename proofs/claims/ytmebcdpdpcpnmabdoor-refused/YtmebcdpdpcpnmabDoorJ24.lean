import Derived.Test.YtmebcdpdpcpnmabDoorJ14
import Derived.Test.YtmebcdpdpcpnmabDoorJ22
import Derived.Test.YtmebcdpdpcpnmabDoorJ23
namespace Go.Proofs.YtmebcdpdpcpnmabDoor
open Go.RowKit

/-- an order in a batch, as a value -/
abbrev eV (n who : Int) (sell : Bool) (p q : Int) : Value := .agg #[.int .i64 n, .int .i64 who, .bool sell, .int .i64 p, .int .i64 q]
/-- where what it needs is held -/
def potAt (v who : Nat) (sell : Bool) : Nat := if sell then who * 6 + 2 + v * 2 else who * 6
def needI (sell : Bool) (p q : Int) : Int := if sell then q else p * q
theorem needI_bd {sell : Bool} {p q : Int} (hp : 1 ≤ p ∧ p ≤ 99) (hq : 1 ≤ q ∧ q ≤ 20) : 0 ≤ needI sell p q ∧ needI sell p q ≤ 1980 := by
  unfold needI
  split
  · omega
  · have h1 : 0 ≤ p * q := Int.mul_nonneg (by omega) (by omega)
    have h2 : p * q ≤ 99 * 20 := Int.mul_le_mul hp.2 hq.2 (by omega) (by omega)
    omega

set_option maxRecDepth 100000 in
set_option maxHeartbeats 1000000 in
theorem needs_any (n who : Int) (sell : Bool) (p q : Int) (w : World) (hp : 1 ≤ p ∧ p ≤ 99) (hq : 1 ≤ q ∧ q ≤ 20) :
    Calls Tryd.prog 67 #[eV n who sell p q] w fun e w' => e = .returned (.int .i64 (needI sell p q)) ∧ Below w.heap.size w w' := by
  have h1 : 0 ≤ p * q := Int.mul_nonneg (by omega) (by omega)
  have h2 : p * q ≤ 99 * 20 := Int.mul_le_mul hp.2 hq.2 (by omega) (by omega)
  cases sell
  all_goals
    go_enter Tryd.func67, Tryd.ntmps67
    go_wp2
    go_ret
    exact ⟨rfl, (Below.refl _ _).alloc (Nat.le_refl _) _⟩

set_option maxRecDepth 100000 in
set_option maxHeartbeats 1000000 in
theorem potOf_any (p v who : Nat) (n : Int) (sell : Bool) (pr q : Int) (w : World) (hw : who < 4) (hv : v < 2) :
    Calls Tryd.prog 65 #[.pointer (some ⟨p, 0, none⟩), eV n who sell pr q, .int .i64 v] w fun e w' => e = .returned (.pointer (some ⟨p, potAt v who sell, none⟩)) ∧ Below w.heap.size w w' := by
  have hw' : (who : Int) < 4 := by omega
  have hv' : (v : Int) < 2 := by omega
  cases sell
  all_goals
    have HB : Hid (∀ ob n, Below w.heap.size w ((w.alloc ob).drewN n)) := fun ob n => below_drewN ((Below.refl _ _).alloc (Nat.le_refl _) _) n
    go_enter Tryd.func65, Tryd.ntmps65
    go_wp2_with fail
    go_quiet (fail)
    go_wp2_with fail
    go_ret
    exact ⟨rfl, HB.out _ _⟩

set_option maxRecDepth 100000 in
set_option maxHeartbeats 1000000 in
theorem hold_yes (p i : Nat) (f h n : Int) (w : World) (c0 : w.cell? ⟨p, i, none⟩ = some (.int .i64 f)) (c1 : w.cell? ⟨p, i + 1, none⟩ = some (.int .i64 h)) (z0 : w.frozen? ⟨p, i, none⟩ = false) (z1 : w.frozen? ⟨p, i + 1, none⟩ = false) (hf : 0 ≤ f ∧ f ≤ 9999) (hh : 0 ≤ h ∧ h ≤ 9999) (hn : 0 ≤ n ∧ n ≤ 9999) (hle : n ≤ f) :
    Calls Tryd.prog 66 #[.pointer (some ⟨p, i, none⟩), .int .i64 n] w fun e w' => e = .returned (.int .i64 0) ∧ w' = (w.setCell ⟨p, i, none⟩ (.int .i64 (f - n))).setCell ⟨p, i + 1, none⟩ (.int .i64 (h + n)) := by
  have HC := (show Hid _ from take_yes p i f n w c0 z0 hf hn hle)
  have d1 : (w.setCell ⟨p, i, none⟩ (.int .i64 (f - n))).cell? ⟨p, i + 1, none⟩ = some (.int .i64 h) := cell_set_ne (by omega) c1
  have y1 : (w.setCell ⟨p, i, none⟩ (.int .i64 (f - n))).frozen? ⟨p, i + 1, none⟩ = false := by simpa using z1
  clear c0 c1 z0 z1 hle
  go_enter Tryd.func66, Tryd.ntmps66
  go_wp2_with fail
  refine Calls.mono HC.out ?_
  rintro e w2 ⟨rfl, hw2⟩
  obtain rfl := hw2
  go_wp2
  go_ret
  exact ⟨rfl, rfl⟩
set_option maxRecDepth 100000 in
set_option maxHeartbeats 1000000 in
theorem hold_no (p i : Nat) (f n : Int) (w : World) (c0 : w.cell? ⟨p, i, none⟩ = some (.int .i64 f)) (hle : f < n) :
    Calls Tryd.prog 66 #[.pointer (some ⟨p, i, none⟩), .int .i64 n] w fun e w' => e = .returned (.int .i64 5) ∧ w' = w := by
  go_enter Tryd.func66, Tryd.ntmps66
  go_wp2_with fail
  refine (take_no p i f n w c0 hle).mono ?_
  rintro e w2 ⟨rfl, hw2⟩
  obtain rfl := hw2.symm
  go_wp2
  go_ret
  exact ⟨rfl, rfl⟩
set_option maxRecDepth 100000 in
set_option maxHeartbeats 1000000 in
theorem release_any (p i : Nat) (f h n : Int) (w : World) (c0 : w.cell? ⟨p, i, none⟩ = some (.int .i64 f)) (c1 : w.cell? ⟨p, i + 1, none⟩ = some (.int .i64 h)) (z0 : w.frozen? ⟨p, i, none⟩ = false) (z1 : w.frozen? ⟨p, i + 1, none⟩ = false) (hf : 0 ≤ f ∧ f ≤ 9999) (hh : 0 ≤ h ∧ h ≤ 9999) (hn : 0 ≤ n ∧ n ≤ 9999) :
    Calls Tryd.prog 69 #[.pointer (some ⟨p, i, none⟩), .int .i64 n] w fun e w' => e = .returned (.tuple #[]) ∧ w' = (w.setCell ⟨p, i + 1, none⟩ (.int .i64 (h - n))).setCell ⟨p, i, none⟩ (.int .i64 (f + n)) := by
  have hne : (⟨p, i, none⟩ : Addr) ≠ ⟨p, i + 1, none⟩ := by simp
  have d0 : (w.setCell ⟨p, i + 1, none⟩ (.int .i64 (h - n))).cell? ⟨p, i, none⟩ = some (.int .i64 f) := cell_set_ne (by omega) c0
  have y0 : (w.setCell ⟨p, i + 1, none⟩ (.int .i64 (h - n))).frozen? ⟨p, i, none⟩ = false := by simpa using z0
  go_enter Tryd.func69, Tryd.ntmps69
  go_wp2_with fail
  refine bodyPost_end (v := .tuple #[]) ?_ rfl ⟨rfl, rfl⟩
  simp [results, Tryd.results69, go_sem]

set_option maxRecDepth 100000 in
set_option maxHeartbeats 2000000 in
theorem hasOrderOf_any (p o who : Nat) (bv : Value) (l : List Mk.Stand) (w : World) (hc : w.cell? ⟨p, o + 1, none⟩ = some bv) (hl : l.length ≤ 12) (hown : w.ownsRow 0 86 5 bv l.length (standC l)) :
    Calls Tryd.prog 64 #[.pointer (some ⟨p, o, none⟩), .int .i64 who] w fun e w' => e = .returned (.bool (Mk.whoIn l who)) ∧ Below w.heap.size w w' := by
  have HO : Hid (w.ownsRow 0 86 5 bv l.length (standC l)) := hown
  obtain ⟨ba, bc, rfl⟩ := own_form hown
  clear hown
  go_enter Tryd.func64, Tryd.ntmps64
  go_wp2
  clear hc
  go_loopw [12] (fun j wr => ∃ k : Nat, k ≤ l.length ∧ j = .int .i64 k ∧ (∀ i, i < k → ((Mk.std l i).who == (who : Int)) = false) ∧ Below w.heap.size w wr) (fun j _ => l.length - (intOf j).toNat)
  case atStart => exact ⟨0, Nat.zero_le _, rfl, fun i hi => by omega, Below.refl _ _⟩
  case round =>
    obtain ⟨k, hk, rfl, hn, hb⟩ := hrel
    have HN : Hid (∀ i, i < k → ((Mk.std l i).who == (who : Int)) = false) := hn
    have Hb : Hid (Below w.heap.size w wr) := hb
    clear hn hb
    by_cases hlt : k < l.length
    · have hlt' : (k : Int) < (l.length : Int) := by omega
      obtain ⟨g, rfl⟩ := own_some HO.out (by omega)
      obtain ⟨e0, e1, e2, e3, e4⟩ := entry_cells (own_below HO.out Hb.out (fun j hj => (HO.out.lt j hj).2)) rfl hlt
      have HA : Hid (∀ ob, Below w.heap.size w (wr.alloc ob)) := fun ob => Hb.out.alloc Hb.out.size ob
      by_cases hh : ((Mk.std l k).who == (who : Int)) = true
      · have HY : Hid (Mk.whoIn l who = true) := by
          unfold Mk.whoIn
          rw [List.any_eq_true]
          exact ⟨l[k], List.getElem_mem hlt, by rw [← Mk.std_at hlt]; exact hh⟩
        go_wp2
        go_ret
        exact ⟨by rw [HY.out]; rfl, HA.out _⟩
      · have hh' : ((Mk.std l k).who == (who : Int)) = false := by simpa using hh
        have HN' : Hid (∀ i, i < k + 1 → ((Mk.std l i).who == (who : Int)) = false) := fun i hi => by
          by_cases e : i = k
          · subst e; exact hh'
          · exact HN.out i (by omega)
        clear hh
        go_wp2
        go_roundw
        case rel => exact ⟨k + 1, by omega, by go_num, HN'.out, HA.out _⟩
        case measure => simp [intOf]; omega
    · obtain rfl : k = l.length := by omega
      have HF : Hid (Mk.whoIn l who = false) := by
        unfold Mk.whoIn
        rw [List.any_eq_false]
        intro x hx
        obtain ⟨i, hi, rfl⟩ := List.mem_iff_getElem.1 hx
        rw [← Mk.std_at hi, HN.out i hi]
        simp
      go_wp2
      go_ret
      exact ⟨by rw [HF.out]; rfl, Hb.out⟩

end Go.Proofs.YtmebcdpdpcpnmabDoor

namespace Go.Proofs.YtmebcdpdpcpnmabDoor
open Go.RowKit

theorem std_left {l : List Mk.Stand} {x : Mk.Stand} {i : Nat} (h : i < l.length) : Mk.std (l ++ [x]) i = Mk.std l i := by
  rw [Mk.std_at h, Mk.std_at (by simp; omega), List.getElem_append_left h]
theorem std_last (l : List Mk.Stand) (x : Mk.Stand) : Mk.std (l ++ [x]) l.length = x := by
  rw [Mk.std_at (by simp)]
  simp
theorem standF_left {l : List Mk.Stand} {x : Mk.Stand} {j : Nat} (h : j < l.length * 5) : standF (l ++ [x]) j = standF l j := by
  unfold standF
  rw [std_left (x := x) (i := j / 5) (by omega)]
theorem standC_snoc (l : List Mk.Stand) (x : Mk.Stand) : standC (l ++ [x]) = standC l ++ [.int .i64 x.n, .int .i64 x.who, .bool x.o.sell, .int .i64 x.o.price, .int .i64 x.o.qty] := by
  apply List.ext_getElem?
  intro j
  have hl1 : (standC (l ++ [x])).length = l.length * 5 + 5 := by simp [standC]; omega
  have hl2 : (standC l).length = l.length * 5 := by simp [standC]
  by_cases h1 : j < l.length * 5
  · rw [standC_get _ (by simp; omega), standF_left h1, List.getElem?_append_left (by omega), standC_get _ h1]
  · by_cases h2 : j < l.length * 5 + 5
    · rw [standC_get _ (by simp; omega), List.getElem?_append_right (by omega), hl2]
      have hf := standF_at (l ++ [x]) l.length
      rw [std_last] at hf
      obtain h | h | h | h | h : j = l.length * 5 ∨ j = l.length * 5 + 1 ∨ j = l.length * 5 + 2 ∨ j = l.length * 5 + 3 ∨ j = l.length * 5 + 4 := by omega
      · subst h; rw [hf.1, Nat.sub_self]; rfl
      · subst h; rw [hf.2.1, show l.length * 5 + 1 - l.length * 5 = 1 by omega]; rfl
      · subst h; rw [hf.2.2.1, show l.length * 5 + 2 - l.length * 5 = 2 by omega]; rfl
      · subst h; rw [hf.2.2.2.1, show l.length * 5 + 3 - l.length * 5 = 3 by omega]; rfl
      · subst h; rw [hf.2.2.2.2, show l.length * 5 + 4 - l.length * 5 = 4 by omega]; rfl
    · rw [List.getElem?_eq_none (by omega), List.getElem?_eq_none (by simp; omega)]
theorem Tryd.infoEntry : (Tryd.prog.info? 86).map (fun i => (i.zero, i.size, i.bytes)) = some (some (.agg #[.int .i64 0, .int .i64 0, .bool false, .int .i64 0, .int .i64 0]), 5, 40) := by kernel_rfl

theorem find_first {l : List Mk.Stand} {f : Mk.Stand → Bool} {k : Nat} (hk : k < l.length) (hn : ∀ i, i < k → f (Mk.std l i) = false) (hy : f (Mk.std l k) = true) : l.find? f = some (Mk.std l k) := by
  rw [List.find?_eq_some_iff_getElem]
  refine ⟨hy, k, hk, (Mk.std_at hk).symm, fun j hj => ?_⟩
  have := hn j hj
  rw [Mk.std_at (by omega)] at this
  simpa using this
theorem find_none {l : List Mk.Stand} {f : Mk.Stand → Bool} (hn : ∀ i, i < l.length → f (Mk.std l i) = false) : l.find? f = none := by
  rw [List.find?_eq_none]
  intro x hx
  obtain ⟨i, hi, rfl⟩ := List.mem_iff_getElem.1 hx
  have := hn i hi
  rw [Mk.std_at hi] at this
  simp [this]

/-- what find answers -/
def FindIs (x : Option Mk.Stand) (w : World) (e : Ending) (w' : World) : Prop :=
  (match x with
    | none => e = .returned (.tuple #[eV 0 0 false 0 0, .bool false])
    | some x => e = .returned (.tuple #[eV x.n x.who x.o.sell x.o.price x.o.qty, .bool true])) ∧ Below w.heap.size w w'

set_option maxRecDepth 100000 in
set_option maxHeartbeats 2000000 in
theorem find_any (p o who : Nat) (n : Int) (bv : Value) (l : List Mk.Stand) (w : World) (hc : w.cell? ⟨p, o + 1, none⟩ = some bv) (hl : l.length ≤ 12) (hown : w.ownsRow 0 86 5 bv l.length (standC l)) :
    Calls Tryd.prog 68 #[.pointer (some ⟨p, o, none⟩), .int .i64 who, .int .i64 n] w fun e w' => FindIs (l.find? (Mk.hit n who)) w e w' := by
  have hpl := blk_lt hc
  have HO : Hid (w.ownsRow 0 86 5 bv l.length (standC l)) := hown
  obtain ⟨ba, bc, rfl⟩ := own_form hown
  have HZ : Hid (Below w.heap.size w (w.alloc (.cells #[.int .i64 0, .int .i64 0, .bool false, .int .i64 0, .int .i64 0] 86))) := (Below.refl _ _).alloc (Nat.le_refl _) _
  have HR : Hid ((w.alloc (.cells #[.int .i64 0, .int .i64 0, .bool false, .int .i64 0, .int .i64 0] 86)).rowIs w.heap.size 86 5 (standF [])) := World.rowIs_alloc w #[.int .i64 0, .int .i64 0, .bool false, .int .i64 0, .int .i64 0] 86 (standF []) (fun i hi => by match i, hi with | 0, _ => rfl | 1, _ => rfl | 2, _ => rfl | 3, _ => rfl | 4, _ => rfl)
  clear hown
  go_enter Tryd.func68, Tryd.ntmps68
  go_wp2
  generalize w.alloc (.cells #[.int .i64 0, .int .i64 0, .bool false, .int .i64 0, .int .i64 0] 86) = W0 at *
  clear hc
  go_loopw [15] (fun j wr => ∃ k : Nat, k ≤ l.length ∧ j = .int .i64 k ∧ (∀ i, i < k → Mk.hit n who (Mk.std l i) = false) ∧ Below W0.heap.size W0 wr) (fun j _ => l.length - (intOf j).toNat)
  case atStart => exact ⟨0, Nat.zero_le _, rfl, fun i hi => by omega, Below.refl _ _⟩
  case round =>
    obtain ⟨k, hk, rfl, hn, hb⟩ := hrel
    have HN : Hid (∀ i, i < k → Mk.hit n who (Mk.std l i) = false) := hn
    have Hb : Hid (Below W0.heap.size W0 wr) := hb
    have HBw : Hid (Below w.heap.size w wr) := HZ.out.trans (hb.mono HZ.out.size)
    have HRr : Hid (wr.rowIs w.heap.size 86 5 (standF [])) := HR.out.of_block (hb.block _ HR.out.lt)
    clear hn hb
    have hzl := HRr.out.lt
    have HA : Hid (∀ ob, Below w.heap.size w (wr.alloc ob)) := fun ob => HBw.out.alloc HBw.out.size ob
    by_cases hlt : k < l.length
    · have hlt' : (k : Int) < (l.length : Int) := by omega
      obtain ⟨g, rfl⟩ := own_some HO.out (by omega)
      obtain ⟨e0, e1, e2, e3, e4⟩ := entry_cells (own_below HO.out HBw.out (fun j hj => (HO.out.lt j hj).2)) rfl hlt
      have HA2 : Hid (∀ ob, Below W0.heap.size W0 (wr.alloc ob)) := fun ob => Hb.out.alloc Hb.out.size ob
      have n0 := HRr.out.cell (i := 0) (by omega)
      have n1 := HRr.out.cell (i := 1) (by omega)
      have n2 := HRr.out.cell (i := 2) (by omega)
      have n3 := HRr.out.cell (i := 3) (by omega)
      have n4 := HRr.out.cell (i := 4) (by omega)
      have y0 := HRr.out.frozen 0
      have y1 := HRr.out.frozen 1
      have y2 := HRr.out.frozen 2
      have y3 := HRr.out.frozen 3
      have y4 := HRr.out.frozen 4
      by_cases hw1 : ((Mk.std l k).who == (who : Int)) = true
      · by_cases hn1 : ((Mk.std l k).n == n) = true
        · have HF : Hid (l.find? (Mk.hit n who) = some (Mk.std l k)) := find_first hlt HN.out (by unfold Mk.hit; rw [hn1, hw1]; rfl)
          go_wp2_with fail
          refine bodyPost_ret (v := .tuple #[eV (Mk.std l k).n (Mk.std l k).who (Mk.std l k).o.sell (Mk.std l k).o.price (Mk.std l k).o.qty, .bool true]) ?_ rfl ⟨?_, ?_⟩
          · simp [results, Tryd.results68, go_sem, n0, n1, n2, n3, n4, hzl]
          · rw [HF.out]
          · refine Below.alloc ?_ (by simpa using HBw.out.size) _
            iterate 5 (refine below_at ?_ _ _)
            exact HBw.out
        · have hn1' : ((Mk.std l k).n == n) = false := by simpa using hn1
          have HN' : Hid (∀ i, i < k + 1 → Mk.hit n who (Mk.std l i) = false) := fun i hi => by
            by_cases e : i = k
            · subst e; unfold Mk.hit; rw [hn1', Bool.false_and]
            · exact HN.out i (by omega)
          clear hn1 n0 n1 n2 n3 n4
          go_wp2
          go_roundw
          case rel => exact ⟨k + 1, by omega, by go_num, HN'.out, HA2.out _⟩
          case measure => simp [intOf]; omega
      · have hw1' : ((Mk.std l k).who == (who : Int)) = false := by simpa using hw1
        have HN' : Hid (∀ i, i < k + 1 → Mk.hit n who (Mk.std l i) = false) := fun i hi => by
          by_cases e : i = k
          · subst e; unfold Mk.hit; rw [hw1', Bool.and_false]
          · exact HN.out i (by omega)
        clear hw1 n0 n1 n2 n3 n4
        go_wp2
        go_roundw
        case rel => exact ⟨k + 1, by omega, by go_num, HN'.out, HA2.out _⟩
        case measure => simp [intOf]; omega
    · obtain rfl : k = l.length := by omega
      have HF : Hid (l.find? (Mk.hit n who) = none) := find_none HN.out
      have n0 := HRr.out.cell (i := 0) (by omega)
      have n1 := HRr.out.cell (i := 1) (by omega)
      have n2 := HRr.out.cell (i := 2) (by omega)
      have n3 := HRr.out.cell (i := 3) (by omega)
      have n4 := HRr.out.cell (i := 4) (by omega)
      have y0 := HRr.out.frozen 0
      have y1 := HRr.out.frozen 1
      have y2 := HRr.out.frozen 2
      have y3 := HRr.out.frozen 3
      have y4 := HRr.out.frozen 4
      go_wp2_with fail
      refine bodyPost_ret (v := .tuple #[eV 0 0 false 0 0, .bool false]) ?_ rfl ⟨?_, ?_⟩
      · simp [results, Tryd.results68, go_sem, n0, n1, n2, n3, n4]
      · rw [HF.out]
      · iterate 5 (refine below_at ?_ _ _)
        exact HBw.out

end Go.Proofs.YtmebcdpdpcpnmabDoor

namespace Go.Proofs.YtmebcdpdpcpnmabDoor
open Go.RowKit

set_option maxRecDepth 100000 in
set_option maxHeartbeats 2000000 in
theorem remove_any (p o : Nat) (n : Int) (bv : Value) (l : List Mk.Stand) (w : World) (hc : w.cell? ⟨p, o + 1, none⟩ = some bv) (hz : w.frozen? ⟨p, o + 1, none⟩ = false) (hl : l.length ≤ 12) (hown : w.ownsRow 0 86 5 bv l.length (standC l)) :
    Calls Tryd.prog 70 #[.pointer (some ⟨p, o, none⟩), .int .i64 n] w fun e w' => e = .returned (.tuple #[]) ∧
      ∃ w1 v', Below w.heap.size w w1 ∧ w1.ownsRow w.heap.size 86 5 v' (l.filter (fun y => !(y.n == n))).length (standC (l.filter (fun y => !(y.n == n)))) ∧ w' = w1.setCell ⟨p, o + 1, none⟩ v' := by
  obtain ⟨i0, hi0, hz0, hz1, hz2⟩ := info_parts Tryd.infoEntry
  have hpl := blk_lt hc
  have HO : Hid (w.ownsRow 0 86 5 bv l.length (standC l)) := hown
  obtain ⟨ba, bc, rfl⟩ := own_form hown
  have HC : Hid (w.cell? ⟨p, o + 1, none⟩ = some (.slice ba l.length bc)) := hc
  have HZ : Hid (w.frozen? ⟨p, o + 1, none⟩ = false) := hz
  clear hown hz
  go_enter Tryd.func70, Tryd.ntmps70
  go_wp2
  clear hc
  go_loopw [4, 12] (fun v j wr => ∃ k : Nat, k ≤ l.length ∧ j = .int .i64 k ∧ wr.ownsRow w.heap.size 86 5 v ((l.take k).filter (fun y => !(y.n == n))).length (standC ((l.take k).filter (fun y => !(y.n == n)))) ∧ Below w.heap.size w wr) (fun _ j _ => l.length - (intOf j).toNat)
  case atStart => exact ⟨0, Nat.zero_le _, rfl, ⟨by simp [standC], .inl ⟨rfl, by simp⟩⟩, Below.refl _ _⟩
  case round =>
    obtain ⟨k, hk, rfl, hr, hb⟩ := hrel
    have Hb : Hid (Below w.heap.size w wr) := hb
    have hsz := hb.size
    clear hb
    have hlen : ((l.take k).filter (fun y => !(y.n == n))).length ≤ 12 := by
      have h1 := List.length_filter_le (fun y : Mk.Stand => !(y.n == n)) (l.take k)
      have h2 := List.length_take_le k l
      omega
    by_cases hlt : k < l.length
    · have hlt' : (k : Int) < (l.length : Int) := by omega
      obtain ⟨g, rfl⟩ := own_some HO.out (by omega)
      obtain ⟨e0, e1, e2, e3, e4⟩ := entry_cells (own_below HO.out Hb.out (fun j hj => (HO.out.lt j hj).2)) rfl hlt
      have HT : Hid (l.take (k + 1) = l.take k ++ [Mk.std l k]) := (by rw [List.take_succ_eq_append_getElem hlt, Mk.std_at hlt] : l.take (k + 1) = l.take k ++ [Mk.std l k])
      have HA : Hid (∀ ob, Below w.heap.size w (wr.alloc ob)) := fun ob => Hb.out.alloc Hb.out.size ob
      by_cases hn1 : ((Mk.std l k).n == n) = true
      · have hn2 : ((Mk.std l k).n != n) = false := by rw [bne, hn1]; rfl
        have HFl : Hid ((l.take (k + 1)).filter (fun y => !(y.n == n)) = (l.take k).filter (fun y => !(y.n == n))) := (by
          rw [HT.out, List.filter_append]
          simp [hn1] : (l.take (k + 1)).filter (fun y => !(y.n == n)) = (l.take k).filter (fun y => !(y.n == n)))
        have HR := (show Hid _ from hr)
        clear hr
        go_wp2
        go_roundw
        case rel =>
          refine ⟨k + 1, by omega, by go_num, ?_, HA.out _⟩
          rw [HFl.out]
          exact World.ownsRow.alloc HR.out _
        case measure => simp [intOf]; omega
      · have hn1' : ((Mk.std l k).n == n) = false := by simpa using hn1
        have hn2 : ((Mk.std l k).n != n) = true := by rw [bne, hn1']; rfl
        have HFl : Hid ((l.take (k + 1)).filter (fun y => !(y.n == n)) = (l.take k).filter (fun y => !(y.n == n)) ++ [Mk.std l k]) := (by
          rw [HT.out, List.filter_append]
          simp [hn1'] : (l.take (k + 1)).filter (fun y => !(y.n == n)) = (l.take k).filter (fun y => !(y.n == n)) ++ [Mk.std l k])
        generalize hq : (l.take k).filter (fun y => !(y.n == n)) = r at *
        clear hn1 hq
        go_wp2_with (at_builtin; (refine wpList_append_lies _ rfl _ _ _ rfl w.heap.size 86 i0 _ 5 40 Tryd.underlying62 hi0 hz0 hz1 hz2 rfl (by omega) _ r.length (standC r) rfl ((hr.alloc _).alloc _) ⟨wr.heap.size + 1, 0, none⟩ 1 1 [.int .i64 (Mk.std l k).n, .int .i64 (Mk.std l k).who, .bool (Mk.std l k).o.sell, .int .i64 (Mk.std l k).o.price, .int .i64 (Mk.std l k).o.qty] rfl rfl (World.news_of_block (cs := #[.int .i64 (Mk.std l k).n, .int .i64 (Mk.std l k).who, .bool (Mk.std l k).o.sell, .int .i64 (Mk.std l k).o.price, .int .i64 (Mk.std l k).o.qty]) (t := 86) (fr := (0, 0)) ?_) (by simp [Value.oneCell']) (by omega) (by unfold maxLen; omega) (by omega) (by simp; omega) (wr.heap.size + 2) (by simp) ?_))
        · have h := heap_alloc_new (wr.alloc (.cells #[.int .i64 (Mk.std l k).n, .int .i64 (Mk.std l k).who, .bool (Mk.std l k).o.sell, .int .i64 (Mk.std l k).o.price, .int .i64 (Mk.std l k).o.qty] 86)) (.cells #[.int .i64 (Mk.std l k).n, .int .i64 (Mk.std l k).who, .bool (Mk.std l k).o.sell, .int .i64 (Mk.std l k).o.price, .int .i64 (Mk.std l k).o.qty] 86)
          simpa using h
        · intro gg cap' w1 hown1 hgrow hat hlt1
          have HO1 := (show Hid _ from hown1)
          have HB1 : Hid (Below w.heap.size w w1) := Below.grown ((HA.out _).alloc (by simp; omega) _) hgrow (by simp; omega) (fun j hj => own_ge hr j hj)
          clear hown1 hgrow hat hr
          go_wp2
          go_roundw
          case rel =>
            refine ⟨k + 1, by omega, by go_num, ?_, HB1.out⟩
            rw [HFl.out, standC_snoc, List.length_append]
            exact HO1.out
          case measure => simp [intOf]; omega
    · obtain rfl : k = l.length := by omega
      have HR : Hid (wr.ownsRow w.heap.size 86 5 _ (l.filter (fun y => !(y.n == n))).length (standC (l.filter (fun y => !(y.n == n))))) := (by rw [List.take_length] at hr; exact hr)
      clear hr hlen
      have c1 : wr.cell? ⟨p, o + 1, none⟩ = some (.slice ba l.length bc) := (Hb.out.cell (p := ⟨p, o + 1, none⟩) hpl).trans HC.out
      have z1 : wr.frozen? ⟨p, o + 1, none⟩ = false := (Hb.out.frozen (p := ⟨p, o + 1, none⟩) hpl).trans HZ.out
      obtain ⟨va, vc, hv⟩ := own_form HR.out
      subst hv
      go_wp2_with fail
      refine bodyPost_end (v := .tuple #[]) ?_ rfl ⟨rfl, wr, _, Hb.out, HR.out, rfl⟩
      simp [results, Tryd.results70, go_sem]

end Go.Proofs.YtmebcdpdpcpnmabDoor
