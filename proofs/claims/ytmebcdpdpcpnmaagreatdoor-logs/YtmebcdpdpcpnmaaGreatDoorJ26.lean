import Derived.Test.YtmebcdpdpcpnmaaGreatDoorJ25
import Derived.Shelf.LaysM
import Derived.Shelf.Strconv.Itoa3
import Derived.Test.YtmebcdpdpcpnmaaGreatDoorProg
namespace Go.Proofs.YtmebcdpdpcpnmaaGreatDoor
open Go.RowKit

theorem std_left {l : List Mk.Stand} {x : Mk.Stand} {i : Nat} (h : i < l.length) : Mk.std (l ++ [x]) i = Mk.std l i := by
  rw [Mk.std_at h, Mk.std_at (by simp; omega), List.getElem_append_left h]
theorem std_last (l : List Mk.Stand) (x : Mk.Stand) : Mk.std (l ++ [x]) l.length = x := by
  rw [Mk.std_at (by simp)]
  simp
theorem standF_left {l : List Mk.Stand} {x : Mk.Stand} {j : Nat} (h : j < l.length * 5) : standF (l ++ [x]) j = standF l j := by
  unfold standF
  rw [std_left (x := x) (i := j / 5) (by omega)]
theorem standC_snoc (l : List Mk.Stand) (x : Mk.Stand) : standC (l ++ [x]) = standC l ++ [.int .i64 x.n, .int .i64 x.who, .bool x.o.sell, .int .i64 x.o.price, .int .i64 x.o.qty] := by
  apply List.ext_getElem?
  intro j
  have hl1 : (standC (l ++ [x])).length = l.length * 5 + 5 := by simp [standC]; omega
  have hl2 : (standC l).length = l.length * 5 := by simp [standC]
  by_cases h1 : j < l.length * 5
  · rw [standC_get _ (by simp; omega), standF_left h1, List.getElem?_append_left (by omega), standC_get _ h1]
  · by_cases h2 : j < l.length * 5 + 5
    · rw [standC_get _ (by simp; omega), List.getElem?_append_right (by omega), hl2]
      have hf := standF_at (l ++ [x]) l.length
      rw [std_last] at hf
      obtain h | h | h | h | h : j = l.length * 5 ∨ j = l.length * 5 + 1 ∨ j = l.length * 5 + 2 ∨ j = l.length * 5 + 3 ∨ j = l.length * 5 + 4 := by omega
      · subst h; rw [hf.1, Nat.sub_self]; rfl
      · subst h; rw [hf.2.1, show l.length * 5 + 1 - l.length * 5 = 1 by omega]; rfl
      · subst h; rw [hf.2.2.1, show l.length * 5 + 2 - l.length * 5 = 2 by omega]; rfl
      · subst h; rw [hf.2.2.2.1, show l.length * 5 + 3 - l.length * 5 = 3 by omega]; rfl
      · subst h; rw [hf.2.2.2.2, show l.length * 5 + 4 - l.length * 5 = 4 by omega]; rfl
    · rw [List.getElem?_eq_none (by omega), List.getElem?_eq_none (by simp; omega)]
theorem Tryz.infoEntry : (Tryz.prog.info? 152).map (fun i => (i.zero, i.size, i.bytes)) = some (some (.agg #[.int .i64 0, .int .i64 0, .bool false, .int .i64 0, .int .i64 0]), 5, 40) := by kernel_rfl

theorem find_first {l : List Mk.Stand} {f : Mk.Stand → Bool} {k : Nat} (hk : k < l.length) (hn : ∀ i, i < k → f (Mk.std l i) = false) (hy : f (Mk.std l k) = true) : l.find? f = some (Mk.std l k) := by
  rw [List.find?_eq_some_iff_getElem]
  refine ⟨hy, k, hk, (Mk.std_at hk).symm, fun j hj => ?_⟩
  have := hn j hj
  rw [Mk.std_at (by omega)] at this
  simpa using this
theorem find_none {l : List Mk.Stand} {f : Mk.Stand → Bool} (hn : ∀ i, i < l.length → f (Mk.std l i) = false) : l.find? f = none := by
  rw [List.find?_eq_none]
  intro x hx
  obtain ⟨i, hi, rfl⟩ := List.mem_iff_getElem.1 hx
  have := hn i hi
  rw [Mk.std_at hi] at this
  simp [this]

/-- what find answers -/
def FindIs (x : Option Mk.Stand) (w : World) (e : Ending) (w' : World) : Prop :=
  (match x with
    | none => e = .returned (.tuple #[eV 0 0 false 0 0, .bool false])
    | some x => e = .returned (.tuple #[eV x.n x.who x.o.sell x.o.price x.o.qty, .bool true])) ∧ Below w.heap.size w w'

set_option maxRecDepth 100000 in
set_option maxHeartbeats 2000000 in
theorem find_any (p o who : Nat) (n : Int) (bv : Value) (l : List Mk.Stand) (w : World) (hc : w.cell? ⟨p, o + 1, none⟩ = some bv) (hl : l.length ≤ 12) (hown : w.ownsRow 0 152 5 bv l.length (standC l)) :
    Calls Tryz.prog 120 #[.pointer (some ⟨p, o, none⟩), .int .i64 who, .int .i64 n] w fun e w' => FindIs (l.find? (Mk.hit n who)) w e w' := by
  have hpl := blk_lt hc
  have HO : Hid (w.ownsRow 0 152 5 bv l.length (standC l)) := hown
  obtain ⟨ba, bc, rfl⟩ := own_form hown
  have HZ : Hid (Below w.heap.size w (w.alloc (.cells #[.int .i64 0, .int .i64 0, .bool false, .int .i64 0, .int .i64 0] 152))) := (Below.refl _ _).alloc (Nat.le_refl _) _
  have HR : Hid ((w.alloc (.cells #[.int .i64 0, .int .i64 0, .bool false, .int .i64 0, .int .i64 0] 152)).rowIs w.heap.size 152 5 (standF [])) := World.rowIs_alloc w #[.int .i64 0, .int .i64 0, .bool false, .int .i64 0, .int .i64 0] 152 (standF []) (fun i hi => by match i, hi with | 0, _ => rfl | 1, _ => rfl | 2, _ => rfl | 3, _ => rfl | 4, _ => rfl)
  clear hown
  go_enter Tryz.func120, Tryz.ntmps120
  go_wp2
  generalize w.alloc (.cells #[.int .i64 0, .int .i64 0, .bool false, .int .i64 0, .int .i64 0] 152) = W0 at *
  clear hc
  go_loopw [15] (fun j wr => ∃ k : Nat, k ≤ l.length ∧ j = .int .i64 k ∧ (∀ i, i < k → Mk.hit n who (Mk.std l i) = false) ∧ Below W0.heap.size W0 wr) (fun j _ => l.length - (intOf j).toNat)
  case atStart => exact ⟨0, Nat.zero_le _, rfl, fun i hi => by omega, Below.refl _ _⟩
  case round =>
    obtain ⟨k, hk, rfl, hn, hb⟩ := hrel
    have HN : Hid (∀ i, i < k → Mk.hit n who (Mk.std l i) = false) := hn
    have Hb : Hid (Below W0.heap.size W0 wr) := hb
    have HBw : Hid (Below w.heap.size w wr) := HZ.out.trans (hb.mono HZ.out.size)
    have HRr : Hid (wr.rowIs w.heap.size 152 5 (standF [])) := HR.out.of_block (hb.block _ HR.out.lt)
    clear hn hb
    have hzl := HRr.out.lt
    have HA : Hid (∀ ob, Below w.heap.size w (wr.alloc ob)) := fun ob => HBw.out.alloc HBw.out.size ob
    by_cases hlt : k < l.length
    · have hlt' : (k : Int) < (l.length : Int) := by omega
      obtain ⟨g, rfl⟩ := own_some HO.out (by omega)
      obtain ⟨e0, e1, e2, e3, e4⟩ := entry_cells (own_below HO.out HBw.out (fun j hj => (HO.out.lt j hj).2)) rfl hlt
      have HA2 : Hid (∀ ob, Below W0.heap.size W0 (wr.alloc ob)) := fun ob => Hb.out.alloc Hb.out.size ob
      have n0 := HRr.out.cell (i := 0) (by omega)
      have n1 := HRr.out.cell (i := 1) (by omega)
      have n2 := HRr.out.cell (i := 2) (by omega)
      have n3 := HRr.out.cell (i := 3) (by omega)
      have n4 := HRr.out.cell (i := 4) (by omega)
      have y0 := HRr.out.frozen 0
      have y1 := HRr.out.frozen 1
      have y2 := HRr.out.frozen 2
      have y3 := HRr.out.frozen 3
      have y4 := HRr.out.frozen 4
      by_cases hw1 : ((Mk.std l k).who == (who : Int)) = true
      · by_cases hn1 : ((Mk.std l k).n == n) = true
        · have HF : Hid (l.find? (Mk.hit n who) = some (Mk.std l k)) := find_first hlt HN.out (by unfold Mk.hit; rw [hn1, hw1]; rfl)
          go_wp2_with fail
          refine bodyPost_ret (v := .tuple #[eV (Mk.std l k).n (Mk.std l k).who (Mk.std l k).o.sell (Mk.std l k).o.price (Mk.std l k).o.qty, .bool true]) ?_ rfl ⟨?_, ?_⟩
          · simp [results, Tryz.results120, go_sem, n0, n1, n2, n3, n4, hzl]
          · rw [HF.out]
          · refine Below.alloc ?_ (by simpa using HBw.out.size) _
            iterate 5 (refine below_at ?_ _ _)
            exact HBw.out
        · have hn1' : ((Mk.std l k).n == n) = false := by simpa using hn1
          have HN' : Hid (∀ i, i < k + 1 → Mk.hit n who (Mk.std l i) = false) := fun i hi => by
            by_cases e : i = k
            · subst e; unfold Mk.hit; rw [hn1', Bool.false_and]
            · exact HN.out i (by omega)
          clear hn1 n0 n1 n2 n3 n4
          go_wp2
          go_roundw
          case rel => exact ⟨k + 1, by omega, by go_num, HN'.out, HA2.out _⟩
          case measure => simp [intOf]; omega
      · have hw1' : ((Mk.std l k).who == (who : Int)) = false := by simpa using hw1
        have HN' : Hid (∀ i, i < k + 1 → Mk.hit n who (Mk.std l i) = false) := fun i hi => by
          by_cases e : i = k
          · subst e; unfold Mk.hit; rw [hw1', Bool.and_false]
          · exact HN.out i (by omega)
        clear hw1 n0 n1 n2 n3 n4
        go_wp2
        go_roundw
        case rel => exact ⟨k + 1, by omega, by go_num, HN'.out, HA2.out _⟩
        case measure => simp [intOf]; omega
    · obtain rfl : k = l.length := by omega
      have HF : Hid (l.find? (Mk.hit n who) = none) := find_none HN.out
      have n0 := HRr.out.cell (i := 0) (by omega)
      have n1 := HRr.out.cell (i := 1) (by omega)
      have n2 := HRr.out.cell (i := 2) (by omega)
      have n3 := HRr.out.cell (i := 3) (by omega)
      have n4 := HRr.out.cell (i := 4) (by omega)
      have y0 := HRr.out.frozen 0
      have y1 := HRr.out.frozen 1
      have y2 := HRr.out.frozen 2
      have y3 := HRr.out.frozen 3
      have y4 := HRr.out.frozen 4
      go_wp2_with fail
      refine bodyPost_ret (v := .tuple #[eV 0 0 false 0 0, .bool false]) ?_ rfl ⟨?_, ?_⟩
      · simp [results, Tryz.results120, go_sem, n0, n1, n2, n3, n4]
      · rw [HF.out]
      · iterate 5 (refine below_at ?_ _ _)
        exact HBw.out

end Go.Proofs.YtmebcdpdpcpnmaaGreatDoor

namespace Go.Proofs.YtmebcdpdpcpnmaaGreatDoor
open Go.RowKit

set_option maxRecDepth 100000 in
set_option maxHeartbeats 2000000 in
theorem remove_any (p o : Nat) (n : Int) (bv : Value) (l : List Mk.Stand) (w : World) (hc : w.cell? ⟨p, o + 1, none⟩ = some bv) (hz : w.frozen? ⟨p, o + 1, none⟩ = false) (hl : l.length ≤ 12) (hown : w.ownsRow 0 152 5 bv l.length (standC l)) :
    Calls Tryz.prog 122 #[.pointer (some ⟨p, o, none⟩), .int .i64 n] w fun e w' => e = .returned (.tuple #[]) ∧
      ∃ w1 v', Below w.heap.size w w1 ∧ w1.ownsRow w.heap.size 152 5 v' (l.filter (fun y => !(y.n == n))).length (standC (l.filter (fun y => !(y.n == n)))) ∧ w' = w1.setCell ⟨p, o + 1, none⟩ v' := by
  obtain ⟨i0, hi0, hz0, hz1, hz2⟩ := info_parts Tryz.infoEntry
  have hpl := blk_lt hc
  have HO : Hid (w.ownsRow 0 152 5 bv l.length (standC l)) := hown
  obtain ⟨ba, bc, rfl⟩ := own_form hown
  have HC : Hid (w.cell? ⟨p, o + 1, none⟩ = some (.slice ba l.length bc)) := hc
  have HZ : Hid (w.frozen? ⟨p, o + 1, none⟩ = false) := hz
  clear hown hz
  go_enter Tryz.func122, Tryz.ntmps122
  go_wp2
  clear hc
  go_loopw [4, 12] (fun v j wr => ∃ k : Nat, k ≤ l.length ∧ j = .int .i64 k ∧ wr.ownsRow w.heap.size 152 5 v ((l.take k).filter (fun y => !(y.n == n))).length (standC ((l.take k).filter (fun y => !(y.n == n)))) ∧ Below w.heap.size w wr) (fun _ j _ => l.length - (intOf j).toNat)
  case atStart => exact ⟨0, Nat.zero_le _, rfl, ⟨by simp [standC], .inl ⟨rfl, by simp⟩⟩, Below.refl _ _⟩
  case round =>
    obtain ⟨k, hk, rfl, hr, hb⟩ := hrel
    have Hb : Hid (Below w.heap.size w wr) := hb
    have hsz := hb.size
    clear hb
    have hlen : ((l.take k).filter (fun y => !(y.n == n))).length ≤ 12 := by
      have h1 := List.length_filter_le (fun y : Mk.Stand => !(y.n == n)) (l.take k)
      have h2 := List.length_take_le k l
      omega
    by_cases hlt : k < l.length
    · have hlt' : (k : Int) < (l.length : Int) := by omega
      obtain ⟨g, rfl⟩ := own_some HO.out (by omega)
      obtain ⟨e0, e1, e2, e3, e4⟩ := entry_cells (own_below HO.out Hb.out (fun j hj => (HO.out.lt j hj).2)) rfl hlt
      have HT : Hid (l.take (k + 1) = l.take k ++ [Mk.std l k]) := (by rw [List.take_succ_eq_append_getElem hlt, Mk.std_at hlt] : l.take (k + 1) = l.take k ++ [Mk.std l k])
      have HA : Hid (∀ ob, Below w.heap.size w (wr.alloc ob)) := fun ob => Hb.out.alloc Hb.out.size ob
      by_cases hn1 : ((Mk.std l k).n == n) = true
      · have hn2 : ((Mk.std l k).n != n) = false := by rw [bne, hn1]; rfl
        have HFl : Hid ((l.take (k + 1)).filter (fun y => !(y.n == n)) = (l.take k).filter (fun y => !(y.n == n))) := (by
          rw [HT.out, List.filter_append]
          simp [hn1] : (l.take (k + 1)).filter (fun y => !(y.n == n)) = (l.take k).filter (fun y => !(y.n == n)))
        have HR := (show Hid _ from hr)
        clear hr
        go_wp2
        go_roundw
        case rel =>
          refine ⟨k + 1, by omega, by go_num, ?_, HA.out _⟩
          rw [HFl.out]
          exact World.ownsRow.alloc HR.out _
        case measure => simp [intOf]; omega
      · have hn1' : ((Mk.std l k).n == n) = false := by simpa using hn1
        have hn2 : ((Mk.std l k).n != n) = true := by rw [bne, hn1']; rfl
        have HFl : Hid ((l.take (k + 1)).filter (fun y => !(y.n == n)) = (l.take k).filter (fun y => !(y.n == n)) ++ [Mk.std l k]) := (by
          rw [HT.out, List.filter_append]
          simp [hn1'] : (l.take (k + 1)).filter (fun y => !(y.n == n)) = (l.take k).filter (fun y => !(y.n == n)) ++ [Mk.std l k])
        generalize hq : (l.take k).filter (fun y => !(y.n == n)) = r at *
        clear hn1 hq
        go_wp2_with (at_builtin; (refine wpList_append_lies _ rfl _ _ _ rfl w.heap.size 152 i0 _ 5 40 Tryz.underlying64 hi0 hz0 hz1 hz2 rfl (by omega) _ r.length (standC r) rfl ((hr.alloc _).alloc _) ⟨wr.heap.size + 1, 0, none⟩ 1 1 [.int .i64 (Mk.std l k).n, .int .i64 (Mk.std l k).who, .bool (Mk.std l k).o.sell, .int .i64 (Mk.std l k).o.price, .int .i64 (Mk.std l k).o.qty] rfl rfl (World.news_of_block (cs := #[.int .i64 (Mk.std l k).n, .int .i64 (Mk.std l k).who, .bool (Mk.std l k).o.sell, .int .i64 (Mk.std l k).o.price, .int .i64 (Mk.std l k).o.qty]) (t := 152) (fr := (0, 0)) ?_) (by simp [Value.oneCell']) (by omega) (by unfold maxLen; omega) (by omega) (by simp; omega) (wr.heap.size + 2) (by simp) ?_))
        · have h := heap_alloc_new (wr.alloc (.cells #[.int .i64 (Mk.std l k).n, .int .i64 (Mk.std l k).who, .bool (Mk.std l k).o.sell, .int .i64 (Mk.std l k).o.price, .int .i64 (Mk.std l k).o.qty] 152)) (.cells #[.int .i64 (Mk.std l k).n, .int .i64 (Mk.std l k).who, .bool (Mk.std l k).o.sell, .int .i64 (Mk.std l k).o.price, .int .i64 (Mk.std l k).o.qty] 152)
          simpa using h
        · intro gg cap' w1 hown1 hgrow hat hlt1
          have HO1 := (show Hid _ from hown1)
          have HB1 : Hid (Below w.heap.size w w1) := Below.grown ((HA.out _).alloc (by simp; omega) _) hgrow (by simp; omega) (fun j hj => own_ge hr j hj)
          clear hown1 hgrow hat hr
          go_wp2
          go_roundw
          case rel =>
            refine ⟨k + 1, by omega, by go_num, ?_, HB1.out⟩
            rw [HFl.out, standC_snoc, List.length_append]
            exact HO1.out
          case measure => simp [intOf]; omega
    · obtain rfl : k = l.length := by omega
      have HR : Hid (wr.ownsRow w.heap.size 152 5 _ (l.filter (fun y => !(y.n == n))).length (standC (l.filter (fun y => !(y.n == n))))) := (by rw [List.take_length] at hr; exact hr)
      clear hr hlen
      have c1 : wr.cell? ⟨p, o + 1, none⟩ = some (.slice ba l.length bc) := (Hb.out.cell (p := ⟨p, o + 1, none⟩) hpl).trans HC.out
      have z1 : wr.frozen? ⟨p, o + 1, none⟩ = false := (Hb.out.frozen (p := ⟨p, o + 1, none⟩) hpl).trans HZ.out
      obtain ⟨va, vc, hv⟩ := own_form HR.out
      subst hv
      go_wp2_with fail
      refine bodyPost_end (v := .tuple #[]) ?_ rfl ⟨rfl, wr, _, Hb.out, HR.out, rfl⟩
      simp [results, Tryz.results122, go_sem]

end Go.Proofs.YtmebcdpdpcpnmaaGreatDoor

namespace Go.Proofs.YtmebcdpdpcpnmaaGreatDoor
open Go.RowKit

theorem own_zero {w : World} {base e size n : Nat} {v : Value} {xs : List Value} (h : w.ownsRow base e size v n xs) : w.ownsRow 0 e size v n xs := by
  refine ⟨h.1, ?_⟩
  rcases h.2 with h0 | ⟨g, cap, cur, hv, _, hr⟩
  · exact .inl h0
  · exact .inr ⟨g, cap, cur, hv, Nat.zero_le _, hr⟩

section
variable {w w1 : World} {p : Nat} {vb : Nat → Value} {M : Mk.Mkt}
/-- the pot's cells -/
def potF (M : Mk.Mkt) (v who : Nat) (sell : Bool) : Int := if sell then M.sf v who else M.cf who
def potH (M : Mk.Mkt) (v who : Nat) (sell : Bool) : Int := if sell then M.sh v who else M.ch who
theorem PM.potF (h : PM w p vb M) {v who : Nat} (hv : v < 2) (hw : who < 4) (sell : Bool) : w.cell? ⟨p, potAt v who sell, none⟩ = some (.int .i64 (Go.Proofs.YtmebcdpdpcpnmaaGreatDoor.potF M v who sell)) ∧ w.cell? ⟨p, potAt v who sell + 1, none⟩ = some (.int .i64 (potH M v who sell)) := by
  cases sell
  · exact ⟨h.ac hw (k := 0) (by omega), h.ac hw (k := 1) (by omega)⟩
  · refine ⟨h.slot hv hw, ?_⟩
    rcases (show v = 0 ∨ v = 1 by omega) with rfl | rfl
    · exact h.ac hw (k := 3) (by omega)
    · exact h.ac hw (k := 5) (by omega)
theorem pot_bd (hM : M.Fine) {v who : Nat} (hv : v < 2) (hw : who < 4) (sell : Bool) : (0 ≤ potF M v who sell ∧ potF M v who sell ≤ 9999) ∧ (0 ≤ potH M v who sell ∧ potH M v who sell ≤ 9999) := by
  cases sell
  · exact ⟨hM.cf who hw, hM.ch who hw⟩
  · exact ⟨hM.sf v who hv hw, hM.sh v who hv hw⟩
theorem PM.hold (h : PM w p vb M) {v who : Nat} (hv : v < 2) (hw : who < 4) (sell : Bool) (pr q : Int) :
    PM ((w.setCell ⟨p, potAt v who sell, none⟩ (.int .i64 (Go.Proofs.YtmebcdpdpcpnmaaGreatDoor.potF M v who sell - needI sell pr q))).setCell ⟨p, potAt v who sell + 1, none⟩ (.int .i64 (potH M v who sell + needI sell pr q))) p vb (Mk.holdM M v who ⟨sell, pr, q⟩ 1) := by
  cases sell
  · have e : Mk.holdM M v who ⟨false, pr, q⟩ 1 = { M with cf := upd M.cf who (M.cf who - pr * q), ch := upd M.ch who (M.ch who + pr * q) } := by simp [Mk.holdM]
    rw [e]
    exact (h.setCf hw _).setCh hw _
  · have e : Mk.holdM M v who ⟨true, pr, q⟩ 1 = { M with sf := upd M.sf v (upd (M.sf v) who (M.sf v who - q)), sh := upd M.sh v (upd (M.sh v) who (M.sh v who + q)) } := by simp [Mk.holdM]
    rw [e]
    exact (h.setSf hv hw _).setSh hv hw _
theorem PM.letGo (h : PM w p vb M) {v who : Nat} (hv : v < 2) (hw : who < 4) (sell : Bool) (pr q : Int) :
    PM ((w.setCell ⟨p, potAt v who sell + 1, none⟩ (.int .i64 (potH M v who sell - needI sell pr q))).setCell ⟨p, potAt v who sell, none⟩ (.int .i64 (Go.Proofs.YtmebcdpdpcpnmaaGreatDoor.potF M v who sell + needI sell pr q))) p vb (Mk.holdM M v who ⟨sell, pr, q⟩ (-1)) := by
  have e1 : ∀ a b : Int, a - -1 * b = a + b := fun a b => by omega
  have e2 : ∀ a b : Int, a + -1 * b = a - b := fun a b => by omega
  have e3 : (-1 : Int) * pr * q = -1 * (pr * q) := by rw [Int.mul_assoc]
  cases sell
  · have e : Mk.holdM M v who ⟨false, pr, q⟩ (-1) = { M with ch := upd M.ch who (M.ch who - pr * q), cf := upd M.cf who (M.cf who + pr * q) } := by
      show { M with cf := upd M.cf who (M.cf who - -1 * pr * q), ch := upd M.ch who (M.ch who + -1 * pr * q) } = _
      rw [e3, e1, e2]
    rw [e]
    exact (h.setCh hw _).setCf hw _
  · have e : Mk.holdM M v who ⟨true, pr, q⟩ (-1) = { M with sh := upd M.sh v (upd (M.sh v) who (M.sh v who - q)), sf := upd M.sf v (upd (M.sf v) who (M.sf v who + q)) } := by
      show { M with sf := upd M.sf v (upd (M.sf v) who (M.sf v who - -1 * q)), sh := upd M.sh v (upd (M.sh v) who (M.sh v who + -1 * q)) } = _
      rw [e1, e2]
    rw [e]
    exact (h.setSh hv hw _).setSf hv hw _
/-- another row of orders -/
theorem PM.setBk (h : PM w p vb M) {v : Nat} (hv : v < 2) {v' : Value} {r : List Mk.Stand} (hb : ∀ k, PHas p vb k → k = p ∨ (vb v).ownBlock = some k ∨ w1.heap[k]? = w.heap[k]?) (hp : w1.heap[p]? = w.heap[p]?)
    (ho : w1.ownsRow 0 152 5 v' r.length (standC r)) (hn : ∀ k, v'.ownBlock = some k → (vb v).ownBlock = some k ∨ w.heap.size ≤ k) :
    PM (w1.setCell ⟨p, 25 + v * 3 + 1, none⟩ v') p (upd vb v v') { M with bk := upd M.bk v r } := by
  have hbox : w1.rowIs p 72 44 (pmF vb M) := h.box.of_block hp
  have hother : ∀ u, u < 2 → u ≠ v → w1.ownsRow 0 152 5 (vb u) (M.bk u).length (standC (M.bk u)) := fun u hu huv => by
    refine own_block (h.bk u hu) (fun k hk => ?_)
    rcases hb k (.inr ⟨u, hu, hk⟩) with e | e | e
    · subst e
      have k1 : Kind w k 152 := own_kind' (h.bk u hu) hk
      exact absurd rfl (k1.ne (row_kind h.box) (by decide))
    · exfalso
      rcases (show u = 0 ∧ v = 1 ∨ u = 1 ∧ v = 0 by omega) with ⟨rfl, rfl⟩ | ⟨rfl, rfl⟩
      · exact h.vv k hk e
      · exact h.vv k e hk
    · exact e
  refine ⟨(hbox.set _ _).congr (pm_ext (fun d k hd hk => ?_) ?_ (fun u k hu hk => ?_) (fun d k hd hk => ?_) ?_), fun u hu => ?_, fun k h0 h1 => ?_⟩
  · rw [if_neg (by omega), pm_ac hd hk]; rfl
  · rw [if_neg (by omega)]; rfl
  · rw [pm_vo hu hk]
    by_cases e : 25 + u * 3 + k = 25 + v * 3 + 1
    · rw [if_pos e]
      have e1 : u = v := by omega
      have e2 : k = 1 := by omega
      subst e1 e2
      show _ = upd vb u v' u
      rw [upd_self]
    · rw [if_neg e]
      match k, hk with
      | 0, _ => rfl
      | 1, _ => show _ = upd vb v v' u
                rw [upd_ne _ _ (by omega)]; rfl
      | 2, _ => rfl
  · rw [if_neg (by omega), pm_re hd hk]; rfl
  · rw [if_neg (by omega)]; rfl
  · by_cases e : u = v
    · subst e
      show World.ownsRow _ 0 152 5 (upd vb u v' u) (upd M.bk u r u).length (standC (upd M.bk u r u))
      rw [upd_self, upd_self]
      exact Go.Proofs.YtmebcdpdpcpnmaaGreatDoor.own_set ho (row_kind hbox) (by decide)
    · show World.ownsRow _ 0 152 5 (upd vb v v' u) (upd M.bk v r u).length (standC (upd M.bk v r u))
      rw [upd_ne _ _ e, upd_ne _ _ e]
      exact Go.Proofs.YtmebcdpdpcpnmaaGreatDoor.own_set (hother u hu e) (row_kind hbox) (by decide)
  · rcases (show v = 0 ∨ v = 1 by omega) with rfl | rfl
    · rw [upd_self] at h0
      rw [upd_ne _ _ (by omega)] at h1
      rcases hn k h0 with e | e
      · exact h.vv k e h1
      · have := ((h.bk 1 (by omega)).lt k h1).2; omega
    · rw [upd_ne _ _ (by omega)] at h0
      rw [upd_self] at h1
      rcases hn k h1 with e | e
      · exact h.vv k h0 e
      · have := ((h.bk 0 (by omega)).lt k h0).2; omega
end

set_option maxRecDepth 100000 in
set_option maxHeartbeats 4000000 in
theorem pdrop_any (p : Nat) (vb : Nat → Value) (M : Mk.Mkt) (who : Nat) (r : Int) (t : ByteArray) (v : Nat) (a pr q n : Int) (m : Bool) (w : World) (hM : M.Fine) (hP : PM w p vb M) (hw : who < 4) (hv : v < 2)
    (hU : ∀ x, (M.bk v).find? (Mk.hit n who) = some x → (M.bk v).filter (fun y => !(y.n == n)) = (M.bk v).filter (fun y => !Mk.hit n who y)) :
    Calls Tryz.prog 105 #[.pointer (some ⟨p, 0, none⟩), rqA who r t v a pr q n m] w fun e w' => e = .returned (.int .i64 (Mk.dropM M v who n).1) ∧ ∃ vb', PM w' p vb' (Mk.dropM M v who n).2 ∧ Only (PHas p vb) w w' ∧ ∀ k, PHas p vb' k → PHas p vb k ∨ w.heap.size ≤ k := by
  have HM : Hid M.Fine := hM
  have HU := (show Hid _ from hU)
  have HB1 : Hid (Below w.heap.size w (w.alloc (rqO who r t v a pr q n m))) := (Below.refl _ _).alloc (Nat.le_refl _) _
  have HP1 : Hid (PM (w.alloc (rqO who r t v a pr q n m)) p vb M) := hP.below HB1.out
  have x0 : (w.alloc (rqO who r t v a pr q n m)).cell? ⟨w.heap.size, 0, none⟩ = some (.int .i64 (who : Int)) := by simp
  have x3 : (w.alloc (rqO who r t v a pr q n m)).cell? ⟨w.heap.size, 3, none⟩ = some (.int .i64 (v : Int)) := by simp
  have x7 : (w.alloc (rqO who r t v a pr q n m)).cell? ⟨w.heap.size, 7, none⟩ = some (.int .i64 n) := by simp
  have hwl : w.heap.size < (w.alloc (rqO who r t v a pr q n m)).heap.size := by simp
  have hv' : (v : Int) < 2 := by omega
  have hlen := hM.len v hv
  have HPl : Hid (∀ k, PHas p vb k → k < w.heap.size) := fun k hk => hP.lt hk
  clear hM hP hU
  go_enter Tryz.func105, Tryz.ntmps105
  go_upto_region 1 with fail
  generalize w.alloc (rqO who r t v a pr q n m) = W1 at *
  go_quiet (fail)
  have hbq : Below W1.heap.size W1 (W1.drewN nq) := below_drewN (Below.refl _ _) nq
  have HB2 : Hid (Below w.heap.size w (W1.drewN nq)) := HB1.out.trans (hbq.mono HB1.out.size)
  have HP2 : Hid (PM (W1.drewN nq) p vb M) := HP1.out.below hbq
  have y0 : (W1.drewN nq).cell? ⟨w.heap.size, 0, none⟩ = some (.int .i64 (who : Int)) := by simpa using x0
  have y3 : (W1.drewN nq).cell? ⟨w.heap.size, 3, none⟩ = some (.int .i64 (v : Int)) := by simpa using x3
  have y7 : (W1.drewN nq).cell? ⟨w.heap.size, 7, none⟩ = some (.int .i64 n) := by simpa using x7
  have hwl2 : w.heap.size < (W1.drewN nq).heap.size := hwl
  clear x0 x3 x7 hwl hbq
  generalize W1.drewN nq = W2 at *
  have c1 := HP2.out.vo hv (k := 1) (by omega)
  simp only [voF] at c1
  go_wp2_with fail
  refine (find_any p (25 + v * 3) who n (vb v) (M.bk v) W2 c1 hlen (HP2.out.bk v hv)).mono ?_
  rintro e w3 ⟨hm, hb3⟩
  have HB3 : Hid (Below w.heap.size w w3) := HB2.out.trans (hb3.mono HB2.out.size)
  have HP3 : Hid (PM w3 p vb M) := HP2.out.below hb3
  have u3 : w3.cell? ⟨w.heap.size, 3, none⟩ = some (.int .i64 (v : Int)) := (hb3.cell (p := ⟨w.heap.size, 3, none⟩) hwl2).trans y3
  have hwl3 : w.heap.size < w3.heap.size := Nat.lt_of_lt_of_le hwl2 hb3.size
  clear hb3 y0 y3 y7 c1
  cases hfd : (M.bk v).find? (Mk.hit n who) with
  | none =>
    rw [hfd] at hm
    obtain rfl := hm
    have HX : Hid (Mk.dropM M v who n = (10, M)) := (by unfold Mk.dropM; rw [hfd] : Mk.dropM M v who n = (10, M))
    have HB4 : Hid (∀ ob, Below w.heap.size w (w3.alloc ob)) := fun ob => HB3.out.alloc HB3.out.size ob
    clear hfd
    go_wp2_with fail
    go_ret
    rw [HX.out]
    exact ⟨rfl, vb, HP3.out.below ((Below.refl _ _).alloc (Nat.le_refl _) _), Only.of_below (HB4.out _), fun _ h => .inl h⟩
  | some x =>
    rw [hfd] at hm
    obtain rfl := hm
    have hx : x ∈ M.bk v := List.mem_of_find?_eq_some hfd
    have hhit := List.find?_some hfd
    unfold Mk.hit at hhit
    rw [Bool.and_eq_true, beq_iff_eq, beq_iff_eq] at hhit
    have bo := HM.out.ord v hv x hx
    have HX : Hid (Mk.dropM M v who n = (0, Mk.outM M v who n x)) := (by unfold Mk.dropM; rw [hfd] : Mk.dropM M v who n = (0, Mk.outM M v who n x))
    have HFl : Hid ((M.bk v).filter (fun y => !(y.n == n)) = (M.bk v).filter (fun y => !Mk.hit n who y)) := HU.out x hfd
    obtain ⟨xn, xw, xs, xp, xq⟩ := x
    obtain ⟨rfl, rfl⟩ : xn = n ∧ xw = (who : Int) := hhit
    have bp : 1 ≤ xp ∧ xp ≤ 99 := ⟨bo.1, bo.2.1⟩
    have bq : 1 ≤ xq ∧ xq ≤ 20 := ⟨bo.2.2.1, bo.2.2.2⟩
    clear hfd hx bo
    have HB4 : Hid (Below w.heap.size w (w3.alloc (.cells #[.int .i64 xn, .int .i64 (who : Int), .bool xs, .int .i64 xp, .int .i64 xq] 152))) := HB3.out.alloc HB3.out.size _
    have HP4 : Hid (PM (w3.alloc (.cells #[.int .i64 xn, .int .i64 (who : Int), .bool xs, .int .i64 xp, .int .i64 xq] 152)) p vb M) := HP3.out.below ((Below.refl _ _).alloc (Nat.le_refl _) _)
    have HE4 : Hid (∀ i u, (#[.int .i64 xn, .int .i64 (who : Int), .bool xs, .int .i64 xp, .int .i64 xq] : Array Value)[i]? = some u → (w3.alloc (.cells #[.int .i64 xn, .int .i64 (who : Int), .bool xs, .int .i64 xp, .int .i64 xq] 152)).cell? ⟨w3.heap.size, i, none⟩ = some u) := fun i u h => by simpa using h
    have HE4l : Hid (w3.heap.size < (w3.alloc (.cells #[.int .i64 xn, .int .i64 (who : Int), .bool xs, .int .i64 xp, .int .i64 xq] 152)).heap.size) := (by simp : w3.heap.size < (w3.alloc (.cells #[.int .i64 xn, .int .i64 (who : Int), .bool xs, .int .i64 xp, .int .i64 xq] 152)).heap.size)
    have hE : w.heap.size ≤ w3.heap.size := HB3.out.size
    go_wp2_with fail
    generalize w3.alloc (.cells #[.int .i64 xn, .int .i64 (who : Int), .bool xs, .int .i64 xp, .int .i64 xq] 152) = W4 at *
    generalize w3.heap.size = E at *
    refine (potOf_any p v who xn xs xp xq W4 hw hv).mono ?_
    rintro e w5 ⟨rfl, hb5⟩
    have HB5 : Hid (Below w.heap.size w w5) := HB4.out.trans (hb5.mono HB4.out.size)
    have HP5 : Hid (PM w5 p vb M) := HP4.out.below hb5
    have HE5 : Hid (∀ i u, (#[.int .i64 xn, .int .i64 (who : Int), .bool xs, .int .i64 xp, .int .i64 xq] : Array Value)[i]? = some u → w5.cell? ⟨E, i, none⟩ = some u) := fun i u h => (hb5.cell (p := ⟨E, i, none⟩) HE4l.out).trans (HE4.out i u h)
    have HE5l : Hid (E < w5.heap.size) := Nat.lt_of_lt_of_le HE4l.out hb5.size
    clear hb5
    have a0 := HE5.out 0 _ rfl
    have a1 := HE5.out 1 _ rfl
    have a2 := HE5.out 2 _ rfl
    have a3 := HE5.out 3 _ rfl
    have a4 := HE5.out 4 _ rfl
    go_wp2_with fail
    refine (needs_any xn who xs xp xq w5 bp bq).mono ?_
    rintro e w6 ⟨rfl, hb6⟩
    have HB6 : Hid (Below w.heap.size w w6) := HB5.out.trans (hb6.mono HB5.out.size)
    have HP6 : Hid (PM w6 p vb M) := HP5.out.below hb6
    have g0 : w6.cell? ⟨E, 0, none⟩ = some (.int .i64 xn) := (hb6.cell (p := ⟨E, 0, none⟩) HE5l.out).trans a0
    have HE6l : Hid (E < w6.heap.size) := Nat.lt_of_lt_of_le HE5l.out hb6.size
    clear hb6 a0 a1 a2 a3 a4
    obtain ⟨f0, f1⟩ := HP6.out.potF hv hw xs
    obtain ⟨bf, bh⟩ := pot_bd HM.out hv hw xs
    have bn := needI_bd (sell := xs) bp bq
    have z0 := HP6.out.box.frozen (potAt v who xs)
    have z1 := HP6.out.box.frozen (potAt v who xs + 1)
    have HRl := (show Hid _ from release_any p (potAt v who xs) (potF M v who xs) (potH M v who xs) (needI xs xp xq) w6 f0 f1 z0 z1 bf bh ⟨bn.1, by omega⟩)
    have HP7 := (show Hid _ from HP6.out.letGo hv hw xs xp xq)
    have HO7 : Hid (Only (PHas p vb) w ((w6.setCell ⟨p, potAt v who xs + 1, none⟩ (.int .i64 (potH M v who xs - needI xs xp xq))).setCell ⟨p, potAt v who xs, none⟩ (.int .i64 (potF M v who xs + needI xs xp xq)))) := ((Only.of_below HB6.out).set (show PHas p vb p from .inl rfl) _).set (show PHas p vb p from .inl rfl) _
    clear f0 f1 z0 z1
    go_wp2_with fail
    refine Calls.mono HRl.out ?_
    rintro e w7 ⟨rfl, hw7⟩
    rw [← hw7] at HP7 HO7
    have k0 : w7.cell? ⟨E, 0, none⟩ = some (.int .i64 xn) := by
      rw [hw7]
      have hne : E ≠ p := fun e => by have := HPl.out p (.inl rfl); omega
      exact cell_set_ne (.inl hne) (cell_set_ne (.inl hne) g0)
    clear hw7 g0
    have HP7' : Hid (PM w7 p vb (Mk.holdM M v who ⟨xs, xp, xq⟩ (-1))) := HP7.out
    have hbk : (Mk.holdM M v who ⟨xs, xp, xq⟩ (-1)).bk = M.bk := by unfold Mk.holdM; split <;> rfl
    have d1 := HP7'.out.vo hv (k := 1) (by omega)
    simp only [voF] at d1
    have z1 := HP7'.out.box.frozen (25 + v * 3 + 1)
    have hown7 : w7.ownsRow 0 152 5 (vb v) (M.bk v).length (standC (M.bk v)) := by have := HP7'.out.bk v hv; rw [hbk] at this; exact this
    have HRm := (show Hid _ from remove_any p (25 + v * 3) xn (vb v) (M.bk v) w7 d1 z1 hlen hown7)
    have HBk : Hid ((Mk.holdM M v who ⟨xs, xp, xq⟩ (-1)).bk = M.bk) := hbk
    clear d1 z1 hown7 hbk HRl
    go_wp2_with fail
    refine Calls.mono HRm.out ?_
    rintro e w9 ⟨rfl, w8, v', hb8, hown8, hw9⟩
    have hP9 : PM w9 p (upd vb v v') { Mk.holdM M v who ⟨xs, xp, xq⟩ (-1) with bk := upd (Mk.holdM M v who ⟨xs, xp, xq⟩ (-1)).bk v ((M.bk v).filter (fun y => !(y.n == xn))) } := by
      rw [hw9]
      exact HP7'.out.setBk hv (fun k hk => .inr (.inr (hb8.block k (HP7'.out.lt hk)))) (hb8.block p HP7'.out.box.lt) (own_zero hown8) (fun k hk => .inr (own_ge hown8 k hk))
    have HP9 : Hid (PM w9 p (upd vb v v') (Mk.outM M v who xn ⟨xn, (who : Int), ⟨xs, xp, xq⟩⟩)) := (by
      unfold Mk.outM
      rw [← HFl.out]
      rw [HBk.out] at hP9
      exact hP9 : PM w9 p (upd vb v v') (Mk.outM M v who xn ⟨xn, (who : Int), ⟨xs, xp, xq⟩⟩))
    have HO9 : Hid (Only (PHas p vb) w w9) := (by rw [hw9]; exact (HO7.out.next hb8).set (show PHas p vb p from .inl rfl) _ : Only (PHas p vb) w w9)
    have HNew : Hid (∀ k, PHas p (upd vb v v') k → PHas p vb k ∨ w.heap.size ≤ k) := by
      rintro k (rfl | ⟨u, hu, hk⟩)
      · exact .inl (.inl rfl)
      · by_cases e : u = v
        · subst e
          rw [upd_self] at hk
          have := own_ge hown8 k hk
          exact .inr (Nat.le_trans HO7.out.size this)
        · rw [upd_ne _ _ e] at hk
          exact .inl (.inr ⟨u, hu, hk⟩)
    clear hP9 hb8 hown8 hw9 HRm
    go_wp2_with fail
    go_ret
    rw [HX.out]
    exact ⟨rfl, _, HP9.out, HO9.out, HNew.out⟩

end Go.Proofs.YtmebcdpdpcpnmaaGreatDoor

/- strconv.Itoa of small numbers at this dump: laid by program. -/
namespace Go.Proofs
open Go.Shelf
def Tryz.lays171_ren : Go.Shelf.Ren := ⟨fun | 171 => 52 | 243 => 85 | 246 => 111 | 283 => 127 | 284 => 128 | 285 => 129 | 286 => 130 | 129 => 133 | 317 => 132 | 318 => 134 | 319 => 135 | 320 => 136 | 337 => 137 | 338 => 138 | n => n, fun | 3 => 3 | 9 => 9 | 2 => 2 | 4 => 4 | 171 => 184 | 0 => 0 | 53 => 185 | 37 => 114 | 5 => 5 | 173 => 188 | 212 => 192 | 51 => 193 | 20 => 20 | 213 => 194 | 46 => 195 | 232 => 198 | 233 => 199 | n => n, fun | 17 => 0 | 18 => 1 | 19 => 2 | n => n⟩
theorem Tryz.lays171 : Go.Proofs.Lays.n171 Tryz.prog Tryz.lays171_ren := {
  mixed := by kernel_rfl
  f129 := Tryz.func133.trans (congrArg some (by kernel_rfl))
  f171 := Tryz.func52.trans (congrArg some (by kernel_rfl))
  f243 := Tryz.func85.trans (congrArg some (by kernel_rfl))
  f246 := Tryz.func111.trans (congrArg some (by kernel_rfl))
  f283 := Tryz.func127.trans (congrArg some (by kernel_rfl))
  f284 := Tryz.func128.trans (congrArg some (by kernel_rfl))
  f285 := Tryz.func129.trans (congrArg some (by kernel_rfl))
  f286 := Tryz.func130.trans (congrArg some (by kernel_rfl))
  f317 := Tryz.func132.trans (congrArg some (by kernel_rfl))
  f318 := Tryz.func134.trans (congrArg some (by kernel_rfl))
  f319 := Tryz.func135.trans (congrArg some (by kernel_rfl))
  f320 := Tryz.func136.trans (congrArg some (by kernel_rfl))
  f337 := Tryz.func137.trans (congrArg some (by kernel_rfl))
  f338 := Tryz.func138.trans (congrArg some (by kernel_rfl))
  t0 := Tryz.underlying0
  a0 := Tryz.isAgg0
  z0 := Tryz.sizeOf0
  v0 := Tryz.zeroValue0
  t2 := Tryz.underlying2
  a2 := Tryz.isAgg2
  z2 := Tryz.sizeOf2
  v2 := Tryz.zeroValue2
  t3 := Tryz.underlying3
  a3 := Tryz.isAgg3
  z3 := Tryz.sizeOf3
  v3 := Tryz.zeroValue3
  t4 := Tryz.underlying4
  a4 := Tryz.isAgg4
  z4 := Tryz.sizeOf4
  v4 := Tryz.zeroValue4
  t5 := Tryz.underlying5
  a5 := Tryz.isAgg5
  z5 := Tryz.sizeOf5
  v5 := Tryz.zeroValue5
  t9 := Tryz.underlying9
  a9 := Tryz.isAgg9
  z9 := Tryz.sizeOf9
  v9 := Tryz.zeroValue9
  t20 := Tryz.underlying20
  a20 := Tryz.isAgg20
  z20 := Tryz.sizeOf20
  v20 := Tryz.zeroValue20
  t37 := Tryz.underlying114
  a37 := Tryz.isAgg114
  z37 := Tryz.sizeOf114
  v37 := Tryz.zeroValue114
  t46 := Tryz.underlying195
  a46 := Tryz.isAgg195
  z46 := Tryz.sizeOf195
  v46 := Tryz.zeroValue195
  t51 := Tryz.underlying193
  a51 := Tryz.isAgg193
  z51 := Tryz.sizeOf193
  v51 := Tryz.zeroValue193
  t53 := Tryz.underlying185
  a53 := Tryz.isAgg185
  z53 := Tryz.sizeOf185
  v53 := Tryz.zeroValue185
  t171 := Tryz.underlying184
  a171 := Tryz.isAgg184
  z171 := Tryz.sizeOf184
  v171 := Tryz.zeroValue184
  t173 := Tryz.underlying188
  a173 := Tryz.isAgg188
  z173 := Tryz.sizeOf188
  v173 := Tryz.zeroValue188
  t212 := Tryz.underlying192
  a212 := Tryz.isAgg192
  z212 := Tryz.sizeOf192
  v212 := Tryz.zeroValue192
  t213 := Tryz.underlying194
  a213 := Tryz.isAgg194
  z213 := Tryz.sizeOf194
  t232 := Tryz.underlying198
  a232 := Tryz.isAgg198
  z232 := Tryz.sizeOf198
  v232 := Tryz.zeroValue198
  t233 := Tryz.underlying199
  a233 := Tryz.isAgg199
  z233 := Tryz.sizeOf199
  v233 := Tryz.zeroValue199
  g17 := by kernel_rfl
  g18 := by kernel_rfl
  g19 := by kernel_rfl }
open Go.RowKit Go.Sort Go.Lib in
theorem Tryz.strconv_Itoa_small (i : Nat) (hi : i < 100) (w : World) :
    Calls Tryz.prog 52 #[.int .i64 i] w fun e w' => e = .returned (.string ⟨(Lib.decDigits i).toArray⟩) ∧ w' = w := Any.strconv_Itoa_small Tryz.lays171 i hi w
end Go.Proofs
