import Derived.Test.YtmebcdpdpcpnmaaGreatDoorJ36
import Derived.Test.YtmebcdpdpcpnmaaGreatDoorJ1
import Derived.ProofKit
import Derived.Deep.Strs
import Derived.Test.YtmebcdpdpcpnmaaGreatDoorJ34
import Derived.SizedLaws
import Derived.OpenShut
import Derived.ChangeOld
import Derived.Below
import Derived.Test.YtmebcdpdpcpnmaaGreatDoorTie
import Derived.Test.YtmebcdpdpcpnmaaGreatDoorCards
import Derived.LaidMore
import Derived.Stop.Joined
import Derived.Lib.LaidTab
namespace Go.Proofs.YtmebcdpdpcpnmaaGreatDoor
open Go.RowKit

set_option maxRecDepth 100000 in
set_option maxHeartbeats 1000000 in
theorem looks_nil (B : Nat) (w : World) (hc : w.cell? ⟨B, 1, none⟩ = some (.slice none 0 0)) :
    Calls Tryz.prog 13 #[.pointer (some ⟨B, 0, none⟩)] w fun e w' => e = .returned (.bool true) ∧ w' = w := by
  go_enter Tryz.func13, Tryz.ntmps13
  go_wp2
  go_loop [3] (fun i => i = .int .i64 0) (fun i => 0)
  case atStart => rfl
  case round =>
    subst hrel
    go_wp2
    go_ret
    exact ⟨rfl, rfl⟩

/-- nothing else lies there -/
def Ext.none : Ext := ⟨fun _ => False, fun _ => Option.none, .slice Option.none 0 0, .slice Option.none 0 0⟩
theorem Sm.born (w : World) : ∃ s : Mks, s.m = 0 ∧ Sm Ext.none (w.alloc (.cells #[.slice none 0 0, .slice none 0 0, .slice none 0 0] 30)) w.heap.size (.slice none 0 0) s := by
  refine ⟨⟨0, fun _ => 0, fun _ => 0, fun _ => 0, fun _ _ => .slice none 0 0, fun _ => ⟨0, 0, fun _ => 0, 0, 0, 0, 0, 0, 0, fun _ => .slice none 0 0⟩, fun _ => Mk.Mkt.new, fun _ => Mk.Mkt.new⟩, rfl, ⟨by simp, by simp [go_sem], by simp [Ext.none], by simp [go_sem], by simp [Ext.none], by simp [go_sem], ⟨by simp [ptrs], .inl ⟨rfl, rfl⟩⟩, ⟨?_, ?_, ?_, ?_, ?_, ?_⟩, fun _ h => h.elim⟩⟩
  · intro i hi; exact absurd hi (Nat.not_lt_zero i)
  · intro i hi; exact absurd hi (Nat.not_lt_zero i)
  · intro i hi; exact absurd hi (Nat.not_lt_zero i)
  · intro a b ha; exact absurd ha (by show ¬ a < 2 * 0; omega)
  · intro a ha; exact absurd ha (by show ¬ a < 2 * 0; omega)
  · intro i hi; exact absurd hi (Nat.not_lt_zero i)

section
variable {E : Ext} {D : Mk.Mkt → ByteArray → ByteArray × Int × Mk.Mkt} {Inv : Mk.Mkt → Nat → Prop} {Ok : ByteArray → Prop}

theorem stepM (hD : Doing D Inv Ok) (B : Nat) (vm : Value) (s : Mks) (k : Nat) (x : OpD) (w : World) (h4 : 4 ≤ x.kind) (h7 : x.kind ≤ 7) (hk : k < 1048576) (hm : s.m ≤ k) (hF : x.Fits) (hs : x.s.size ≤ 1048576) (hok : Ok x.s) (hT : Tab w) (hg : ∀ g, Tryz.prog.globalNamed "internal/strconv.uint64pow10" = some g → g < B)
    (hS : Sm E w B vm s) (hI : ∀ i, i < s.m → s.Mp i = s.Mr i ∧ Inv (s.Mp i) k) :
    Calls Tryz.prog 12 #[.pointer (some ⟨B, 0, none⟩), opV x.kind x.m x.a x.b x.s x.oa x.os.length x.cap] w fun e w' => Lm E Inv w B k e w' := by
  obtain h | h | h | h : x.kind = 4 ∨ x.kind = 5 ∨ x.kind = 6 ∨ x.kind = 7 := by omega
  · rw [h]; exact step_new hD B vm s k _ _ _ _ _ _ _ w hk hm hS hI
  · rw [h]; exact step_call hD B vm s k 5 _ _ _ _ _ _ _ w (by omega) (by omega) hk hm hF.m1 hF.m2 hT hS hI (fun i hi W hW hTW => call_do hD B vm s i k _ _ _ _ _ _ _ W hk hm hi hs hok hTW hg hW hI)
  · rw [h]; exact step_call hD B vm s k 6 _ _ _ _ _ _ _ w (by omega) (by omega) hk hm hF.m1 hF.m2 hT hS hI (fun i hi W hW hTW => call_show hD B vm s i k _ _ _ _ _ _ _ W hm hi hTW hW hI)
  · rw [h]; exact step_call hD B vm s k 7 _ _ _ _ _ _ _ w (by omega) (by omega) hk hm hF.m1 hF.m2 hT hS hI (fun i hi W hW hTW => call_last hD B vm s i k _ _ _ _ _ _ _ W hm hi hW hI)

set_option maxRecDepth 100000 in
set_option maxHeartbeats 4000000 in
theorem plays_markets (hD : Doing D Inv Ok) (a : Option Addr) (cap g cap2 : Nat) (ws : List ByteArray) (l : List OpD) (w : World) (hf : ∀ x ∈ l, x.Fits) (hR : RdOps w a l) (hT : Tab w) (hn : ws.length ≤ 100) (hw : ∀ x ∈ ws, x.size ≤ 100) (hc : ∀ i, i < ws.length → w.cell? ⟨g, i, none⟩ = some (.string (Mk.wordAt ws i))) (hgl : g < w.heap.size) (hOk : ∀ t, Mk.hasAny t ws = false → Ok t) :
    Calls Tryz.prog 9 #[.slice a l.length cap, .int .i64 4, .int .i64 7, .slice (some ⟨g, 0, none⟩) ws.length cap2] w fun e w' => e = .returned (.bool true) ∧ Below w.heap.size w w' := by
  have HF : Hid (∀ x ∈ l, x.Fits) := hf
  have HR : Hid (RdOps w a l) := hR
  have HT : Hid (Tab w) := hT
  have HD : Hid (Doing D Inv Ok) := hD
  have HW : Hid (ws.length ≤ 100 ∧ (∀ x ∈ ws, x.size ≤ 100) ∧ (∀ i, i < ws.length → w.cell? ⟨g, i, none⟩ = some (.string (Mk.wordAt ws i))) ∧ g < w.heap.size) := ⟨hn, hw, hc, hgl⟩
  have HOk : Hid (∀ t, Mk.hasAny t ws = false → Ok t) := hOk
  clear hf hR hT hD hn hw hc hgl hOk
  go_enter Tryz.func9, Tryz.ntmps9
  go_wp2_with fail
  refine (small_any a cap l _ HF.out HR.out).mono ?_
  rintro e w1 ⟨r, rfl, hsm, hb1⟩
  have HB1 : Hid (Below w.heap.size w w1) := hb1
  have HSm : Hid (SmallIs l r) := hsm
  clear hsm hb1
  cases r
  · go_wp2
    go_ret
    exact ⟨rfl, HB1.out⟩
  · obtain ⟨hlen, hos⟩ := HSm.out rfl
    have HO : Hid (∀ (i : Nat) (h : i < l.length), l[i].s.size ≤ 1048576) := fun i h => (hos i h).2
    clear hos
    have hsz := HB1.out.size
    have HG : Hid (∀ g, Tryz.prog.globalNamed "internal/strconv.uint64pow10" = some g → g < w1.heap.size) := fun g hg => Nat.lt_of_lt_of_le (HT.out.lt g hg) hsz
    go_wp2
    go_loopw [11] (fun j wr => ∃ k : Nat, k ≤ l.length ∧ j = .int .i64 k ∧ (∃ vm s, s.m ≤ k ∧ Sm Ext.none wr w1.heap.size vm s ∧ ∀ i, i < s.m → s.Mp i = s.Mr i ∧ Inv (s.Mp i) k) ∧ Below w1.heap.size w1 wr) (fun j _ => l.length - (intOf j).toNat)
    case atStart =>
      obtain ⟨s, hs0, hS⟩ := Sm.born w1
      exact ⟨0, Nat.zero_le _, rfl, ⟨_, s, by omega, hS, fun i hi => by omega⟩, (Below.refl _ _).alloc (Nat.le_refl _) _⟩
    case round =>
      obtain ⟨k, hk, rfl, ⟨vm, s, hm, hS, hI⟩, hb⟩ := hrel
      have Hb : Hid (Below w1.heap.size w1 wr) := hb
      have HS : Hid (Sm Ext.none wr w1.heap.size vm s) := hS
      have HI : Hid (∀ i, i < s.m → s.Mp i = s.Mr i ∧ Inv (s.Mp i) k) := hI
      have HBw : Hid (Below w.heap.size w wr) := HB1.out.trans (hb.mono hsz)
      have hBr : w1.heap.size < wr.heap.size := hS.lt
      have HUp : Hid (∀ i, i < s.m → s.Mp i = s.Mr i ∧ Inv (s.Mp i) (k + 1)) := fun i hi => ⟨(hI i hi).1, HD.out.up _ _ (hI i hi).2⟩
      clear hb hS hI
      by_cases hlt : k < l.length
      · rcases HR.out with h | ⟨b, off, rfl, hA⟩
        · rw [h] at hlt; simp at hlt
        obtain ⟨c0, c1, c2, c3, c4, c5, _⟩ := AtOps.below hA HBw.out k hlt
        clear hA
        have HFk : Hid (l[k].Fits) := HF.out _ (List.getElem_mem hlt)
        have hok := HO.out k hlt
        have hbl := blk_lt c0
        have hlt' : (k : Int) < (l.length : Int) := by omega
        have HAl : Hid (∀ ob, Below wr.heap.size wr (wr.alloc ob)) := fun ob => (Below.refl _ _).alloc (Nat.le_refl _) ob
        have HSay : Hid (∀ ob, Calls Tryz.prog 11 #[.string l[k].s, .slice (some ⟨g, 0, none⟩) ws.length cap2] (wr.alloc ob) fun e w' => e = .returned (.bool (Mk.hasAny l[k].s ws)) ∧ w' = wr.alloc ob) := fun ob =>
          saysAny_any l[k].s g cap2 ws (wr.alloc ob) (by omega) HW.out.2.1 HW.out.1 (fun i hi => ((HBw.out.trans ((HAl.out ob).mono HBw.out.size)).cell (p := ⟨g, i, none⟩) HW.out.2.2.2).trans (HW.out.2.2.1 i hi))
        by_cases h4 : l[k].kind < 4
        · go_wp2_with (go_at_call 11; refine (HSay.out _).mono ?_; rintro e w2 ⟨rfl, hw2⟩; obtain rfl := hw2.symm)
          go_roundw
          case rel => exact ⟨k + 1, by omega, by go_num, ⟨vm, s, by omega, HS.out.below (HAl.out _), HUp.out⟩, Hb.out.alloc Hb.out.size _⟩
          case measure => simp [intOf]; omega
        · by_cases h7 : 7 < l[k].kind
          · go_wp2_with (go_at_call 11; refine (HSay.out _).mono ?_; rintro e w2 ⟨rfl, hw2⟩; obtain rfl := hw2.symm)
            go_roundw
            case rel => exact ⟨k + 1, by omega, by go_num, ⟨vm, s, by omega, HS.out.below (HAl.out _), HUp.out⟩, Hb.out.alloc Hb.out.size _⟩
            case measure => simp [intOf]; omega
          · go_wp2_with fail
            refine (HSay.out _).mono ?_
            rintro e w2 ⟨rfl, hw2⟩
            obtain rfl := hw2.symm
            by_cases hh : Mk.hasAny l[k].s ws = true
            · go_wp2_with fail
              go_roundw
              case rel => exact ⟨k + 1, by omega, by go_num, ⟨vm, s, by omega, HS.out.below (HAl.out _), HUp.out⟩, Hb.out.alloc Hb.out.size _⟩
              case measure => simp [intOf]; omega
            · have hh' : Mk.hasAny l[k].s ws = false := by simpa using hh
              have HOkk : Hid (Ok l[k].s) := HOk.out _ hh'
              clear hh
              go_wp2_with fail
              refine (stepM HD.out w1.heap.size vm s k l[k] _ (by omega) (by omega) (by omega) hm HFk.out hok HOkk.out (HT.out.next (HBw.out.trans ((HAl.out _).mono HBw.out.size))) HG.out (HS.out.below (HAl.out _)) HI.out).mono ?_
              rintro e w3 ⟨rfl, vm3, s3, hS3, hI3, hm3, hb3⟩
              have HS3 : Hid (Sm Ext.none w3 w1.heap.size vm3 s3) := hS3
              have HI3 : Hid (∀ i, i < s3.m → s3.Mp i = s3.Mr i ∧ Inv (s3.Mp i) (k + 1)) := hI3
              have HB3 : Hid (Below w1.heap.size w1 w3) := (Hb.out.alloc Hb.out.size _).trans hb3
              clear hS3 hb3 hI3
              go_wp2_with fail
              refine (looks_nil w1.heap.size _ HS3.out.c1).mono ?_
              rintro e w4 ⟨rfl, hw4⟩
              obtain rfl := hw4.symm
              go_wp2
              go_roundw
              case rel => exact ⟨k + 1, by omega, by go_num, ⟨vm3, s3, hm3, HS3.out, HI3.out⟩, HB3.out⟩
              case measure => simp [intOf]; omega
      · go_wp2
        go_ret
        exact ⟨rfl, HBw.out⟩

end

end Go.Proofs.YtmebcdpdpcpnmaaGreatDoor

namespace Go.Proofs.YtmebcdpdpcpnmaaGreatDoor
open Go.ChangeShapes Go.WideShapes Go.ChangeAt Go.RowKit Go.Deep

theorem Tryz.own : ownKnob Tryz.prog.godebug = none := by kernel_rfl
theorem Tryz.laidOut : laidOutB Tryz.prog = true := by kernel_rfl
theorem Tryz.cellsOrder : Tryz.prog.cellsOf 123 = 3 := by kernel_rfl
theorem Tryz.cellsBool : Tryz.prog.cellsOf 4 = 1 := by kernel_rfl
theorem Tryz.cellsInt : Tryz.prog.cellsOf 3 = 1 := by kernel_rfl

theorem three {α : Type} {l : List α} (h : l.length = 3) : ∃ a b c, l = [a, b, c] := by
  match l, h with
  | [a, b, c], _ => exact ⟨a, b, c, rfl⟩

theorem add_none (b off n : Nat) : (⟨b, off, none⟩ : Addr).add n = ⟨b, off + n, none⟩ := by
  unfold Addr.add; split <;> simp_all

section
variable {H : Type} {enc : TypeId × Value → H} {W : World} {base : Nat} {spare : Nat → Bool} {held : Bool}

/-- one order, out of its reading -/
theorem open_order {n : Nat} {cs : List Value} {x : DataW H × List MemPlace} (h : DataW.trod enc Tryz.prog W base spare held n 123 cs = some x) :
    ∃ o : Mk.Ord, cs = [.bool o.sell, .int .i64 o.price, .int .i64 o.qty] := by
  obtain ⟨y0, y1, y2, m, _, hl, h0, h1, h2⟩ := trod_struct3 Tryz.underlying123 h
  rw [Tryz.cellsOrder] at hl
  obtain ⟨c0, c1, c2, rfl⟩ := three hl
  simp only [Tryz.cellsBool, Tryz.cellsInt, List.drop_zero, List.drop_succ_cons, List.take_succ_cons, List.take_zero] at h0 h1 h2
  obtain ⟨s, e0, _⟩ := DataW.trod_bool Tryz.underlying4 h0
  obtain ⟨p, e1, _, _⟩ := DataW.trod_int Tryz.underlying3 h1
  obtain ⟨q, e2, _, _⟩ := DataW.trod_int Tryz.underlying3 h2
  simp only [List.cons.injEq, and_true] at e0 e1 e2
  exact ⟨⟨s, p, q⟩, by rw [e0, e1, e2]⟩

/-- the orders, out of an argument's reading -/
theorem open_orders {fuel : Nat} {a0 : Option Addr} {len0 cap0 : Nat} {x : DataW H × List MemPlace} (h : DataW.trod enc Tryz.prog W base spare held fuel 31 [.slice a0 len0 cap0] = some x) :
    ∃ l : List Mk.Ord, l.length = len0 ∧ len0 ≤ cap0 ∧ cap0 ≤ maxLen ∧ Rd W a0 l := by
  rcases open_slice Tryz.underlying31 h with ⟨hcs, _⟩ | ⟨a, len, cap, m, n, D, Pl, hcs, _, hl, hm, hmm, _, hx⟩
  · simp only [List.cons.injEq, and_true, Value.slice.injEq] at hcs
    obtain ⟨rfl, rfl, rfl⟩ := hcs
    exact ⟨[], rfl, Nat.le_refl _, Nat.zero_le _, .inl rfl⟩
  · simp only [List.cons.injEq, and_true, Value.slice.injEq] at hcs
    obtain ⟨rfl, rfl, rfl⟩ := hcs
    have hlm : len0 ≤ m := by rw [hmm]; split <;> omega
    rw [Tryz.cellsOrder] at hx
    have each : ∀ i, i < len0 → ∃ q : Bool × Int × Int, W.cell? (a.add (i * 3)) = some (.bool q.1) ∧ W.cell? (a.add (i * 3 + 1)) = some (.int .i64 q.2.1) ∧ W.cell? (a.add (i * 3 + 2)) = some (.int .i64 q.2.2) := by
      intro i hi
      obtain ⟨cs', h1, h2⟩ := hx i (by omega)
      obtain ⟨o, rfl⟩ := open_order h2
      obtain ⟨_, _, hcell⟩ := World.cells?_some h1
      have e0 := hcell 0 (by omega)
      have e1 := hcell 1 (by omega)
      have e2 := hcell 2 (by omega)
      rw [add_add] at e0 e1 e2
      exact ⟨(o.sell, o.price, o.qty), by simpa using e0, by simpa using e1, by simpa using e2⟩
    obtain ⟨q, hq⟩ := choose_lt each
    refine ⟨(List.range len0).map fun i => ⟨(q i).1, (q i).2.1, (q i).2.2⟩, by simp, hl, hm, ?_⟩
    by_cases h0 : len0 = 0
    · subst h0; exact .inl (by simp)
    · right
      obtain ⟨b, off, spot⟩ := a
      have hs : spot = none := by
        have := World.cell?_spot (hq 0 (by omega)).1
        simpa [Addr.add] using this
      subst hs
      refine ⟨b, off, rfl, fun i hi => ?_⟩
      have hi' : i < len0 := by simpa using hi
      obtain ⟨g0, g1, g2⟩ := hq i hi'
      rw [add_none] at g0 g1 g2
      simp only [List.getElem_map, List.getElem_range]
      exact ⟨g0, g1, g2⟩
end

end Go.Proofs.YtmebcdpdpcpnmaaGreatDoor

namespace Go.Proofs.YtmebcdpdpcpnmaaGreatDoor
open Go.ChangeShapes Go.WideShapes Go.ChangeAt Go.RowKit Go.Deep

theorem Tryz.bytesOrd : Tryz.prog.bytesOf 123 = 24 := by kernel_rfl
theorem Tryz.cellsOp : Tryz.prog.cellsOf 33 = 6 := by kernel_rfl
theorem Tryz.cellsStr : Tryz.prog.cellsOf 9 = 1 := by kernel_rfl
theorem Tryz.cellsOrders : Tryz.prog.cellsOf 31 = 1 := by kernel_rfl

theorem six {α : Type} {l : List α} (h : l.length = 6) : ∃ a b c d e f, l = [a, b, c, d, e, f] := by
  match l, h with
  | [a, b, c, d, e, f], _ => exact ⟨a, b, c, d, e, f, rfl⟩
theorem all_mem {H : Type} {P : Program} {e : TypeId} {ds : List (DataW H)} {d : DataW H} (h : d ∈ ds) (n : Nat) (hn : n ∈ d.weights P e) : n ∈ DataW.weightsAll P e ds := by
  induction ds with
  | nil => cases h
  | cons x r ih =>
    simp only [DataW.weightsAll, List.mem_append]
    rcases List.mem_cons.1 h with rfl | h
    · exact .inl hn
    · exact .inr (ih h)
theorem i64_bds {x : Int} (h : (Lit.int .i64 x).wf = true) : -9223372036854775808 ≤ x ∧ x ≤ 9223372036854775807 := by
  simp [Lit.wf, IntKind.min, IntKind.max, IntKind.signed, IntKind.bits] at h
  omega

section
variable {H : Type} {enc : TypeId × Value → H} {W : World} {base : Nat} {spare : Nat → Bool} {held : Bool}

/-- how many orders: within the reach -/
theorem reach_orders {fuel : Nat} {a0 : Option Addr} {len0 cap0 : Nat} {x : DataW H × List MemPlace} (h : DataW.trod enc Tryz.prog W base spare held fuel 31 [.slice a0 len0 cap0] = some x)
    (hz : ∀ q ∈ x.1.weights Tryz.prog 31, q ≤ reachBytes) : len0 ≤ 140737488355328 := by
  rcases open_slice Tryz.underlying31 h with ⟨hcs, _⟩ | ⟨a, len, cap, m, n, D, Pl, hcs, _, hl, hm, hmm, hx, _⟩
  · simp only [List.cons.injEq, and_true, Value.slice.injEq] at hcs
    obtain ⟨_, rfl, _⟩ := hcs
    omega
  · simp only [List.cons.injEq, and_true, Value.slice.injEq] at hcs
    obtain ⟨_, rfl, _⟩ := hcs
    rw [hx] at hz
    have h1 := hz ((((List.range len0).map D).length + ((List.range (m - len0)).map fun j => D (len0 + j)).length) * Tryz.prog.bytesOf 123) (by simp [DataW.weights, Tryz.underlying31])
    rw [Tryz.bytesOrd] at h1
    have hr : reachBytes < 140737488355328 := reachBytes_lt
    simp only [List.length_map, List.length_range] at h1
    omega

theorem trod_struct6 {P : Program} {t : TypeId} {f0 f1 f2 f3 f4 f5 : Field} {fuel : Nat} {cs : List Value} {x : DataW H × List MemPlace} (ht : P.underlying t = some (.struct #[f0, f1, f2, f3, f4, f5])) (h : DataW.trod enc P W base spare held fuel t cs = some x) :
    ∃ y0 y1 y2 y3 y4 y5 n, x.1 = .agg [y0.1, y1.1, y2.1, y3.1, y4.1, y5.1] ∧ cs.length = P.cellsOf t ∧ DataW.trod enc P W base spare held n f0.type ((cs.drop f0.offset).take (P.cellsOf f0.type)) = some y0 ∧
      DataW.trod enc P W base spare held n f1.type ((cs.drop f1.offset).take (P.cellsOf f1.type)) = some y1 ∧ DataW.trod enc P W base spare held n f2.type ((cs.drop f2.offset).take (P.cellsOf f2.type)) = some y2 ∧
      DataW.trod enc P W base spare held n f3.type ((cs.drop f3.offset).take (P.cellsOf f3.type)) = some y3 ∧ DataW.trod enc P W base spare held n f4.type ((cs.drop f4.offset).take (P.cellsOf f4.type)) = some y4 ∧
      DataW.trod enc P W base spare held n f5.type ((cs.drop f5.offset).take (P.cellsOf f5.type)) = some y5 := by
  obtain ⟨xs, n, _, rfl, hl, hlen, hf⟩ := DataW.trod_struct ht h
  match xs, hlen with
  | [y0, y1, y2, y3, y4, y5], _ => exact ⟨y0, y1, y2, y3, y4, y5, n, by simp, hl, by simpa using hf 0 f0 rfl, by simpa using hf 1 f1 rfl, by simpa using hf 2 f2 rfl, by simpa using hf 3 f3 rfl, by simpa using hf 4 f4 rfl, by simpa using hf 5 f5 rfl⟩

/-- one step, out of its reading -/
theorem open_op {n : Nat} {cs : List Value} {x : DataW H × List MemPlace} (h : DataW.trod enc Tryz.prog W base spare held n 33 cs = some x) (hz : ∀ q ∈ x.1.weights Tryz.prog 33, q ≤ reachBytes) :
    ∃ o : OpD, cs = [.int .i64 o.kind, .int .i64 o.m, .int .i64 o.a, .int .i64 o.b, .string o.s, .slice o.oa o.os.length o.cap] ∧ o.Fits ∧ Rd W o.oa o.os := by
  obtain ⟨y0, y1, y2, y3, y4, y5, m, hx1, hl, h0, h1, h2, h3, h4, h5⟩ := trod_struct6 Tryz.underlying33 h
  rw [Tryz.cellsOp] at hl
  obtain ⟨c0, c1, c2, c3, c4, c5, rfl⟩ := six hl
  simp only [Tryz.cellsInt, Tryz.cellsStr, Tryz.cellsOrders, List.drop_zero, List.drop_succ_cons, List.take_succ_cons, List.take_zero] at h0 h1 h2 h3 h4 h5
  rw [hx1] at hz
  obtain ⟨v0, e0, _, _⟩ := DataW.trod_int Tryz.underlying3 h0
  obtain ⟨v1, e1, _, w1⟩ := DataW.trod_int Tryz.underlying3 h1
  obtain ⟨v2, e2, _, w2⟩ := DataW.trod_int Tryz.underlying3 h2
  obtain ⟨v3, e3, _, w3⟩ := DataW.trod_int Tryz.underlying3 h3
  obtain ⟨s, e4, x4, _⟩ := DataW.trod_string Tryz.underlying9 h4
  obtain ⟨oa, olen, ocap, e5⟩ : ∃ oa olen ocap, c5 = .slice oa olen ocap := by
    rcases open_slice Tryz.underlying31 h5 with ⟨hcs, _⟩ | ⟨a, len, cap, _, _, _, _, hcs, _⟩
    · exact ⟨_, _, _, by simpa using hcs⟩
    · exact ⟨_, _, _, by simpa using hcs⟩
  subst e5
  obtain ⟨l, hlo, _, _, hRd⟩ := open_orders h5
  have hw : ∀ (j : Nat) (t : TypeId) (d : DataW H), ([3, 3, 3, 3, 9, 31] : List TypeId)[j]? = some t → ([y0.1, y1.1, y2.1, y3.1, y4.1, y5.1] : List (DataW H))[j]? = some d → ∀ q ∈ d.weights Tryz.prog t, q ≤ reachBytes := by
    intro j t d ht hd q hq
    refine hz q ?_
    simp only [DataW.weights, Tryz.underlying33]
    exact DataW.weights_mem_each (j := j) ht hd q hq
  have hr : reachBytes < 140737488355328 := reachBytes_lt
  have hs : s.size ≤ 140737488355328 := by
    have := hw 4 _ _ rfl rfl s.data.toList.length (by rw [x4]; simp [DataW.weights])
    have e : s.data.toList.length = s.size := Array.length_toList
    omega
  have ho := reach_orders h5 (hw 5 _ _ rfl rfl)
  simp only [List.cons.injEq, and_true] at e0 e1 e2 e3 e4
  subst hlo
  exact ⟨⟨v0, v1, v2, v3, s, oa, ocap, l⟩, by rw [e0, e1, e2, e3, e4], ⟨(i64_bds w2).1, (i64_bds w2).2, (i64_bds w3).1, (i64_bds w3).2, hs, ho, (i64_bds w1).1, (i64_bds w1).2⟩, hRd⟩

/-- the script, out of the argument's reading -/
theorem open_ops {fuel : Nat} {a0 : Option Addr} {len0 cap0 : Nat} {x : DataW H × List MemPlace} (h : DataW.trod enc Tryz.prog W base spare held fuel 22 [.slice a0 len0 cap0] = some x) (hz : ∀ q ∈ x.1.weights Tryz.prog 22, q ≤ reachBytes) :
    ∃ l : List OpD, l.length = len0 ∧ (∀ x ∈ l, x.Fits) ∧ RdOps W a0 l := by
  rcases open_slice Tryz.underlying22 h with ⟨hcs, _⟩ | ⟨a, len, cap, m, n, D, Pl, hcs, _, hl, hm, hmm, hxx, hx⟩
  · simp only [List.cons.injEq, and_true, Value.slice.injEq] at hcs
    obtain ⟨rfl, rfl, rfl⟩ := hcs
    exact ⟨[], rfl, by simp, .inl rfl⟩
  · simp only [List.cons.injEq, and_true, Value.slice.injEq] at hcs
    obtain ⟨rfl, rfl, rfl⟩ := hcs
    have hlm : len0 ≤ m := by rw [hmm]; split <;> omega
    rw [Tryz.cellsOp] at hx
    have each : ∀ i, i < len0 → ∃ q : OpD, (W.cell? (a.add (i * 6)) = some (.int .i64 q.kind) ∧ W.cell? (a.add (i * 6 + 1)) = some (.int .i64 q.m) ∧ W.cell? (a.add (i * 6 + 2)) = some (.int .i64 q.a) ∧ W.cell? (a.add (i * 6 + 3)) = some (.int .i64 q.b) ∧
        W.cell? (a.add (i * 6 + 4)) = some (.string q.s) ∧ W.cell? (a.add (i * 6 + 5)) = some (.slice q.oa q.os.length q.cap)) ∧ q.Fits ∧ Rd W q.oa q.os := by
      intro i hi
      obtain ⟨cs', h1, h2⟩ := hx i (by omega)
      have hzi : ∀ q ∈ (D i).weights Tryz.prog 33, q ≤ reachBytes := by
        intro q hq
        refine hz q ?_
        rw [hxx]
        simp only [DataW.weights, Tryz.underlying22, List.mem_cons, List.mem_append]
        exact .inr (.inl (all_mem (List.mem_map.2 ⟨i, List.mem_range.2 hi, rfl⟩) q hq))
      obtain ⟨o, rfl, hF, hRd⟩ := open_op h2 hzi
      obtain ⟨_, _, hcell⟩ := World.cells?_some h1
      have e0 := hcell 0 (by omega)
      have e1 := hcell 1 (by omega)
      have e2 := hcell 2 (by omega)
      have e3 := hcell 3 (by omega)
      have e4 := hcell 4 (by omega)
      have e5 := hcell 5 (by omega)
      rw [add_add] at e0 e1 e2 e3 e4 e5
      exact ⟨o, ⟨by simpa using e0, by simpa using e1, by simpa using e2, by simpa using e3, by simpa using e4, by simpa using e5⟩, hF, hRd⟩
    obtain ⟨q, hq⟩ := @choose_lt OpD ⟨⟨0, 0, 0, 0, ByteArray.empty, none, 0, []⟩⟩ len0 _ each
    refine ⟨(List.range len0).map q, by simp, ?_, ?_⟩
    · intro x hx
      obtain ⟨i, hi, rfl⟩ := List.mem_map.1 hx
      exact (hq i (List.mem_range.1 hi)).2.1
    · by_cases h0 : len0 = 0
      · subst h0; exact .inl (by simp)
      · right
        obtain ⟨b, off, spot⟩ := a
        have hs : spot = none := by
          have := World.cell?_spot (hq 0 (by omega)).1.1
          simpa [Addr.add] using this
        subst hs
        refine ⟨b, off, rfl, fun i hi => ?_⟩
        have hi' : i < len0 := by simpa using hi
        obtain ⟨⟨g0, g1, g2, g3, g4, g5⟩, _, hRd⟩ := hq i hi'
        rw [add_none] at g0 g1 g2 g3 g4 g5
        simp only [List.getElem_map, List.getElem_range]
        exact ⟨g0, g1, g2, g3, g4, g5, hRd⟩
end

end Go.Proofs.YtmebcdpdpcpnmaaGreatDoor

namespace Go.Proofs.YtmebcdpdpcpnmaaGreatDoor
open Go.ChangeShapes Go.WideShapes Go.ChangeAt Go.RowKit Go.Deep

/-- carryOut, of the program, at a word that wants no order -/
theorem acct_carry (p : Nat) (vb : Nat → Value) (M : Mk.Mkt) (c : Mk.Cmd) (hM : M.Fine) (hok : c.Ok) (hd : plainW c.d = true) (W : World) (hP : PM W p vb M) :
    Calls Tryz.prog 78 #[.pointer (some ⟨p, 0, none⟩), reqV c] W fun e w' => PDoT p vb (Mk.acctM M c) W e w' := by
  obtain ⟨who, r, d, n, mc⟩ := c
  have hw : who < 4 := hok.who
  have hlen : n.length = d.lo.length := hok.len
  have hnum : ∀ i, i < n.length → Mk.nth d.lo i ≤ Mk.nth n i ∧ Mk.nth n i ≤ Mk.nth d.hi i := hok.num
  cases d
  case pay =>
    have h0 : 0 < n.length := by rw [hlen]; decide
    have q := (hnum 0 h0).2
    have e : Mk.nth (Mk.Wd.hi .pay) 0 = 9999 := rfl
    exact carry_pay p vb M who r _ (Mk.nth n 0 : Int) _ _ _ mc W hM hP hw ⟨by omega, by omega⟩
  case draw =>
    have h0 : 0 < n.length := by rw [hlen]; decide
    have q := (hnum 0 h0).2
    have e : Mk.nth (Mk.Wd.hi .draw) 0 = 9999 := rfl
    exact carry_draw p vb M who r _ (Mk.nth n 0 : Int) _ _ _ mc W hM hP hw ⟨by omega, by omega⟩
  case bring =>
    have h0 : 0 < n.length := by rw [hlen]; decide
    have h1 : 1 < n.length := by rw [hlen]; decide
    have q := (hnum 0 h0).2
    have q1 := (hnum 1 h1).2
    have e : Mk.nth (Mk.Wd.hi .bring) 0 = 1 := rfl
    have e1 : Mk.nth (Mk.Wd.hi .bring) 1 = 999 := rfl
    exact carry_bring p vb M who r (Mk.nth n 0) (Mk.nth n 1 : Int) _ _ _ mc W hM hP hw (by omega) ⟨by omega, by omega⟩
  case fetch =>
    have h0 : 0 < n.length := by rw [hlen]; decide
    have h1 : 1 < n.length := by rw [hlen]; decide
    have q := (hnum 0 h0).2
    have q1 := (hnum 1 h1).2
    have e : Mk.nth (Mk.Wd.hi .fetch) 0 = 1 := rfl
    have e1 : Mk.nth (Mk.Wd.hi .fetch) 1 = 999 := rfl
    exact carry_fetch p vb M who r (Mk.nth n 0) (Mk.nth n 1 : Int) _ _ _ mc W hM hP hw (by omega) ⟨by omega, by omega⟩
  case mode =>
    have h0 : 0 < n.length := by rw [hlen]; decide
    have q := (hnum 0 h0).2
    have e : Mk.nth (Mk.Wd.hi .mode) 0 = 1 := rfl
    exact carry_mode p vb M who r (Mk.nth n 0) _ _ _ _ mc W hM hP (by omega)
  all_goals cases hd

def acctOk (t : ByteArray) : Prop := ∀ c, Mk.readP t = some c → plainW c.d = true
/-- what is done does not hang on the log -/
theorem acct_onto (M : Mk.Mkt) (d : ByteArray) (c : Mk.Cmd) : Mk.acctM (Mk.onto M d) c = ((Mk.acctM M c).1, (Mk.acctM M c).2.1, Mk.onto (Mk.acctM M c).2.2 d) := by
  unfold Mk.acctM
  cases c.d
  · show (_, Mk.payM _ _ _) = _
    unfold Mk.payM
    dsimp only
    split <;> rfl
  · show (_, Mk.drawM _ _ _) = _
    unfold Mk.drawM
    dsimp only
    split <;> rfl
  · show (_, Mk.bringM _ _ _ _) = _
    unfold Mk.bringM
    dsimp only
    split <;> rfl
  · show (_, Mk.fetchM _ _ _ _) = _
    unfold Mk.fetchM
    dsimp only
    split <;> rfl
  case mode =>
    show (_, Mk.modeM _ _ _) = _
    unfold Mk.modeM
    dsimp only
    split <;> rfl
  all_goals rfl
theorem acct_doing : Doing (fun M s => Mk.doM (Mk.acctM M) M s) Well acctOk where
  fine := fun _ _ h => h.fine
  new := new_well
  up := fun _ _ h => ⟨h.fine, h.ls, by have := h.disk; omega⟩
  step := fun _ _ s h _ => acct_well s h
  p := fun p vb M k s w h hk hs ho hP hT => pdo_any2 p vb M s w (Mk.acctM M) h.ls (by have := h.disk; omega) hP hT (fun c hc _ => ⟨acct_disk M c, fun d W hW _ => by rw [← acct_onto]; exact acct_carry p vb (Mk.onto M d) c (fine_onto h.fine d) (Mk.read_ok hc).1 (ho c hc) W hW⟩)
  r := fun p b M k s w h hk hs ho hR => acct_do p b M k s w h (by omega) (by omega) hR ho

/-- the words that Accounts leaves out -/
def acctWs : List ByteArray := [⟨#[98, 117, 121]⟩, ⟨#[115, 101, 108, 108]⟩, ⟨#[100, 114, 111, 112]⟩, ⟨#[109, 111, 100, 101]⟩, ⟨#[99, 108, 111, 115, 101]⟩]
theorem acct_words (t : ByteArray) (h : Mk.hasAny t acctWs = false) : acctOk t := by
  intro c hc
  have hh := Mk.read_has hc
  unfold Mk.hasAny at h
  rw [List.any_eq_false] at h
  have each : ∀ x ∈ acctWs, Mk.has t x = false := fun x hx => by have := h x hx; simpa using this
  cases hd : c.d
  case pay => rfl
  case draw => rfl
  case bring => rfl
  case fetch => rfl
  case mode => rfl
  case buy =>
    rw [hd] at hh
    have := each (Mk.Wd.text .buy) (by simp [acctWs, Mk.Wd.text])
    rw [hh] at this
    cases this
  case sell =>
    rw [hd] at hh
    have := each (Mk.Wd.text .sell) (by simp [acctWs, Mk.Wd.text])
    rw [hh] at this
    cases this
  case drop =>
    rw [hd] at hh
    have := each (Mk.Wd.text .drop) (by simp [acctWs, Mk.Wd.text])
    rw [hh] at this
    cases this
  case close =>
    rw [hd] at hh
    have := each (Mk.Wd.text .close) (by simp [acctWs, Mk.Wd.text])
    rw [hh] at this
    cases this

set_option maxRecDepth 100000 in
set_option maxHeartbeats 1000000 in
theorem accounts_law (a : Option Addr) (cap : Nat) (l : List OpD) (w : World) (hf : ∀ x ∈ l, x.Fits) (hR : RdOps w a l) (hT : Tab w) :
    Calls Tryz.prog 4 #[.slice a l.length cap] w fun e w' => e = .returned (.bool true) ∧ Below w.heap.size w w' := by
  have HF : Hid (∀ x ∈ l, x.Fits) := hf
  have HB : Hid (∀ ob, Below w.heap.size w (w.alloc ob)) := fun ob => (Below.refl _ _).alloc (Nat.le_refl _) ob
  have HR : Hid (∀ ob, RdOps (w.alloc ob) a l) := fun ob => hR.below (HB.out ob)
  have HT : Hid (∀ ob, Tab (w.alloc ob)) := fun ob => hT.next (HB.out ob)
  clear hf hR hT
  go_enter Tryz.func4, Tryz.ntmps4
  go_wp2_with fail
  refine (plays_markets acct_doing a cap w.heap.size 5 acctWs l _ HF.out (HR.out _) (HT.out _) (by decide) (by decide) ?_ (by simp) acct_words).mono ?_
  · intro i hi
    match i, hi with
    | 0, _ => simp [Mk.wordAt, acctWs]
    | 1, _ => simp [Mk.wordAt, acctWs]
    | 2, _ => simp [Mk.wordAt, acctWs]
    | 3, _ => simp [Mk.wordAt, acctWs]
    | 4, _ => simp [Mk.wordAt, acctWs]
  · rintro e w1 ⟨rfl, hb1⟩
    have HB1 : Hid (Below w.heap.size w w1) := (HB.out _).trans (hb1.mono (by simp))
    clear hb1
    go_wp2
    go_ret
    exact ⟨rfl, HB1.out⟩

theorem Tryz.ownZ : ownKnob Tryz.prog.godebug = none := by kernel_rfl
theorem Tryz.gTab : Tryz.prog.globalNamed "internal/strconv.uint64pow10" = some 0 := by kernel_rfl
theorem Tryz.tTab : (Tryz.prog.globals[0]?).map (·.type) = some 192 := by kernel_rfl
theorem Tryz.dTab : (Rows.laid_internal_strconv_uint64pow10 : DataW Unit) = Lib.tabData .u64 Lib.pow10Tab := by kernel_rfl
/-- the tables that lie there when a call begins: every row's list -/
abbrev laidAll : List (String × DataW Unit) := [("math/bits.deBruijn32tab", Rows.laid_math_bits_deBruijn32tab), ("math/bits.deBruijn64tab", Rows.laid_math_bits_deBruijn64tab), ("internal/strconv.uint64pow10", Rows.laid_internal_strconv_uint64pow10)]
/-- what the condition gives: the table -/
theorem tab_of_laid {W : World} (h : laidMetH Tryz.prog laidAll W) : Tab W := by
  rw [MakeChecks.laidMetH_plain _ _ _ (by kernel_rfl)] at h
  obtain ⟨ps, ⟨g0, t0, cs0, f0, p0, q0, hg0, ht0, hv0, hd0, ⟨g1, t1, cs1, f1, p1, q1, hg1, ht1, hv1, hd1, ⟨g2, t2, cs2, f2, p2, q2, hg2, ht2, hv2, hd2, _, _⟩, _⟩, _⟩, _, _⟩ := h
  obtain rfl := Option.some.inj (Tryz.gTab.symm.trans hg2)
  obtain rfl := Option.some.inj (Tryz.tTab.symm.trans ht2)
  rw [Tryz.dTab] at hd2
  unfold Tab Lib.TabIs
  rw [hv2, ← Lib.cells_of_tab Tryz.underlying192 Tryz.underlying185 (by kernel_rfl) (by kernel_rfl) hd2]
/-- the heap that start-up leaves meets it -/
theorem door_met (os : Os) (args : Array Value) : laidMetH Tryz.prog laidAll ((World.doorLaid Tryz.prog 400 os).forCall (fun _ _ => 0) ⟨#[], args, []⟩).memory :=
  laidMetH_of_parts3 (fuel := 8) (laidMet_of_run' 8 (by kernel_rfl) (by kernel_rfl)) (by kernel_rfl) (by kernel_rfl)

end Go.Proofs.YtmebcdpdpcpnmaaGreatDoor
