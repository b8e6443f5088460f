import Derived.Test.YtmebcdpdpcpnmabDoorJ1
import Derived.ProofKit
import Derived.Deep.Strs
import Derived.Test.YtmebcdpdpcpnmabDoorJ27
import Derived.SizedLaws
import Derived.OpenShut
import Derived.ChangeOld
import Derived.Below
import Derived.Test.YtmebcdpdpcpnmabDoorTie
import Derived.Test.YtmebcdpdpcpnmabDoorCards
import Derived.LaidMore
import Derived.Stop.Joined
import Derived.Lib.LaidTab
import Derived.Test.YtmebcdpdpcpnmabDoorJ26
namespace Go.Proofs.YtmebcdpdpcpnmabDoor
open Go.ChangeShapes Go.WideShapes Go.ChangeAt Go.RowKit Go.Deep

theorem Tryd.own : ownKnob Tryd.prog.godebug = none := by kernel_rfl
theorem Tryd.laidOut : laidOutB Tryd.prog = true := by kernel_rfl
theorem Tryd.cellsOrder : Tryd.prog.cellsOf 84 = 3 := by kernel_rfl
theorem Tryd.cellsBool : Tryd.prog.cellsOf 4 = 1 := by kernel_rfl
theorem Tryd.cellsInt : Tryd.prog.cellsOf 3 = 1 := by kernel_rfl

theorem three {α : Type} {l : List α} (h : l.length = 3) : ∃ a b c, l = [a, b, c] := by
  match l, h with
  | [a, b, c], _ => exact ⟨a, b, c, rfl⟩

theorem add_none (b off n : Nat) : (⟨b, off, none⟩ : Addr).add n = ⟨b, off + n, none⟩ := by
  unfold Addr.add; split <;> simp_all

section
variable {H : Type} {enc : TypeId × Value → H} {W : World} {base : Nat} {spare : Nat → Bool} {held : Bool}

/-- one order, out of its reading -/
theorem open_order {n : Nat} {cs : List Value} {x : DataW H × List MemPlace} (h : DataW.trod enc Tryd.prog W base spare held n 84 cs = some x) :
    ∃ o : Mk.Ord, cs = [.bool o.sell, .int .i64 o.price, .int .i64 o.qty] := by
  obtain ⟨y0, y1, y2, m, _, hl, h0, h1, h2⟩ := trod_struct3 Tryd.underlying84 h
  rw [Tryd.cellsOrder] at hl
  obtain ⟨c0, c1, c2, rfl⟩ := three hl
  simp only [Tryd.cellsBool, Tryd.cellsInt, List.drop_zero, List.drop_succ_cons, List.take_succ_cons, List.take_zero] at h0 h1 h2
  obtain ⟨s, e0, _⟩ := DataW.trod_bool Tryd.underlying4 h0
  obtain ⟨p, e1, _, _⟩ := DataW.trod_int Tryd.underlying3 h1
  obtain ⟨q, e2, _, _⟩ := DataW.trod_int Tryd.underlying3 h2
  simp only [List.cons.injEq, and_true] at e0 e1 e2
  exact ⟨⟨s, p, q⟩, by rw [e0, e1, e2]⟩

/-- the orders, out of an argument's reading -/
theorem open_orders {fuel : Nat} {a0 : Option Addr} {len0 cap0 : Nat} {x : DataW H × List MemPlace} (h : DataW.trod enc Tryd.prog W base spare held fuel 125 [.slice a0 len0 cap0] = some x) :
    ∃ l : List Mk.Ord, l.length = len0 ∧ len0 ≤ cap0 ∧ cap0 ≤ maxLen ∧ Rd W a0 l := by
  rcases open_slice Tryd.underlying125 h with ⟨hcs, _⟩ | ⟨a, len, cap, m, n, D, Pl, hcs, _, hl, hm, hmm, _, hx⟩
  · simp only [List.cons.injEq, and_true, Value.slice.injEq] at hcs
    obtain ⟨rfl, rfl, rfl⟩ := hcs
    exact ⟨[], rfl, Nat.le_refl _, Nat.zero_le _, .inl rfl⟩
  · simp only [List.cons.injEq, and_true, Value.slice.injEq] at hcs
    obtain ⟨rfl, rfl, rfl⟩ := hcs
    have hlm : len0 ≤ m := by rw [hmm]; split <;> omega
    rw [Tryd.cellsOrder] at hx
    have each : ∀ i, i < len0 → ∃ q : Bool × Int × Int, W.cell? (a.add (i * 3)) = some (.bool q.1) ∧ W.cell? (a.add (i * 3 + 1)) = some (.int .i64 q.2.1) ∧ W.cell? (a.add (i * 3 + 2)) = some (.int .i64 q.2.2) := by
      intro i hi
      obtain ⟨cs', h1, h2⟩ := hx i (by omega)
      obtain ⟨o, rfl⟩ := open_order h2
      obtain ⟨_, _, hcell⟩ := World.cells?_some h1
      have e0 := hcell 0 (by omega)
      have e1 := hcell 1 (by omega)
      have e2 := hcell 2 (by omega)
      rw [add_add] at e0 e1 e2
      exact ⟨(o.sell, o.price, o.qty), by simpa using e0, by simpa using e1, by simpa using e2⟩
    obtain ⟨q, hq⟩ := choose_lt each
    refine ⟨(List.range len0).map fun i => ⟨(q i).1, (q i).2.1, (q i).2.2⟩, by simp, hl, hm, ?_⟩
    by_cases h0 : len0 = 0
    · subst h0; exact .inl (by simp)
    · right
      obtain ⟨b, off, spot⟩ := a
      have hs : spot = none := by
        have := World.cell?_spot (hq 0 (by omega)).1
        simpa [Addr.add] using this
      subst hs
      refine ⟨b, off, rfl, fun i hi => ?_⟩
      have hi' : i < len0 := by simpa using hi
      obtain ⟨g0, g1, g2⟩ := hq i hi'
      rw [add_none] at g0 g1 g2
      simp only [List.getElem_map, List.getElem_range]
      exact ⟨g0, g1, g2⟩
end

end Go.Proofs.YtmebcdpdpcpnmabDoor

namespace Go.Proofs.YtmebcdpdpcpnmabDoor
open Go.ChangeShapes Go.WideShapes Go.ChangeAt Go.RowKit Go.Deep

theorem Tryd.bytesOrd : Tryd.prog.bytesOf 84 = 24 := by kernel_rfl
theorem Tryd.cellsStr : Tryd.prog.cellsOf 9 = 1 := by kernel_rfl
theorem Tryd.cellsOrders : Tryd.prog.cellsOf 125 = 1 := by kernel_rfl

theorem six {α : Type} {l : List α} (h : l.length = 6) : ∃ a b c d e f, l = [a, b, c, d, e, f] := by
  match l, h with
  | [a, b, c, d, e, f], _ => exact ⟨a, b, c, d, e, f, rfl⟩
theorem all_mem {H : Type} {P : Program} {e : TypeId} {ds : List (DataW H)} {d : DataW H} (h : d ∈ ds) (n : Nat) (hn : n ∈ d.weights P e) : n ∈ DataW.weightsAll P e ds := by
  induction ds with
  | nil => cases h
  | cons x r ih =>
    simp only [DataW.weightsAll, List.mem_append]
    rcases List.mem_cons.1 h with rfl | h
    · exact .inl hn
    · exact .inr (ih h)
theorem i64_bds {x : Int} (h : (Lit.int .i64 x).wf = true) : -9223372036854775808 ≤ x ∧ x ≤ 9223372036854775807 := by
  simp [Lit.wf, IntKind.min, IntKind.max, IntKind.signed, IntKind.bits] at h
  omega

section
variable {H : Type} {enc : TypeId × Value → H} {W : World} {base : Nat} {spare : Nat → Bool} {held : Bool}

/-- how many orders: within the reach -/
theorem reach_orders {fuel : Nat} {a0 : Option Addr} {len0 cap0 : Nat} {x : DataW H × List MemPlace} (h : DataW.trod enc Tryd.prog W base spare held fuel 125 [.slice a0 len0 cap0] = some x)
    (hz : ∀ q ∈ x.1.weights Tryd.prog 125, q ≤ reachBytes) : len0 ≤ 140737488355328 := by
  rcases open_slice Tryd.underlying125 h with ⟨hcs, _⟩ | ⟨a, len, cap, m, n, D, Pl, hcs, _, hl, hm, hmm, hx, _⟩
  · simp only [List.cons.injEq, and_true, Value.slice.injEq] at hcs
    obtain ⟨_, rfl, _⟩ := hcs
    omega
  · simp only [List.cons.injEq, and_true, Value.slice.injEq] at hcs
    obtain ⟨_, rfl, _⟩ := hcs
    rw [hx] at hz
    have h1 := hz ((((List.range len0).map D).length + ((List.range (m - len0)).map fun j => D (len0 + j)).length) * Tryd.prog.bytesOf 84) (by simp [DataW.weights, Tryd.underlying125])
    rw [Tryd.bytesOrd] at h1
    have hr : reachBytes < 140737488355328 := reachBytes_lt
    simp only [List.length_map, List.length_range] at h1
    omega

theorem trod_struct6 {P : Program} {t : TypeId} {f0 f1 f2 f3 f4 f5 : Field} {fuel : Nat} {cs : List Value} {x : DataW H × List MemPlace} (ht : P.underlying t = some (.struct #[f0, f1, f2, f3, f4, f5])) (h : DataW.trod enc P W base spare held fuel t cs = some x) :
    ∃ y0 y1 y2 y3 y4 y5 n, x.1 = .agg [y0.1, y1.1, y2.1, y3.1, y4.1, y5.1] ∧ cs.length = P.cellsOf t ∧ DataW.trod enc P W base spare held n f0.type ((cs.drop f0.offset).take (P.cellsOf f0.type)) = some y0 ∧
      DataW.trod enc P W base spare held n f1.type ((cs.drop f1.offset).take (P.cellsOf f1.type)) = some y1 ∧ DataW.trod enc P W base spare held n f2.type ((cs.drop f2.offset).take (P.cellsOf f2.type)) = some y2 ∧
      DataW.trod enc P W base spare held n f3.type ((cs.drop f3.offset).take (P.cellsOf f3.type)) = some y3 ∧ DataW.trod enc P W base spare held n f4.type ((cs.drop f4.offset).take (P.cellsOf f4.type)) = some y4 ∧
      DataW.trod enc P W base spare held n f5.type ((cs.drop f5.offset).take (P.cellsOf f5.type)) = some y5 := by
  obtain ⟨xs, n, _, rfl, hl, hlen, hf⟩ := DataW.trod_struct ht h
  match xs, hlen with
  | [y0, y1, y2, y3, y4, y5], _ => exact ⟨y0, y1, y2, y3, y4, y5, n, by simp, hl, by simpa using hf 0 f0 rfl, by simpa using hf 1 f1 rfl, by simpa using hf 2 f2 rfl, by simpa using hf 3 f3 rfl, by simpa using hf 4 f4 rfl, by simpa using hf 5 f5 rfl⟩

end

end Go.Proofs.YtmebcdpdpcpnmabDoor

namespace Go.Proofs.YtmebcdpdpcpnmabDoor
open Go.ChangeShapes Go.WideShapes Go.ChangeAt Go.RowKit Go.Deep

/-- carryOut, of the program, at a word that wants no order -/
theorem acct_carry (p : Nat) (vb : Nat → Value) (M : Mk.Mkt) (c : Mk.Cmd) (hM : M.Fine) (hok : c.Ok) (hd : plainW c.d = true) (W : World) (hP : PM W p vb M) :
    Calls Tryd.prog 44 #[.pointer (some ⟨p, 0, none⟩), reqV c] W fun e w' => PDoT p vb (Mk.acctM M c) W e w' := by
  obtain ⟨who, r, d, n, mc⟩ := c
  have hw : who < 4 := hok.who
  have hlen : n.length = d.lo.length := hok.len
  have hnum : ∀ i, i < n.length → Mk.nth d.lo i ≤ Mk.nth n i ∧ Mk.nth n i ≤ Mk.nth d.hi i := hok.num
  cases d
  case pay =>
    have h0 : 0 < n.length := by rw [hlen]; decide
    have q := (hnum 0 h0).2
    have e : Mk.nth (Mk.Wd.hi .pay) 0 = 9999 := rfl
    exact carry_pay p vb M who r _ (Mk.nth n 0 : Int) _ _ _ mc W hM hP hw ⟨by omega, by omega⟩
  case draw =>
    have h0 : 0 < n.length := by rw [hlen]; decide
    have q := (hnum 0 h0).2
    have e : Mk.nth (Mk.Wd.hi .draw) 0 = 9999 := rfl
    exact carry_draw p vb M who r _ (Mk.nth n 0 : Int) _ _ _ mc W hM hP hw ⟨by omega, by omega⟩
  case bring =>
    have h0 : 0 < n.length := by rw [hlen]; decide
    have h1 : 1 < n.length := by rw [hlen]; decide
    have q := (hnum 0 h0).2
    have q1 := (hnum 1 h1).2
    have e : Mk.nth (Mk.Wd.hi .bring) 0 = 1 := rfl
    have e1 : Mk.nth (Mk.Wd.hi .bring) 1 = 999 := rfl
    exact carry_bring p vb M who r (Mk.nth n 0) (Mk.nth n 1 : Int) _ _ _ mc W hM hP hw (by omega) ⟨by omega, by omega⟩
  case fetch =>
    have h0 : 0 < n.length := by rw [hlen]; decide
    have h1 : 1 < n.length := by rw [hlen]; decide
    have q := (hnum 0 h0).2
    have q1 := (hnum 1 h1).2
    have e : Mk.nth (Mk.Wd.hi .fetch) 0 = 1 := rfl
    have e1 : Mk.nth (Mk.Wd.hi .fetch) 1 = 999 := rfl
    exact carry_fetch p vb M who r (Mk.nth n 0) (Mk.nth n 1 : Int) _ _ _ mc W hM hP hw (by omega) ⟨by omega, by omega⟩
  case mode =>
    have h0 : 0 < n.length := by rw [hlen]; decide
    have q := (hnum 0 h0).2
    have e : Mk.nth (Mk.Wd.hi .mode) 0 = 1 := rfl
    exact carry_mode p vb M who r (Mk.nth n 0) _ _ _ _ mc W hM hP (by omega)
  all_goals cases hd

def acctOk (t : ByteArray) : Prop := ∀ c, Mk.readP t = some c → plainW c.d = true
/-- what is done does not hang on the log -/
theorem acct_onto (M : Mk.Mkt) (d : ByteArray) (c : Mk.Cmd) : Mk.acctM (Mk.onto M d) c = ((Mk.acctM M c).1, (Mk.acctM M c).2.1, Mk.onto (Mk.acctM M c).2.2 d) := by
  unfold Mk.acctM
  cases c.d
  · show (_, Mk.payM _ _ _) = _
    unfold Mk.payM
    dsimp only
    split <;> rfl
  · show (_, Mk.drawM _ _ _) = _
    unfold Mk.drawM
    dsimp only
    split <;> rfl
  · show (_, Mk.bringM _ _ _ _) = _
    unfold Mk.bringM
    dsimp only
    split <;> rfl
  · show (_, Mk.fetchM _ _ _ _) = _
    unfold Mk.fetchM
    dsimp only
    split <;> rfl
  case mode =>
    show (_, Mk.modeM _ _ _) = _
    unfold Mk.modeM
    dsimp only
    split <;> rfl
  all_goals rfl
/-- the words that Accounts leaves out -/
def acctWs : List ByteArray := [⟨#[98, 117, 121]⟩, ⟨#[115, 101, 108, 108]⟩, ⟨#[100, 114, 111, 112]⟩, ⟨#[109, 111, 100, 101]⟩, ⟨#[99, 108, 111, 115, 101]⟩]
theorem acct_words (t : ByteArray) (h : Mk.hasAny t acctWs = false) : acctOk t := by
  intro c hc
  have hh := Mk.read_has hc
  unfold Mk.hasAny at h
  rw [List.any_eq_false] at h
  have each : ∀ x ∈ acctWs, Mk.has t x = false := fun x hx => by have := h x hx; simpa using this
  cases hd : c.d
  case pay => rfl
  case draw => rfl
  case bring => rfl
  case fetch => rfl
  case mode => rfl
  case buy =>
    rw [hd] at hh
    have := each (Mk.Wd.text .buy) (by simp [acctWs, Mk.Wd.text])
    rw [hh] at this
    cases this
  case sell =>
    rw [hd] at hh
    have := each (Mk.Wd.text .sell) (by simp [acctWs, Mk.Wd.text])
    rw [hh] at this
    cases this
  case drop =>
    rw [hd] at hh
    have := each (Mk.Wd.text .drop) (by simp [acctWs, Mk.Wd.text])
    rw [hh] at this
    cases this
  case close =>
    rw [hd] at hh
    have := each (Mk.Wd.text .close) (by simp [acctWs, Mk.Wd.text])
    rw [hh] at this
    cases this

theorem Tryd.ownZ : ownKnob Tryd.prog.godebug = none := by kernel_rfl
theorem Tryd.gTab : Tryd.prog.globalNamed "internal/strconv.uint64pow10" = some 0 := by kernel_rfl
theorem Tryd.tTab : (Tryd.prog.globals[0]?).map (·.type) = some 120 := by kernel_rfl
theorem Tryd.dTab : (Rows.laid_internal_strconv_uint64pow10 : DataW Unit) = Lib.tabData .u64 Lib.pow10Tab := by kernel_rfl
/-- the tables that lie there when a call begins: every row's list -/
abbrev laidAll : List (String × DataW Unit) := [("math/bits.deBruijn32tab", Rows.laid_math_bits_deBruijn32tab), ("math/bits.deBruijn64tab", Rows.laid_math_bits_deBruijn64tab), ("internal/strconv.uint64pow10", Rows.laid_internal_strconv_uint64pow10)]
/-- what the condition gives: the table -/
theorem tab_of_laid {W : World} (h : laidMetH Tryd.prog laidAll W) : Tab W := by
  rw [MakeChecks.laidMetH_plain _ _ _ (by kernel_rfl)] at h
  obtain ⟨ps, ⟨g0, t0, cs0, f0, p0, q0, hg0, ht0, hv0, hd0, ⟨g1, t1, cs1, f1, p1, q1, hg1, ht1, hv1, hd1, ⟨g2, t2, cs2, f2, p2, q2, hg2, ht2, hv2, hd2, _, _⟩, _⟩, _⟩, _, _⟩ := h
  obtain rfl := Option.some.inj (Tryd.gTab.symm.trans hg2)
  obtain rfl := Option.some.inj (Tryd.tTab.symm.trans ht2)
  rw [Tryd.dTab] at hd2
  unfold Tab Lib.TabIs
  rw [hv2, ← Lib.cells_of_tab Tryd.underlying120 Tryd.underlying101 (by kernel_rfl) (by kernel_rfl) hd2]
/-- the heap that start-up leaves meets it -/
theorem door_met (os : Os) (args : Array Value) : laidMetH Tryd.prog laidAll ((World.doorLaid Tryd.prog 400 os).forCall (fun _ _ => 0) ⟨#[], args, []⟩).memory :=
  laidMetH_of_parts3 (fuel := 8) (laidMet_of_run' 8 (by kernel_rfl) (by kernel_rfl)) (by kernel_rfl) (by kernel_rfl)

end Go.Proofs.YtmebcdpdpcpnmabDoor

namespace Go.Proofs.YtmebcdpdpcpnmabDoor
open Go.ChangeShapes Go.WideShapes Go.ChangeAt Go.RowKit Go.Deep

/-- every command but close -/
def Mk.bookM (M : Mk.Mkt) (c : Mk.Cmd) : ByteArray × Int × Mk.Mkt :=
  match c.d with
  | .buy => Mk.orderM M (Mk.nth c.n 0) c.who ⟨false, (Mk.nth c.n 1 : Int), (Mk.nth c.n 2 : Int)⟩
  | .sell => Mk.orderM M (Mk.nth c.n 0) c.who ⟨true, (Mk.nth c.n 1 : Int), (Mk.nth c.n 2 : Int)⟩
  | .drop => (⟨#[]⟩, (Mk.dropM M (Mk.nth c.n 0) c.who (Mk.nth c.n 1 : Int)).1, (Mk.dropM M (Mk.nth c.n 0) c.who (Mk.nth c.n 1 : Int)).2)
  | _ => Mk.acctM M c
def noClose : Mk.Wd → Bool
  | .close => false
  | _ => true

theorem order_ls (M : Mk.Mkt) (v who : Nat) (o : Mk.Ord) : (Mk.orderM M v who o).2.2.ls = M.ls ∧ (Mk.orderM M v who o).2.2.disk = M.disk := by
  unfold Mk.orderM
  split
  · exact ⟨rfl, rfl⟩
  · split
    · exact ⟨rfl, rfl⟩
    · split
      · exact ⟨rfl, rfl⟩
      · exact ⟨hold_ls M v who o 1, hold_disk M v who o 1⟩
theorem drop_ls (M : Mk.Mkt) (v who : Nat) (n : Int) : (Mk.dropM M v who n).2.ls = M.ls ∧ (Mk.dropM M v who n).2.disk = M.disk := by
  unfold Mk.dropM
  split
  · exact ⟨rfl, rfl⟩
  · exact ⟨hold_ls M v who _ (-1), hold_disk M v who _ (-1)⟩
theorem book_ls (M : Mk.Mkt) (c : Mk.Cmd) : (Mk.bookM M c).2.2.ls = M.ls ∧ (Mk.bookM M c).2.2.disk = M.disk := by
  unfold Mk.bookM
  split
  · exact order_ls M _ _ _
  · exact order_ls M _ _ _
  · exact drop_ls M _ _ _
  · exact ⟨acct_ls M c, acct_disk M c⟩
theorem Mk.Sound.rest {M : Mk.Mkt} (h : Mk.Sound M) (a : Nat → Int) (t : Nat → ByteArray) (e : Nat → Int) (d : ByteArray) : Mk.Sound { M with ls := a, tx := t, er := e, disk := d } :=
  ⟨h.cm, h.ln, h.inc, h.low, h.who, h.ord, h.ch, h.sh, h.cf, h.sf, h.house, h.tot, h.tos⟩

theorem book_sound {M : Mk.Mkt} {c : Mk.Cmd} (h : Mk.Sound M) (hok : c.Ok) : Mk.Sound (Mk.bookM M c).2.2 := by
  obtain ⟨who, r, d, n, mc⟩ := c
  have hw : who < 4 := hok.who
  have hlen : n.length = d.lo.length := hok.len
  have hnum : ∀ i, i < n.length → Mk.nth d.lo i ≤ Mk.nth n i ∧ Mk.nth n i ≤ Mk.nth d.hi i := hok.num
  cases d
  case pay => exact h.pay hw (by omega)
  case draw => exact h.draw hw (by omega)
  case bring =>
    have h0 : 0 < n.length := by rw [hlen]; decide
    have q := (hnum 0 h0).2
    have e : Mk.nth (Mk.Wd.hi .bring) 0 = 1 := rfl
    exact h.bring (show Mk.nth n 0 < 2 by omega) hw (by omega)
  case fetch =>
    have h0 : 0 < n.length := by rw [hlen]; decide
    have q := (hnum 0 h0).2
    have e : Mk.nth (Mk.Wd.hi .fetch) 0 = 1 := rfl
    exact h.fetch (show Mk.nth n 0 < 2 by omega) hw (by omega)
  case mode => exact h.mode _ _
  case buy =>
    have h0 : 2 < n.length := by rw [hlen]; decide
    have q0 := (hnum 0 (by omega)).2
    have q1 := hnum 1 (by omega)
    have q2 := hnum 2 h0
    simp only [Mk.Wd.lo, Mk.Wd.hi, Mk.nth, List.getD_cons_zero, List.getD_cons_succ] at q0 q1 q2
    exact h.order (by simp only [Mk.nth]; omega) hw ⟨false, _, _⟩ ⟨by simp only [Mk.nth]; omega, by simp only [Mk.nth]; omega, by simp only [Mk.nth]; omega, by simp only [Mk.nth]; omega⟩
  case sell =>
    have h0 : 2 < n.length := by rw [hlen]; decide
    have q0 := (hnum 0 (by omega)).2
    have q1 := hnum 1 (by omega)
    have q2 := hnum 2 h0
    simp only [Mk.Wd.lo, Mk.Wd.hi, Mk.nth, List.getD_cons_zero, List.getD_cons_succ] at q0 q1 q2
    exact h.order (by simp only [Mk.nth]; omega) hw ⟨true, _, _⟩ ⟨by simp only [Mk.nth]; omega, by simp only [Mk.nth]; omega, by simp only [Mk.nth]; omega, by simp only [Mk.nth]; omega⟩
  case drop =>
    have h0 : 0 < n.length := by rw [hlen]; decide
    have q := (hnum 0 h0).2
    have e : Mk.nth (Mk.Wd.hi .drop) 0 = 1 := rfl
    exact h.drop (show Mk.nth n 0 < 2 by omega) hw _
  case close => exact h

/-- what the program does at a command -/
theorem book_carry (p : Nat) (vb : Nat → Value) (M : Mk.Mkt) (c : Mk.Cmd) (hM : Mk.Sound M) (hok : c.Ok) (hd : noClose c.d = true) (W : World) (hP : PM W p vb M) (hT : Tab W) :
    Calls Tryd.prog 44 #[.pointer (some ⟨p, 0, none⟩), reqV c] W fun e w' => PDoT p vb (Mk.bookM M c) W e w' := by
  by_cases hp : plainW c.d = true
  · have e : Mk.bookM M c = Mk.acctM M c := by
      unfold Mk.bookM
      split <;> first | rfl | (rename_i h; rw [h] at hp; cases hp)
    rw [e]
    exact acct_carry p vb M c hM.fine hok hp W hP
  obtain ⟨who, r, d, n, mc⟩ := c
  have hw : who < 4 := hok.who
  have hlen : n.length = d.lo.length := hok.len
  have hnum : ∀ i, i < n.length → Mk.nth d.lo i ≤ Mk.nth n i ∧ Mk.nth n i ≤ Mk.nth d.hi i := hok.num
  cases d
  case buy =>
    have hl : n.length = 3 := hlen
    have q0 := (hnum 0 (by omega)).2
    have q1 := hnum 1 (by omega)
    have q2 := hnum 2 (by omega)
    have e0 : Mk.nth (Mk.Wd.hi .buy) 0 = 1 := rfl
    have e1 : Mk.nth (Mk.Wd.hi .buy) 1 = 99 := rfl
    have e2 : Mk.nth (Mk.Wd.hi .buy) 2 = 20 := rfl
    have e3 : Mk.nth (Mk.Wd.lo .buy) 1 = 1 := rfl
    have e4 : Mk.nth (Mk.Wd.lo .buy) 2 = 1 := rfl
    exact carry_buy p vb M who r (Mk.nth n 0) _ (Mk.nth n 1 : Int) (Mk.nth n 2 : Int) _ mc W hM.fine hP hw (by omega) ⟨by omega, by omega⟩ ⟨by omega, by omega⟩ (hM.cm _ (by omega)) hT
  case sell =>
    have hl : n.length = 3 := hlen
    have q0 := (hnum 0 (by omega)).2
    have q1 := hnum 1 (by omega)
    have q2 := hnum 2 (by omega)
    have e0 : Mk.nth (Mk.Wd.hi .sell) 0 = 1 := rfl
    have e1 : Mk.nth (Mk.Wd.hi .sell) 1 = 99 := rfl
    have e2 : Mk.nth (Mk.Wd.hi .sell) 2 = 20 := rfl
    have e3 : Mk.nth (Mk.Wd.lo .sell) 1 = 1 := rfl
    have e4 : Mk.nth (Mk.Wd.lo .sell) 2 = 1 := rfl
    exact carry_sell p vb M who r (Mk.nth n 0) _ (Mk.nth n 1 : Int) (Mk.nth n 2 : Int) _ mc W hM.fine hP hw (by omega) ⟨by omega, by omega⟩ ⟨by omega, by omega⟩ (hM.cm _ (by omega)) hT
  case drop =>
    have hl : n.length = 2 := hlen
    have q0 := (hnum 0 (by omega)).2
    have e0 : Mk.nth (Mk.Wd.hi .drop) 0 = 1 := rfl
    exact carry_drop p vb M who r (Mk.nth n 0) _ _ _ (Mk.nth n 1 : Int) mc W hM hP hw (by omega)
  case close => cases hd
  all_goals exact absurd rfl hp

/-- a market after k commands -/
structure BInv (M : Mk.Mkt) (k : Nat) : Prop where
  well : Well M k
  sound : Mk.Sound M
theorem do_sound {M : Mk.Mkt} {X : Mk.Cmd → ByteArray × Int × Mk.Mkt} (s : ByteArray) (h : Mk.Sound M) (hX : ∀ c, Mk.readP s = some c → Mk.Sound (X c).2.2) : Mk.Sound (Mk.doM X M s).2.2 := by
  unfold Mk.doM
  cases hr : Mk.readP s with
  | none => exact h
  | some c =>
    show Mk.Sound (if (c.r : Int) = M.ls c.who then (M.tx c.who, M.er c.who, M) else if (c.r : Int) < M.ls c.who then (⟨#[]⟩, 3, M) else if M.ls c.who + 1 < (c.r : Int) then (⟨#[]⟩, 4, M) else ((X c).1, (X c).2.1, { (X c).2.2 with ls := upd (X c).2.2.ls c.who c.r, tx := upd (X c).2.2.tx c.who (X c).1, er := upd (X c).2.2.er c.who (X c).2.1, disk := (X c).2.2.disk ++ Mk.frame s ++ s }) : ByteArray × Int × Mk.Mkt).2.2
    split
    · exact h
    · split
      · exact h
      · split
        · exact h
        · exact (hX c hr).rest _ _ _ _

theorem order_onto (M : Mk.Mkt) (d : ByteArray) (v who : Nat) (o : Mk.Ord) : Mk.orderM (Mk.onto M d) v who o = ((Mk.orderM M v who o).1, (Mk.orderM M v who o).2.1, Mk.onto (Mk.orderM M v who o).2.2 d) := by
  have hp : Mk.putM (Mk.onto M d) v who o = Mk.onto (Mk.putM M v who o) d := by
    obtain ⟨sell, pr, q⟩ := o
    cases sell <;> rfl
  have hl : Mk.lacks (Mk.onto M d) v who o = Mk.lacks M v who o := rfl
  unfold Mk.orderM
  rw [hp, hl]
  split
  · rfl
  · split
    · rfl
    · split
      · rfl
      · rfl
theorem drop_onto (M : Mk.Mkt) (d : ByteArray) (v who : Nat) (n : Int) : Mk.dropM (Mk.onto M d) v who n = ((Mk.dropM M v who n).1, Mk.onto (Mk.dropM M v who n).2 d) := by
  have hp : ∀ x, Mk.outM (Mk.onto M d) v who n x = Mk.onto (Mk.outM M v who n x) d := by
    intro x
    obtain ⟨a, b, sell, pr, q⟩ := x
    cases sell <;> rfl
  have e : (Mk.onto M d).bk = M.bk := rfl
  unfold Mk.dropM
  rw [e]
  cases (M.bk v).find? (Mk.hit n who) with
  | none => rfl
  | some x =>
    show (0, Mk.outM (Mk.onto M d) v who n x) = (0, Mk.onto (Mk.outM M v who n x) d)
    rw [hp]
theorem book_onto (M : Mk.Mkt) (d : ByteArray) (c : Mk.Cmd) : Mk.bookM (Mk.onto M d) c = ((Mk.bookM M c).1, (Mk.bookM M c).2.1, Mk.onto (Mk.bookM M c).2.2 d) := by
  unfold Mk.bookM
  cases c.d
  case buy => exact order_onto M d _ _ _
  case sell => exact order_onto M d _ _ _
  case drop =>
    show (_, (Mk.dropM (Mk.onto M d) _ _ _).1, (Mk.dropM (Mk.onto M d) _ _ _).2) = _
    rw [drop_onto]
  all_goals exact acct_onto M d c
theorem sound_onto {M : Mk.Mkt} (h : Mk.Sound M) (d : ByteArray) : Mk.Sound (Mk.onto M d) := h.rest M.ls M.tx M.er d

def bookOk (t : ByteArray) : Prop := ∀ c, Mk.readP t = some c → noClose c.d = true
/-- the word that Books leaves out -/
def bookWs : List ByteArray := [⟨#[99, 108, 111, 115, 101]⟩]
theorem book_words (t : ByteArray) (h : Mk.hasAny t bookWs = false) : bookOk t := by
  intro c hc
  have hh := Mk.read_has hc
  unfold Mk.hasAny at h
  rw [List.any_eq_false] at h
  have each : ∀ x ∈ bookWs, Mk.has t x = false := fun x hx => by have := h x hx; simpa using this
  cases hd : c.d
  case close =>
    rw [hd] at hh
    have := each (Mk.Wd.text .close) (by simp [bookWs, Mk.Wd.text])
    rw [hh] at this
    cases this
  all_goals rfl

end Go.Proofs.YtmebcdpdpcpnmabDoor

namespace Go.Proofs.YtmebcdpdpcpnmabDoor
open Go.ChangeShapes Go.WideShapes Go.ChangeAt Go.RowKit Go.Deep

theorem wt_close1 : ((Mk.Wd.text .close).toList == [112, 97, 121]) = false := by simp [Mk.Wd.text]
theorem wt_close2 : ((Mk.Wd.text .close).toList == [100, 114, 97, 119]) = false := by simp [Mk.Wd.text]
theorem wt_close3 : ((Mk.Wd.text .close).toList == [98, 114, 105, 110, 103]) = false := by simp [Mk.Wd.text]
theorem wt_close4 : ((Mk.Wd.text .close).toList == [102, 101, 116, 99, 104]) = false := by simp [Mk.Wd.text]
theorem wt_close5 : ((Mk.Wd.text .close).toList == [98, 117, 121]) = false := by simp [Mk.Wd.text]
theorem wt_close6 : ((Mk.Wd.text .close).toList == [115, 101, 108, 108]) = false := by simp [Mk.Wd.text]
theorem wt_close7 : ((Mk.Wd.text .close).toList == [100, 114, 111, 112]) = false := by simp [Mk.Wd.text]
theorem wt_close8 : ((Mk.Wd.text .close).toList == [109, 111, 100, 101]) = false := by simp [Mk.Wd.text]

/-- every command -/
def Mk.allM (M : Mk.Mkt) (c : Mk.Cmd) : ByteArray × Int × Mk.Mkt :=
  match c.d with
  | .close => ((Mk.shutM M (Mk.nth c.n 0)).1, 0, (Mk.shutM M (Mk.nth c.n 0)).2)
  | _ => Mk.bookM M c
theorem all_book {M : Mk.Mkt} {c : Mk.Cmd} (h : noClose c.d = true) : Mk.allM M c = Mk.bookM M c := by
  unfold Mk.allM
  split
  · rename_i e; rw [e] at h; cases h
  · rfl
theorem all_close {M : Mk.Mkt} {c : Mk.Cmd} (h : c.d = .close) : Mk.allM M c = ((Mk.shutM M (Mk.nth c.n 0)).1, 0, (Mk.shutM M (Mk.nth c.n 0)).2) := by
  unfold Mk.allM
  rw [h]
theorem close_or (d : Mk.Wd) : d = .close ∨ noClose d = true := by cases d <;> first | exact .inl rfl | exact .inr rfl
theorem close_v {c : Mk.Cmd} (hok : c.Ok) (h : c.d = .close) : Mk.nth c.n 0 < 2 ∧ c.n.length = 1 := by
  obtain ⟨who, r, d, n, mc⟩ := c
  obtain rfl : d = .close := h
  have hlen : n.length = 1 := hok.len
  have q := (hok.num 0 (show 0 < n.length by omega)).2
  have e : Mk.nth (Mk.Wd.hi .close) 0 = 1 := rfl
  exact ⟨show Mk.nth n 0 < 2 from by have q' : Mk.nth n 0 ≤ Mk.nth (Mk.Wd.hi .close) 0 := q; omega, hlen⟩
theorem acct_one {M : Mk.Mkt} {c : Mk.Cmd} (h : Mk.One M) : Mk.One (Mk.acctM M c).2.2 := by
  unfold Mk.acctM
  split
  · unfold Mk.payM; split <;> exact h
  · unfold Mk.drawM; split <;> exact h
  · unfold Mk.bringM; split <;> exact h
  · unfold Mk.fetchM; split <;> exact h
  · exact h.mode _ _
  · exact h
theorem book_one {M : Mk.Mkt} {c : Mk.Cmd} (h : Mk.One M) : Mk.One (Mk.bookM M c).2.2 := by
  unfold Mk.bookM
  split
  · exact h.order _
  · exact h.order _
  · exact h.drop _
  · exact acct_one h
theorem all_sound {M : Mk.Mkt} {c : Mk.Cmd} (h : Mk.Sound M) (h1 : Mk.One M) (hok : c.Ok) : Mk.Sound (Mk.allM M c).2.2 := by
  rcases close_or c.d with e | e
  · rw [all_close e]; exact h.shut h1 (close_v hok e).1
  · rw [all_book e]; exact book_sound h hok
theorem all_one {M : Mk.Mkt} {c : Mk.Cmd} (h : Mk.Sound M) (h1 : Mk.One M) (hok : c.Ok) : Mk.One (Mk.allM M c).2.2 := by
  rcases close_or c.d with e | e
  · rw [all_close e]; exact Mk.One.shut h h1 (close_v hok e).1
  · rw [all_book e]; exact book_one h1
theorem all_ls {M : Mk.Mkt} {c : Mk.Cmd} (h : Mk.Sound M) (h1 : Mk.One M) (hok : c.Ok) : (Mk.allM M c).2.2.ls = M.ls ∧ (Mk.allM M c).2.2.disk = M.disk := by
  rcases close_or c.d with e | e
  · rw [all_close e]
    have := shut_same M h h1 (close_v hok e).1
    exact ⟨this.1, this.2.1⟩
  · rw [all_book e]; exact book_ls M c

/-- a market after k commands of any kind -/
structure AInv (M : Mk.Mkt) (k : Nat) : Prop where
  well : Well M k
  sound : Mk.Sound M
  one : Mk.One M
theorem do_one {M : Mk.Mkt} {X : Mk.Cmd → ByteArray × Int × Mk.Mkt} (s : ByteArray) (h : Mk.One M) (hX : ∀ c, Mk.readP s = some c → Mk.One (X c).2.2) : Mk.One (Mk.doM X M s).2.2 := by
  unfold Mk.doM
  cases hr : Mk.readP s with
  | none => exact h
  | some c =>
    show Mk.One (if (c.r : Int) = M.ls c.who then (M.tx c.who, M.er c.who, M) else if (c.r : Int) < M.ls c.who then (⟨#[]⟩, 3, M) else if M.ls c.who + 1 < (c.r : Int) then (⟨#[]⟩, 4, M) else ((X c).1, (X c).2.1, { (X c).2.2 with ls := upd (X c).2.2.ls c.who c.r, tx := upd (X c).2.2.tx c.who (X c).1, er := upd (X c).2.2.er c.who (X c).2.1, disk := (X c).2.2.disk ++ Mk.frame s ++ s }) : ByteArray × Int × Mk.Mkt).2.2
    split
    · exact h
    · split
      · exact h
      · split
        · exact h
        · exact hX c hr
theorem all_new : AInv Mk.Mkt.new 0 := ⟨new_well, new_sound, fun _ _ h => by cases h⟩
theorem all_step {M : Mk.Mkt} {k : Nat} (s : ByteArray) (h : AInv M k) : AInv (Mk.doM (Mk.allM M) M s).2.2 (k + 1) :=
  ⟨do_well s h.well (fun _ hc => ⟨(all_sound h.sound h.one (Mk.read_ok hc).1).fine, (all_ls h.sound h.one (Mk.read_ok hc).1).1, (all_ls h.sound h.one (Mk.read_ok hc).1).2⟩), do_sound s h.sound (fun _ hc => all_sound h.sound h.one (Mk.read_ok hc).1), do_one s h.one (fun _ hc => all_one h.sound h.one (Mk.read_ok hc).1)⟩

end Go.Proofs.YtmebcdpdpcpnmabDoor
