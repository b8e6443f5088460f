import Derived.Test.YtljeahgpkeohlaaGreatDoorJ41
import Derived.Test.YtljeahgpkeohlaaGreatDoorTie
import Derived.Test.YtljeahgpkeohlaaGreatDoorCards
import Derived.ProofKit
import Derived.LaidMore
import Derived.Stop.Joined
import Derived.Lib.LaidTab
import Derived.Test.YtljeahgpkeohlaaGreatDoorJ37
import Derived.Test.YtljeahgpkeohlaaGreatDoorJ35
namespace Go.Proofs.YtljeahgpkeohlaaGreatDoor
open Go.ChangeShapes Go.WideShapes Go.ChangeAt Go.RowKit Go.Deep

/-- carryOut, of the program, at a word that wants no order -/
theorem acct_carry (p : Nat) (vb : Nat → Value) (M : Mk.Mkt) (c : Mk.Cmd) (hM : M.Fine) (hok : c.Ok) (hd : plainW c.d = true) (W : World) (hP : PM W p vb M) :
    Calls Tryz.prog 46 #[.pointer (some ⟨p, 0, none⟩), reqV c] W fun e w' => PDoT p vb (Mk.acctM M c) W e w' := by
  obtain ⟨who, r, d, n, mc⟩ := c
  have hw : who < 4 := hok.who
  have hlen : n.length = d.lo.length := hok.len
  have hnum : ∀ i, i < n.length → Mk.nth d.lo i ≤ Mk.nth n i ∧ Mk.nth n i ≤ Mk.nth d.hi i := hok.num
  cases d
  case pay =>
    have h0 : 0 < n.length := by rw [hlen]; decide
    have q := (hnum 0 h0).2
    have e : Mk.nth (Mk.Wd.hi .pay) 0 = 9999 := rfl
    exact carry_pay p vb M who r _ (Mk.nth n 0 : Int) _ _ _ mc W hM hP hw ⟨by omega, by omega⟩
  case draw =>
    have h0 : 0 < n.length := by rw [hlen]; decide
    have q := (hnum 0 h0).2
    have e : Mk.nth (Mk.Wd.hi .draw) 0 = 9999 := rfl
    exact carry_draw p vb M who r _ (Mk.nth n 0 : Int) _ _ _ mc W hM hP hw ⟨by omega, by omega⟩
  case bring =>
    have h0 : 0 < n.length := by rw [hlen]; decide
    have h1 : 1 < n.length := by rw [hlen]; decide
    have q := (hnum 0 h0).2
    have q1 := (hnum 1 h1).2
    have e : Mk.nth (Mk.Wd.hi .bring) 0 = 1 := rfl
    have e1 : Mk.nth (Mk.Wd.hi .bring) 1 = 999 := rfl
    exact carry_bring p vb M who r (Mk.nth n 0) (Mk.nth n 1 : Int) _ _ _ mc W hM hP hw (by omega) ⟨by omega, by omega⟩
  case fetch =>
    have h0 : 0 < n.length := by rw [hlen]; decide
    have h1 : 1 < n.length := by rw [hlen]; decide
    have q := (hnum 0 h0).2
    have q1 := (hnum 1 h1).2
    have e : Mk.nth (Mk.Wd.hi .fetch) 0 = 1 := rfl
    have e1 : Mk.nth (Mk.Wd.hi .fetch) 1 = 999 := rfl
    exact carry_fetch p vb M who r (Mk.nth n 0) (Mk.nth n 1 : Int) _ _ _ mc W hM hP hw (by omega) ⟨by omega, by omega⟩
  case mode =>
    have h0 : 0 < n.length := by rw [hlen]; decide
    have q := (hnum 0 h0).2
    have e : Mk.nth (Mk.Wd.hi .mode) 0 = 1 := rfl
    exact carry_mode p vb M who r (Mk.nth n 0) _ _ _ _ mc W hM hP (by omega)
  all_goals cases hd

def acctOk (t : ByteArray) : Prop := ∀ c, Mk.readP t = some c → plainW c.d = true
theorem acct_doing : Doing (fun M s => Mk.doM (Mk.acctM M) M s) Well acctOk where
  fine := fun _ _ h => h.fine
  new := new_well
  up := fun _ _ h => ⟨h.fine, h.ls, by have := h.disk; omega⟩
  step := fun _ _ s h _ => acct_well s h
  p := fun p vb M k s w h hk hs ho hP hT => pdo_any p vb M s w (Mk.acctM M) h.ls hP (fun c hc _ W hW => acct_carry p vb M c h.fine (Mk.read_ok hc).1 (ho c hc) W hW)
  r := fun p b M k s w h hk hs ho hR => acct_do p b M k s w h (by omega) (by omega) hR ho

/-- the words that Accounts leaves out -/
def acctWs : List ByteArray := [⟨#[98, 117, 121]⟩, ⟨#[115, 101, 108, 108]⟩, ⟨#[100, 114, 111, 112]⟩, ⟨#[109, 111, 100, 101]⟩, ⟨#[99, 108, 111, 115, 101]⟩]
theorem acct_words (t : ByteArray) (h : Mk.hasAny t acctWs = false) : acctOk t := by
  intro c hc
  have hh := Mk.read_has hc
  unfold Mk.hasAny at h
  rw [List.any_eq_false] at h
  have each : ∀ x ∈ acctWs, Mk.has t x = false := fun x hx => by have := h x hx; simpa using this
  cases hd : c.d
  case pay => rfl
  case draw => rfl
  case bring => rfl
  case fetch => rfl
  case mode => rfl
  case buy =>
    rw [hd] at hh
    have := each (Mk.Wd.text .buy) (by simp [acctWs, Mk.Wd.text])
    rw [hh] at this
    cases this
  case sell =>
    rw [hd] at hh
    have := each (Mk.Wd.text .sell) (by simp [acctWs, Mk.Wd.text])
    rw [hh] at this
    cases this
  case drop =>
    rw [hd] at hh
    have := each (Mk.Wd.text .drop) (by simp [acctWs, Mk.Wd.text])
    rw [hh] at this
    cases this
  case close =>
    rw [hd] at hh
    have := each (Mk.Wd.text .close) (by simp [acctWs, Mk.Wd.text])
    rw [hh] at this
    cases this

set_option maxRecDepth 100000 in
set_option maxHeartbeats 1000000 in
theorem accounts_law (a : Option Addr) (cap : Nat) (l : List OpD) (w : World) (hf : ∀ x ∈ l, x.Fits) (hR : RdOps w a l) (hT : Tab w) :
    Calls Tryz.prog 4 #[.slice a l.length cap] w fun e w' => e = .returned (.bool true) ∧ Below w.heap.size w w' := by
  have HF : Hid (∀ x ∈ l, x.Fits) := hf
  have HB : Hid (∀ ob, Below w.heap.size w (w.alloc ob)) := fun ob => (Below.refl _ _).alloc (Nat.le_refl _) ob
  have HR : Hid (∀ ob, RdOps (w.alloc ob) a l) := fun ob => hR.below (HB.out ob)
  have HT : Hid (∀ ob, Tab (w.alloc ob)) := fun ob => hT.next (HB.out ob)
  clear hf hR hT
  go_enter Tryz.func4, Tryz.ntmps4
  go_wp2_with fail
  refine (plays_markets acct_doing a cap w.heap.size 5 acctWs l _ HF.out (HR.out _) (HT.out _) (by decide) (by decide) ?_ (by simp) acct_words).mono ?_
  · intro i hi
    match i, hi with
    | 0, _ => simp [Mk.wordAt, acctWs]
    | 1, _ => simp [Mk.wordAt, acctWs]
    | 2, _ => simp [Mk.wordAt, acctWs]
    | 3, _ => simp [Mk.wordAt, acctWs]
    | 4, _ => simp [Mk.wordAt, acctWs]
  · rintro e w1 ⟨rfl, hb1⟩
    have HB1 : Hid (Below w.heap.size w w1) := (HB.out _).trans (hb1.mono (by simp))
    clear hb1
    go_wp2
    go_ret
    exact ⟨rfl, HB1.out⟩

theorem Tryz.ownZ : ownKnob Tryz.prog.godebug = none := by kernel_rfl
theorem Tryz.gTab : Tryz.prog.globalNamed "internal/strconv.uint64pow10" = some 0 := by kernel_rfl
theorem Tryz.tTab : (Tryz.prog.globals[0]?).map (·.type) = some 189 := by kernel_rfl
theorem Tryz.dTab : (Rows.laid_internal_strconv_uint64pow10 : DataW Unit) = Lib.tabData .u64 Lib.pow10Tab := by kernel_rfl
/-- the tables that lie there when a call begins: every row's list -/
abbrev laidAll : List (String × DataW Unit) := [("math/bits.deBruijn32tab", Rows.laid_math_bits_deBruijn32tab), ("math/bits.deBruijn64tab", Rows.laid_math_bits_deBruijn64tab), ("internal/strconv.uint64pow10", Rows.laid_internal_strconv_uint64pow10)]
/-- what the condition gives: the table -/
theorem tab_of_laid {W : World} (h : laidMetH Tryz.prog laidAll W) : Tab W := by
  rw [MakeChecks.laidMetH_plain _ _ _ (by kernel_rfl)] at h
  obtain ⟨ps, ⟨g0, t0, cs0, f0, p0, q0, hg0, ht0, hv0, hd0, ⟨g1, t1, cs1, f1, p1, q1, hg1, ht1, hv1, hd1, ⟨g2, t2, cs2, f2, p2, q2, hg2, ht2, hv2, hd2, _, _⟩, _⟩, _⟩, _, _⟩ := h
  obtain rfl := Option.some.inj (Tryz.gTab.symm.trans hg2)
  obtain rfl := Option.some.inj (Tryz.tTab.symm.trans ht2)
  rw [Tryz.dTab] at hd2
  unfold Tab Lib.TabIs
  rw [hv2, ← Lib.cells_of_tab Tryz.underlying189 Tryz.underlying183 (by kernel_rfl) (by kernel_rfl) hd2]
/-- the heap that start-up leaves meets it -/
theorem door_met (os : Os) (args : Array Value) : laidMetH Tryz.prog laidAll ((World.doorLaid Tryz.prog 400 os).forCall (fun _ _ => 0) ⟨#[], args, []⟩).memory :=
  laidMetH_of_parts3 (fuel := 8) (laidMet_of_run' 8 (by kernel_rfl) (by kernel_rfl)) (by kernel_rfl) (by kernel_rfl)

end Go.Proofs.YtljeahgpkeohlaaGreatDoor

namespace Go.Proofs.YtljeahgpkeohlaaGreatDoor
open Go.ChangeShapes Go.WideShapes Go.ChangeAt Go.RowKit Go.Deep

/-- every command but close -/
def Mk.bookM (M : Mk.Mkt) (c : Mk.Cmd) : ByteArray × Int × Mk.Mkt :=
  match c.d with
  | .buy => Mk.orderM M (Mk.nth c.n 0) c.who ⟨false, (Mk.nth c.n 1 : Int), (Mk.nth c.n 2 : Int)⟩
  | .sell => Mk.orderM M (Mk.nth c.n 0) c.who ⟨true, (Mk.nth c.n 1 : Int), (Mk.nth c.n 2 : Int)⟩
  | .drop => (⟨#[]⟩, (Mk.dropM M (Mk.nth c.n 0) c.who (Mk.nth c.n 1 : Int)).1, (Mk.dropM M (Mk.nth c.n 0) c.who (Mk.nth c.n 1 : Int)).2)
  | _ => Mk.acctM M c
def noClose : Mk.Wd → Bool
  | .close => false
  | _ => true

theorem order_ls (M : Mk.Mkt) (v who : Nat) (o : Mk.Ord) : (Mk.orderM M v who o).2.2.ls = M.ls ∧ (Mk.orderM M v who o).2.2.disk = M.disk := by
  unfold Mk.orderM
  split
  · exact ⟨rfl, rfl⟩
  · split
    · exact ⟨rfl, rfl⟩
    · split
      · exact ⟨rfl, rfl⟩
      · exact ⟨hold_ls M v who o 1, hold_disk M v who o 1⟩
theorem drop_ls (M : Mk.Mkt) (v who : Nat) (n : Int) : (Mk.dropM M v who n).2.ls = M.ls ∧ (Mk.dropM M v who n).2.disk = M.disk := by
  unfold Mk.dropM
  split
  · exact ⟨rfl, rfl⟩
  · exact ⟨hold_ls M v who _ (-1), hold_disk M v who _ (-1)⟩
theorem book_ls (M : Mk.Mkt) (c : Mk.Cmd) : (Mk.bookM M c).2.2.ls = M.ls ∧ (Mk.bookM M c).2.2.disk = M.disk := by
  unfold Mk.bookM
  split
  · exact order_ls M _ _ _
  · exact order_ls M _ _ _
  · exact drop_ls M _ _ _
  · exact ⟨acct_ls M c, acct_disk M c⟩
theorem Mk.Sound.rest {M : Mk.Mkt} (h : Mk.Sound M) (a : Nat → Int) (t : Nat → ByteArray) (e : Nat → Int) (d : ByteArray) : Mk.Sound { M with ls := a, tx := t, er := e, disk := d } :=
  ⟨h.cm, h.ln, h.inc, h.low, h.who, h.ord, h.ch, h.sh, h.cf, h.sf, h.house, h.tot, h.tos⟩

theorem book_sound {M : Mk.Mkt} {c : Mk.Cmd} (h : Mk.Sound M) (hok : c.Ok) : Mk.Sound (Mk.bookM M c).2.2 := by
  obtain ⟨who, r, d, n, mc⟩ := c
  have hw : who < 4 := hok.who
  have hlen : n.length = d.lo.length := hok.len
  have hnum : ∀ i, i < n.length → Mk.nth d.lo i ≤ Mk.nth n i ∧ Mk.nth n i ≤ Mk.nth d.hi i := hok.num
  cases d
  case pay => exact h.pay hw (by omega)
  case draw => exact h.draw hw (by omega)
  case bring =>
    have h0 : 0 < n.length := by rw [hlen]; decide
    have q := (hnum 0 h0).2
    have e : Mk.nth (Mk.Wd.hi .bring) 0 = 1 := rfl
    exact h.bring (show Mk.nth n 0 < 2 by omega) hw (by omega)
  case fetch =>
    have h0 : 0 < n.length := by rw [hlen]; decide
    have q := (hnum 0 h0).2
    have e : Mk.nth (Mk.Wd.hi .fetch) 0 = 1 := rfl
    exact h.fetch (show Mk.nth n 0 < 2 by omega) hw (by omega)
  case mode => exact h.mode _ _
  case buy =>
    have h0 : 2 < n.length := by rw [hlen]; decide
    have q0 := (hnum 0 (by omega)).2
    have q1 := hnum 1 (by omega)
    have q2 := hnum 2 h0
    simp only [Mk.Wd.lo, Mk.Wd.hi, Mk.nth, List.getD_cons_zero, List.getD_cons_succ] at q0 q1 q2
    exact h.order (by simp only [Mk.nth]; omega) hw ⟨false, _, _⟩ ⟨by simp only [Mk.nth]; omega, by simp only [Mk.nth]; omega, by simp only [Mk.nth]; omega, by simp only [Mk.nth]; omega⟩
  case sell =>
    have h0 : 2 < n.length := by rw [hlen]; decide
    have q0 := (hnum 0 (by omega)).2
    have q1 := hnum 1 (by omega)
    have q2 := hnum 2 h0
    simp only [Mk.Wd.lo, Mk.Wd.hi, Mk.nth, List.getD_cons_zero, List.getD_cons_succ] at q0 q1 q2
    exact h.order (by simp only [Mk.nth]; omega) hw ⟨true, _, _⟩ ⟨by simp only [Mk.nth]; omega, by simp only [Mk.nth]; omega, by simp only [Mk.nth]; omega, by simp only [Mk.nth]; omega⟩
  case drop =>
    have h0 : 0 < n.length := by rw [hlen]; decide
    have q := (hnum 0 h0).2
    have e : Mk.nth (Mk.Wd.hi .drop) 0 = 1 := rfl
    exact h.drop (show Mk.nth n 0 < 2 by omega) hw _
  case close => exact h

/-- what the document does at a command -/
theorem book_does (p : Nat) (b : RB) (M : Mk.Mkt) (c : Mk.Cmd) (hM : Mk.Sound M) (hok : c.Ok) (hd : noClose c.d = true) (W : World) (g cap : Nat) (hR : Ref W p b M) (hc : ∀ (i : Nat) (h : i < c.n.length), W.cell? ⟨g, i, none⟩ = some (.int .i64 (c.n[i] : Int))) (hgn : ¬ b.has p g) :
    Calls Tryz.prog 44 #[.pointer (some ⟨p, 0, none⟩), cmdV c.who c.r c.d (.slice (some ⟨g, 0, none⟩) c.n.length cap) c.mc] W fun e w' => DoT p b (Mk.bookM M c) W e w' := by
  by_cases hp : plainW c.d = true
  · have e : Mk.bookM M c = Mk.acctM M c := by
      unfold Mk.bookM
      split <;> first | rfl | (rename_i h; rw [h] at hp; cases hp)
    rw [e]
    exact acct_does p b M c hM.fine hok hp W g cap hR hc
  have hcell : ∀ i, i < c.n.length → W.cell? ⟨g, i, none⟩ = some (.int .i64 (Mk.nth c.n i : Int)) := fun i hi => by rw [Mk.nth_at hi]; exact hc i hi
  obtain ⟨who, r, d, n, mc⟩ := c
  have hw : who < 4 := hok.who
  have hlen : n.length = d.lo.length := hok.len
  have hnum : ∀ i, i < n.length → Mk.nth d.lo i ≤ Mk.nth n i ∧ Mk.nth n i ≤ Mk.nth d.hi i := hok.num
  have hcell' : ∀ i, i < n.length → W.cell? ⟨g, i, none⟩ = some (.int .i64 (Mk.nth n i : Int)) := hcell
  cases d
  case buy =>
    have hl : n.length = 3 := hlen
    have q0 := (hnum 0 (by omega)).2
    have q1 := hnum 1 (by omega)
    have q2 := hnum 2 (by omega)
    have e0 : Mk.nth (Mk.Wd.hi .buy) 0 = 1 := rfl
    have e1 : Mk.nth (Mk.Wd.hi .buy) 1 = 99 := rfl
    have e2 : Mk.nth (Mk.Wd.hi .buy) 2 = 20 := rfl
    have e3 : Mk.nth (Mk.Wd.lo .buy) 1 = 1 := rfl
    have e4 : Mk.nth (Mk.Wd.lo .buy) 2 = 1 := rfl
    show Calls Tryz.prog 44 #[.pointer (some ⟨p, 0, none⟩), cmdV who r .buy (.slice (some ⟨g, 0, none⟩) n.length cap) mc] W fun e w' => DoT p b (Mk.orderM M (Mk.nth n 0) who ⟨false, (Mk.nth n 1 : Int), (Mk.nth n 2 : Int)⟩) W e w'
    rw [hl]
    exact does_buy p g cap b M who (Mk.nth n 0) r _ _ mc W hM.fine hR hw (by omega) ⟨by omega, by omega⟩ ⟨by omega, by omega⟩ (hM.cm _ (by omega)) (hcell' 0 (by omega)) (hcell' 1 (by omega)) (hcell' 2 (by omega))
  case sell =>
    have hl : n.length = 3 := hlen
    have q0 := (hnum 0 (by omega)).2
    have q1 := hnum 1 (by omega)
    have q2 := hnum 2 (by omega)
    have e0 : Mk.nth (Mk.Wd.hi .sell) 0 = 1 := rfl
    have e1 : Mk.nth (Mk.Wd.hi .sell) 1 = 99 := rfl
    have e2 : Mk.nth (Mk.Wd.hi .sell) 2 = 20 := rfl
    have e3 : Mk.nth (Mk.Wd.lo .sell) 1 = 1 := rfl
    have e4 : Mk.nth (Mk.Wd.lo .sell) 2 = 1 := rfl
    show Calls Tryz.prog 44 #[.pointer (some ⟨p, 0, none⟩), cmdV who r .sell (.slice (some ⟨g, 0, none⟩) n.length cap) mc] W fun e w' => DoT p b (Mk.orderM M (Mk.nth n 0) who ⟨true, (Mk.nth n 1 : Int), (Mk.nth n 2 : Int)⟩) W e w'
    rw [hl]
    exact does_sell p g cap b M who (Mk.nth n 0) r _ _ mc W hM.fine hR hw (by omega) ⟨by omega, by omega⟩ ⟨by omega, by omega⟩ (hM.cm _ (by omega)) (hcell' 0 (by omega)) (hcell' 1 (by omega)) (hcell' 2 (by omega))
  case drop =>
    have hl : n.length = 2 := hlen
    have q0 := (hnum 0 (by omega)).2
    have e0 : Mk.nth (Mk.Wd.hi .drop) 0 = 1 := rfl
    show Calls Tryz.prog 44 #[.pointer (some ⟨p, 0, none⟩), cmdV who r .drop (.slice (some ⟨g, 0, none⟩) n.length cap) mc] W fun e w' => DoT p b (⟨#[]⟩, (Mk.dropM M (Mk.nth n 0) who (Mk.nth n 1 : Int)).1, (Mk.dropM M (Mk.nth n 0) who (Mk.nth n 1 : Int)).2) W e w'
    rw [hl]
    exact does_drop p g cap b M who (Mk.nth n 0) r _ mc W hM hR hw (by omega) (hcell' 0 (by omega)) (hcell' 1 (by omega)) hgn
  case close => cases hd
  all_goals exact absurd rfl hp

/-- what the program does at a command -/
theorem book_carry (p : Nat) (vb : Nat → Value) (M : Mk.Mkt) (c : Mk.Cmd) (hM : Mk.Sound M) (hok : c.Ok) (hd : noClose c.d = true) (W : World) (hP : PM W p vb M) (hT : Tab W) :
    Calls Tryz.prog 46 #[.pointer (some ⟨p, 0, none⟩), reqV c] W fun e w' => PDoT p vb (Mk.bookM M c) W e w' := by
  by_cases hp : plainW c.d = true
  · have e : Mk.bookM M c = Mk.acctM M c := by
      unfold Mk.bookM
      split <;> first | rfl | (rename_i h; rw [h] at hp; cases hp)
    rw [e]
    exact acct_carry p vb M c hM.fine hok hp W hP
  obtain ⟨who, r, d, n, mc⟩ := c
  have hw : who < 4 := hok.who
  have hlen : n.length = d.lo.length := hok.len
  have hnum : ∀ i, i < n.length → Mk.nth d.lo i ≤ Mk.nth n i ∧ Mk.nth n i ≤ Mk.nth d.hi i := hok.num
  cases d
  case buy =>
    have hl : n.length = 3 := hlen
    have q0 := (hnum 0 (by omega)).2
    have q1 := hnum 1 (by omega)
    have q2 := hnum 2 (by omega)
    have e0 : Mk.nth (Mk.Wd.hi .buy) 0 = 1 := rfl
    have e1 : Mk.nth (Mk.Wd.hi .buy) 1 = 99 := rfl
    have e2 : Mk.nth (Mk.Wd.hi .buy) 2 = 20 := rfl
    have e3 : Mk.nth (Mk.Wd.lo .buy) 1 = 1 := rfl
    have e4 : Mk.nth (Mk.Wd.lo .buy) 2 = 1 := rfl
    exact carry_buy p vb M who r (Mk.nth n 0) _ (Mk.nth n 1 : Int) (Mk.nth n 2 : Int) _ mc W hM.fine hP hw (by omega) ⟨by omega, by omega⟩ ⟨by omega, by omega⟩ (hM.cm _ (by omega)) hT
  case sell =>
    have hl : n.length = 3 := hlen
    have q0 := (hnum 0 (by omega)).2
    have q1 := hnum 1 (by omega)
    have q2 := hnum 2 (by omega)
    have e0 : Mk.nth (Mk.Wd.hi .sell) 0 = 1 := rfl
    have e1 : Mk.nth (Mk.Wd.hi .sell) 1 = 99 := rfl
    have e2 : Mk.nth (Mk.Wd.hi .sell) 2 = 20 := rfl
    have e3 : Mk.nth (Mk.Wd.lo .sell) 1 = 1 := rfl
    have e4 : Mk.nth (Mk.Wd.lo .sell) 2 = 1 := rfl
    exact carry_sell p vb M who r (Mk.nth n 0) _ (Mk.nth n 1 : Int) (Mk.nth n 2 : Int) _ mc W hM.fine hP hw (by omega) ⟨by omega, by omega⟩ ⟨by omega, by omega⟩ (hM.cm _ (by omega)) hT
  case drop =>
    have hl : n.length = 2 := hlen
    have q0 := (hnum 0 (by omega)).2
    have e0 : Mk.nth (Mk.Wd.hi .drop) 0 = 1 := rfl
    exact carry_drop p vb M who r (Mk.nth n 0) _ _ _ (Mk.nth n 1 : Int) mc W hM hP hw (by omega)
  case close => cases hd
  all_goals exact absurd rfl hp

/-- a market after k commands -/
structure BInv (M : Mk.Mkt) (k : Nat) : Prop where
  well : Well M k
  sound : Mk.Sound M
theorem do_sound {M : Mk.Mkt} {X : Mk.Cmd → ByteArray × Int × Mk.Mkt} (s : ByteArray) (h : Mk.Sound M) (hX : ∀ c, Mk.readP s = some c → Mk.Sound (X c).2.2) : Mk.Sound (Mk.doM X M s).2.2 := by
  unfold Mk.doM
  cases hr : Mk.readP s with
  | none => exact h
  | some c =>
    show Mk.Sound (if (c.r : Int) = M.ls c.who then (M.tx c.who, M.er c.who, M) else if (c.r : Int) < M.ls c.who then (⟨#[]⟩, 3, M) else if M.ls c.who + 1 < (c.r : Int) then (⟨#[]⟩, 4, M) else ((X c).1, (X c).2.1, { (X c).2.2 with ls := upd (X c).2.2.ls c.who c.r, tx := upd (X c).2.2.tx c.who (X c).1, er := upd (X c).2.2.er c.who (X c).2.1, disk := (X c).2.2.disk ++ Mk.frame s ++ s }) : ByteArray × Int × Mk.Mkt).2.2
    split
    · exact h
    · split
      · exact h
      · split
        · exact h
        · exact (hX c hr).rest _ _ _ _

def bookOk (t : ByteArray) : Prop := ∀ c, Mk.readP t = some c → noClose c.d = true
theorem book_doing : Doing (fun M s => Mk.doM (Mk.bookM M) M s) BInv bookOk where
  fine := fun _ _ h => h.well.fine
  new := ⟨new_well, new_sound⟩
  up := fun _ _ h => ⟨⟨h.well.fine, h.well.ls, by have := h.well.disk; omega⟩, h.sound⟩
  step := fun M k s h _ => ⟨do_well s h.well (fun c hc => ⟨(book_sound h.sound (Mk.read_ok hc).1).fine, (book_ls M c).1, (book_ls M c).2⟩), do_sound s h.sound (fun c hc => book_sound h.sound (Mk.read_ok hc).1)⟩
  p := fun p vb M k s w h hk hs ho hP hT => pdo_any2 p vb M s w (Mk.bookM M) h.well.ls hP (fun c hc _ W hb hW => book_carry p vb M c h.sound (Mk.read_ok hc).1 (ho c hc) W hW (hT.next hb))
  r := fun p b M k s w h hk hs ho hR => do_any2 p b M s w (Mk.bookM M) h.well.ls (by have := h.well.disk; omega) (by omega) hR (fun c hc _ => ⟨(book_ls M c).2, fun W g cap hW hn hgn => book_does p b M c h.sound (Mk.read_ok hc).1 (ho c hc) W g cap hW hn hgn⟩)

/-- the word that Books leaves out -/
def bookWs : List ByteArray := [⟨#[99, 108, 111, 115, 101]⟩]
theorem book_words (t : ByteArray) (h : Mk.hasAny t bookWs = false) : bookOk t := by
  intro c hc
  have hh := Mk.read_has hc
  unfold Mk.hasAny at h
  rw [List.any_eq_false] at h
  have each : ∀ x ∈ bookWs, Mk.has t x = false := fun x hx => by have := h x hx; simpa using this
  cases hd : c.d
  case close =>
    rw [hd] at hh
    have := each (Mk.Wd.text .close) (by simp [bookWs, Mk.Wd.text])
    rw [hh] at this
    cases this
  all_goals rfl

set_option maxRecDepth 100000 in
set_option maxHeartbeats 1000000 in
theorem books_law (a : Option Addr) (cap : Nat) (l : List OpD) (w : World) (hf : ∀ x ∈ l, x.Fits) (hR : RdOps w a l) (hT : Tab w) :
    Calls Tryz.prog 5 #[.slice a l.length cap] w fun e w' => e = .returned (.bool true) ∧ Below w.heap.size w w' := by
  have HF : Hid (∀ x ∈ l, x.Fits) := hf
  have HB : Hid (∀ ob, Below w.heap.size w (w.alloc ob)) := fun ob => (Below.refl _ _).alloc (Nat.le_refl _) ob
  have HR : Hid (∀ ob, RdOps (w.alloc ob) a l) := fun ob => hR.below (HB.out ob)
  have HT : Hid (∀ ob, Tab (w.alloc ob)) := fun ob => hT.next (HB.out ob)
  clear hf hR hT
  go_enter Tryz.func5, Tryz.ntmps5
  go_wp2_with fail
  refine (plays_markets book_doing a cap w.heap.size 1 bookWs l _ HF.out (HR.out _) (HT.out _) (by decide) (by decide) ?_ (by simp) book_words).mono ?_
  · intro i hi
    match i, hi with
    | 0, _ => simp [Mk.wordAt, bookWs]
  · rintro e w1 ⟨rfl, hb1⟩
    have HB1 : Hid (Below w.heap.size w w1) := (HB.out _).trans (hb1.mono (by simp))
    clear hb1
    go_wp2
    go_ret
    exact ⟨rfl, HB1.out⟩

end Go.Proofs.YtljeahgpkeohlaaGreatDoor

namespace Go.Proofs.YtljeahgpkeohlaaGreatDoor
open Go.ChangeShapes Go.WideShapes Go.ChangeAt Go.RowKit Go.Deep

theorem wt_close1 : ((Mk.Wd.text .close).toList == [112, 97, 121]) = false := by simp [Mk.Wd.text]
theorem wt_close2 : ((Mk.Wd.text .close).toList == [100, 114, 97, 119]) = false := by simp [Mk.Wd.text]
theorem wt_close3 : ((Mk.Wd.text .close).toList == [98, 114, 105, 110, 103]) = false := by simp [Mk.Wd.text]
theorem wt_close4 : ((Mk.Wd.text .close).toList == [102, 101, 116, 99, 104]) = false := by simp [Mk.Wd.text]
theorem wt_close5 : ((Mk.Wd.text .close).toList == [98, 117, 121]) = false := by simp [Mk.Wd.text]
theorem wt_close6 : ((Mk.Wd.text .close).toList == [115, 101, 108, 108]) = false := by simp [Mk.Wd.text]
theorem wt_close7 : ((Mk.Wd.text .close).toList == [100, 114, 111, 112]) = false := by simp [Mk.Wd.text]
theorem wt_close8 : ((Mk.Wd.text .close).toList == [109, 111, 100, 101]) = false := by simp [Mk.Wd.text]

set_option maxRecDepth 100000 in
set_option maxHeartbeats 2000000 in
theorem does_close (p g cap : Nat) (b : RB) (M : Mk.Mkt) (who v : Nat) (r : Int) (mc : Bool) (w : World) (hS : Mk.Sound M) (h1 : Mk.One M) (hR : Ref w p b M) (hv : v < 2) (g0 : w.cell? ⟨g, 0, none⟩ = some (.int .i64 (v : Int))) :
    Calls Tryz.prog 44 #[.pointer (some ⟨p, 0, none⟩), cmdV who r .close (.slice (some ⟨g, 0, none⟩) 1 cap) mc] w fun e w' => DoT p b ((Mk.shutM M v).1, 0, (Mk.shutM M v).2) w e w' := by
  have HS : Hid (Mk.Sound M) := hS
  have HO1 : Hid (Mk.One M) := h1
  have HR : Hid (Ref w p b M) := hR
  have hgl := blk_lt g0
  have HB : Hid (∀ ob, Below w.heap.size w (w.alloc ob)) := fun ob => (Below.refl _ _).alloc (Nat.le_refl _) ob
  have t0 := wt_close1
  have t1 := wt_close2
  have t2 := wt_close3
  have t3 := wt_close4
  have t4 := wt_close5
  have t5 := wt_close6
  have t6 := wt_close7
  have t7 := wt_close8
  clear hS h1 hR
  go_enter Tryz.func44, Tryz.ntmps44
  go_wp2_with fail
  refine (shut_any p b M v _ HS.out HO1.out (HR.out.below (HB.out _)) hv).mono ?_
  rintro e w2 ⟨rfl, hD⟩
  have HD : Hid (DoT p b ((Mk.shutM M v).1, 0, (Mk.shutM M v).2) w (.returned (.tuple #[.string (Mk.shutM M v).1, .int .i64 0])) w2) := doT_next (HB.out _) ⟨rfl, hD⟩
  clear hD
  go_wp2_with fail
  refine bodyPost_ret (v := .tuple #[.string (Mk.shutM M v).1, .int .i64 0]) ?_ rfl HD.out
  simp [results, Tryz.results44, go_sem]

/-- every command -/
def Mk.allM (M : Mk.Mkt) (c : Mk.Cmd) : ByteArray × Int × Mk.Mkt :=
  match c.d with
  | .close => ((Mk.shutM M (Mk.nth c.n 0)).1, 0, (Mk.shutM M (Mk.nth c.n 0)).2)
  | _ => Mk.bookM M c
theorem all_book {M : Mk.Mkt} {c : Mk.Cmd} (h : noClose c.d = true) : Mk.allM M c = Mk.bookM M c := by
  unfold Mk.allM
  split
  · rename_i e; rw [e] at h; cases h
  · rfl
theorem all_close {M : Mk.Mkt} {c : Mk.Cmd} (h : c.d = .close) : Mk.allM M c = ((Mk.shutM M (Mk.nth c.n 0)).1, 0, (Mk.shutM M (Mk.nth c.n 0)).2) := by
  unfold Mk.allM
  rw [h]
theorem close_or (d : Mk.Wd) : d = .close ∨ noClose d = true := by cases d <;> first | exact .inl rfl | exact .inr rfl
theorem close_v {c : Mk.Cmd} (hok : c.Ok) (h : c.d = .close) : Mk.nth c.n 0 < 2 ∧ c.n.length = 1 := by
  obtain ⟨who, r, d, n, mc⟩ := c
  obtain rfl : d = .close := h
  have hlen : n.length = 1 := hok.len
  have q := (hok.num 0 (show 0 < n.length by omega)).2
  have e : Mk.nth (Mk.Wd.hi .close) 0 = 1 := rfl
  exact ⟨show Mk.nth n 0 < 2 from by have q' : Mk.nth n 0 ≤ Mk.nth (Mk.Wd.hi .close) 0 := q; omega, hlen⟩
theorem acct_one {M : Mk.Mkt} {c : Mk.Cmd} (h : Mk.One M) : Mk.One (Mk.acctM M c).2.2 := by
  unfold Mk.acctM
  split
  · unfold Mk.payM; split <;> exact h
  · unfold Mk.drawM; split <;> exact h
  · unfold Mk.bringM; split <;> exact h
  · unfold Mk.fetchM; split <;> exact h
  · exact h.mode _ _
  · exact h
theorem book_one {M : Mk.Mkt} {c : Mk.Cmd} (h : Mk.One M) : Mk.One (Mk.bookM M c).2.2 := by
  unfold Mk.bookM
  split
  · exact h.order _
  · exact h.order _
  · exact h.drop _
  · exact acct_one h
theorem all_sound {M : Mk.Mkt} {c : Mk.Cmd} (h : Mk.Sound M) (h1 : Mk.One M) (hok : c.Ok) : Mk.Sound (Mk.allM M c).2.2 := by
  rcases close_or c.d with e | e
  · rw [all_close e]; exact h.shut h1 (close_v hok e).1
  · rw [all_book e]; exact book_sound h hok
theorem all_one {M : Mk.Mkt} {c : Mk.Cmd} (h : Mk.Sound M) (h1 : Mk.One M) (hok : c.Ok) : Mk.One (Mk.allM M c).2.2 := by
  rcases close_or c.d with e | e
  · rw [all_close e]; exact Mk.One.shut h h1 (close_v hok e).1
  · rw [all_book e]; exact book_one h1
theorem all_ls {M : Mk.Mkt} {c : Mk.Cmd} (h : Mk.Sound M) (h1 : Mk.One M) (hok : c.Ok) : (Mk.allM M c).2.2.ls = M.ls ∧ (Mk.allM M c).2.2.disk = M.disk := by
  rcases close_or c.d with e | e
  · rw [all_close e]
    have := shut_same M h h1 (close_v hok e).1
    exact ⟨this.1, this.2.1⟩
  · rw [all_book e]; exact book_ls M c

/-- what the document does at any command -/
theorem all_does (p : Nat) (b : RB) (M : Mk.Mkt) (c : Mk.Cmd) (hM : Mk.Sound M) (h1 : Mk.One M) (hok : c.Ok) (W : World) (g cap : Nat) (hR : Ref W p b M) (hc : ∀ (i : Nat) (h : i < c.n.length), W.cell? ⟨g, i, none⟩ = some (.int .i64 (c.n[i] : Int))) (hgn : ¬ b.has p g) :
    Calls Tryz.prog 44 #[.pointer (some ⟨p, 0, none⟩), cmdV c.who c.r c.d (.slice (some ⟨g, 0, none⟩) c.n.length cap) c.mc] W fun e w' => DoT p b (Mk.allM M c) W e w' := by
  rcases close_or c.d with e | e
  · rw [all_close e, e, (close_v hok e).2]
    have h0 : 0 < c.n.length := by rw [(close_v hok e).2]; omega
    have hc0 := hc 0 h0
    rw [← Mk.nth_at h0] at hc0
    exact does_close p g cap b M c.who (Mk.nth c.n 0) c.r c.mc W hM h1 hR (close_v hok e).1 hc0
  · rw [all_book e]
    exact book_does p b M c hM hok e W g cap hR hc hgn

/-- a market after k commands of any kind -/
structure AInv (M : Mk.Mkt) (k : Nat) : Prop where
  well : Well M k
  sound : Mk.Sound M
  one : Mk.One M
theorem do_one {M : Mk.Mkt} {X : Mk.Cmd → ByteArray × Int × Mk.Mkt} (s : ByteArray) (h : Mk.One M) (hX : ∀ c, Mk.readP s = some c → Mk.One (X c).2.2) : Mk.One (Mk.doM X M s).2.2 := by
  unfold Mk.doM
  cases hr : Mk.readP s with
  | none => exact h
  | some c =>
    show Mk.One (if (c.r : Int) = M.ls c.who then (M.tx c.who, M.er c.who, M) else if (c.r : Int) < M.ls c.who then (⟨#[]⟩, 3, M) else if M.ls c.who + 1 < (c.r : Int) then (⟨#[]⟩, 4, M) else ((X c).1, (X c).2.1, { (X c).2.2 with ls := upd (X c).2.2.ls c.who c.r, tx := upd (X c).2.2.tx c.who (X c).1, er := upd (X c).2.2.er c.who (X c).2.1, disk := (X c).2.2.disk ++ Mk.frame s ++ s }) : ByteArray × Int × Mk.Mkt).2.2
    split
    · exact h
    · split
      · exact h
      · split
        · exact h
        · exact hX c hr
theorem all_new : AInv Mk.Mkt.new 0 := ⟨new_well, new_sound, fun _ _ h => by cases h⟩
theorem all_step {M : Mk.Mkt} {k : Nat} (s : ByteArray) (h : AInv M k) : AInv (Mk.doM (Mk.allM M) M s).2.2 (k + 1) :=
  ⟨do_well s h.well (fun _ hc => ⟨(all_sound h.sound h.one (Mk.read_ok hc).1).fine, (all_ls h.sound h.one (Mk.read_ok hc).1).1, (all_ls h.sound h.one (Mk.read_ok hc).1).2⟩), do_sound s h.sound (fun _ hc => all_sound h.sound h.one (Mk.read_ok hc).1), do_one s h.one (fun _ hc => all_one h.sound h.one (Mk.read_ok hc).1)⟩

end Go.Proofs.YtljeahgpkeohlaaGreatDoor

namespace Go.Proofs.YtljeahgpkeohlaaGreatDoor
open Go.RowKit

/-- the program closes a batch as the document does -/
def CloseOk : Prop := ∀ (p : Nat) (vb : Nat → Value) (M : Mk.Mkt) (c : Mk.Cmd) (W : World), Mk.Sound M → Mk.One M → c.Ok → c.d = .close → PM W p vb M → Tab W →
  Calls Tryz.prog 46 #[.pointer (some ⟨p, 0, none⟩), reqV c] W fun e w' => PDoT p vb ((Mk.shutM M (Mk.nth c.n 0)).1, 0, (Mk.shutM M (Mk.nth c.n 0)).2) W e w'
theorem all_carry (hC : CloseOk) (p : Nat) (vb : Nat → Value) (M : Mk.Mkt) (c : Mk.Cmd) (hM : Mk.Sound M) (h1 : Mk.One M) (hok : c.Ok) (W : World) (hP : PM W p vb M) (hT : Tab W) :
    Calls Tryz.prog 46 #[.pointer (some ⟨p, 0, none⟩), reqV c] W fun e w' => PDoT p vb (Mk.allM M c) W e w' := by
  rcases close_or c.d with e | e
  · rw [all_close e]; exact hC p vb M c W hM h1 hok e hP hT
  · rw [all_book e]; exact book_carry p vb M c hM hok e W hP hT
theorem all_dos (hC : CloseOk) (p : Nat) (vb : Nat → Value) (M : Mk.Mkt) (k : Nat) (s : ByteArray) (w : World) (h : AInv M k) (hP : PM w p vb M) (hT : Tab w) :
    Calls Tryz.prog 27 #[.pointer (some ⟨p, 0, none⟩), .string s] w fun e w' => PDoT p vb (Mk.doM (Mk.allM M) M s) w e w' :=
  pdo_any2 p vb M s w (Mk.allM M) h.well.ls hP (fun c hc _ W hb hW => all_carry hC p vb M c h.sound h.one (Mk.read_ok hc).1 W hW (hT.next hb))

end Go.Proofs.YtljeahgpkeohlaaGreatDoor
