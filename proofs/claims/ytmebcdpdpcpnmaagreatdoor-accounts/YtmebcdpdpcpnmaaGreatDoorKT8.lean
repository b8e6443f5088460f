import Derived.Test.YtmebcdpdpcpnmaaGreatDoorKT7
import Derived.Test.YtmebcdpdpcpnmaaGreatDoorKL9a
import Derived.Test.YtmebcdpdpcpnmaaGreatDoorTie
import Derived.Test.YtmebcdpdpcpnmaaGreatDoorCards
import Derived.ProofKit
import Derived.LaidMore
import Derived.Stop.Joined
import Derived.Lib.LaidTab
namespace Go.Proofs.YtmebcdpdpcpnmaaGreatDoor
open Go.ChangeShapes Go.WideShapes Go.ChangeAt Go.RowKit Go.Deep

/-- carryOut, of the program, at a word that wants no order -/
theorem acct_carry (p : Nat) (vb : Nat → Value) (M : Mk.Mkt) (c : Mk.Cmd) (hM : M.Fine) (hok : c.Ok) (hd : plainW c.d = true) (W : World) (hP : PM W p vb M) :
    Calls Tryz.prog 78 #[.pointer (some ⟨p, 0, none⟩), reqV c] W fun e w' => PDoT p vb (Mk.acctM M c) W e w' := by
  obtain ⟨who, r, d, n, mc⟩ := c
  have hw : who < 4 := hok.who
  have hlen : n.length = d.lo.length := hok.len
  have hnum : ∀ i, i < n.length → Mk.nth d.lo i ≤ Mk.nth n i ∧ Mk.nth n i ≤ Mk.nth d.hi i := hok.num
  cases d
  case pay =>
    have h0 : 0 < n.length := by rw [hlen]; decide
    have q := (hnum 0 h0).2
    have e : Mk.nth (Mk.Wd.hi .pay) 0 = 9999 := rfl
    exact carry_pay p vb M who r _ (Mk.nth n 0 : Int) _ _ _ mc W hM hP hw ⟨by omega, by omega⟩
  case draw =>
    have h0 : 0 < n.length := by rw [hlen]; decide
    have q := (hnum 0 h0).2
    have e : Mk.nth (Mk.Wd.hi .draw) 0 = 9999 := rfl
    exact carry_draw p vb M who r _ (Mk.nth n 0 : Int) _ _ _ mc W hM hP hw ⟨by omega, by omega⟩
  case bring =>
    have h0 : 0 < n.length := by rw [hlen]; decide
    have h1 : 1 < n.length := by rw [hlen]; decide
    have q := (hnum 0 h0).2
    have q1 := (hnum 1 h1).2
    have e : Mk.nth (Mk.Wd.hi .bring) 0 = 1 := rfl
    have e1 : Mk.nth (Mk.Wd.hi .bring) 1 = 999 := rfl
    exact carry_bring p vb M who r (Mk.nth n 0) (Mk.nth n 1 : Int) _ _ _ mc W hM hP hw (by omega) ⟨by omega, by omega⟩
  case fetch =>
    have h0 : 0 < n.length := by rw [hlen]; decide
    have h1 : 1 < n.length := by rw [hlen]; decide
    have q := (hnum 0 h0).2
    have q1 := (hnum 1 h1).2
    have e : Mk.nth (Mk.Wd.hi .fetch) 0 = 1 := rfl
    have e1 : Mk.nth (Mk.Wd.hi .fetch) 1 = 999 := rfl
    exact carry_fetch p vb M who r (Mk.nth n 0) (Mk.nth n 1 : Int) _ _ _ mc W hM hP hw (by omega) ⟨by omega, by omega⟩
  case mode =>
    have h0 : 0 < n.length := by rw [hlen]; decide
    have q := (hnum 0 h0).2
    have e : Mk.nth (Mk.Wd.hi .mode) 0 = 1 := rfl
    exact carry_mode p vb M who r (Mk.nth n 0) _ _ _ _ mc W hM hP (by omega)
  all_goals cases hd

def acctOk (t : ByteArray) : Prop := ∀ c, Mk.readP t = some c → plainW c.d = true
/-- what is done does not hang on the log -/
theorem acct_onto (M : Mk.Mkt) (d : ByteArray) (c : Mk.Cmd) : Mk.acctM (Mk.onto M d) c = ((Mk.acctM M c).1, (Mk.acctM M c).2.1, Mk.onto (Mk.acctM M c).2.2 d) := by
  unfold Mk.acctM
  cases c.d
  · show (_, Mk.payM _ _ _) = _
    unfold Mk.payM
    dsimp only
    split <;> rfl
  · show (_, Mk.drawM _ _ _) = _
    unfold Mk.drawM
    dsimp only
    split <;> rfl
  · show (_, Mk.bringM _ _ _ _) = _
    unfold Mk.bringM
    dsimp only
    split <;> rfl
  · show (_, Mk.fetchM _ _ _ _) = _
    unfold Mk.fetchM
    dsimp only
    split <;> rfl
  case mode =>
    show (_, Mk.modeM _ _ _) = _
    unfold Mk.modeM
    dsimp only
    split <;> rfl
  all_goals rfl
theorem acct_doing : Doing (fun M s => Mk.doM (Mk.acctM M) M s) Well acctOk where
  fine := fun _ _ h => h.fine
  new := new_well
  up := fun _ _ h => ⟨h.fine, h.ls, by have := h.disk; omega⟩
  step := fun _ _ s h _ => acct_well s h
  p := fun p vb M k s w h hk hs ho hP hT => pdo_any2 p vb M s w (Mk.acctM M) h.ls (by have := h.disk; omega) hP hT (fun c hc _ => ⟨acct_disk M c, fun d W hW _ => by rw [← acct_onto]; exact acct_carry p vb (Mk.onto M d) c (fine_onto h.fine d) (Mk.read_ok hc).1 (ho c hc) W hW⟩)
  r := fun p b M k s w h hk hs ho hR => acct_do p b M k s w h (by omega) (by omega) hR ho

/-- the words that Accounts leaves out -/
def acctWs : List ByteArray := [⟨#[98, 117, 121]⟩, ⟨#[115, 101, 108, 108]⟩, ⟨#[100, 114, 111, 112]⟩, ⟨#[109, 111, 100, 101]⟩, ⟨#[99, 108, 111, 115, 101]⟩]
theorem acct_words (t : ByteArray) (h : Mk.hasAny t acctWs = false) : acctOk t := by
  intro c hc
  have hh := Mk.read_has hc
  unfold Mk.hasAny at h
  rw [List.any_eq_false] at h
  have each : ∀ x ∈ acctWs, Mk.has t x = false := fun x hx => by have := h x hx; simpa using this
  cases hd : c.d
  case pay => rfl
  case draw => rfl
  case bring => rfl
  case fetch => rfl
  case mode => rfl
  case buy =>
    rw [hd] at hh
    have := each (Mk.Wd.text .buy) (by simp [acctWs, Mk.Wd.text])
    rw [hh] at this
    cases this
  case sell =>
    rw [hd] at hh
    have := each (Mk.Wd.text .sell) (by simp [acctWs, Mk.Wd.text])
    rw [hh] at this
    cases this
  case drop =>
    rw [hd] at hh
    have := each (Mk.Wd.text .drop) (by simp [acctWs, Mk.Wd.text])
    rw [hh] at this
    cases this
  case close =>
    rw [hd] at hh
    have := each (Mk.Wd.text .close) (by simp [acctWs, Mk.Wd.text])
    rw [hh] at this
    cases this

set_option maxRecDepth 100000 in
set_option maxHeartbeats 1000000 in
theorem accounts_law (a : Option Addr) (cap : Nat) (l : List OpD) (w : World) (hf : ∀ x ∈ l, x.Fits) (hR : RdOps w a l) (hT : Tab w) :
    Calls Tryz.prog 4 #[.slice a l.length cap] w fun e w' => e = .returned (.bool true) ∧ Below w.heap.size w w' := by
  have HF : Hid (∀ x ∈ l, x.Fits) := hf
  have HB : Hid (∀ ob, Below w.heap.size w (w.alloc ob)) := fun ob => (Below.refl _ _).alloc (Nat.le_refl _) ob
  have HR : Hid (∀ ob, RdOps (w.alloc ob) a l) := fun ob => hR.below (HB.out ob)
  have HT : Hid (∀ ob, Tab (w.alloc ob)) := fun ob => hT.next (HB.out ob)
  clear hf hR hT
  go_enter Tryz.func4, Tryz.ntmps4
  go_wp2_with fail
  refine (plays_markets acct_doing a cap w.heap.size 5 acctWs l _ HF.out (HR.out _) (HT.out _) (by decide) (by decide) ?_ (by simp) acct_words).mono ?_
  · intro i hi
    match i, hi with
    | 0, _ => simp [Mk.wordAt, acctWs]
    | 1, _ => simp [Mk.wordAt, acctWs]
    | 2, _ => simp [Mk.wordAt, acctWs]
    | 3, _ => simp [Mk.wordAt, acctWs]
    | 4, _ => simp [Mk.wordAt, acctWs]
  · rintro e w1 ⟨rfl, hb1⟩
    have HB1 : Hid (Below w.heap.size w w1) := (HB.out _).trans (hb1.mono (by simp))
    clear hb1
    go_wp2
    go_ret
    exact ⟨rfl, HB1.out⟩

theorem Tryz.ownZ : ownKnob Tryz.prog.godebug = none := by kernel_rfl
theorem Tryz.gTab : Tryz.prog.globalNamed "internal/strconv.uint64pow10" = some 0 := by kernel_rfl
theorem Tryz.tTab : (Tryz.prog.globals[0]?).map (·.type) = some 192 := by kernel_rfl
theorem Tryz.dTab : (Rows.laid_internal_strconv_uint64pow10 : DataW Unit) = Lib.tabData .u64 Lib.pow10Tab := by kernel_rfl
/-- the tables that lie there when a call begins: every row's list -/
abbrev laidAll : List (String × DataW Unit) := [("math/bits.deBruijn32tab", Rows.laid_math_bits_deBruijn32tab), ("math/bits.deBruijn64tab", Rows.laid_math_bits_deBruijn64tab), ("internal/strconv.uint64pow10", Rows.laid_internal_strconv_uint64pow10)]
/-- what the condition gives: the table -/
theorem tab_of_laid {W : World} (h : laidMetH Tryz.prog laidAll W) : Tab W := by
  rw [MakeChecks.laidMetH_plain _ _ _ (by kernel_rfl)] at h
  obtain ⟨ps, ⟨g0, t0, cs0, f0, p0, q0, hg0, ht0, hv0, hd0, ⟨g1, t1, cs1, f1, p1, q1, hg1, ht1, hv1, hd1, ⟨g2, t2, cs2, f2, p2, q2, hg2, ht2, hv2, hd2, _, _⟩, _⟩, _⟩, _, _⟩ := h
  obtain rfl := Option.some.inj (Tryz.gTab.symm.trans hg2)
  obtain rfl := Option.some.inj (Tryz.tTab.symm.trans ht2)
  rw [Tryz.dTab] at hd2
  unfold Tab Lib.TabIs
  rw [hv2, ← Lib.cells_of_tab Tryz.underlying192 Tryz.underlying185 (by kernel_rfl) (by kernel_rfl) hd2]
/-- the heap that start-up leaves meets it -/
theorem door_met (os : Os) (args : Array Value) : laidMetH Tryz.prog laidAll ((World.doorLaid Tryz.prog 400 os).forCall (fun _ _ => 0) ⟨#[], args, []⟩).memory :=
  laidMetH_of_parts3 (fuel := 8) (laidMet_of_run' 8 (by kernel_rfl) (by kernel_rfl)) (by kernel_rfl) (by kernel_rfl)

end Go.Proofs.YtmebcdpdpcpnmaaGreatDoor
