import Derived.Test.YtmebcdpdpcpnmaaGreatDoorJ33
import Derived.Test.YtmebcdpdpcpnmaaGreatDoorJ35
import Derived.SizedLaws
import Derived.OpenShut
import Derived.ChangeOld
import Derived.Below
import Derived.Test.YtmebcdpdpcpnmaaGreatDoorTie
import Derived.Test.YtmebcdpdpcpnmaaGreatDoorCards
import Derived.ProofKit
import Derived.LaidMore
import Derived.Stop.Joined
import Derived.Lib.LaidTab
import Derived.Test.YtmebcdpdpcpnmaaGreatDoorJ31
import Derived.Test.YtmebcdpdpcpnmaaGreatDoorJ32
namespace Go.Proofs.YtmebcdpdpcpnmaaGreatDoor
open Go.ChangeShapes Go.WideShapes Go.ChangeAt Go.RowKit Go.Deep

theorem Tryz.bytesOrd : Tryz.prog.bytesOf 123 = 24 := by kernel_rfl
theorem Tryz.cellsOp : Tryz.prog.cellsOf 33 = 6 := by kernel_rfl
theorem Tryz.cellsStr : Tryz.prog.cellsOf 9 = 1 := by kernel_rfl
theorem Tryz.cellsOrders : Tryz.prog.cellsOf 31 = 1 := by kernel_rfl

theorem six {α : Type} {l : List α} (h : l.length = 6) : ∃ a b c d e f, l = [a, b, c, d, e, f] := by
  match l, h with
  | [a, b, c, d, e, f], _ => exact ⟨a, b, c, d, e, f, rfl⟩
theorem all_mem {H : Type} {P : Program} {e : TypeId} {ds : List (DataW H)} {d : DataW H} (h : d ∈ ds) (n : Nat) (hn : n ∈ d.weights P e) : n ∈ DataW.weightsAll P e ds := by
  induction ds with
  | nil => cases h
  | cons x r ih =>
    simp only [DataW.weightsAll, List.mem_append]
    rcases List.mem_cons.1 h with rfl | h
    · exact .inl hn
    · exact .inr (ih h)
theorem i64_bds {x : Int} (h : (Lit.int .i64 x).wf = true) : -9223372036854775808 ≤ x ∧ x ≤ 9223372036854775807 := by
  simp [Lit.wf, IntKind.min, IntKind.max, IntKind.signed, IntKind.bits] at h
  omega

section
variable {H : Type} {enc : TypeId × Value → H} {W : World} {base : Nat} {spare : Nat → Bool} {held : Bool}

/-- how many orders: within the reach -/
theorem reach_orders {fuel : Nat} {a0 : Option Addr} {len0 cap0 : Nat} {x : DataW H × List MemPlace} (h : DataW.trod enc Tryz.prog W base spare held fuel 31 [.slice a0 len0 cap0] = some x)
    (hz : ∀ q ∈ x.1.weights Tryz.prog 31, q ≤ reachBytes) : len0 ≤ 140737488355328 := by
  rcases open_slice Tryz.underlying31 h with ⟨hcs, _⟩ | ⟨a, len, cap, m, n, D, Pl, hcs, _, hl, hm, hmm, hx, _⟩
  · simp only [List.cons.injEq, and_true, Value.slice.injEq] at hcs
    obtain ⟨_, rfl, _⟩ := hcs
    omega
  · simp only [List.cons.injEq, and_true, Value.slice.injEq] at hcs
    obtain ⟨_, rfl, _⟩ := hcs
    rw [hx] at hz
    have h1 := hz ((((List.range len0).map D).length + ((List.range (m - len0)).map fun j => D (len0 + j)).length) * Tryz.prog.bytesOf 123) (by simp [DataW.weights, Tryz.underlying31])
    rw [Tryz.bytesOrd] at h1
    have hr : reachBytes < 140737488355328 := reachBytes_lt
    simp only [List.length_map, List.length_range] at h1
    omega

theorem trod_struct6 {P : Program} {t : TypeId} {f0 f1 f2 f3 f4 f5 : Field} {fuel : Nat} {cs : List Value} {x : DataW H × List MemPlace} (ht : P.underlying t = some (.struct #[f0, f1, f2, f3, f4, f5])) (h : DataW.trod enc P W base spare held fuel t cs = some x) :
    ∃ y0 y1 y2 y3 y4 y5 n, x.1 = .agg [y0.1, y1.1, y2.1, y3.1, y4.1, y5.1] ∧ cs.length = P.cellsOf t ∧ DataW.trod enc P W base spare held n f0.type ((cs.drop f0.offset).take (P.cellsOf f0.type)) = some y0 ∧
      DataW.trod enc P W base spare held n f1.type ((cs.drop f1.offset).take (P.cellsOf f1.type)) = some y1 ∧ DataW.trod enc P W base spare held n f2.type ((cs.drop f2.offset).take (P.cellsOf f2.type)) = some y2 ∧
      DataW.trod enc P W base spare held n f3.type ((cs.drop f3.offset).take (P.cellsOf f3.type)) = some y3 ∧ DataW.trod enc P W base spare held n f4.type ((cs.drop f4.offset).take (P.cellsOf f4.type)) = some y4 ∧
      DataW.trod enc P W base spare held n f5.type ((cs.drop f5.offset).take (P.cellsOf f5.type)) = some y5 := by
  obtain ⟨xs, n, _, rfl, hl, hlen, hf⟩ := DataW.trod_struct ht h
  match xs, hlen with
  | [y0, y1, y2, y3, y4, y5], _ => exact ⟨y0, y1, y2, y3, y4, y5, n, by simp, hl, by simpa using hf 0 f0 rfl, by simpa using hf 1 f1 rfl, by simpa using hf 2 f2 rfl, by simpa using hf 3 f3 rfl, by simpa using hf 4 f4 rfl, by simpa using hf 5 f5 rfl⟩

/-- one step, out of its reading -/
theorem open_op {n : Nat} {cs : List Value} {x : DataW H × List MemPlace} (h : DataW.trod enc Tryz.prog W base spare held n 33 cs = some x) (hz : ∀ q ∈ x.1.weights Tryz.prog 33, q ≤ reachBytes) :
    ∃ o : OpD, cs = [.int .i64 o.kind, .int .i64 o.m, .int .i64 o.a, .int .i64 o.b, .string o.s, .slice o.oa o.os.length o.cap] ∧ o.Fits ∧ Rd W o.oa o.os := by
  obtain ⟨y0, y1, y2, y3, y4, y5, m, hx1, hl, h0, h1, h2, h3, h4, h5⟩ := trod_struct6 Tryz.underlying33 h
  rw [Tryz.cellsOp] at hl
  obtain ⟨c0, c1, c2, c3, c4, c5, rfl⟩ := six hl
  simp only [Tryz.cellsInt, Tryz.cellsStr, Tryz.cellsOrders, List.drop_zero, List.drop_succ_cons, List.take_succ_cons, List.take_zero] at h0 h1 h2 h3 h4 h5
  rw [hx1] at hz
  obtain ⟨v0, e0, _, _⟩ := DataW.trod_int Tryz.underlying3 h0
  obtain ⟨v1, e1, _, w1⟩ := DataW.trod_int Tryz.underlying3 h1
  obtain ⟨v2, e2, _, w2⟩ := DataW.trod_int Tryz.underlying3 h2
  obtain ⟨v3, e3, _, w3⟩ := DataW.trod_int Tryz.underlying3 h3
  obtain ⟨s, e4, x4, _⟩ := DataW.trod_string Tryz.underlying9 h4
  obtain ⟨oa, olen, ocap, e5⟩ : ∃ oa olen ocap, c5 = .slice oa olen ocap := by
    rcases open_slice Tryz.underlying31 h5 with ⟨hcs, _⟩ | ⟨a, len, cap, _, _, _, _, hcs, _⟩
    · exact ⟨_, _, _, by simpa using hcs⟩
    · exact ⟨_, _, _, by simpa using hcs⟩
  subst e5
  obtain ⟨l, hlo, _, _, hRd⟩ := open_orders h5
  have hw : ∀ (j : Nat) (t : TypeId) (d : DataW H), ([3, 3, 3, 3, 9, 31] : List TypeId)[j]? = some t → ([y0.1, y1.1, y2.1, y3.1, y4.1, y5.1] : List (DataW H))[j]? = some d → ∀ q ∈ d.weights Tryz.prog t, q ≤ reachBytes := by
    intro j t d ht hd q hq
    refine hz q ?_
    simp only [DataW.weights, Tryz.underlying33]
    exact DataW.weights_mem_each (j := j) ht hd q hq
  have hr : reachBytes < 140737488355328 := reachBytes_lt
  have hs : s.size ≤ 140737488355328 := by
    have := hw 4 _ _ rfl rfl s.data.toList.length (by rw [x4]; simp [DataW.weights])
    have e : s.data.toList.length = s.size := Array.length_toList
    omega
  have ho := reach_orders h5 (hw 5 _ _ rfl rfl)
  simp only [List.cons.injEq, and_true] at e0 e1 e2 e3 e4
  subst hlo
  exact ⟨⟨v0, v1, v2, v3, s, oa, ocap, l⟩, by rw [e0, e1, e2, e3, e4], ⟨(i64_bds w2).1, (i64_bds w2).2, (i64_bds w3).1, (i64_bds w3).2, hs, ho, (i64_bds w1).1, (i64_bds w1).2⟩, hRd⟩

/-- the script, out of the argument's reading -/
theorem open_ops {fuel : Nat} {a0 : Option Addr} {len0 cap0 : Nat} {x : DataW H × List MemPlace} (h : DataW.trod enc Tryz.prog W base spare held fuel 22 [.slice a0 len0 cap0] = some x) (hz : ∀ q ∈ x.1.weights Tryz.prog 22, q ≤ reachBytes) :
    ∃ l : List OpD, l.length = len0 ∧ (∀ x ∈ l, x.Fits) ∧ RdOps W a0 l := by
  rcases open_slice Tryz.underlying22 h with ⟨hcs, _⟩ | ⟨a, len, cap, m, n, D, Pl, hcs, _, hl, hm, hmm, hxx, hx⟩
  · simp only [List.cons.injEq, and_true, Value.slice.injEq] at hcs
    obtain ⟨rfl, rfl, rfl⟩ := hcs
    exact ⟨[], rfl, by simp, .inl rfl⟩
  · simp only [List.cons.injEq, and_true, Value.slice.injEq] at hcs
    obtain ⟨rfl, rfl, rfl⟩ := hcs
    have hlm : len0 ≤ m := by rw [hmm]; split <;> omega
    rw [Tryz.cellsOp] at hx
    have each : ∀ i, i < len0 → ∃ q : OpD, (W.cell? (a.add (i * 6)) = some (.int .i64 q.kind) ∧ W.cell? (a.add (i * 6 + 1)) = some (.int .i64 q.m) ∧ W.cell? (a.add (i * 6 + 2)) = some (.int .i64 q.a) ∧ W.cell? (a.add (i * 6 + 3)) = some (.int .i64 q.b) ∧
        W.cell? (a.add (i * 6 + 4)) = some (.string q.s) ∧ W.cell? (a.add (i * 6 + 5)) = some (.slice q.oa q.os.length q.cap)) ∧ q.Fits ∧ Rd W q.oa q.os := by
      intro i hi
      obtain ⟨cs', h1, h2⟩ := hx i (by omega)
      have hzi : ∀ q ∈ (D i).weights Tryz.prog 33, q ≤ reachBytes := by
        intro q hq
        refine hz q ?_
        rw [hxx]
        simp only [DataW.weights, Tryz.underlying22, List.mem_cons, List.mem_append]
        exact .inr (.inl (all_mem (List.mem_map.2 ⟨i, List.mem_range.2 hi, rfl⟩) q hq))
      obtain ⟨o, rfl, hF, hRd⟩ := open_op h2 hzi
      obtain ⟨_, _, hcell⟩ := World.cells?_some h1
      have e0 := hcell 0 (by omega)
      have e1 := hcell 1 (by omega)
      have e2 := hcell 2 (by omega)
      have e3 := hcell 3 (by omega)
      have e4 := hcell 4 (by omega)
      have e5 := hcell 5 (by omega)
      rw [add_add] at e0 e1 e2 e3 e4 e5
      exact ⟨o, ⟨by simpa using e0, by simpa using e1, by simpa using e2, by simpa using e3, by simpa using e4, by simpa using e5⟩, hF, hRd⟩
    obtain ⟨q, hq⟩ := @choose_lt OpD ⟨⟨0, 0, 0, 0, ByteArray.empty, none, 0, []⟩⟩ len0 _ each
    refine ⟨(List.range len0).map q, by simp, ?_, ?_⟩
    · intro x hx
      obtain ⟨i, hi, rfl⟩ := List.mem_map.1 hx
      exact (hq i (List.mem_range.1 hi)).2.1
    · by_cases h0 : len0 = 0
      · subst h0; exact .inl (by simp)
      · right
        obtain ⟨b, off, spot⟩ := a
        have hs : spot = none := by
          have := World.cell?_spot (hq 0 (by omega)).1.1
          simpa [Addr.add] using this
        subst hs
        refine ⟨b, off, rfl, fun i hi => ?_⟩
        have hi' : i < len0 := by simpa using hi
        obtain ⟨⟨g0, g1, g2, g3, g4, g5⟩, _, hRd⟩ := hq i hi'
        rw [add_none] at g0 g1 g2 g3 g4 g5
        simp only [List.getElem_map, List.getElem_range]
        exact ⟨g0, g1, g2, g3, g4, g5, hRd⟩
end

end Go.Proofs.YtmebcdpdpcpnmaaGreatDoor

namespace Go.Proofs.YtmebcdpdpcpnmaaGreatDoor
open Go.ChangeShapes Go.WideShapes Go.ChangeAt Go.RowKit Go.Deep

/-- carryOut, of the program, at a word that wants no order -/
theorem acct_carry (p : Nat) (vb : Nat → Value) (M : Mk.Mkt) (c : Mk.Cmd) (hM : M.Fine) (hok : c.Ok) (hd : plainW c.d = true) (W : World) (hP : PM W p vb M) :
    Calls Tryz.prog 78 #[.pointer (some ⟨p, 0, none⟩), reqV c] W fun e w' => PDoT p vb (Mk.acctM M c) W e w' := by
  obtain ⟨who, r, d, n, mc⟩ := c
  have hw : who < 4 := hok.who
  have hlen : n.length = d.lo.length := hok.len
  have hnum : ∀ i, i < n.length → Mk.nth d.lo i ≤ Mk.nth n i ∧ Mk.nth n i ≤ Mk.nth d.hi i := hok.num
  cases d
  case pay =>
    have h0 : 0 < n.length := by rw [hlen]; decide
    have q := (hnum 0 h0).2
    have e : Mk.nth (Mk.Wd.hi .pay) 0 = 9999 := rfl
    exact carry_pay p vb M who r _ (Mk.nth n 0 : Int) _ _ _ mc W hM hP hw ⟨by omega, by omega⟩
  case draw =>
    have h0 : 0 < n.length := by rw [hlen]; decide
    have q := (hnum 0 h0).2
    have e : Mk.nth (Mk.Wd.hi .draw) 0 = 9999 := rfl
    exact carry_draw p vb M who r _ (Mk.nth n 0 : Int) _ _ _ mc W hM hP hw ⟨by omega, by omega⟩
  case bring =>
    have h0 : 0 < n.length := by rw [hlen]; decide
    have h1 : 1 < n.length := by rw [hlen]; decide
    have q := (hnum 0 h0).2
    have q1 := (hnum 1 h1).2
    have e : Mk.nth (Mk.Wd.hi .bring) 0 = 1 := rfl
    have e1 : Mk.nth (Mk.Wd.hi .bring) 1 = 999 := rfl
    exact carry_bring p vb M who r (Mk.nth n 0) (Mk.nth n 1 : Int) _ _ _ mc W hM hP hw (by omega) ⟨by omega, by omega⟩
  case fetch =>
    have h0 : 0 < n.length := by rw [hlen]; decide
    have h1 : 1 < n.length := by rw [hlen]; decide
    have q := (hnum 0 h0).2
    have q1 := (hnum 1 h1).2
    have e : Mk.nth (Mk.Wd.hi .fetch) 0 = 1 := rfl
    have e1 : Mk.nth (Mk.Wd.hi .fetch) 1 = 999 := rfl
    exact carry_fetch p vb M who r (Mk.nth n 0) (Mk.nth n 1 : Int) _ _ _ mc W hM hP hw (by omega) ⟨by omega, by omega⟩
  case mode =>
    have h0 : 0 < n.length := by rw [hlen]; decide
    have q := (hnum 0 h0).2
    have e : Mk.nth (Mk.Wd.hi .mode) 0 = 1 := rfl
    exact carry_mode p vb M who r (Mk.nth n 0) _ _ _ _ mc W hM hP (by omega)
  all_goals cases hd

def acctOk (t : ByteArray) : Prop := ∀ c, Mk.readP t = some c → plainW c.d = true
/-- what is done does not hang on the log -/
theorem acct_onto (M : Mk.Mkt) (d : ByteArray) (c : Mk.Cmd) : Mk.acctM (Mk.onto M d) c = ((Mk.acctM M c).1, (Mk.acctM M c).2.1, Mk.onto (Mk.acctM M c).2.2 d) := by
  unfold Mk.acctM
  cases c.d
  · show (_, Mk.payM _ _ _) = _
    unfold Mk.payM
    dsimp only
    split <;> rfl
  · show (_, Mk.drawM _ _ _) = _
    unfold Mk.drawM
    dsimp only
    split <;> rfl
  · show (_, Mk.bringM _ _ _ _) = _
    unfold Mk.bringM
    dsimp only
    split <;> rfl
  · show (_, Mk.fetchM _ _ _ _) = _
    unfold Mk.fetchM
    dsimp only
    split <;> rfl
  case mode =>
    show (_, Mk.modeM _ _ _) = _
    unfold Mk.modeM
    dsimp only
    split <;> rfl
  all_goals rfl
theorem acct_doing : Doing (fun M s => Mk.doM (Mk.acctM M) M s) Well acctOk where
  fine := fun _ _ h => h.fine
  new := new_well
  up := fun _ _ h => ⟨h.fine, h.ls, by have := h.disk; omega⟩
  step := fun _ _ s h _ => acct_well s h
  p := fun p vb M k s w h hk hs ho hP hT => pdo_any2 p vb M s w (Mk.acctM M) h.ls (by have := h.disk; omega) hP hT (fun c hc _ => ⟨acct_disk M c, fun d W hW _ => by rw [← acct_onto]; exact acct_carry p vb (Mk.onto M d) c (fine_onto h.fine d) (Mk.read_ok hc).1 (ho c hc) W hW⟩)
  r := fun p b M k s w h hk hs ho hR => acct_do p b M k s w h (by omega) (by omega) hR ho

/-- the words that Accounts leaves out -/
def acctWs : List ByteArray := [⟨#[98, 117, 121]⟩, ⟨#[115, 101, 108, 108]⟩, ⟨#[100, 114, 111, 112]⟩, ⟨#[109, 111, 100, 101]⟩, ⟨#[99, 108, 111, 115, 101]⟩]
theorem acct_words (t : ByteArray) (h : Mk.hasAny t acctWs = false) : acctOk t := by
  intro c hc
  have hh := Mk.read_has hc
  unfold Mk.hasAny at h
  rw [List.any_eq_false] at h
  have each : ∀ x ∈ acctWs, Mk.has t x = false := fun x hx => by have := h x hx; simpa using this
  cases hd : c.d
  case pay => rfl
  case draw => rfl
  case bring => rfl
  case fetch => rfl
  case mode => rfl
  case buy =>
    rw [hd] at hh
    have := each (Mk.Wd.text .buy) (by simp [acctWs, Mk.Wd.text])
    rw [hh] at this
    cases this
  case sell =>
    rw [hd] at hh
    have := each (Mk.Wd.text .sell) (by simp [acctWs, Mk.Wd.text])
    rw [hh] at this
    cases this
  case drop =>
    rw [hd] at hh
    have := each (Mk.Wd.text .drop) (by simp [acctWs, Mk.Wd.text])
    rw [hh] at this
    cases this
  case close =>
    rw [hd] at hh
    have := each (Mk.Wd.text .close) (by simp [acctWs, Mk.Wd.text])
    rw [hh] at this
    cases this

set_option maxRecDepth 100000 in
set_option maxHeartbeats 1000000 in
theorem accounts_law (a : Option Addr) (cap : Nat) (l : List OpD) (w : World) (hf : ∀ x ∈ l, x.Fits) (hR : RdOps w a l) (hT : Tab w) :
    Calls Tryz.prog 4 #[.slice a l.length cap] w fun e w' => e = .returned (.bool true) ∧ Below w.heap.size w w' := by
  have HF : Hid (∀ x ∈ l, x.Fits) := hf
  have HB : Hid (∀ ob, Below w.heap.size w (w.alloc ob)) := fun ob => (Below.refl _ _).alloc (Nat.le_refl _) ob
  have HR : Hid (∀ ob, RdOps (w.alloc ob) a l) := fun ob => hR.below (HB.out ob)
  have HT : Hid (∀ ob, Tab (w.alloc ob)) := fun ob => hT.next (HB.out ob)
  clear hf hR hT
  go_enter Tryz.func4, Tryz.ntmps4
  go_wp2_with fail
  refine (plays_markets acct_doing a cap w.heap.size 5 acctWs l _ HF.out (HR.out _) (HT.out _) (by decide) (by decide) ?_ (by simp) acct_words).mono ?_
  · intro i hi
    match i, hi with
    | 0, _ => simp [Mk.wordAt, acctWs]
    | 1, _ => simp [Mk.wordAt, acctWs]
    | 2, _ => simp [Mk.wordAt, acctWs]
    | 3, _ => simp [Mk.wordAt, acctWs]
    | 4, _ => simp [Mk.wordAt, acctWs]
  · rintro e w1 ⟨rfl, hb1⟩
    have HB1 : Hid (Below w.heap.size w w1) := (HB.out _).trans (hb1.mono (by simp))
    clear hb1
    go_wp2
    go_ret
    exact ⟨rfl, HB1.out⟩

theorem Tryz.ownZ : ownKnob Tryz.prog.godebug = none := by kernel_rfl
theorem Tryz.gTab : Tryz.prog.globalNamed "internal/strconv.uint64pow10" = some 0 := by kernel_rfl
theorem Tryz.tTab : (Tryz.prog.globals[0]?).map (·.type) = some 192 := by kernel_rfl
theorem Tryz.dTab : (Rows.laid_internal_strconv_uint64pow10 : DataW Unit) = Lib.tabData .u64 Lib.pow10Tab := by kernel_rfl
/-- the tables that lie there when a call begins: every row's list -/
abbrev laidAll : List (String × DataW Unit) := [("math/bits.deBruijn32tab", Rows.laid_math_bits_deBruijn32tab), ("math/bits.deBruijn64tab", Rows.laid_math_bits_deBruijn64tab), ("internal/strconv.uint64pow10", Rows.laid_internal_strconv_uint64pow10)]
/-- what the condition gives: the table -/
theorem tab_of_laid {W : World} (h : laidMetH Tryz.prog laidAll W) : Tab W := by
  rw [MakeChecks.laidMetH_plain _ _ _ (by kernel_rfl)] at h
  obtain ⟨ps, ⟨g0, t0, cs0, f0, p0, q0, hg0, ht0, hv0, hd0, ⟨g1, t1, cs1, f1, p1, q1, hg1, ht1, hv1, hd1, ⟨g2, t2, cs2, f2, p2, q2, hg2, ht2, hv2, hd2, _, _⟩, _⟩, _⟩, _, _⟩ := h
  obtain rfl := Option.some.inj (Tryz.gTab.symm.trans hg2)
  obtain rfl := Option.some.inj (Tryz.tTab.symm.trans ht2)
  rw [Tryz.dTab] at hd2
  unfold Tab Lib.TabIs
  rw [hv2, ← Lib.cells_of_tab Tryz.underlying192 Tryz.underlying185 (by kernel_rfl) (by kernel_rfl) hd2]
/-- the heap that start-up leaves meets it -/
theorem door_met (os : Os) (args : Array Value) : laidMetH Tryz.prog laidAll ((World.doorLaid Tryz.prog 400 os).forCall (fun _ _ => 0) ⟨#[], args, []⟩).memory :=
  laidMetH_of_parts3 (fuel := 8) (laidMet_of_run' 8 (by kernel_rfl) (by kernel_rfl)) (by kernel_rfl) (by kernel_rfl)

end Go.Proofs.YtmebcdpdpcpnmaaGreatDoor

namespace Go.Proofs.YtmebcdpdpcpnmaaGreatDoor
open Go.ChangeShapes Go.WideShapes Go.ChangeAt Go.RowKit Go.Deep

/-- every command but close -/
def Mk.bookM (M : Mk.Mkt) (c : Mk.Cmd) : ByteArray × Int × Mk.Mkt :=
  match c.d with
  | .buy => Mk.orderM M (Mk.nth c.n 0) c.who ⟨false, (Mk.nth c.n 1 : Int), (Mk.nth c.n 2 : Int)⟩
  | .sell => Mk.orderM M (Mk.nth c.n 0) c.who ⟨true, (Mk.nth c.n 1 : Int), (Mk.nth c.n 2 : Int)⟩
  | .drop => (⟨#[]⟩, (Mk.dropM M (Mk.nth c.n 0) c.who (Mk.nth c.n 1 : Int)).1, (Mk.dropM M (Mk.nth c.n 0) c.who (Mk.nth c.n 1 : Int)).2)
  | _ => Mk.acctM M c
def noClose : Mk.Wd → Bool
  | .close => false
  | _ => true

theorem order_ls (M : Mk.Mkt) (v who : Nat) (o : Mk.Ord) : (Mk.orderM M v who o).2.2.ls = M.ls ∧ (Mk.orderM M v who o).2.2.disk = M.disk := by
  unfold Mk.orderM
  split
  · exact ⟨rfl, rfl⟩
  · split
    · exact ⟨rfl, rfl⟩
    · split
      · exact ⟨rfl, rfl⟩
      · exact ⟨hold_ls M v who o 1, hold_disk M v who o 1⟩
theorem drop_ls (M : Mk.Mkt) (v who : Nat) (n : Int) : (Mk.dropM M v who n).2.ls = M.ls ∧ (Mk.dropM M v who n).2.disk = M.disk := by
  unfold Mk.dropM
  split
  · exact ⟨rfl, rfl⟩
  · exact ⟨hold_ls M v who _ (-1), hold_disk M v who _ (-1)⟩
theorem book_ls (M : Mk.Mkt) (c : Mk.Cmd) : (Mk.bookM M c).2.2.ls = M.ls ∧ (Mk.bookM M c).2.2.disk = M.disk := by
  unfold Mk.bookM
  split
  · exact order_ls M _ _ _
  · exact order_ls M _ _ _
  · exact drop_ls M _ _ _
  · exact ⟨acct_ls M c, acct_disk M c⟩
theorem Mk.Sound.rest {M : Mk.Mkt} (h : Mk.Sound M) (a : Nat → Int) (t : Nat → ByteArray) (e : Nat → Int) (d : ByteArray) : Mk.Sound { M with ls := a, tx := t, er := e, disk := d } :=
  ⟨h.cm, h.ln, h.inc, h.low, h.who, h.ord, h.ch, h.sh, h.cf, h.sf, h.house, h.tot, h.tos⟩

theorem book_sound {M : Mk.Mkt} {c : Mk.Cmd} (h : Mk.Sound M) (hok : c.Ok) : Mk.Sound (Mk.bookM M c).2.2 := by
  obtain ⟨who, r, d, n, mc⟩ := c
  have hw : who < 4 := hok.who
  have hlen : n.length = d.lo.length := hok.len
  have hnum : ∀ i, i < n.length → Mk.nth d.lo i ≤ Mk.nth n i ∧ Mk.nth n i ≤ Mk.nth d.hi i := hok.num
  cases d
  case pay => exact h.pay hw (by omega)
  case draw => exact h.draw hw (by omega)
  case bring =>
    have h0 : 0 < n.length := by rw [hlen]; decide
    have q := (hnum 0 h0).2
    have e : Mk.nth (Mk.Wd.hi .bring) 0 = 1 := rfl
    exact h.bring (show Mk.nth n 0 < 2 by omega) hw (by omega)
  case fetch =>
    have h0 : 0 < n.length := by rw [hlen]; decide
    have q := (hnum 0 h0).2
    have e : Mk.nth (Mk.Wd.hi .fetch) 0 = 1 := rfl
    exact h.fetch (show Mk.nth n 0 < 2 by omega) hw (by omega)
  case mode => exact h.mode _ _
  case buy =>
    have h0 : 2 < n.length := by rw [hlen]; decide
    have q0 := (hnum 0 (by omega)).2
    have q1 := hnum 1 (by omega)
    have q2 := hnum 2 h0
    simp only [Mk.Wd.lo, Mk.Wd.hi, Mk.nth, List.getD_cons_zero, List.getD_cons_succ] at q0 q1 q2
    exact h.order (by simp only [Mk.nth]; omega) hw ⟨false, _, _⟩ ⟨by simp only [Mk.nth]; omega, by simp only [Mk.nth]; omega, by simp only [Mk.nth]; omega, by simp only [Mk.nth]; omega⟩
  case sell =>
    have h0 : 2 < n.length := by rw [hlen]; decide
    have q0 := (hnum 0 (by omega)).2
    have q1 := hnum 1 (by omega)
    have q2 := hnum 2 h0
    simp only [Mk.Wd.lo, Mk.Wd.hi, Mk.nth, List.getD_cons_zero, List.getD_cons_succ] at q0 q1 q2
    exact h.order (by simp only [Mk.nth]; omega) hw ⟨true, _, _⟩ ⟨by simp only [Mk.nth]; omega, by simp only [Mk.nth]; omega, by simp only [Mk.nth]; omega, by simp only [Mk.nth]; omega⟩
  case drop =>
    have h0 : 0 < n.length := by rw [hlen]; decide
    have q := (hnum 0 h0).2
    have e : Mk.nth (Mk.Wd.hi .drop) 0 = 1 := rfl
    exact h.drop (show Mk.nth n 0 < 2 by omega) hw _
  case close => exact h

/-- what the document does at a command -/
theorem book_does (p : Nat) (b : RB) (M : Mk.Mkt) (c : Mk.Cmd) (hM : Mk.Sound M) (hok : c.Ok) (hd : noClose c.d = true) (W : World) (g cap : Nat) (hR : Ref W p b M) (hc : ∀ (i : Nat) (h : i < c.n.length), W.cell? ⟨g, i, none⟩ = some (.int .i64 (c.n[i] : Int))) (hgn : ¬ b.has p g) :
    Calls Tryz.prog 50 #[.pointer (some ⟨p, 0, none⟩), cmdV c.who c.r c.d (.slice (some ⟨g, 0, none⟩) c.n.length cap) c.mc] W fun e w' => DoT p b (Mk.bookM M c) W e w' := by
  by_cases hp : plainW c.d = true
  · have e : Mk.bookM M c = Mk.acctM M c := by
      unfold Mk.bookM
      split <;> first | rfl | (rename_i h; rw [h] at hp; cases hp)
    rw [e]
    exact acct_does p b M c hM.fine hok hp W g cap hR hc
  have hcell : ∀ i, i < c.n.length → W.cell? ⟨g, i, none⟩ = some (.int .i64 (Mk.nth c.n i : Int)) := fun i hi => by rw [Mk.nth_at hi]; exact hc i hi
  obtain ⟨who, r, d, n, mc⟩ := c
  have hw : who < 4 := hok.who
  have hlen : n.length = d.lo.length := hok.len
  have hnum : ∀ i, i < n.length → Mk.nth d.lo i ≤ Mk.nth n i ∧ Mk.nth n i ≤ Mk.nth d.hi i := hok.num
  have hcell' : ∀ i, i < n.length → W.cell? ⟨g, i, none⟩ = some (.int .i64 (Mk.nth n i : Int)) := hcell
  cases d
  case buy =>
    have hl : n.length = 3 := hlen
    have q0 := (hnum 0 (by omega)).2
    have q1 := hnum 1 (by omega)
    have q2 := hnum 2 (by omega)
    have e0 : Mk.nth (Mk.Wd.hi .buy) 0 = 1 := rfl
    have e1 : Mk.nth (Mk.Wd.hi .buy) 1 = 99 := rfl
    have e2 : Mk.nth (Mk.Wd.hi .buy) 2 = 20 := rfl
    have e3 : Mk.nth (Mk.Wd.lo .buy) 1 = 1 := rfl
    have e4 : Mk.nth (Mk.Wd.lo .buy) 2 = 1 := rfl
    show Calls Tryz.prog 50 #[.pointer (some ⟨p, 0, none⟩), cmdV who r .buy (.slice (some ⟨g, 0, none⟩) n.length cap) mc] W fun e w' => DoT p b (Mk.orderM M (Mk.nth n 0) who ⟨false, (Mk.nth n 1 : Int), (Mk.nth n 2 : Int)⟩) W e w'
    rw [hl]
    exact does_buy p g cap b M who (Mk.nth n 0) r _ _ mc W hM.fine hR hw (by omega) ⟨by omega, by omega⟩ ⟨by omega, by omega⟩ (hM.cm _ (by omega)) (hcell' 0 (by omega)) (hcell' 1 (by omega)) (hcell' 2 (by omega))
  case sell =>
    have hl : n.length = 3 := hlen
    have q0 := (hnum 0 (by omega)).2
    have q1 := hnum 1 (by omega)
    have q2 := hnum 2 (by omega)
    have e0 : Mk.nth (Mk.Wd.hi .sell) 0 = 1 := rfl
    have e1 : Mk.nth (Mk.Wd.hi .sell) 1 = 99 := rfl
    have e2 : Mk.nth (Mk.Wd.hi .sell) 2 = 20 := rfl
    have e3 : Mk.nth (Mk.Wd.lo .sell) 1 = 1 := rfl
    have e4 : Mk.nth (Mk.Wd.lo .sell) 2 = 1 := rfl
    show Calls Tryz.prog 50 #[.pointer (some ⟨p, 0, none⟩), cmdV who r .sell (.slice (some ⟨g, 0, none⟩) n.length cap) mc] W fun e w' => DoT p b (Mk.orderM M (Mk.nth n 0) who ⟨true, (Mk.nth n 1 : Int), (Mk.nth n 2 : Int)⟩) W e w'
    rw [hl]
    exact does_sell p g cap b M who (Mk.nth n 0) r _ _ mc W hM.fine hR hw (by omega) ⟨by omega, by omega⟩ ⟨by omega, by omega⟩ (hM.cm _ (by omega)) (hcell' 0 (by omega)) (hcell' 1 (by omega)) (hcell' 2 (by omega))
  case drop =>
    have hl : n.length = 2 := hlen
    have q0 := (hnum 0 (by omega)).2
    have e0 : Mk.nth (Mk.Wd.hi .drop) 0 = 1 := rfl
    show Calls Tryz.prog 50 #[.pointer (some ⟨p, 0, none⟩), cmdV who r .drop (.slice (some ⟨g, 0, none⟩) n.length cap) mc] W fun e w' => DoT p b (⟨#[]⟩, (Mk.dropM M (Mk.nth n 0) who (Mk.nth n 1 : Int)).1, (Mk.dropM M (Mk.nth n 0) who (Mk.nth n 1 : Int)).2) W e w'
    rw [hl]
    exact does_drop p g cap b M who (Mk.nth n 0) r _ mc W hM hR hw (by omega) (hcell' 0 (by omega)) (hcell' 1 (by omega)) hgn
  case close => cases hd
  all_goals exact absurd rfl hp

/-- what the program does at a command -/
theorem book_carry (p : Nat) (vb : Nat → Value) (M : Mk.Mkt) (c : Mk.Cmd) (hM : Mk.Sound M) (hok : c.Ok) (hd : noClose c.d = true) (W : World) (hP : PM W p vb M) (hT : Tab W) :
    Calls Tryz.prog 78 #[.pointer (some ⟨p, 0, none⟩), reqV c] W fun e w' => PDoT p vb (Mk.bookM M c) W e w' := by
  by_cases hp : plainW c.d = true
  · have e : Mk.bookM M c = Mk.acctM M c := by
      unfold Mk.bookM
      split <;> first | rfl | (rename_i h; rw [h] at hp; cases hp)
    rw [e]
    exact acct_carry p vb M c hM.fine hok hp W hP
  obtain ⟨who, r, d, n, mc⟩ := c
  have hw : who < 4 := hok.who
  have hlen : n.length = d.lo.length := hok.len
  have hnum : ∀ i, i < n.length → Mk.nth d.lo i ≤ Mk.nth n i ∧ Mk.nth n i ≤ Mk.nth d.hi i := hok.num
  cases d
  case buy =>
    have hl : n.length = 3 := hlen
    have q0 := (hnum 0 (by omega)).2
    have q1 := hnum 1 (by omega)
    have q2 := hnum 2 (by omega)
    have e0 : Mk.nth (Mk.Wd.hi .buy) 0 = 1 := rfl
    have e1 : Mk.nth (Mk.Wd.hi .buy) 1 = 99 := rfl
    have e2 : Mk.nth (Mk.Wd.hi .buy) 2 = 20 := rfl
    have e3 : Mk.nth (Mk.Wd.lo .buy) 1 = 1 := rfl
    have e4 : Mk.nth (Mk.Wd.lo .buy) 2 = 1 := rfl
    exact carry_buy p vb M who r (Mk.nth n 0) _ (Mk.nth n 1 : Int) (Mk.nth n 2 : Int) _ mc W hM.fine hP hw (by omega) ⟨by omega, by omega⟩ ⟨by omega, by omega⟩ (hM.cm _ (by omega)) hT
  case sell =>
    have hl : n.length = 3 := hlen
    have q0 := (hnum 0 (by omega)).2
    have q1 := hnum 1 (by omega)
    have q2 := hnum 2 (by omega)
    have e0 : Mk.nth (Mk.Wd.hi .sell) 0 = 1 := rfl
    have e1 : Mk.nth (Mk.Wd.hi .sell) 1 = 99 := rfl
    have e2 : Mk.nth (Mk.Wd.hi .sell) 2 = 20 := rfl
    have e3 : Mk.nth (Mk.Wd.lo .sell) 1 = 1 := rfl
    have e4 : Mk.nth (Mk.Wd.lo .sell) 2 = 1 := rfl
    exact carry_sell p vb M who r (Mk.nth n 0) _ (Mk.nth n 1 : Int) (Mk.nth n 2 : Int) _ mc W hM.fine hP hw (by omega) ⟨by omega, by omega⟩ ⟨by omega, by omega⟩ (hM.cm _ (by omega)) hT
  case drop =>
    have hl : n.length = 2 := hlen
    have q0 := (hnum 0 (by omega)).2
    have e0 : Mk.nth (Mk.Wd.hi .drop) 0 = 1 := rfl
    exact carry_drop p vb M who r (Mk.nth n 0) _ _ _ (Mk.nth n 1 : Int) mc W hM hP hw (by omega)
  case close => cases hd
  all_goals exact absurd rfl hp

/-- a market after k commands -/
structure BInv (M : Mk.Mkt) (k : Nat) : Prop where
  well : Well M k
  sound : Mk.Sound M
theorem do_sound {M : Mk.Mkt} {X : Mk.Cmd → ByteArray × Int × Mk.Mkt} (s : ByteArray) (h : Mk.Sound M) (hX : ∀ c, Mk.readP s = some c → Mk.Sound (X c).2.2) : Mk.Sound (Mk.doM X M s).2.2 := by
  unfold Mk.doM
  cases hr : Mk.readP s with
  | none => exact h
  | some c =>
    show Mk.Sound (if (c.r : Int) = M.ls c.who then (M.tx c.who, M.er c.who, M) else if (c.r : Int) < M.ls c.who then (⟨#[]⟩, 3, M) else if M.ls c.who + 1 < (c.r : Int) then (⟨#[]⟩, 4, M) else ((X c).1, (X c).2.1, { (X c).2.2 with ls := upd (X c).2.2.ls c.who c.r, tx := upd (X c).2.2.tx c.who (X c).1, er := upd (X c).2.2.er c.who (X c).2.1, disk := (X c).2.2.disk ++ Mk.frame s ++ s }) : ByteArray × Int × Mk.Mkt).2.2
    split
    · exact h
    · split
      · exact h
      · split
        · exact h
        · exact (hX c hr).rest _ _ _ _

theorem order_onto (M : Mk.Mkt) (d : ByteArray) (v who : Nat) (o : Mk.Ord) : Mk.orderM (Mk.onto M d) v who o = ((Mk.orderM M v who o).1, (Mk.orderM M v who o).2.1, Mk.onto (Mk.orderM M v who o).2.2 d) := by
  have hp : Mk.putM (Mk.onto M d) v who o = Mk.onto (Mk.putM M v who o) d := by
    obtain ⟨sell, pr, q⟩ := o
    cases sell <;> rfl
  have hl : Mk.lacks (Mk.onto M d) v who o = Mk.lacks M v who o := rfl
  unfold Mk.orderM
  rw [hp, hl]
  split
  · rfl
  · split
    · rfl
    · split
      · rfl
      · rfl
theorem drop_onto (M : Mk.Mkt) (d : ByteArray) (v who : Nat) (n : Int) : Mk.dropM (Mk.onto M d) v who n = ((Mk.dropM M v who n).1, Mk.onto (Mk.dropM M v who n).2 d) := by
  have hp : ∀ x, Mk.outM (Mk.onto M d) v who n x = Mk.onto (Mk.outM M v who n x) d := by
    intro x
    obtain ⟨a, b, sell, pr, q⟩ := x
    cases sell <;> rfl
  have e : (Mk.onto M d).bk = M.bk := rfl
  unfold Mk.dropM
  rw [e]
  cases (M.bk v).find? (Mk.hit n who) with
  | none => rfl
  | some x =>
    show (0, Mk.outM (Mk.onto M d) v who n x) = (0, Mk.onto (Mk.outM M v who n x) d)
    rw [hp]
theorem book_onto (M : Mk.Mkt) (d : ByteArray) (c : Mk.Cmd) : Mk.bookM (Mk.onto M d) c = ((Mk.bookM M c).1, (Mk.bookM M c).2.1, Mk.onto (Mk.bookM M c).2.2 d) := by
  unfold Mk.bookM
  cases c.d
  case buy => exact order_onto M d _ _ _
  case sell => exact order_onto M d _ _ _
  case drop =>
    show (_, (Mk.dropM (Mk.onto M d) _ _ _).1, (Mk.dropM (Mk.onto M d) _ _ _).2) = _
    rw [drop_onto]
  all_goals exact acct_onto M d c
theorem sound_onto {M : Mk.Mkt} (h : Mk.Sound M) (d : ByteArray) : Mk.Sound (Mk.onto M d) := h.rest M.ls M.tx M.er d

def bookOk (t : ByteArray) : Prop := ∀ c, Mk.readP t = some c → noClose c.d = true
theorem book_doing : Doing (fun M s => Mk.doM (Mk.bookM M) M s) BInv bookOk where
  fine := fun _ _ h => h.well.fine
  new := ⟨new_well, new_sound⟩
  up := fun _ _ h => ⟨⟨h.well.fine, h.well.ls, by have := h.well.disk; omega⟩, h.sound⟩
  step := fun M k s h _ => ⟨do_well s h.well (fun c hc => ⟨(book_sound h.sound (Mk.read_ok hc).1).fine, (book_ls M c).1, (book_ls M c).2⟩), do_sound s h.sound (fun c hc => book_sound h.sound (Mk.read_ok hc).1)⟩
  p := fun p vb M k s w h hk hs ho hP hT => pdo_any2 p vb M s w (Mk.bookM M) h.well.ls (by have := h.well.disk; omega) hP hT (fun c hc _ => ⟨(book_ls M c).2, fun d W hW hT' => by rw [← book_onto]; exact book_carry p vb (Mk.onto M d) c (sound_onto h.sound d) (Mk.read_ok hc).1 (ho c hc) W hW hT'⟩)
  r := fun p b M k s w h hk hs ho hR => do_any2 p b M s w (Mk.bookM M) h.well.ls (by have := h.well.disk; omega) (by omega) hR (fun c hc _ => ⟨(book_ls M c).2, fun W g cap hW hn hgn => book_does p b M c h.sound (Mk.read_ok hc).1 (ho c hc) W g cap hW hn hgn⟩)

/-- the word that Books leaves out -/
def bookWs : List ByteArray := [⟨#[99, 108, 111, 115, 101]⟩]
theorem book_words (t : ByteArray) (h : Mk.hasAny t bookWs = false) : bookOk t := by
  intro c hc
  have hh := Mk.read_has hc
  unfold Mk.hasAny at h
  rw [List.any_eq_false] at h
  have each : ∀ x ∈ bookWs, Mk.has t x = false := fun x hx => by have := h x hx; simpa using this
  cases hd : c.d
  case close =>
    rw [hd] at hh
    have := each (Mk.Wd.text .close) (by simp [bookWs, Mk.Wd.text])
    rw [hh] at this
    cases this
  all_goals rfl

set_option maxRecDepth 100000 in
set_option maxHeartbeats 1000000 in
theorem books_law (a : Option Addr) (cap : Nat) (l : List OpD) (w : World) (hf : ∀ x ∈ l, x.Fits) (hR : RdOps w a l) (hT : Tab w) :
    Calls Tryz.prog 5 #[.slice a l.length cap] w fun e w' => e = .returned (.bool true) ∧ Below w.heap.size w w' := by
  have HF : Hid (∀ x ∈ l, x.Fits) := hf
  have HB : Hid (∀ ob, Below w.heap.size w (w.alloc ob)) := fun ob => (Below.refl _ _).alloc (Nat.le_refl _) ob
  have HR : Hid (∀ ob, RdOps (w.alloc ob) a l) := fun ob => hR.below (HB.out ob)
  have HT : Hid (∀ ob, Tab (w.alloc ob)) := fun ob => hT.next (HB.out ob)
  clear hf hR hT
  go_enter Tryz.func5, Tryz.ntmps5
  go_wp2_with fail
  refine (plays_markets book_doing a cap w.heap.size 1 bookWs l _ HF.out (HR.out _) (HT.out _) (by decide) (by decide) ?_ (by simp) book_words).mono ?_
  · intro i hi
    match i, hi with
    | 0, _ => simp [Mk.wordAt, bookWs]
  · rintro e w1 ⟨rfl, hb1⟩
    have HB1 : Hid (Below w.heap.size w w1) := (HB.out _).trans (hb1.mono (by simp))
    clear hb1
    go_wp2
    go_ret
    exact ⟨rfl, HB1.out⟩

end Go.Proofs.YtmebcdpdpcpnmaaGreatDoor
