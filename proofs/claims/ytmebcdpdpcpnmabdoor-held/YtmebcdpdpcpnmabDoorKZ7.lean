import Derived.Test.YtmebcdpdpcpnmabDoorKZ6
namespace Go.Proofs.YtmebcdpdpcpnmabDoor
open Go.RowKit

/-- cell i of a deed -/
def ddF (d : Mk.Dd) : Nat → Value
  | 0 => .int .i64 (d.w : Int)
  | 1 => .int .i64 (d.who : Int)
  | 2 => .int .i64 (d.v : Int)
  | 3 => .int .i64 (d.a : Int)
  | _ => .int .i64 (d.b : Int)
/-- a market and a deed of the call's own -/
structure OwnQ (w : World) (p q0 : Nat) (M : Mk.Mkt) (k : Nat) (o : Mk.Dd) (wr : World) : Prop where
  lies : ∃ vb, PM wr p vb M ∧ ∀ q, PHas p vb q → w.heap.size ≤ q ∧ q ≠ q0
  row : wr.rowIs q0 29 5 (ddF o)
  ge : w.heap.size ≤ q0
  inv : AInv M k
  ans : Mk.Ans M
  bel : Below w.heap.size w wr
section
variable {w w1 w2 : World} {p q0 : Nat} {M : Mk.Mkt} {k : Nat} {o : Mk.Dd} {vb : Nat → Value} {e : Ending}
theorem OwnQ.next (h : OwnQ w p q0 M k o w1) (hb : Below w1.heap.size w1 w2) : OwnQ w p q0 M k o w2 := by
  obtain ⟨vb, hP, hn⟩ := h.lies
  exact ⟨⟨vb, hP.below hb, hn⟩, h.row.of_block (hb.block q0 h.row.lt), h.ge, h.inv, h.ans, h.bel.trans (hb.mono h.bel.size)⟩
theorem OwnQ.turn (h : OwnQ w p q0 M k o w1) (hn : ∀ q, PHas p vb q → w.heap.size ≤ q ∧ q ≠ q0) {M' : Mk.Mkt} {k' : Nat} {vb' : Nat → Value} (hP : PM w2 p vb' M') (hO : Only (PHas p vb) w1 w2) (hN : ∀ q, PHas p vb' q → PHas p vb q ∨ w1.heap.size ≤ q) (hI : AInv M' k') (hA : Mk.Ans M') : OwnQ w p q0 M' k' o w2 :=
  ⟨⟨vb', hP, fun q hq => (hN q hq).elim (hn q) (fun h2 => ⟨Nat.le_trans h.bel.size h2, fun e => by have := h.row.lt; omega⟩)⟩, h.row.of_block (hO.block q0 h.row.lt (fun hq => (hn q0 hq).2 rfl)), h.ge, hI, hA, below_only h.bel hO (fun q hq => (hn q hq).1) h.bel.size⟩
theorem OwnQ.did {d : Mk.Dd} (h : OwnQ w p q0 M k o w1) (hn : ∀ q, PHas p vb q → w.heap.size ≤ q ∧ q ≠ q0) (hD : PDid p vb M d w1 e w2) : OwnQ w p q0 (Mk.didM M d).2.2 (k + 1) o w2 := by
  obtain ⟨_, vb', hP, hO, hN⟩ := hD
  exact h.turn hn hP hO hN (did_inv h.inv d) (did_ans h.ans d)
theorem OwnQ.same {x1 : ByteArray} {x2 : Int} (h : OwnQ w p q0 M k o w1) (hn : ∀ q, PHas p vb q → w.heap.size ≤ q ∧ q ≠ q0) (hD : PDoT p vb (x1, x2, M) w1 e w2) : OwnQ w p q0 M k o w2 := by
  obtain ⟨_, vb', hP, hO, hN⟩ := hD
  exact h.turn hn hP hO hN h.inv h.ans
theorem OwnQ.setWho (h : OwnQ w p q0 M k o w1) (c : Nat) : OwnQ w p q0 M k { o with who := c } (w1.setCell ⟨q0, 1, none⟩ (.int .i64 (c : Int))) := by
  obtain ⟨vb, hP, hn⟩ := h.lies
  refine ⟨⟨vb, hP.blocks (fun q hq => Below.heap_setCell w1 _ _ q (fun e => (hn q hq).2 e)), hn⟩, (h.row.set 1 _).congr (fun i hi => ?_), h.ge, h.inv, h.ans, h.bel.setCell h.ge _⟩
  match i, hi with
  | 0, _ => rfl
  | 1, _ => rfl
  | 2, _ => rfl
  | 3, _ => rfl
  | 4, _ => rfl
end
/-- a market and two deeds of the call's own -/
structure OwnT (w : World) (p q0 q1 : Nat) (M : Mk.Mkt) (k : Nat) (o d : Mk.Dd) (wr : World) : Prop where
  q : OwnQ w p q0 M k o wr
  lies : ∃ vb, PM wr p vb M ∧ ∀ q, PHas p vb q → (w.heap.size ≤ q ∧ q ≠ q0) ∧ q ≠ q1
  row : wr.rowIs q1 29 5 (ddF d)
  ne : q0 ≠ q1
section
variable {w w1 w2 : World} {p q0 q1 : Nat} {M : Mk.Mkt} {k : Nat} {o d : Mk.Dd} {vb : Nat → Value} {e : Ending}
theorem dd_row (w1 : World) (d : Mk.Dd) : (w1.alloc (.cells #[.int .i64 (d.w : Int), .int .i64 (d.who : Int), .int .i64 (d.v : Int), .int .i64 (d.a : Int), .int .i64 (d.b : Int)] 29)).rowIs w1.heap.size 29 5 (ddF d) :=
  World.rowIs_alloc w1 #[.int .i64 (d.w : Int), .int .i64 (d.who : Int), .int .i64 (d.v : Int), .int .i64 (d.a : Int), .int .i64 (d.b : Int)] 29 (ddF d) (fun i hi => by
    match i, hi with
    | 0, _ => rfl
    | 1, _ => rfl
    | 2, _ => rfl
    | 3, _ => rfl
    | 4, _ => rfl)
theorem OwnQ.two (h : OwnQ w p q0 M k o w1) (d : Mk.Dd) : OwnT w p q0 w1.heap.size M k o d (w1.alloc (.cells #[.int .i64 (d.w : Int), .int .i64 (d.who : Int), .int .i64 (d.v : Int), .int .i64 (d.a : Int), .int .i64 (d.b : Int)] 29)) := by
  have hb : Below w1.heap.size w1 (w1.alloc (.cells #[.int .i64 (d.w : Int), .int .i64 (d.who : Int), .int .i64 (d.v : Int), .int .i64 (d.a : Int), .int .i64 (d.b : Int)] 29)) := (Below.refl _ _).alloc (Nat.le_refl _) _
  obtain ⟨vb, hP, hn⟩ := h.lies
  exact ⟨h.next hb, ⟨vb, hP.below hb, fun q hq => ⟨hn q hq, fun e => by have := hP.lt hq; omega⟩⟩, dd_row w1 d, fun e => by have := h.row.lt; omega⟩
theorem OwnT.next (h : OwnT w p q0 q1 M k o d w1) (hb : Below w1.heap.size w1 w2) : OwnT w p q0 q1 M k o d w2 := by
  obtain ⟨vb, hP, hn⟩ := h.lies
  exact ⟨h.q.next hb, ⟨vb, hP.below hb, hn⟩, h.row.of_block (hb.block q1 h.row.lt), h.ne⟩
theorem OwnT.turn (h : OwnT w p q0 q1 M k o d w1) (hn : ∀ q, PHas p vb q → (w.heap.size ≤ q ∧ q ≠ q0) ∧ q ≠ q1) {M' : Mk.Mkt} {k' : Nat} {vb' : Nat → Value} (hP : PM w2 p vb' M') (hO : Only (PHas p vb) w1 w2) (hN : ∀ q, PHas p vb' q → PHas p vb q ∨ w1.heap.size ≤ q) (hI : AInv M' k') (hA : Mk.Ans M') : OwnT w p q0 q1 M' k' o d w2 :=
  ⟨h.q.turn (fun q hq => (hn q hq).1) hP hO hN hI hA, ⟨vb', hP, fun q hq => (hN q hq).elim (hn q) (fun h2 => ⟨⟨Nat.le_trans h.q.bel.size h2, fun e => by have := h.q.row.lt; omega⟩, fun e => by have := h.row.lt; omega⟩)⟩,
    h.row.of_block (hO.block q1 h.row.lt (fun hq => (hn q1 hq).2 rfl)), h.ne⟩
theorem OwnT.did {d' : Mk.Dd} (h : OwnT w p q0 q1 M k o d w1) (hn : ∀ q, PHas p vb q → (w.heap.size ≤ q ∧ q ≠ q0) ∧ q ≠ q1) (hD : PDid p vb M d' w1 e w2) : OwnT w p q0 q1 (Mk.didM M d').2.2 (k + 1) o d w2 := by
  obtain ⟨_, vb', hP, hO, hN⟩ := hD
  exact h.turn hn hP hO hN (did_inv h.q.inv d') (did_ans h.q.ans d')
theorem OwnT.same {x1 : ByteArray} {x2 : Int} (h : OwnT w p q0 q1 M k o d w1) (hn : ∀ q, PHas p vb q → (w.heap.size ≤ q ∧ q ≠ q0) ∧ q ≠ q1) (hD : PDoT p vb (x1, x2, M) w1 e w2) : OwnT w p q0 q1 M k o d w2 := by
  obtain ⟨_, vb', hP, hO, hN⟩ := hD
  exact h.turn hn hP hO hN h.q.inv h.q.ans
theorem OwnT.setWho (h : OwnT w p q0 q1 M k o d w1) (c : Nat) : OwnT w p q0 q1 M k { o with who := c } d (w1.setCell ⟨q0, 1, none⟩ (.int .i64 (c : Int))) := by
  obtain ⟨vb, hP, hn⟩ := h.lies
  exact ⟨h.q.setWho c, ⟨vb, hP.blocks (fun q hq => Below.heap_setCell w1 _ _ q (fun e => (hn q hq).1.2 e)), hn⟩, h.row.of_block (Below.heap_setCell w1 _ _ q1 (fun e => h.ne e.symm)), h.ne⟩
end
/-- what a deed that is done leaves behind -/
theorem did_last {M : Mk.Mkt} {k : Nat} (hI : AInv M k) {d : Mk.Dd} (hd : d.Ok) (h : Mk.didB M d = true) :
    (Mk.didM M d).2.2.ls d.who = M.ls d.who + 1 ∧ (Mk.didM M d).2.2.tx d.who = (Mk.didM M d).1 ∧ (Mk.didM M d).2.2.er d.who = (Mk.didM M d).2.1 := by
  have hl : M.ls d.who < 99 := of_decide_eq_true h
  have hls := hI.well.ls d.who hd.who
  have hr : 1 ≤ (M.ls d.who).toNat + 1 ∧ (M.ls d.who).toNat + 1 ≤ 99 := by omega
  have e := doM_next (M := M) (s := Mk.cmdN M d) (Mk.read_cmd hd hr) (by show (((M.ls d.who).toNat + 1 : Nat) : Int) = M.ls d.who + 1; omega)
  unfold Mk.didM
  rw [if_pos hl, e]
  refine ⟨?_, ?_, ?_⟩
  · show upd _ d.who (((M.ls d.who).toNat + 1 : Nat) : Int) d.who = _
    rw [upd_self]; omega
  · show upd _ d.who _ d.who = _
    rw [upd_self]
  · show upd _ d.who _ d.who = _
    rw [upd_self]
theorem do_again {M : Mk.Mkt} {d : Mk.Dd} (hd : d.Ok) {n : Nat} (hn : 1 ≤ n ∧ n ≤ 99) (h : M.ls d.who = (n : Int)) : Mk.doM (Mk.allM M) M (d.cmd n) = (M.tx d.who, M.er d.who, M) := by
  unfold Mk.doM
  rw [Mk.read_cmd hd hn]
  show (if (n : Int) = M.ls d.who then (M.tx d.who, M.er d.who, M) else _ : ByteArray × Int × Mk.Mkt) = _
  rw [if_pos h.symm]
theorem do_old {M : Mk.Mkt} {d : Mk.Dd} (hd : d.Ok) {n r : Nat} (hr : 1 ≤ r ∧ r ≤ 99) (h : M.ls d.who = (n : Int)) (hlt : r < n) : Mk.doM (Mk.allM M) M (d.cmd r) = (⟨#[]⟩, 3, M) := by
  unfold Mk.doM
  rw [Mk.read_cmd hd hr]
  show (if (r : Int) = M.ls d.who then (M.tx d.who, M.er d.who, M) else if (r : Int) < M.ls d.who then (⟨#[]⟩, 3, M) else _ : ByteArray × Int × Mk.Mkt) = _
  rw [if_neg (by omega), if_pos (by omega)]
theorem do_gap {M : Mk.Mkt} {d : Mk.Dd} (hd : d.Ok) {n r : Nat} (hr : 1 ≤ r ∧ r ≤ 99) (h : M.ls d.who = (n : Int)) (hlt : n + 1 < r) : Mk.doM (Mk.allM M) M (d.cmd r) = (⟨#[]⟩, 4, M) := by
  unfold Mk.doM
  rw [Mk.read_cmd hd hr]
  show (if (r : Int) = M.ls d.who then (M.tx d.who, M.er d.who, M) else if (r : Int) < M.ls d.who then (⟨#[]⟩, 3, M) else if M.ls d.who + 1 < (r : Int) then (⟨#[]⟩, 4, M) else _ : ByteArray × Int × Mk.Mkt) = _
  rw [if_neg (by omega), if_neg (by omega), if_pos (by omega)]
theorem ok_who {o : Mk.Dd} (h : o.Ok) {c : Nat} (hc : c < 4) : Mk.Dd.Ok { o with who := c } := ⟨h.w, hc, h.v, h.a, h.b, h.len, h.num⟩

set_option maxRecDepth 100000 in
set_option maxHeartbeats 4000000 in
theorem once_law {LG : Mk.Mkt → ByteArray} (hS : PSide LG) (a : Option Addr) (cap : Nat) (l : List (Nat → Int)) (x0 : Nat → Int) (r : Int) (w : World) (hf : ∀ d ∈ l, Fits64 d) (hx : Fits64 x0) (hr : -9223372036854775808 ≤ r ∧ r ≤ 9223372036854775807) (hR : RdD w a l) (hT : Tab w) :
    Calls Tryd.prog 5 #[.slice a l.length cap, rawV x0, .int .i64 r] w fun e w' => e = .returned (.bool true) ∧ Below w.heap.size w w' := by
  have HS : Hid (PSide LG) := hS
  have HF : Hid (∀ d ∈ l, Fits64 d) := hf
  have HR : Hid (RdD w a l) := hR
  have HT : Hid (Tab w) := hT
  obtain ⟨o, ho, hpo⟩ := plain_fix x0 hx
  obtain ⟨rn, hrn, hpk⟩ := pick_fix r 99 hr.1 hr.2 (by omega) (by omega)
  have HPo := (show Hid (∀ w, Calls Tryd.prog 12 #[rawV x0] w fun e w' => e = .returned (ddV o) ∧ Below w.heap.size w w') from hpo)
  have HPk := (show Hid (∀ w, Calls Tryd.prog 18 #[.int .i64 r, .int .i64 (99 : Nat)] w fun e w' => e = .returned (.int .i64 rn) ∧ w' = w) from hpk)
  have HOo : Hid o.Ok := ho
  clear hS hf hR hT hx hr ho hpo hpk
  have HB0 : Hid (Below w.heap.size w (w.alloc (.cells #[.int .i64 (x0 0), .int .i64 (x0 1), .int .i64 (x0 2), .int .i64 (x0 3), .int .i64 (x0 4)] 29))) := (Below.refl _ _).alloc (Nat.le_refl _) _
  have HC0 : Hid (∀ i u, (#[.int .i64 (x0 0), .int .i64 (x0 1), .int .i64 (x0 2), .int .i64 (x0 3), .int .i64 (x0 4)] : Array Value)[i]? = some u → (w.alloc (.cells #[.int .i64 (x0 0), .int .i64 (x0 1), .int .i64 (x0 2), .int .i64 (x0 3), .int .i64 (x0 4)] 29)).cell? ⟨w.heap.size, i, none⟩ = some u) := fun i u h => by simpa using h
  have hl0 : w.heap.size < (w.alloc (.cells #[.int .i64 (x0 0), .int .i64 (x0 1), .int .i64 (x0 2), .int .i64 (x0 3), .int .i64 (x0 4)] 29)).heap.size := by simp
  simp only [rawV]
  go_enter Tryd.func5, Tryd.ntmps5
  go_upto_region 1 with fail
  generalize w.alloc (.cells #[.int .i64 (x0 0), .int .i64 (x0 1), .int .i64 (x0 2), .int .i64 (x0 3), .int .i64 (x0 4)] 29) = W0 at *
  go_wp2_with fail
  refine (stands_any HS.out W0 (HT.out.next HB0.out)).mono ?_
  rintro e w1 ⟨rfl, hb1⟩
  have HB1 : Hid (Below W0.heap.size W0 w1) := hb1
  clear hb1
  go_wp2_with fail
  refine (some_any a l.length cap w1).mono ?_
  rintro e w1' ⟨rfl, hw1⟩
  obtain rfl := hw1.symm
  by_cases hs : l.length ≤ 1048576
  · have hd : decide (l.length ≤ 1048576) = true := by simpa using hs
    rw [hd]
    clear hd
    go_wp2_with fail
    refine (pnew_any _).mono ?_
    rintro e w2 ⟨rfl, hP2, hb2⟩
    have hp : w.heap.size ≤ w1.heap.size := Nat.le_trans HB0.out.size HB1.out.size
    have HB2 : Hid (Below W0.heap.size W0 w2) := HB1.out.trans (hb2.mono HB1.out.size)
    have HP2 : Hid (PM w2 w1.heap.size nilV Mk.Mkt.new) := hP2
    have hp2 : w1.heap.size < w2.heap.size := hP2.lt (.inl rfl)
    generalize w1.heap.size = p at *
    clear hP2 hb2
    go_wp2_with fail
    refine (HPk.out _).mono ?_
    rintro e w2' ⟨rfl, hw2⟩
    obtain rfl := hw2.symm
    have o0 : w2.cell? ⟨w.heap.size, 0, none⟩ = some (.int .i64 (x0 0)) := (HB2.out.cell (p := ⟨w.heap.size, 0, none⟩) hl0).trans (HC0.out 0 _ rfl)
    have o1 : w2.cell? ⟨w.heap.size, 1, none⟩ = some (.int .i64 (x0 1)) := (HB2.out.cell (p := ⟨w.heap.size, 1, none⟩) hl0).trans (HC0.out 1 _ rfl)
    have o2 : w2.cell? ⟨w.heap.size, 2, none⟩ = some (.int .i64 (x0 2)) := (HB2.out.cell (p := ⟨w.heap.size, 2, none⟩) hl0).trans (HC0.out 2 _ rfl)
    have o3 : w2.cell? ⟨w.heap.size, 3, none⟩ = some (.int .i64 (x0 3)) := (HB2.out.cell (p := ⟨w.heap.size, 3, none⟩) hl0).trans (HC0.out 3 _ rfl)
    have o4 : w2.cell? ⟨w.heap.size, 4, none⟩ = some (.int .i64 (x0 4)) := (HB2.out.cell (p := ⟨w.heap.size, 4, none⟩) hl0).trans (HC0.out 4 _ rfl)
    go_wp2_with fail
    refine (HPo.out _).mono ?_
    rintro e w3 ⟨rfl, hb3⟩
    clear o0 o1 o2 o3 o4
    have HB3 : Hid (Below w2.heap.size w2 w3) := hb3
    have HQ : Hid (OwnQ w p w3.heap.size Mk.Mkt.new 0 o (w3.alloc (.cells #[.int .i64 (o.w : Int), .int .i64 (o.who : Int), .int .i64 (o.v : Int), .int .i64 (o.a : Int), .int .i64 (o.b : Int)] 29))) := (by
      have hb : Below w3.heap.size w3 (w3.alloc (.cells #[.int .i64 (o.w : Int), .int .i64 (o.who : Int), .int .i64 (o.v : Int), .int .i64 (o.a : Int), .int .i64 (o.b : Int)] 29)) := (Below.refl _ _).alloc (Nat.le_refl _) _
      have hb23 : Below w2.heap.size w2 (w3.alloc (.cells #[.int .i64 (o.w : Int), .int .i64 (o.who : Int), .int .i64 (o.v : Int), .int .i64 (o.a : Int), .int .i64 (o.b : Int)] 29)) := HB3.out.trans (hb.mono HB3.out.size)
      have hs2 : w.heap.size ≤ w2.heap.size := by omega
      have hs3 := HB3.out.size
      have hnil : ∀ q, PHas p nilV q → q = p := fun q h => by
        rcases h with h | ⟨v, _, h⟩
        · exact h
        · cases h
      exact ⟨⟨nilV, HP2.out.below hb23, fun q h => by rw [hnil q h]; exact ⟨hp, by omega⟩⟩, dd_row w3 o, by omega, all_new, ans_new, (HB0.out.trans (HB2.out.mono HB0.out.size)).trans (hb23.mono hs2)⟩ : OwnQ w p w3.heap.size Mk.Mkt.new 0 o (w3.alloc (.cells #[.int .i64 (o.w : Int), .int .i64 (o.who : Int), .int .i64 (o.v : Int), .int .i64 (o.a : Int), .int .i64 (o.b : Int)] 29)))
    simp only [ddV]
    go_wp2_with fail
    have hR1 : 1 ≤ 1 + rn ∧ 1 + rn ≤ 99 := by omega
    have hRi : (1 : Int) + (rn : Int) = ((1 + rn : Nat) : Int) := by omega
    rw [hRi]
    clear hRi
    generalize 1 + rn = R at *
    generalize w3.alloc (.cells #[.int .i64 (o.w : Int), .int .i64 (o.who : Int), .int .i64 (o.v : Int), .int .i64 (o.a : Int), .int .i64 (o.b : Int)] 29) = W3 at *
    generalize w3.heap.size = q0 at *
    clear hb3
    go_loopw [10] (fun j wr => ∃ (k : Nat) (M : Mk.Mkt) (c : Nat), k ≤ l.length ∧ j = .int .i64 k ∧ c < 4 ∧ OwnQ w p q0 M k { o with who := c } wr) (fun j _ => l.length - (intOf j).toNat)
    case atStart => exact ⟨0, _, o.who, Nat.zero_le _, rfl, HOo.out.who, HQ.out⟩
    case round =>
      obtain ⟨k, M, c, hk, rfl, hc4, hQ⟩ := hrel
      have HQr : Hid (OwnQ w p q0 M k { o with who := c } wr) := hQ
      have HBr : Hid (Below w.heap.size w wr) := hQ.bel
      have hpw := hQ.bel.size
      clear hQ
      by_cases hlt : k < l.length
      · have hlt' : (k : Int) < (l.length : Int) := by omega
        obtain ⟨d, hd, hpl⟩ := plain_fix l[k] (HF.out _ (List.getElem_mem _))
        have HPl := (show Hid (∀ w, Calls Tryd.prog 12 #[rawV l[k]] w fun e w' => e = .returned (ddV d) ∧ Below w.heap.size w w') from hpl)
        have HDk : Hid d.Ok := hd
        obtain ⟨gb, off, rfl, hc⟩ : ∃ gb off, a = some ⟨gb, off, none⟩ ∧ ∀ i (h : i < l.length), wr.cell? ⟨gb, off + i * 5, none⟩ = some (.int .i64 (l[i] 0)) ∧ wr.cell? ⟨gb, off + i * 5 + 1, none⟩ = some (.int .i64 (l[i] 1)) ∧ wr.cell? ⟨gb, off + i * 5 + 2, none⟩ = some (.int .i64 (l[i] 2)) ∧ wr.cell? ⟨gb, off + i * 5 + 3, none⟩ = some (.int .i64 (l[i] 3)) ∧ wr.cell? ⟨gb, off + i * 5 + 4, none⟩ = some (.int .i64 (l[i] 4)) := by
          rcases HR.out.below HBr.out with h | h
          · rw [h] at hlt; cases hlt
          · exact h
        obtain ⟨c0, c1, c2, c3, c4⟩ := hc k hlt
        clear hc hpl hd
        generalize l[k] = x at *
        go_wp2_with fail
        refine (HPl.out _).mono ?_
        rintro e w4 ⟨rfl, hb4⟩
        have HQ4 : Hid (OwnT w p q0 w4.heap.size M k { o with who := c } d (w4.alloc (.cells #[.int .i64 (d.w : Int), .int .i64 (d.who : Int), .int .i64 (d.v : Int), .int .i64 (d.a : Int), .int .i64 (d.b : Int)] 29))) := (HQr.out.next hb4).two d
        clear c0 c1 c2 c3 c4 hb4
        simp only [ddV]
        go_wp2_with fail
        generalize w4.alloc (.cells #[.int .i64 (d.w : Int), .int .i64 (d.who : Int), .int .i64 (d.v : Int), .int .i64 (d.a : Int), .int .i64 (d.b : Int)] 29) = W4 at *
        generalize w4.heap.size = q1 at *
        obtain ⟨vb4, hP4, hn4⟩ := HQ4.out.lies
        have HD4 : Hid (Calls Tryd.prog 13 #[.pointer (some ⟨p, 0, none⟩), .agg #[.int .i64 (d.w : Int), .int .i64 (d.who : Int), .int .i64 (d.v : Int), .int .i64 (d.a : Int), .int .i64 (d.b : Int)]] W4 fun e w' => PDid p vb4 M d W4 e w') := did_any HS.out p vb4 M k d HDk.out W4 HQ4.out.q.inv (by omega) hP4 (HT.out.next HQ4.out.q.bel)
        have HN4 : Hid (∀ q, PHas p vb4 q → (w.heap.size ≤ q ∧ q ≠ q0) ∧ q ≠ q1) := hn4
        clear hP4 hn4
        refine HD4.out.mono ?_
        intro e w5 hD
        have HQ5 : Hid (OwnT w p q0 q1 (Mk.didM M d).2.2 (k + 1) { o with who := c } d w5) := HQ4.out.did HN4.out hD
        obtain rfl := hD.1
        have HL : Hid (Mk.didB M d = true → (Mk.didM M d).2.2.ls d.who = M.ls d.who + 1 ∧ (Mk.didM M d).2.2.tx d.who = (Mk.didM M d).1 ∧ (Mk.didM M d).2.2.er d.who = (Mk.didM M d).2.1) := did_last HQ4.out.q.inv HDk.out
        have hlow := HQ4.out.q.inv.well.ls d.who HDk.out.who
        clear hD
        generalize Mk.didM M d = X at *
        generalize Mk.didB M d = bd at *
        obtain ⟨X1, X2, X3⟩ := X
        cases bd
        · go_wp2_with fail
          go_roundw
          case rel => exact ⟨k + 1, X3, c, by omega, by go_num, hc4, HQ5.out.q⟩
          case measure => simp [intOf]; omega
        · have hL := HL.out rfl
          have hls5 := HQ5.out.q.inv.well.ls d.who HDk.out.who
          simp only [] at hL hls5
          obtain ⟨n, hn⟩ : ∃ n : Nat, X3.ls d.who = (n : Int) := ⟨(X3.ls d.who).toNat, by omega⟩
          have hn1 : 1 ≤ n ∧ n ≤ 99 := by omega
          have HN : Hid (X3.ls d.who = (n : Int)) := hn
          have HX1 : Hid (X3.tx d.who = X1) := hL.2.1
          have HX2 : Hid (X3.er d.who = X2) := hL.2.2
          have HLa : Hid (Mk.lastM X3 (d.who : Int) = (n : Int)) := (by unfold Mk.lastM; rw [if_pos ⟨by omega, by have := HDk.out.who; omega⟩, ← hn]; simp : Mk.lastM X3 (d.who : Int) = (n : Int))
          clear hL hls5 hn hlow
          have y1 := HQ5.out.row.cell (i := 1) (by omega)
          simp only [ddF] at y1
          obtain ⟨vb5, hP5, hn5⟩ := HQ5.out.lies
          have HP5 : Hid (PM w5 p vb5 X3) := hP5
          clear hP5 hn5
          go_wp2_with fail
          refine (plast_any p vb5 X3 _ _ HP5.out).mono ?_
          rintro e w6 ⟨rfl, hb6⟩
          rw [HLa.out]
          have HQ6 : Hid (OwnT w p q0 q1 X3 (k + 1) { o with who := c } d w6) := HQ5.out.next hb6
          have HP6 : Hid (PM w6 p vb5 X3) := HP5.out.below hb6
          clear y1 hb6
          go_wp2_with fail
          refine (pshow_any p vb5 X3 _ HQ6.out.q.inv.well.fine HP6.out (HT.out.next HQ6.out.q.bel)).mono ?_
          rintro e w7 ⟨rfl, hb7⟩
          have HQ7 : Hid (OwnT w p q0 q1 X3 (k + 1) { o with who := c } d w7) := HQ6.out.next hb7
          have HP7 : Hid (PM w7 p vb5 X3) := HP6.out.below hb7
          clear hb7
          go_wp2_with fail
          refine (HS.out.logs p vb5 X3 (k + 1) _ HQ7.out.q.inv (by omega) HP7.out).mono ?_
          rintro e w8 ⟨rfl, hb8⟩
          have HQ8 : Hid (OwnT w p q0 q1 X3 (k + 1) { o with who := c } d w8) := HQ7.out.next hb8
          clear hb8
          have y1 := HQ8.out.row.cell (i := 1) (by omega)
          simp only [ddF] at y1
          have z1 := HQ8.out.q.row.cell (i := 1) (by omega)
          simp only [ddF] at z1
          have zf := HQ8.out.q.row.frozen 1
          have HQ9 : Hid (OwnT w p q0 q1 X3 (k + 1) { o with who := d.who } d (w8.setCell ⟨q0, 1, none⟩ (.int .i64 (d.who : Int)))) := HQ8.out.setWho d.who
          go_upto_region 22 with fail
          clear y1 z1 zf
          generalize w8.setCell ⟨q0, 1, none⟩ (.int .i64 (d.who : Int)) = W9 at *
          have HOd : Hid (Mk.Dd.Ok { o with who := d.who }) := ok_who HOo.out HDk.out.who
          have g0 := HQ9.out.q.row.cell (i := 0) (by omega)
          have g1 := HQ9.out.q.row.cell (i := 1) (by omega)
          have g2 := HQ9.out.q.row.cell (i := 2) (by omega)
          have g3 := HQ9.out.q.row.cell (i := 3) (by omega)
          have g4 := HQ9.out.q.row.cell (i := 4) (by omega)
          simp only [ddF] at g0 g1 g2 g3 g4
          go_wp2_with fail
          refine (command_any { o with who := d.who } n HOd.out (by omega) _).mono ?_
          rintro e w10 ⟨rfl, hb10⟩
          have HQ10 : Hid (OwnT w p q0 q1 X3 (k + 1) { o with who := d.who } d w10) := HQ9.out.next hb10
          clear g0 g1 g2 g3 g4 hb10
          obtain ⟨vb10, hP10, hn10⟩ := HQ10.out.lies
          have HN10 : Hid (∀ q, PHas p vb10 q → (w.heap.size ≤ q ∧ q ≠ q0) ∧ q ≠ q1) := hn10
          have HD10 : Hid (Calls Tryd.prog 23 #[.pointer (some ⟨p, 0, none⟩), .string (Mk.Dd.cmd { o with who := d.who } n)] w10 fun e w' => PDoT p vb10 (X1, X2, X3) w10 e w') := (by
            have h := HS.out.dos p vb10 X3 (k + 1) (Mk.Dd.cmd { o with who := d.who } n) w10 HQ10.out.q.inv (by omega) (by have := cmd_size HOd.out hn1; omega) hP10 (HT.out.next HQ10.out.q.bel)
            rw [do_again (M := X3) HOd.out hn1 HN.out] at h
            have h1 : X3.tx (Mk.Dd.who { o with who := d.who }) = X1 := HX1.out
            have h2 : X3.er (Mk.Dd.who { o with who := d.who }) = X2 := HX2.out
            rw [h1, h2] at h
            exact h : Calls Tryd.prog 23 #[.pointer (some ⟨p, 0, none⟩), .string (Mk.Dd.cmd { o with who := d.who } n)] w10 fun e w' => PDoT p vb10 (X1, X2, X3) w10 e w')
          clear hP10 hn10
          go_wp2_with fail
          refine HD10.out.mono ?_
          intro e w11 hD
          have HQ11 : Hid (OwnT w p q0 q1 X3 (k + 1) { o with who := d.who } d w11) := HQ10.out.same HN10.out hD
          obtain rfl := hD.1
          clear hD
          by_cases ra : R = n
          · subst ra
            have y1 := HQ11.out.row.cell (i := 1) (by omega)
            simp only [ddF] at y1
            obtain ⟨vbA, hPA, hnA⟩ := HQ11.out.lies
            have HPA : Hid (PM w11 p vbA X3) := hPA
            clear hPA hnA
            go_wp2_with fail
            refine (plast_any p vbA X3 _ _ HPA.out).mono ?_
            rintro e wA ⟨rfl, hbA⟩
            rw [HLa.out]
            have HQA : Hid (OwnT w p q0 q1 X3 (k + 1) { o with who := d.who } d wA) := HQ11.out.next hbA
            have HPA2 : Hid (PM wA p vbA X3) := HPA.out.below hbA
            clear y1 hbA
            go_wp2_with fail
            refine (pshow_any p vbA X3 _ HQA.out.q.inv.well.fine HPA2.out (HT.out.next HQA.out.q.bel)).mono ?_
            rintro e wB ⟨rfl, hbB⟩
            have HQB : Hid (OwnT w p q0 q1 X3 (k + 1) { o with who := d.who } d wB) := HQA.out.next hbB
            have HPB : Hid (PM wB p vbA X3) := HPA2.out.below hbB
            clear hbB
            go_wp2_with fail
            refine (HS.out.logs p vbA X3 (k + 1) _ HQB.out.q.inv (by omega) HPB.out).mono ?_
            rintro e wC ⟨rfl, hbC⟩
            have HQC : Hid (OwnT w p q0 q1 X3 (k + 1) { o with who := d.who } d wC) := HQB.out.next hbC
            clear hbC
            go_wp2_with fail
            go_roundw
            case rel => exact ⟨k + 1, X3, d.who, by omega, by go_num, HDk.out.who, HQC.out.q⟩
            case measure => simp [intOf]; omega
          by_cases rb : R = n + 1
          · have ra' : ((R : Int) == (n : Int)) = false := by simp; omega
            have rb' : (n : Int) + 1 = (R : Int) := by omega
            clear rb
            have y1 := HQ11.out.row.cell (i := 1) (by omega)
            simp only [ddF] at y1
            obtain ⟨vbA, hPA, hnA⟩ := HQ11.out.lies
            have HPA : Hid (PM w11 p vbA X3) := hPA
            clear hPA hnA
            go_wp2_with fail
            refine (plast_any p vbA X3 _ _ HPA.out).mono ?_
            rintro e wA ⟨rfl, hbA⟩
            rw [HLa.out]
            have HQA : Hid (OwnT w p q0 q1 X3 (k + 1) { o with who := d.who } d wA) := HQ11.out.next hbA
            have HPA2 : Hid (PM wA p vbA X3) := HPA.out.below hbA
            clear y1 hbA
            go_wp2_with fail
            refine (pshow_any p vbA X3 _ HQA.out.q.inv.well.fine HPA2.out (HT.out.next HQA.out.q.bel)).mono ?_
            rintro e wB ⟨rfl, hbB⟩
            have HQB : Hid (OwnT w p q0 q1 X3 (k + 1) { o with who := d.who } d wB) := HQA.out.next hbB
            have HPB : Hid (PM wB p vbA X3) := HPA2.out.below hbB
            clear hbB
            go_wp2_with fail
            refine (HS.out.logs p vbA X3 (k + 1) _ HQB.out.q.inv (by omega) HPB.out).mono ?_
            rintro e wC ⟨rfl, hbC⟩
            have HQC : Hid (OwnT w p q0 q1 X3 (k + 1) { o with who := d.who } d wC) := HQB.out.next hbC
            clear hbC
            go_wp2_with fail
            go_roundw
            case rel => exact ⟨k + 1, X3, d.who, by omega, by go_num, HDk.out.who, HQC.out.q⟩
            case measure => simp [intOf]; omega
          have ra' : ((R : Int) == (n : Int)) = false := by simp; omega
          have rb' : ((R : Int) == (n : Int) + 1) = false := by simp; omega
          have ra2 : ((R : Int) != (n : Int)) = true := by simp; omega
          have rb2 : ((R : Int) != (n : Int) + 1) = true := by simp; omega
          have ra3 : ¬ (R : Int) = (n : Int) := by omega
          have rb3 : ¬ (R : Int) = (n : Int) + 1 := by omega
          by_cases rc : R < n
          · have rc' : (R : Int) < (n : Int) := by omega
            have rd' : ¬ (n : Int) < (R : Int) := by omega
            go_upto_region 27 with fail
            have g0 := HQ11.out.q.row.cell (i := 0) (by omega)
            have g1 := HQ11.out.q.row.cell (i := 1) (by omega)
            have g2 := HQ11.out.q.row.cell (i := 2) (by omega)
            have g3 := HQ11.out.q.row.cell (i := 3) (by omega)
            have g4 := HQ11.out.q.row.cell (i := 4) (by omega)
            simp only [ddF] at g0 g1 g2 g3 g4
            go_wp2_with fail
            refine (command_any { o with who := d.who } (R) HOd.out (by omega) _).mono ?_
            rintro e w12 ⟨rfl, hb12⟩
            have HQ12 : Hid (OwnT w p q0 q1 X3 (k + 1) { o with who := d.who } d w12) := HQ11.out.next hb12
            clear g0 g1 g2 g3 g4 hb12
            obtain ⟨vb12, hP12, hn12⟩ := HQ12.out.lies
            have HN12 : Hid (∀ q, PHas p vb12 q → (w.heap.size ≤ q ∧ q ≠ q0) ∧ q ≠ q1) := hn12
            have HD12 : Hid (Calls Tryd.prog 23 #[.pointer (some ⟨p, 0, none⟩), .string (Mk.Dd.cmd { o with who := d.who } (R))] w12 fun e w' => PDoT p vb12 (⟨#[]⟩, 3, X3) w12 e w') := (by
              have h := HS.out.dos p vb12 X3 (k + 1) (Mk.Dd.cmd { o with who := d.who } (R)) w12 HQ12.out.q.inv (by omega) (by have := cmd_size HOd.out (r := R) ⟨by omega, by omega⟩; omega) hP12 (HT.out.next HQ12.out.q.bel)
              rw [do_old (M := X3) HOd.out ⟨by omega, by omega⟩ HN.out rc] at h
              exact h : Calls Tryd.prog 23 #[.pointer (some ⟨p, 0, none⟩), .string (Mk.Dd.cmd { o with who := d.who } (R))] w12 fun e w' => PDoT p vb12 (⟨#[]⟩, 3, X3) w12 e w')
            clear hP12 hn12
            go_wp2_with fail
            refine HD12.out.mono ?_
            intro e w13 hD
            have HQ13 : Hid (OwnT w p q0 q1 X3 (k + 1) { o with who := d.who } d w13) := HQ12.out.same HN12.out hD
            obtain rfl := hD.1
            clear hD
            have y1 := HQ13.out.row.cell (i := 1) (by omega)
            simp only [ddF] at y1
            obtain ⟨vbA, hPA, hnA⟩ := HQ13.out.lies
            have HPA : Hid (PM w13 p vbA X3) := hPA
            clear hPA hnA
            go_wp2_with fail
            refine (plast_any p vbA X3 _ _ HPA.out).mono ?_
            rintro e wA ⟨rfl, hbA⟩
            rw [HLa.out]
            have HQA : Hid (OwnT w p q0 q1 X3 (k + 1) { o with who := d.who } d wA) := HQ13.out.next hbA
            have HPA2 : Hid (PM wA p vbA X3) := HPA.out.below hbA
            clear y1 hbA
            go_wp2_with fail
            refine (pshow_any p vbA X3 _ HQA.out.q.inv.well.fine HPA2.out (HT.out.next HQA.out.q.bel)).mono ?_
            rintro e wB ⟨rfl, hbB⟩
            have HQB : Hid (OwnT w p q0 q1 X3 (k + 1) { o with who := d.who } d wB) := HQA.out.next hbB
            have HPB : Hid (PM wB p vbA X3) := HPA2.out.below hbB
            clear hbB
            go_wp2_with fail
            refine (HS.out.logs p vbA X3 (k + 1) _ HQB.out.q.inv (by omega) HPB.out).mono ?_
            rintro e wC ⟨rfl, hbC⟩
            have HQC : Hid (OwnT w p q0 q1 X3 (k + 1) { o with who := d.who } d wC) := HQB.out.next hbC
            clear hbC
            go_wp2_with fail
            go_roundw
            case rel => exact ⟨k + 1, X3, d.who, by omega, by go_num, HDk.out.who, HQC.out.q⟩
            case measure => simp [intOf]; omega
          · have rc' : ¬ (R : Int) < (n : Int) := by omega
            have rd' : (n : Int) < (R : Int) := by omega
            go_upto_region 27 with fail
            have g0 := HQ11.out.q.row.cell (i := 0) (by omega)
            have g1 := HQ11.out.q.row.cell (i := 1) (by omega)
            have g2 := HQ11.out.q.row.cell (i := 2) (by omega)
            have g3 := HQ11.out.q.row.cell (i := 3) (by omega)
            have g4 := HQ11.out.q.row.cell (i := 4) (by omega)
            simp only [ddF] at g0 g1 g2 g3 g4
            go_wp2_with fail
            refine (command_any { o with who := d.who } (R) HOd.out (by omega) _).mono ?_
            rintro e w12 ⟨rfl, hb12⟩
            have HQ12 : Hid (OwnT w p q0 q1 X3 (k + 1) { o with who := d.who } d w12) := HQ11.out.next hb12
            clear g0 g1 g2 g3 g4 hb12
            obtain ⟨vb12, hP12, hn12⟩ := HQ12.out.lies
            have HN12 : Hid (∀ q, PHas p vb12 q → (w.heap.size ≤ q ∧ q ≠ q0) ∧ q ≠ q1) := hn12
            have HD12 : Hid (Calls Tryd.prog 23 #[.pointer (some ⟨p, 0, none⟩), .string (Mk.Dd.cmd { o with who := d.who } (R))] w12 fun e w' => PDoT p vb12 (⟨#[]⟩, 4, X3) w12 e w') := (by
              have h := HS.out.dos p vb12 X3 (k + 1) (Mk.Dd.cmd { o with who := d.who } (R)) w12 HQ12.out.q.inv (by omega) (by have := cmd_size HOd.out (r := R) ⟨by omega, by omega⟩; omega) hP12 (HT.out.next HQ12.out.q.bel)
              rw [do_gap (M := X3) HOd.out ⟨by omega, by omega⟩ HN.out (by omega)] at h
              exact h : Calls Tryd.prog 23 #[.pointer (some ⟨p, 0, none⟩), .string (Mk.Dd.cmd { o with who := d.who } (R))] w12 fun e w' => PDoT p vb12 (⟨#[]⟩, 4, X3) w12 e w')
            clear hP12 hn12
            go_wp2_with fail
            refine HD12.out.mono ?_
            intro e w13 hD
            have HQ13 : Hid (OwnT w p q0 q1 X3 (k + 1) { o with who := d.who } d w13) := HQ12.out.same HN12.out hD
            obtain rfl := hD.1
            clear hD
            have y1 := HQ13.out.row.cell (i := 1) (by omega)
            simp only [ddF] at y1
            obtain ⟨vbA, hPA, hnA⟩ := HQ13.out.lies
            have HPA : Hid (PM w13 p vbA X3) := hPA
            clear hPA hnA
            go_wp2_with fail
            refine (plast_any p vbA X3 _ _ HPA.out).mono ?_
            rintro e wA ⟨rfl, hbA⟩
            rw [HLa.out]
            have HQA : Hid (OwnT w p q0 q1 X3 (k + 1) { o with who := d.who } d wA) := HQ13.out.next hbA
            have HPA2 : Hid (PM wA p vbA X3) := HPA.out.below hbA
            clear y1 hbA
            go_wp2_with fail
            refine (pshow_any p vbA X3 _ HQA.out.q.inv.well.fine HPA2.out (HT.out.next HQA.out.q.bel)).mono ?_
            rintro e wB ⟨rfl, hbB⟩
            have HQB : Hid (OwnT w p q0 q1 X3 (k + 1) { o with who := d.who } d wB) := HQA.out.next hbB
            have HPB : Hid (PM wB p vbA X3) := HPA2.out.below hbB
            clear hbB
            go_wp2_with fail
            refine (HS.out.logs p vbA X3 (k + 1) _ HQB.out.q.inv (by omega) HPB.out).mono ?_
            rintro e wC ⟨rfl, hbC⟩
            have HQC : Hid (OwnT w p q0 q1 X3 (k + 1) { o with who := d.who } d wC) := HQB.out.next hbC
            clear hbC
            go_wp2_with fail
            go_roundw
            case rel => exact ⟨k + 1, X3, d.who, by omega, by go_num, HDk.out.who, HQC.out.q⟩
            case measure => simp [intOf]; omega
      · obtain rfl : k = l.length := by omega
        go_wp2_with fail
        go_ret
        exact ⟨rfl, HBr.out⟩
  · have hd : decide (l.length ≤ 1048576) = false := by simpa using hs
    rw [hd]
    clear hd
    go_wp2_with fail
    go_ret
    exact ⟨rfl, HB0.out.trans (HB1.out.mono HB0.out.size)⟩

end Go.Proofs.YtmebcdpdpcpnmabDoor
