import Derived.Test.YtljeahgpkeohlabDoorJ13
import Derived.Test.YtljeahgpkeohlabDoorJ29
import Derived.Test.YtljeahgpkeohlabDoorJ24
import Derived.Test.YtljeahgpkeohlabDoorJ23
import Derived.Test.YtljeahgpkeohlabDoorJ17
import Derived.Test.YtljeahgpkeohlabDoorJ27
namespace Go.Proofs.YtljeahgpkeohlabDoor
open Go.RowKit

/-- WHAT THE PROGRAM's MARKET ANSWERS, whatever its command: Do as the document's value says; Log a text of the market's state -/
structure PSide (LG : Mk.Mkt → ByteArray) : Prop where
  dos : ∀ (p : Nat) (vb : Nat → Value) (M : Mk.Mkt) (k : Nat) (s : ByteArray) (w : World), AInv M k → k ≤ 1048576 → s.size ≤ 1048576 → PM w p vb M → Tab w →
    Calls Tryd.prog 22 #[.pointer (some ⟨p, 0, none⟩), .string s] w fun e w' => PDoT p vb (Mk.doM (Mk.allM M) M s) w e w'
  logs : ∀ (p : Nat) (vb : Nat → Value) (M : Mk.Mkt) (k : Nat) (w : World), AInv M k → k ≤ 1048577 → PM w p vb M →
    Calls Tryd.prog 20 #[.pointer (some ⟨p, 0, none⟩)] w fun e w' => e = .returned (.string (LG M)) ∧ Below w.heap.size w w'

/-- the client's next request -/
def Mk.cmdN (M : Mk.Mkt) (d : Mk.Dd) : ByteArray := d.cmd ((M.ls d.who).toNat + 1)
def Mk.didB (M : Mk.Mkt) (d : Mk.Dd) : Bool := decide (M.ls d.who < 99)
def Mk.didM (M : Mk.Mkt) (d : Mk.Dd) : ByteArray × Int × Mk.Mkt := if M.ls d.who < 99 then Mk.doM (Mk.allM M) M (Mk.cmdN M d) else (⟨#[]⟩, 0, M)
theorem cmd_size {d : Mk.Dd} (h : d.Ok) {r : Nat} (hr : 1 ≤ r ∧ r ≤ 99) : (d.cmd r).size ≤ 20 := (Mk.read_ok (Mk.read_cmd h hr)).2
theorem AInv.up {M : Mk.Mkt} {k : Nat} (h : AInv M k) : AInv M (k + 1) := ⟨⟨h.well.fine, h.well.ls, by have := h.well.disk; omega⟩, h.sound, h.one⟩
theorem did_inv {M : Mk.Mkt} {k : Nat} (h : AInv M k) (d : Mk.Dd) : AInv (Mk.didM M d).2.2 (k + 1) := by
  unfold Mk.didM
  split
  · exact all_step _ h
  · exact h.up
/-- what a deed leaves -/
def PDid (p : Nat) (vb : Nat → Value) (M : Mk.Mkt) (d : Mk.Dd) (w : World) (e : Ending) (w' : World) : Prop :=
  e = .returned (.tuple #[.string (Mk.didM M d).1, .int .i64 (Mk.didM M d).2.1, .bool (Mk.didB M d)]) ∧ ∃ vb', PM w' p vb' (Mk.didM M d).2.2 ∧ Only (PHas p vb) w w' ∧ ∀ k, PHas p vb' k → PHas p vb k ∨ w.heap.size ≤ k

set_option maxRecDepth 100000 in
set_option maxHeartbeats 1000000 in
theorem did_any {LG : Mk.Mkt → ByteArray} (hS : PSide LG) (p : Nat) (vb : Nat → Value) (M : Mk.Mkt) (k : Nat) (d : Mk.Dd) (hd : d.Ok) (w : World) (hI : AInv M k) (hk : k ≤ 1048576) (hP : PM w p vb M) (hT : Tab w) :
    Calls Tryd.prog 12 #[.pointer (some ⟨p, 0, none⟩), ddV d] w fun e w' => PDid p vb M d w e w' := by
  have HS : Hid (PSide LG) := hS
  have HI : Hid (AInv M k) := hI
  have HOk : Hid d.Ok := hd
  have HP : Hid (PM w p vb M) := hP
  have HT : Hid (Tab w) := hT
  have hls := hI.well.ls d.who hd.who
  obtain ⟨n, hn⟩ : ∃ n : Nat, M.ls d.who = (n : Int) := ⟨(M.ls d.who).toNat, by omega⟩
  have HL : Hid (Mk.lastM M (d.who : Int) = (n : Int)) := (by unfold Mk.lastM; rw [if_pos ⟨by omega, by have := hd.who; omega⟩, ← hn]; simp : Mk.lastM M (d.who : Int) = (n : Int))
  have hn99 : n ≤ 99 := by omega
  have HN : Hid (M.ls d.who = (n : Int)) := hn
  clear hS hI hd hP hT hn hls
  obtain ⟨dw, who, v, a, b⟩ := d
  have HB : Hid (Below w.heap.size w (w.alloc (.cells #[.int .i64 (dw : Int), .int .i64 (who : Int), .int .i64 (v : Int), .int .i64 (a : Int), .int .i64 (b : Int)] 29))) := (Below.refl _ _).alloc (Nat.le_refl _) _
  have HC : Hid (∀ i u, (#[.int .i64 (dw : Int), .int .i64 (who : Int), .int .i64 (v : Int), .int .i64 (a : Int), .int .i64 (b : Int)] : Array Value)[i]? = some u → (w.alloc (.cells #[.int .i64 (dw : Int), .int .i64 (who : Int), .int .i64 (v : Int), .int .i64 (a : Int), .int .i64 (b : Int)] 29)).cell? ⟨w.heap.size, i, none⟩ = some u) := fun i u h => by simpa using h
  have hlt : w.heap.size < (w.alloc (.cells #[.int .i64 (dw : Int), .int .i64 (who : Int), .int .i64 (v : Int), .int .i64 (a : Int), .int .i64 (b : Int)] 29)).heap.size := by simp
  unfold ddV
  go_enter Tryd.func12, Tryd.ntmps12
  go_upto_region 1 with fail
  generalize w.alloc (.cells #[.int .i64 (dw : Int), .int .i64 (who : Int), .int .i64 (v : Int), .int .i64 (a : Int), .int .i64 (b : Int)] 29) = W1 at *
  have x1 := HC.out 1 _ rfl
  go_wp2_with fail
  refine (plast_any p vb M _ _ (HP.out.below HB.out)).mono ?_
  rintro e w2 ⟨rfl, hb2⟩
  rw [HL.out]
  have HB2 : Hid (Below W1.heap.size W1 w2) := hb2
  clear x1 hb2
  by_cases h99 : n < 99
  · have hnot : ¬ (99 : Int) ≤ (n : Int) := by omega
    have z0 : w2.cell? ⟨w.heap.size, 0, none⟩ = some (.int .i64 (dw : Int)) := (HB2.out.cell (p := ⟨w.heap.size, 0, none⟩) hlt).trans (HC.out 0 _ rfl)
    have z1 : w2.cell? ⟨w.heap.size, 1, none⟩ = some (.int .i64 (who : Int)) := (HB2.out.cell (p := ⟨w.heap.size, 1, none⟩) hlt).trans (HC.out 1 _ rfl)
    have z2 : w2.cell? ⟨w.heap.size, 2, none⟩ = some (.int .i64 (v : Int)) := (HB2.out.cell (p := ⟨w.heap.size, 2, none⟩) hlt).trans (HC.out 2 _ rfl)
    have z3 : w2.cell? ⟨w.heap.size, 3, none⟩ = some (.int .i64 (a : Int)) := (HB2.out.cell (p := ⟨w.heap.size, 3, none⟩) hlt).trans (HC.out 3 _ rfl)
    have z4 : w2.cell? ⟨w.heap.size, 4, none⟩ = some (.int .i64 (b : Int)) := (HB2.out.cell (p := ⟨w.heap.size, 4, none⟩) hlt).trans (HC.out 4 _ rfl)
    have HE : Hid (Mk.didM M ⟨dw, who, v, a, b⟩ = Mk.doM (Mk.allM M) M (Mk.Dd.cmd ⟨dw, who, v, a, b⟩ (n + 1)) ∧ Mk.didB M ⟨dw, who, v, a, b⟩ = true) := (by
      have e : M.ls (Mk.Dd.who ⟨dw, who, v, a, b⟩) = (n : Int) := HN.out
      unfold Mk.didM Mk.didB Mk.cmdN
      rw [e, if_pos (by omega)]
      exact ⟨rfl, by simp; omega⟩ : Mk.didM M ⟨dw, who, v, a, b⟩ = Mk.doM (Mk.allM M) M (Mk.Dd.cmd ⟨dw, who, v, a, b⟩ (n + 1)) ∧ Mk.didB M ⟨dw, who, v, a, b⟩ = true)
    have hsz := cmd_size HOk.out (r := n + 1) ⟨by omega, by omega⟩
    go_wp2_with fail
    refine (command_any ⟨dw, who, v, a, b⟩ (n + 1) HOk.out (by omega) _).mono ?_
    rintro e w3 ⟨rfl, hb3⟩
    have HB3 : Hid (Below w.heap.size w w3) := HB.out.trans ((HB2.out.trans (hb3.mono HB2.out.size)).mono HB.out.size)
    clear z0 z1 z2 z3 z4 hb3
    go_wp2_with fail
    refine (HS.out.dos p vb M k _ _ HI.out hk (by omega) (HP.out.below HB3.out) (HT.out.next HB3.out)).mono ?_
    intro e w4 hD
    obtain ⟨rfl, vb', hP4, hO4, hN4⟩ := hD
    have HF : Hid (PDid p vb M ⟨dw, who, v, a, b⟩ w (.returned (.tuple #[.string (Mk.doM (Mk.allM M) M (Mk.Dd.cmd ⟨dw, who, v, a, b⟩ (n + 1))).1, .int .i64 (Mk.doM (Mk.allM M) M (Mk.Dd.cmd ⟨dw, who, v, a, b⟩ (n + 1))).2.1, .bool true])) w4) := (by
      unfold PDid
      rw [HE.out.1, HE.out.2]
      exact ⟨rfl, vb', hP4, (Only.of_below HB3.out).trans hO4 (fun _ _ h => h), fun j hj => (hN4 j hj).imp id (fun h => Nat.le_trans HB3.out.size h)⟩ : PDid p vb M ⟨dw, who, v, a, b⟩ w (.returned (.tuple #[.string (Mk.doM (Mk.allM M) M (Mk.Dd.cmd ⟨dw, who, v, a, b⟩ (n + 1))).1, .int .i64 (Mk.doM (Mk.allM M) M (Mk.Dd.cmd ⟨dw, who, v, a, b⟩ (n + 1))).2.1, .bool true])) w4)
    clear hP4 hO4 hN4
    go_wp2_with fail
    refine bodyPost_ret (v := .tuple #[.string (Mk.doM (Mk.allM M) M (Mk.Dd.cmd ⟨dw, who, v, a, b⟩ (n + 1))).1, .int .i64 (Mk.doM (Mk.allM M) M (Mk.Dd.cmd ⟨dw, who, v, a, b⟩ (n + 1))).2.1, .bool true]) ?_ rfl HF.out
    simp [results, Tryd.results12, go_sem]
  · have hyes : (99 : Int) ≤ (n : Int) := by omega
    have HF : Hid (PDid p vb M ⟨dw, who, v, a, b⟩ w (.returned (.tuple #[.string ⟨#[]⟩, .int .i64 0, .bool false])) w2) := (by
      have e : M.ls (Mk.Dd.who ⟨dw, who, v, a, b⟩) = (n : Int) := HN.out
      have hb : Below w.heap.size w w2 := HB.out.trans (HB2.out.mono HB.out.size)
      unfold PDid Mk.didM Mk.didB
      rw [e, if_neg (by omega)]
      exact ⟨by simp; omega, vb, HP.out.below hb, Only.of_below hb, fun j hj => .inl hj⟩ : PDid p vb M ⟨dw, who, v, a, b⟩ w (.returned (.tuple #[.string ⟨#[]⟩, .int .i64 0, .bool false])) w2)
    go_wp2_with fail
    refine bodyPost_ret (v := .tuple #[.string ⟨#[]⟩, .int .i64 0, .bool false]) ?_ rfl HF.out
    simp [results, Tryd.results12, go_sem]

end Go.Proofs.YtljeahgpkeohlabDoor

namespace Go.Proofs.YtljeahgpkeohlabDoor
open Go.RowKit

/-- the library's table is no block of the market's -/
theorem tab_ne {w : World} {p : Nat} {vb : Nat → Value} {M : Mk.Mkt} (hT : Tab w) (hP : PM w p vb M) : ∀ g, Tryd.prog.globalNamed "internal/strconv.uint64pow10" = some g → g ≠ p := by
  rintro g hg rfl
  obtain ⟨c, hc, hs, _⟩ := hP.box
  unfold Tab Lib.TabIs World.var? at hT
  rw [hg] at hT
  have h' : (match w.heap[g]? with | some (.cells cs _ _) => some cs | _ => none) = some (Lib.pow10Tab.map fun z => Value.int .u64 z).toArray := hT
  rw [hc] at h'
  have h2 : c = (Lib.pow10Tab.map fun z => Value.int .u64 z).toArray := Option.some.inj h'
  have h3 : (Lib.pow10Tab.map fun z => Value.int .u64 z).toArray.size ≠ 43 := by decide
  rw [← h2] at h3
  exact h3 hs
theorem tab_only {w w' : World} {p : Nat} {vb : Nat → Value} {M : Mk.Mkt} (hT : Tab w) (hP : PM w p vb M) (ho : Only (One p) w w') : Tab w' := by
  have hne := tab_ne hT hP
  have hl := hT.lt
  unfold Tab Lib.TabIs World.var? at hT ⊢
  rw [← hT]
  cases hg : Tryd.prog.globalNamed "internal/strconv.uint64pow10" with
  | none => rfl
  | some g =>
    show (match w'.heap[g]? with | some (.cells cs _ _) => some cs | _ => none) = (match w.heap[g]? with | some (.cells cs _ _) => some cs | _ => none)
    rw [ho.block g (hl g hg) (fun e => hne g hg e)]

/-- what the buyers get -/
def buyF (l : List Mk.Ord) (f : Nat → Int) (i : Nat) : Int := if (l.getD i Mk.ozero).sell = false then f i else 0
theorem buyF_bd {l : List Mk.Ord} {f : Nat → Int} (h : ∀ i, i < l.length → 0 ≤ f i ∧ f i ≤ 20) : ∀ k, k ≤ l.length → 0 ≤ Mk.sumn (buyF l f) k ∧ Mk.sumn (buyF l f) k ≤ 20 * k
  | 0, _ => by simp [Mk.sumn]
  | k + 1, hk => by
    have ih := buyF_bd h k (by omega)
    have h1 := h k (by omega)
    have e : Mk.sumn (buyF l f) (k + 1) = Mk.sumn (buyF l f) k + buyF l f k := rfl
    rw [e]
    unfold buyF at *
    split <;> omega

set_option maxRecDepth 100000 in
set_option maxHeartbeats 2000000 in
theorem bought_some (b off cap g gc : Nat) (l : List Mk.Ord) (f : Nat → Int) (w : World) (h12 : l.length ≤ 12) (hR : At w b off l) (hrow : w.rowIs g 3 l.length (fun i => .int .i64 (f i))) (hf : ∀ i, i < l.length → 0 ≤ f i ∧ f i ≤ 20) :
    Calls Tryd.prog 69 #[.slice (some ⟨b, off, none⟩) l.length cap, .slice (some ⟨g, 0, none⟩) l.length gc] w fun e w' => e = .returned (.int .i64 (Mk.sideSum l false f)) ∧ Below w.heap.size w w' := by
  have HR : Hid (At w b off l) := hR
  have HRow : Hid (w.rowIs g 3 l.length (fun i => .int .i64 (f i))) := hrow
  have HF : Hid (∀ i, i < l.length → 0 ≤ f i ∧ f i ≤ 20) := hf
  clear hR hrow hf
  go_enter Tryd.func69, Tryd.ntmps69
  go_wp2
  go_loopw [5, 10] (fun s j wr => ∃ k : Nat, k ≤ l.length ∧ j = .int .i64 k ∧ s = .int .i64 (Mk.sumn (buyF l f) k) ∧ Below w.heap.size w wr) (fun _ j _ => l.length - (intOf j).toNat)
  case atStart => exact ⟨0, Nat.zero_le _, rfl, rfl, Below.refl _ _⟩
  case round =>
    obtain ⟨k, hk, rfl, rfl, hb⟩ := hrel
    have Hb : Hid (Below w.heap.size w wr) := hb
    clear hb
    have sb := buyF_bd HF.out k hk
    by_cases hlt : k < l.length
    · obtain ⟨c0, c1, c2⟩ := At.below HR.out Hb.out k hlt
      have c3 : wr.cell? ⟨g, k, none⟩ = some (.int .i64 (f k)) := (Hb.out.cell (p := ⟨g, k, none⟩) HRow.out.lt).trans (HRow.out.cell hlt)
      have hfk := HF.out k hlt
      have hlt' : (k : Int) < (l.length : Int) := by omega
      have hbl := blk_lt c0
      have hgl := blk_lt c3
      have hE : Mk.sumn (buyF l f) (k + 1) = Mk.sumn (buyF l f) k + if l[k].sell = false then f k else 0 := by
        show Mk.sumn (buyF l f) k + buyF l f k = _
        unfold buyF
        rw [Mk.getD_at hlt]
      have HA : Hid (∀ ob, Below w.heap.size w (wr.alloc ob)) := fun ob => Hb.out.alloc Hb.out.size ob
      have HK : Hid (k < l.length) := hlt
      revert c0 c1 c2 hE
      generalize l[k] = o
      obtain ⟨s, pr, q⟩ := o
      intro c0 c1 c2 hE
      simp only at c0 c1 c2
      cases s
      · have HE : Hid (Mk.sumn (buyF l f) (k + 1) = Mk.sumn (buyF l f) k + f k) := (by rw [hE]; rfl : Mk.sumn (buyF l f) (k + 1) = Mk.sumn (buyF l f) k + f k)
        clear hE
        go_wp2
        go_roundw
        case rel => exact ⟨k + 1, by omega, by go_num, by rw [HE.out], HA.out _⟩
        case measure => simp [intOf]; omega
      · have HE : Hid (Mk.sumn (buyF l f) (k + 1) = Mk.sumn (buyF l f) k) := (by rw [hE]; simp : Mk.sumn (buyF l f) (k + 1) = Mk.sumn (buyF l f) k)
        clear hE
        go_wp2
        go_roundw
        case rel => exact ⟨k + 1, by omega, by go_num, by rw [HE.out], HA.out _⟩
        case measure => simp [intOf]; omega
    · obtain rfl : k = l.length := by omega
      go_wp2
      go_ret
      exact ⟨rfl, Hb.out⟩

set_option maxRecDepth 100000 in
set_option maxHeartbeats 2000000 in
theorem bought_nil (a : Option Addr) (cap g gc : Nat) (w : World) :
    Calls Tryd.prog 69 #[.slice a 0 cap, .slice (some ⟨g, 0, none⟩) 0 gc] w fun e w' => e = .returned (.int .i64 0) ∧ Below w.heap.size w w' := by
  go_enter Tryd.func69, Tryd.ntmps69
  go_wp2
  go_loop [5, 10] (fun s j => j = .int .i64 0 ∧ s = .int .i64 0) (fun _ j => 0)
  case atStart => exact ⟨rfl, rfl⟩
  case round =>
    obtain ⟨rfl, rfl⟩ := hrel
    go_wp2
    go_ret
    exact ⟨rfl, Below.refl _ _⟩

theorem bought_any (a : Option Addr) (cap g gc : Nat) (l : List Mk.Ord) (f : Nat → Int) (w : World) (h12 : l.length ≤ 12) (hR : Rd w a l) (hrow : w.rowIs g 3 l.length (fun i => .int .i64 (f i))) (hf : ∀ i, i < l.length → 0 ≤ f i ∧ f i ≤ 20) :
    Calls Tryd.prog 69 #[.slice a l.length cap, .slice (some ⟨g, 0, none⟩) l.length gc] w fun e w' => e = .returned (.int .i64 (Mk.sideSum l false f)) ∧ Below w.heap.size w w' := by
  rcases hR with rfl | ⟨b, off, rfl, hR⟩
  · exact bought_nil a cap g gc w
  · exact bought_some b off cap g gc l f w h12 hR hrow hf

/-- what a batch is cleared to, as a value -/
abbrev trV (ga : Option Addr) (n c : Nat) (V P G : Int) : Value := .agg #[.slice ga n c, .int .i64 V, .int .i64 P, .int .i64 G]

set_option maxRecDepth 100000 in
set_option maxHeartbeats 2000000 in
theorem tshow_any (ga : Option Addr) (n c : Nat) (V P G : Int) (w : World) (bV : 0 ≤ V ∧ V ≤ 9999) (bP : 0 ≤ P ∧ P ≤ 9999) (bG : 0 ≤ G ∧ G ≤ 9999) (hT : Tab w) :
    Calls Tryd.prog 63 #[trV ga n c V P G] w fun e w' => e = .returned (.string (Mk.shutT V P G)) ∧ Below w.heap.size w w' := by
  have HB1 : Hid (Below w.heap.size w (w.alloc (.cells #[.slice ga n c, .int .i64 V, .int .i64 P, .int .i64 G] 103))) := (Below.refl _ _).alloc (Nat.le_refl _) _
  have HT1 : Hid (Tab (w.alloc (.cells #[.slice ga n c, .int .i64 V, .int .i64 P, .int .i64 G] 103))) := hT.next HB1.out
  have x1 : (w.alloc (.cells #[.slice ga n c, .int .i64 V, .int .i64 P, .int .i64 G] 103)).cell? ⟨w.heap.size, 1, none⟩ = some (.int .i64 V) := by simp
  have x2 : (w.alloc (.cells #[.slice ga n c, .int .i64 V, .int .i64 P, .int .i64 G] 103)).cell? ⟨w.heap.size, 2, none⟩ = some (.int .i64 P) := by simp
  have x3 : (w.alloc (.cells #[.slice ga n c, .int .i64 V, .int .i64 P, .int .i64 G] 103)).cell? ⟨w.heap.size, 3, none⟩ = some (.int .i64 G) := by simp
  have hwl : w.heap.size < (w.alloc (.cells #[.slice ga n c, .int .i64 V, .int .i64 P, .int .i64 G] 103)).heap.size := by simp
  clear hT
  go_enter Tryd.func63, Tryd.ntmps63
  go_upto_region 1 with fail
  generalize w.alloc (.cells #[.slice ga n c, .int .i64 V, .int .i64 P, .int .i64 G] 103) = W1 at *
  by_cases hV0 : V = 0
  · have HX : Hid (Mk.shutT V P G = ⟨#[48]⟩) := (by unfold Mk.shutT; rw [if_pos hV0] : Mk.shutT V P G = ⟨#[48]⟩)
    have hV1 : (V == 0) = true := by simpa using hV0
    clear hV0
    go_wp2_with fail
    go_ret
    exact ⟨by rw [HX.out]; rfl, HB1.out⟩
  · have hV1 : (V == 0) = false := by simpa using hV0
    have HX : Hid (Mk.shutT V P G = Mk.digI V ++ ⟨#[64]⟩ ++ Mk.digI P ++ ⟨#[47]⟩ ++ Mk.digI G) := (by unfold Mk.shutT; rw [if_neg hV0] : Mk.shutT V P G = Mk.digI V ++ ⟨#[64]⟩ ++ Mk.digI P ++ ⟨#[47]⟩ ++ Mk.digI G)
    have t1 := Mk.digI_le bV.2
    have t2 := Mk.digI_le bP.2
    have t3 := Mk.digI_le bG.2
    clear hV0
    go_wp2_with fail
    refine (itoaI_any V bV _ HT1.out).mono ?_
    rintro e w3 ⟨rfl, hb3⟩
    have HB3 : Hid (Below w.heap.size w w3) := HB1.out.trans (hb3.mono HB1.out.size)
    have HT3 : Hid (Tab w3) := HT1.out.next hb3
    have y2 : w3.cell? ⟨w.heap.size, 2, none⟩ = some (.int .i64 P) := (hb3.cell (p := ⟨w.heap.size, 2, none⟩) hwl).trans x2
    have y3 : w3.cell? ⟨w.heap.size, 3, none⟩ = some (.int .i64 G) := (hb3.cell (p := ⟨w.heap.size, 3, none⟩) hwl).trans x3
    have hwl3 : w.heap.size < w3.heap.size := Nat.lt_of_lt_of_le hwl hb3.size
    clear hb3 x1 x2 x3
    go_wp2_with fail
    refine (itoaI_any P bP _ HT3.out).mono ?_
    rintro e w4 ⟨rfl, hb4⟩
    have HB4 : Hid (Below w.heap.size w w4) := HB3.out.trans (hb4.mono HB3.out.size)
    have HT4 : Hid (Tab w4) := HT3.out.next hb4
    have u3 : w4.cell? ⟨w.heap.size, 3, none⟩ = some (.int .i64 G) := (hb4.cell (p := ⟨w.heap.size, 3, none⟩) hwl3).trans y3
    clear hb4 y2 y3
    go_wp2_with fail
    refine (itoaI_any G bG _ HT4.out).mono ?_
    rintro e w5 ⟨rfl, hb5⟩
    have HB5 : Hid (Below w.heap.size w w5) := HB4.out.trans (hb5.mono HB4.out.size)
    clear hb5
    go_wp2_with fail
    go_ret
    exact ⟨by rw [HX.out]; rfl, HB5.out⟩

end Go.Proofs.YtljeahgpkeohlabDoor
