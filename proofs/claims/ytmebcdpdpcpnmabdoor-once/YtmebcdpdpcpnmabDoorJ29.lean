import Derived.Test.YtmebcdpdpcpnmabDoorJ12
import Derived.Test.YtmebcdpdpcpnmabDoorJ28
import Derived.Test.YtmebcdpdpcpnmabDoorJ23
import Derived.Test.YtmebcdpdpcpnmabDoorJ22
namespace Go.Proofs.YtmebcdpdpcpnmabDoor
open Go.RowKit

/-- WHAT THE PROGRAM's MARKET ANSWERS, whatever its command: Do as the document's value says; Log a text of the market's state -/
structure PSide (LG : Mk.Mkt → ByteArray) : Prop where
  dos : ∀ (p : Nat) (vb : Nat → Value) (M : Mk.Mkt) (k : Nat) (s : ByteArray) (w : World), AInv M k → k ≤ 1048576 → s.size ≤ 1048576 → PM w p vb M → Tab w →
    Calls Tryd.prog 23 #[.pointer (some ⟨p, 0, none⟩), .string s] w fun e w' => PDoT p vb (Mk.doM (Mk.allM M) M s) w e w'
  logs : ∀ (p : Nat) (vb : Nat → Value) (M : Mk.Mkt) (k : Nat) (w : World), AInv M k → k ≤ 1048577 → PM w p vb M →
    Calls Tryd.prog 21 #[.pointer (some ⟨p, 0, none⟩)] w fun e w' => e = .returned (.string (LG M)) ∧ Below w.heap.size w w'

/-- the client's next request -/
def Mk.cmdN (M : Mk.Mkt) (d : Mk.Dd) : ByteArray := d.cmd ((M.ls d.who).toNat + 1)
def Mk.didB (M : Mk.Mkt) (d : Mk.Dd) : Bool := decide (M.ls d.who < 99)
def Mk.didM (M : Mk.Mkt) (d : Mk.Dd) : ByteArray × Int × Mk.Mkt := if M.ls d.who < 99 then Mk.doM (Mk.allM M) M (Mk.cmdN M d) else (⟨#[]⟩, 0, M)
theorem cmd_size {d : Mk.Dd} (h : d.Ok) {r : Nat} (hr : 1 ≤ r ∧ r ≤ 99) : (d.cmd r).size ≤ 20 := (Mk.read_ok (Mk.read_cmd h hr)).2
theorem AInv.up {M : Mk.Mkt} {k : Nat} (h : AInv M k) : AInv M (k + 1) := ⟨⟨h.well.fine, h.well.ls, by have := h.well.disk; omega⟩, h.sound, h.one⟩
theorem did_inv {M : Mk.Mkt} {k : Nat} (h : AInv M k) (d : Mk.Dd) : AInv (Mk.didM M d).2.2 (k + 1) := by
  unfold Mk.didM
  split
  · exact all_step _ h
  · exact h.up
/-- what a deed leaves -/
def PDid (p : Nat) (vb : Nat → Value) (M : Mk.Mkt) (d : Mk.Dd) (w : World) (e : Ending) (w' : World) : Prop :=
  e = .returned (.tuple #[.string (Mk.didM M d).1, .int .i64 (Mk.didM M d).2.1, .bool (Mk.didB M d)]) ∧ ∃ vb', PM w' p vb' (Mk.didM M d).2.2 ∧ Only (PHas p vb) w w' ∧ ∀ k, PHas p vb' k → PHas p vb k ∨ w.heap.size ≤ k

set_option maxRecDepth 100000 in
set_option maxHeartbeats 1000000 in
theorem did_any {LG : Mk.Mkt → ByteArray} (hS : PSide LG) (p : Nat) (vb : Nat → Value) (M : Mk.Mkt) (k : Nat) (d : Mk.Dd) (hd : d.Ok) (w : World) (hI : AInv M k) (hk : k ≤ 1048576) (hP : PM w p vb M) (hT : Tab w) :
    Calls Tryd.prog 13 #[.pointer (some ⟨p, 0, none⟩), ddV d] w fun e w' => PDid p vb M d w e w' := by
  have HS : Hid (PSide LG) := hS
  have HI : Hid (AInv M k) := hI
  have HOk : Hid d.Ok := hd
  have HP : Hid (PM w p vb M) := hP
  have HT : Hid (Tab w) := hT
  have hls := hI.well.ls d.who hd.who
  obtain ⟨n, hn⟩ : ∃ n : Nat, M.ls d.who = (n : Int) := ⟨(M.ls d.who).toNat, by omega⟩
  have HL : Hid (Mk.lastM M (d.who : Int) = (n : Int)) := (by unfold Mk.lastM; rw [if_pos ⟨by omega, by have := hd.who; omega⟩, ← hn]; simp : Mk.lastM M (d.who : Int) = (n : Int))
  have hn99 : n ≤ 99 := by omega
  have HN : Hid (M.ls d.who = (n : Int)) := hn
  clear hS hI hd hP hT hn hls
  obtain ⟨dw, who, v, a, b⟩ := d
  have HB : Hid (Below w.heap.size w (w.alloc (.cells #[.int .i64 (dw : Int), .int .i64 (who : Int), .int .i64 (v : Int), .int .i64 (a : Int), .int .i64 (b : Int)] 29))) := (Below.refl _ _).alloc (Nat.le_refl _) _
  have HC : Hid (∀ i u, (#[.int .i64 (dw : Int), .int .i64 (who : Int), .int .i64 (v : Int), .int .i64 (a : Int), .int .i64 (b : Int)] : Array Value)[i]? = some u → (w.alloc (.cells #[.int .i64 (dw : Int), .int .i64 (who : Int), .int .i64 (v : Int), .int .i64 (a : Int), .int .i64 (b : Int)] 29)).cell? ⟨w.heap.size, i, none⟩ = some u) := fun i u h => by simpa using h
  have hlt : w.heap.size < (w.alloc (.cells #[.int .i64 (dw : Int), .int .i64 (who : Int), .int .i64 (v : Int), .int .i64 (a : Int), .int .i64 (b : Int)] 29)).heap.size := by simp
  unfold ddV
  go_enter Tryd.func13, Tryd.ntmps13
  go_upto_region 1 with fail
  generalize w.alloc (.cells #[.int .i64 (dw : Int), .int .i64 (who : Int), .int .i64 (v : Int), .int .i64 (a : Int), .int .i64 (b : Int)] 29) = W1 at *
  have x1 := HC.out 1 _ rfl
  go_wp2_with fail
  refine (plast_any p vb M _ _ (HP.out.below HB.out)).mono ?_
  rintro e w2 ⟨rfl, hb2⟩
  rw [HL.out]
  have HB2 : Hid (Below W1.heap.size W1 w2) := hb2
  clear x1 hb2
  by_cases h99 : n < 99
  · have hnot : ¬ (99 : Int) ≤ (n : Int) := by omega
    have z0 : w2.cell? ⟨w.heap.size, 0, none⟩ = some (.int .i64 (dw : Int)) := (HB2.out.cell (p := ⟨w.heap.size, 0, none⟩) hlt).trans (HC.out 0 _ rfl)
    have z1 : w2.cell? ⟨w.heap.size, 1, none⟩ = some (.int .i64 (who : Int)) := (HB2.out.cell (p := ⟨w.heap.size, 1, none⟩) hlt).trans (HC.out 1 _ rfl)
    have z2 : w2.cell? ⟨w.heap.size, 2, none⟩ = some (.int .i64 (v : Int)) := (HB2.out.cell (p := ⟨w.heap.size, 2, none⟩) hlt).trans (HC.out 2 _ rfl)
    have z3 : w2.cell? ⟨w.heap.size, 3, none⟩ = some (.int .i64 (a : Int)) := (HB2.out.cell (p := ⟨w.heap.size, 3, none⟩) hlt).trans (HC.out 3 _ rfl)
    have z4 : w2.cell? ⟨w.heap.size, 4, none⟩ = some (.int .i64 (b : Int)) := (HB2.out.cell (p := ⟨w.heap.size, 4, none⟩) hlt).trans (HC.out 4 _ rfl)
    have HE : Hid (Mk.didM M ⟨dw, who, v, a, b⟩ = Mk.doM (Mk.allM M) M (Mk.Dd.cmd ⟨dw, who, v, a, b⟩ (n + 1)) ∧ Mk.didB M ⟨dw, who, v, a, b⟩ = true) := (by
      have e : M.ls (Mk.Dd.who ⟨dw, who, v, a, b⟩) = (n : Int) := HN.out
      unfold Mk.didM Mk.didB Mk.cmdN
      rw [e, if_pos (by omega)]
      exact ⟨rfl, by simp; omega⟩ : Mk.didM M ⟨dw, who, v, a, b⟩ = Mk.doM (Mk.allM M) M (Mk.Dd.cmd ⟨dw, who, v, a, b⟩ (n + 1)) ∧ Mk.didB M ⟨dw, who, v, a, b⟩ = true)
    have hsz := cmd_size HOk.out (r := n + 1) ⟨by omega, by omega⟩
    go_wp2_with fail
    refine (command_any ⟨dw, who, v, a, b⟩ (n + 1) HOk.out (by omega) _).mono ?_
    rintro e w3 ⟨rfl, hb3⟩
    have HB3 : Hid (Below w.heap.size w w3) := HB.out.trans ((HB2.out.trans (hb3.mono HB2.out.size)).mono HB.out.size)
    clear z0 z1 z2 z3 z4 hb3
    go_wp2_with fail
    refine (HS.out.dos p vb M k _ _ HI.out hk (by omega) (HP.out.below HB3.out) (HT.out.next HB3.out)).mono ?_
    intro e w4 hD
    obtain ⟨rfl, vb', hP4, hO4, hN4⟩ := hD
    have HF : Hid (PDid p vb M ⟨dw, who, v, a, b⟩ w (.returned (.tuple #[.string (Mk.doM (Mk.allM M) M (Mk.Dd.cmd ⟨dw, who, v, a, b⟩ (n + 1))).1, .int .i64 (Mk.doM (Mk.allM M) M (Mk.Dd.cmd ⟨dw, who, v, a, b⟩ (n + 1))).2.1, .bool true])) w4) := (by
      unfold PDid
      rw [HE.out.1, HE.out.2]
      exact ⟨rfl, vb', hP4, (Only.of_below HB3.out).trans hO4 (fun _ _ h => h), fun j hj => (hN4 j hj).imp id (fun h => Nat.le_trans HB3.out.size h)⟩ : PDid p vb M ⟨dw, who, v, a, b⟩ w (.returned (.tuple #[.string (Mk.doM (Mk.allM M) M (Mk.Dd.cmd ⟨dw, who, v, a, b⟩ (n + 1))).1, .int .i64 (Mk.doM (Mk.allM M) M (Mk.Dd.cmd ⟨dw, who, v, a, b⟩ (n + 1))).2.1, .bool true])) w4)
    clear hP4 hO4 hN4
    go_wp2_with fail
    refine bodyPost_ret (v := .tuple #[.string (Mk.doM (Mk.allM M) M (Mk.Dd.cmd ⟨dw, who, v, a, b⟩ (n + 1))).1, .int .i64 (Mk.doM (Mk.allM M) M (Mk.Dd.cmd ⟨dw, who, v, a, b⟩ (n + 1))).2.1, .bool true]) ?_ rfl HF.out
    simp [results, Tryd.results13, go_sem]
  · have hyes : (99 : Int) ≤ (n : Int) := by omega
    have HF : Hid (PDid p vb M ⟨dw, who, v, a, b⟩ w (.returned (.tuple #[.string ⟨#[]⟩, .int .i64 0, .bool false])) w2) := (by
      have e : M.ls (Mk.Dd.who ⟨dw, who, v, a, b⟩) = (n : Int) := HN.out
      have hb : Below w.heap.size w w2 := HB.out.trans (HB2.out.mono HB.out.size)
      unfold PDid Mk.didM Mk.didB
      rw [e, if_neg (by omega)]
      exact ⟨by simp; omega, vb, HP.out.below hb, Only.of_below hb, fun j hj => .inl hj⟩ : PDid p vb M ⟨dw, who, v, a, b⟩ w (.returned (.tuple #[.string ⟨#[]⟩, .int .i64 0, .bool false])) w2)
    go_wp2_with fail
    refine bodyPost_ret (v := .tuple #[.string ⟨#[]⟩, .int .i64 0, .bool false]) ?_ rfl HF.out
    simp [results, Tryd.results13, go_sem]

end Go.Proofs.YtmebcdpdpcpnmabDoor

namespace Go.Proofs.YtmebcdpdpcpnmabDoor

/-- what the two digits at i tell -/
def Mk.two (s : ByteArray) (i : Nat) : Nat := 10 * (Mk.bt s i - 48) + (Mk.bt s (i + 1) - 48)
/-- the frame's text -/
def Mk.piece (s : ByteArray) (i : Nat) : ByteArray := s.extract (i + 2) (i + 2 + Mk.two s i)
/-- a log is read from byte i on -/
def Mk.openG (s : ByteArray) : Nat → Nat → Mk.Mkt → Option Mk.Mkt
  | 0, _, M => some M
  | f + 1, i, M =>
    if s.size < i + 2 then some M
    else if (Mk.isD s i && Mk.isD s (i + 1)) = false then none
    else if s.size < i + 2 + Mk.two s i then some M
    else match Mk.readP (Mk.piece s i) with
      | none => none
      | some c => if (c.r : Int) = M.ls c.who + 1 then Mk.openG s f (i + 2 + Mk.two s i) (Mk.doM (Mk.allM M) M (Mk.piece s i)).2.2 else none
/-- P17 -/
def Mk.openM (s : ByteArray) : Option Mk.Mkt := if 9000 < s.size then none else Mk.openG s (s.size + 1) 0 Mk.Mkt.new

section
variable {s : ByteArray} {f i : Nat} {M : Mk.Mkt}
theorem Mk.openG_end (h : s.size < i + 2) : Mk.openG s (f + 1) i M = some M := by simp only [Mk.openG]; rw [if_pos h]
theorem Mk.openG_bad (h : ¬ s.size < i + 2) (hd : (Mk.isD s i && Mk.isD s (i + 1)) = false) : Mk.openG s (f + 1) i M = none := by simp only [Mk.openG]; rw [if_neg h, if_pos hd]
theorem Mk.openG_cut (h : ¬ s.size < i + 2) (hd : ¬ (Mk.isD s i && Mk.isD s (i + 1)) = false) (hc : s.size < i + 2 + Mk.two s i) : Mk.openG s (f + 1) i M = some M := by simp only [Mk.openG]; rw [if_neg h, if_neg hd, if_pos hc]
theorem Mk.openG_no (h : ¬ s.size < i + 2) (hd : ¬ (Mk.isD s i && Mk.isD s (i + 1)) = false) (hc : ¬ s.size < i + 2 + Mk.two s i) (hr : Mk.readP (Mk.piece s i) = none) : Mk.openG s (f + 1) i M = none := by
  simp only [Mk.openG]
  rw [if_neg h, if_neg hd, if_neg hc, hr]
theorem Mk.openG_gap (h : ¬ s.size < i + 2) (hd : ¬ (Mk.isD s i && Mk.isD s (i + 1)) = false) (hc : ¬ s.size < i + 2 + Mk.two s i) {c : Mk.Cmd} (hr : Mk.readP (Mk.piece s i) = some c) (hn : ¬ (c.r : Int) = M.ls c.who + 1) : Mk.openG s (f + 1) i M = none := by
  simp only [Mk.openG]
  rw [if_neg h, if_neg hd, if_neg hc, hr]
  exact if_neg hn
theorem Mk.openG_yes (h : ¬ s.size < i + 2) (hd : ¬ (Mk.isD s i && Mk.isD s (i + 1)) = false) (hc : ¬ s.size < i + 2 + Mk.two s i) {c : Mk.Cmd} (hr : Mk.readP (Mk.piece s i) = some c) (hn : (c.r : Int) = M.ls c.who + 1) : Mk.openG s (f + 1) i M = Mk.openG s f (i + 2 + Mk.two s i) (Mk.doM (Mk.allM M) M (Mk.piece s i)).2.2 := by
  simp only [Mk.openG]
  rw [if_neg h, if_neg hd, if_neg hc, hr]
  exact if_pos hn
end

/-- a market that a log gives: it is sound, and what its log holds is no more than was read -/
theorem openG_inv {s : ByteArray} : ∀ (f i k : Nat) (M M' : Mk.Mkt), AInv M k → k ≤ i → i ≤ s.size → Mk.openG s f i M = some M' → ∃ k', AInv M' k' ∧ k' ≤ s.size
  | 0, i, k, M, M', hA, hk, hi, h => by
    simp only [Mk.openG, Option.some.injEq] at h
    subst h
    exact ⟨k, hA, by omega⟩
  | f + 1, i, k, M, M', hA, hk, hi, h => by
    by_cases h1 : s.size < i + 2
    · rw [Mk.openG_end h1] at h
      cases h
      exact ⟨k, hA, by omega⟩
    by_cases h2 : (Mk.isD s i && Mk.isD s (i + 1)) = false
    · rw [Mk.openG_bad h1 h2] at h; cases h
    by_cases h3 : s.size < i + 2 + Mk.two s i
    · rw [Mk.openG_cut h1 h2 h3] at h
      cases h
      exact ⟨k, hA, by omega⟩
    cases hr : Mk.readP (Mk.piece s i) with
    | none => rw [Mk.openG_no h1 h2 h3 hr] at h; cases h
    | some c =>
      by_cases h4 : (c.r : Int) = M.ls c.who + 1
      · rw [Mk.openG_yes h1 h2 h3 hr h4] at h
        exact openG_inv f _ (k + 1) _ M' (all_step _ hA) (by omega) (by omega) h
      · rw [Mk.openG_gap h1 h2 h3 hr h4] at h; cases h
theorem openM_inv {s : ByteArray} {M : Mk.Mkt} (h : Mk.openM s = some M) : ∃ k, AInv M k ∧ k ≤ 9000 := by
  unfold Mk.openM at h
  split at h
  · cases h
  · rename_i h9
    obtain ⟨k, hA, hk⟩ := openG_inv _ _ 0 _ _ all_new (Nat.le_refl _) (Nat.zero_le _) h
    exact ⟨k, hA, by omega⟩

end Go.Proofs.YtmebcdpdpcpnmabDoor

namespace Go.Proofs.YtmebcdpdpcpnmabDoor

theorem bt_left {a b : ByteArray} {k : Nat} (h : k < a.size) : Mk.bt (a ++ b) k = Mk.bt a k := by
  unfold Mk.bt
  rw [dif_pos h, dif_pos (by rw [ByteArray.size_append]; omega)]
  rw [ByteArray.getElem_append_left h]
theorem bt_right {a b : ByteArray} {k : Nat} : Mk.bt (a ++ b) (a.size + k) = Mk.bt b k := by
  unfold Mk.bt
  by_cases h : k < b.size
  · rw [dif_pos h, dif_pos (by rw [ByteArray.size_append]; omega)]
    rw [ByteArray.getElem_append_right (by omega)]
    congr 2
    omega
  · rw [dif_neg h, dif_neg (by rw [ByteArray.size_append]; omega)]
/-- the two digits of a frame -/
theorem frame_bt {s : ByteArray} (h : s.size ≤ 20) : Mk.bt (Mk.frame s) 0 = 48 + s.size / 10 ∧ Mk.bt (Mk.frame s) 1 = 48 + s.size % 10 := by
  have e0 : Mk.bt (Mk.frame s) 0 = (UInt8.ofNat (48 + s.size / 10)).toNat := rfl
  have e1 : Mk.bt (Mk.frame s) 1 = (UInt8.ofNat (48 + s.size % 10)).toNat := rfl
  rw [e0, e1]
  simp only [UInt8.toNat_ofNat']
  omega
theorem extract_all {a : ByteArray} {n : Nat} (h : a.size ≤ n) : a.extract 0 n = a := by
  apply Mk.bytes_eq
  simp
  exact List.take_of_length_le (by simpa using h)
theorem ba_assoc (a b c : ByteArray) : a ++ b ++ c = a ++ (b ++ c) := ByteArray.append_assoc

section
variable {p c t : ByteArray}
/-- behind a text p lies a frame -/
theorem frame_at (hc : c.size ≤ 20) : Mk.bt (p ++ (Mk.frame c ++ t)) p.size = 48 + c.size / 10 ∧ Mk.bt (p ++ (Mk.frame c ++ t)) (p.size + 1) = 48 + c.size % 10 := by
  have f := frame_bt hc
  refine ⟨?_, ?_⟩
  · have h := bt_right (a := p) (b := Mk.frame c ++ t) (k := 0)
    rw [Nat.add_zero] at h
    rw [h, bt_left (by show 0 < 2; omega), f.1]
  · rw [bt_right, bt_left (by show 1 < 2; omega), f.2]
theorem two_at (hc : c.size ≤ 20) : Mk.two (p ++ (Mk.frame c ++ t)) p.size = c.size := by
  unfold Mk.two
  rw [(frame_at hc).1, (frame_at hc).2]
  omega
theorem dig_at (hc : c.size ≤ 20) : ¬ (Mk.isD (p ++ (Mk.frame c ++ t)) p.size && Mk.isD (p ++ (Mk.frame c ++ t)) (p.size + 1)) = false := by
  unfold Mk.isD
  rw [(frame_at hc).1, (frame_at hc).2]
  intro h
  rw [Bool.eq_false_iff] at h
  apply h
  simp only [Bool.and_eq_true, decide_eq_true_eq]
  omega
theorem piece_at (hc : c.size ≤ 20) : Mk.piece (p ++ (Mk.frame c ++ (c ++ t))) p.size = c := by
  unfold Mk.piece
  rw [two_at hc]
  have e : p ++ (Mk.frame c ++ (c ++ t)) = (p ++ Mk.frame c) ++ (c ++ t) := (ba_assoc _ _ _).symm
  have hz : (p ++ Mk.frame c).size = p.size + 2 := by rw [ByteArray.size_append]; rfl
  rw [e, ← hz, ByteArray.extract_append]
  rw [show (p ++ Mk.frame c).size - (p ++ Mk.frame c).size = 0 by omega, show (p ++ Mk.frame c).size + c.size - (p ++ Mk.frame c).size = c.size by omega]
  have h1 : (p ++ Mk.frame c).extract (p ++ Mk.frame c).size ((p ++ Mk.frame c).size + c.size) = ByteArray.empty := by
    apply Mk.bytes_eq
    simp
  rw [h1, ByteArray.extract_append_eq_left rfl]
  simp
end

/-- THE LOG OF M, READ BACK, GIVES M: whatever lies behind it, the reading comes to its end with the market M -/
def Mk.Ran (M : Mk.Mkt) : Prop := ∀ (t : ByteArray) (f : Nat), M.disk.size + t.size < f → ∃ f', t.size < f' ∧ Mk.openG (M.disk ++ t) f 0 Mk.Mkt.new = Mk.openG (M.disk ++ t) f' M.disk.size M
theorem ran_new : Mk.Ran Mk.Mkt.new := fun t f hf => ⟨f, by omega, rfl⟩
theorem Mk.Ran.next {M M' : Mk.Mkt} (h : Mk.Ran M) {c : ByteArray} {d : Mk.Cmd} (hr : Mk.readP c = some d) (hn : (d.r : Int) = M.ls d.who + 1) (hM : M' = (Mk.doM (Mk.allM M) M c).2.2) (hd : M'.disk = M.disk ++ Mk.frame c ++ c) : Mk.Ran M' := by
  intro t f hf
  have hc : c.size ≤ 20 := (Mk.read_ok hr).2
  have hs : M'.disk.size = M.disk.size + 2 + c.size := by rw [hd, ByteArray.size_append, ByteArray.size_append]; rfl
  have e : M'.disk ++ t = M.disk ++ (Mk.frame c ++ (c ++ t)) := by rw [hd, ba_assoc, ba_assoc]
  have hz : (Mk.frame c ++ (c ++ t)).size = 2 + c.size + t.size := by rw [ByteArray.size_append, ByteArray.size_append]; show 2 + _ = _; omega
  have hz2 : (M.disk ++ (Mk.frame c ++ (c ++ t))).size = M.disk.size + 2 + c.size + t.size := by rw [ByteArray.size_append, hz]; omega
  obtain ⟨f', h1, h2⟩ := h (Mk.frame c ++ (c ++ t)) f (by omega)
  obtain ⟨g, rfl⟩ : ∃ g, f' = g + 1 := ⟨f' - 1, by omega⟩
  refine ⟨g, by omega, ?_⟩
  rw [e, h2, Mk.openG_yes (by omega) (dig_at hc) (by rw [two_at hc]; omega) (by rw [piece_at hc]; exact hr) hn, piece_at hc, two_at hc, ← hM, hs]
theorem Mk.Ran.open {M : Mk.Mkt} (h : Mk.Ran M) (hs : M.disk.size ≤ 9000) : Mk.openM M.disk = some M := by
  have e : M.disk ++ ByteArray.empty = M.disk := ByteArray.append_empty
  obtain ⟨f', h1, h2⟩ := h ByteArray.empty (M.disk.size + 1) (by simp)
  rw [e] at h2
  unfold Mk.openM
  rw [if_neg (by omega), h2]
  obtain ⟨g, rfl⟩ : ∃ g, f' = g + 1 := ⟨f' - 1, by omega⟩
  exact Mk.openG_end (by omega)
/-- .. and cut anywhere in the frame behind it -/
theorem Mk.Ran.cut {M : Mk.Mkt} (h : Mk.Ran M) {c : ByteArray} (hc : c.size ≤ 20) {k : Nat} (hk : k < 2 + c.size) (hs : M.disk.size + k ≤ 9000) : Mk.openM ((M.disk ++ Mk.frame c ++ c).extract 0 (M.disk.size + k)) = some M := by
  have e : (M.disk ++ Mk.frame c ++ c).extract 0 (M.disk.size + k) = M.disk ++ (Mk.frame c ++ c).extract 0 k := by
    rw [ba_assoc, ByteArray.extract_append]
    rw [show 0 - M.disk.size = 0 by omega, show M.disk.size + k - M.disk.size = k by omega, extract_all (by omega)]
  rw [e]
  have hfz : (Mk.frame c ++ c).size = 2 + c.size := by rw [ByteArray.size_append]; rfl
  have hz : ((Mk.frame c ++ c).extract 0 k).size = k := by rw [ByteArray.size_extract]; omega
  have hz2 : (M.disk ++ (Mk.frame c ++ c).extract 0 k).size = M.disk.size + k := by rw [ByteArray.size_append, hz]
  obtain ⟨f', h1, h2⟩ := h ((Mk.frame c ++ c).extract 0 k) ((M.disk ++ (Mk.frame c ++ c).extract 0 k).size + 1) (by omega)
  unfold Mk.openM
  rw [if_neg (by omega), h2]
  obtain ⟨g, rfl⟩ : ∃ g, f' = g + 1 := ⟨f' - 1, by omega⟩
  by_cases h3 : k < 2
  · exact Mk.openG_end (by omega)
  · have e2 : (Mk.frame c ++ c).extract 0 k = Mk.frame c ++ c.extract 0 (k - 2) := by
      rw [ByteArray.extract_append]
      have z : (Mk.frame c).size = 2 := rfl
      rw [z, show 0 - 2 = 0 by omega, extract_all (by rw [z]; omega)]
    rw [e2] at hz2 ⊢
    exact Mk.openG_cut (by omega) (dig_at hc) (by rw [two_at hc]; omega)

/-- what is true of the log of a market in which commands were done -/
structure Mk.Logd (M : Mk.Mkt) : Prop where
  ran : Mk.Ran M
  dsk : (M.disk.size : Int) ≤ 22 * (M.ls 0 + M.ls 1 + M.ls 2 + M.ls 3)
theorem logd_new : Mk.Logd Mk.Mkt.new := ⟨ran_new, by decide⟩
theorem Mk.Logd.size {M : Mk.Mkt} (h : Mk.Logd M) {k : Nat} (hA : AInv M k) : M.disk.size ≤ 8712 := by
  have h0 := hA.well.ls 0 (by omega)
  have h1 := hA.well.ls 1 (by omega)
  have h2 := hA.well.ls 2 (by omega)
  have h3 := hA.well.ls 3 (by omega)
  have := h.dsk
  omega
theorem doM_nx {M : Mk.Mkt} {s : ByteArray} {c : Mk.Cmd} (hr : Mk.readP s = some c) (h : (c.r : Int) = M.ls c.who + 1) : (Mk.doM (Mk.allM M) M s).2.2 = { (Mk.allM M c).2.2 with ls := upd (Mk.allM M c).2.2.ls c.who c.r, tx := upd (Mk.allM M c).2.2.tx c.who (Mk.allM M c).1, er := upd (Mk.allM M c).2.2.er c.who (Mk.allM M c).2.1, disk := (Mk.allM M c).2.2.disk ++ Mk.frame s ++ s } := by
  unfold Mk.doM
  rw [hr]
  simp only []
  rw [if_neg (by omega), if_neg (by omega), if_neg (by omega)]
theorem Mk.Logd.next {M : Mk.Mkt} (h : Mk.Logd M) {k : Nat} (hA : AInv M k) {c : ByteArray} {d : Mk.Cmd} (hr : Mk.readP c = some d) (hn : (d.r : Int) = M.ls d.who + 1) : Mk.Logd (Mk.doM (Mk.allM M) M c).2.2 ∧ (Mk.doM (Mk.allM M) M c).2.2.disk = M.disk ++ Mk.frame c ++ c := by
  obtain ⟨hok, hc⟩ := Mk.read_ok hr
  obtain ⟨e1, e2⟩ := all_ls hA.sound hA.one hok
  have hd : (Mk.doM (Mk.allM M) M c).2.2.disk = M.disk ++ Mk.frame c ++ c := by rw [doM_nx hr hn, e2]
  refine ⟨⟨h.ran.next hr hn rfl hd, ?_⟩, hd⟩
  have hl : (Mk.doM (Mk.allM M) M c).2.2.ls = upd M.ls d.who d.r := by rw [doM_nx hr hn, e1]
  rw [hl, hd, ByteArray.size_append, ByteArray.size_append]
  have hf : (Mk.frame c).size = 2 := rfl
  have := h.dsk
  have hw := hok.who
  have u : ∀ j, upd M.ls d.who (d.r : Int) j = if j = d.who then (d.r : Int) else M.ls j := fun j => rfl
  rw [u, u, u, u]
  rcases (show d.who = 0 ∨ d.who = 1 ∨ d.who = 2 ∨ d.who = 3 by omega) with e | e | e | e <;> rw [e] at hn <;> simp only [e] <;> simp <;> omega
theorem Mk.Logd.do {M : Mk.Mkt} (h : Mk.Logd M) {k : Nat} (hA : AInv M k) (s : ByteArray) : Mk.Logd (Mk.doM (Mk.allM M) M s).2.2 := by
  cases hr : Mk.readP s with
  | none =>
    have e : (Mk.doM (Mk.allM M) M s).2.2 = M := by unfold Mk.doM; rw [hr]
    rw [e]; exact h
  | some c =>
    by_cases hn : (c.r : Int) = M.ls c.who + 1
    · exact (h.next hA hr hn).1
    · have e : (Mk.doM (Mk.allM M) M s).2.2 = M := by
        unfold Mk.doM
        rw [hr]
        simp only []
        split
        · rfl
        · split
          · rfl
          · split
            · rfl
            · omega
      rw [e]; exact h

end Go.Proofs.YtmebcdpdpcpnmabDoor

namespace Go.Proofs.YtmebcdpdpcpnmabDoor
open Go.RowKit

/-- what the program's Open leaves -/
def POpenT (x : Option Mk.Mkt) (w : World) (e : Ending) (w' : World) : Prop :=
  match x with
  | none => e = .returned (.tuple #[.pointer none, .int .i64 11]) ∧ Below w.heap.size w w'
  | some M => ∃ p vb, e = .returned (.tuple #[.pointer (some ⟨p, 0, none⟩), .int .i64 0]) ∧ PM w' p vb M ∧ (∀ k, PHas p vb k → w.heap.size ≤ k) ∧ Below w.heap.size w w'
/-- WHAT IS TO PROVE OF THE PROGRAM's Do, Log, Open -/
structure ProgLog : Prop where
  dos : ∀ (p : Nat) (vb : Nat → Value) (M : Mk.Mkt) (k : Nat) (s : ByteArray) (w : World), AInv M k → k ≤ 1100000 → s.size ≤ 1048576 → PM w p vb M → Tab w →
    Calls Tryd.prog 23 #[.pointer (some ⟨p, 0, none⟩), .string s] w fun e w' => PDoT p vb (Mk.doM (Mk.allM M) M s) w e w'
  log : ∀ (p : Nat) (vb : Nat → Value) (M : Mk.Mkt) (k : Nat) (w : World), AInv M k → k ≤ 1100000 → PM w p vb M →
    Calls Tryd.prog 21 #[.pointer (some ⟨p, 0, none⟩)] w fun e w' => e = .returned (.string M.disk) ∧ Below w.heap.size w w'
  opn : ∀ (s : ByteArray) (w : World), s.size ≤ 1048576 → Tab w → Calls Tryd.prog 24 #[.string s] w fun e w' => POpenT (Mk.openM s) w e w'

end Go.Proofs.YtmebcdpdpcpnmabDoor
