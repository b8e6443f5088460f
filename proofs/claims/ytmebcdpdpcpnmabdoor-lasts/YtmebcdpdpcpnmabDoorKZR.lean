import Derived.Test.YtmebcdpdpcpnmabDoorKZ8
import Derived.Test.YtmebcdpdpcpnmabDoorJ29
namespace Go.Proofs.YtmebcdpdpcpnmabDoor
open Go.RowKit

theorem did_logd {M : Mk.Mkt} {k : Nat} (h : Mk.Logd M) (hI : AInv M k) (d : Mk.Dd) : Mk.Logd (Mk.didM M d).2.2 := by
  unfold Mk.didM
  split
  · exact h.do hI _
  · exact h
theorem run_logd (D : Nat → Mk.Dd) : ∀ k, Mk.Logd (Mk.runTo D k)
  | 0 => logd_new
  | k + 1 => did_logd (run_logd D k) (run_inv D k) (D k)
/-- what a deed that is done lays into the log -/
theorem did_disk {M : Mk.Mkt} {k : Nat} (h : Mk.Logd M) (hI : AInv M k) {d : Mk.Dd} (hd : d.Ok) (hb : Mk.didB M d = true) : (Mk.didM M d).2.2.disk = M.disk ++ Mk.frame (Mk.cmdN M d) ++ Mk.cmdN M d ∧ (Mk.cmdN M d).size ≤ 20 := by
  have hl : M.ls d.who < 99 := of_decide_eq_true hb
  have hls := hI.well.ls d.who hd.who
  have hr : 1 ≤ (M.ls d.who).toNat + 1 ∧ (M.ls d.who).toNat + 1 ≤ 99 := by omega
  have hc : Mk.readP (Mk.cmdN M d) = some (d.read ((M.ls d.who).toNat + 1)) := Mk.read_cmd hd hr
  refine ⟨?_, cmd_size hd hr⟩
  unfold Mk.didM
  rw [if_pos hl]
  exact (h.next hI hc (by show (((M.ls d.who).toNat + 1 : Nat) : Int) = M.ls d.who + 1; omega)).2

/-- the program's Open of a log that gives M -/
theorem popen_some {s : ByteArray} {M : Mk.Mkt} (hL : ProgLog) (h : Mk.openM s = some M) (hs : s.size ≤ 1048576) (w : World) (hT : Tab w) :
    Calls Tryd.prog 24 #[.string s] w fun e w' => ∃ p vb, e = .returned (.tuple #[.pointer (some ⟨p, 0, none⟩), .int .i64 0]) ∧ PM w' p vb M ∧ (∀ k, PHas p vb k → w.heap.size ≤ k) ∧ Below w.heap.size w w' :=
  (hL.opn s w hs hT).mono (fun e w' h' => by rw [h] at h'; exact h')

set_option maxRecDepth 100000 in
set_option maxHeartbeats 4000000 in
theorem lasts_law (hL : ProgLog) (hS : PSide (fun M => M.disk)) (a : Option Addr) (cap : Nat) (l : List (Nat → Int)) (cut : Int) (w : World) (hf : ∀ d ∈ l, Fits64 d) (hcut : -9223372036854775808 ≤ cut ∧ cut ≤ 9223372036854775807) (hR : RdD w a l) (hT : Tab w) :
    Calls Tryd.prog 8 #[.slice a l.length cap, .int .i64 cut] w fun e w' => e = .returned (.bool true) ∧ Below w.heap.size w w' := by
  have HS : Hid (PSide (fun M => M.disk)) := hS
  have HL : Hid ProgLog := hL
  have HR : Hid (RdD w a l) := hR
  have HT : Hid (Tab w) := hT
  obtain ⟨D, hD⟩ := plain_all l hf
  have HD := (show Hid (∀ i (h : i < l.length), (D i).Ok ∧ ∀ w, Calls Tryd.prog 12 #[rawV l[i]] w fun e w' => e = .returned (ddV (D i)) ∧ Below w.heap.size w w') from hD)
  clear hS hL hR hT hf hD
  go_enter Tryd.func8, Tryd.ntmps8
  go_wp2_with fail
  refine (some_any a l.length cap w).mono ?_
  rintro e w1' ⟨rfl, hw1⟩
  obtain rfl := hw1.symm
  by_cases hs : l.length ≤ 1048576
  · have hd : decide (l.length ≤ 1048576) = true := by simpa using hs
    rw [hd]
    clear hd
    by_cases h0 : l.length = 0
    · have h0' : ((l.length : Int) == 0) = true := by rw [beq_iff_eq]; omega
      clear h0
      go_wp2_with fail
      go_ret
      exact ⟨rfl, Below.refl _ _⟩
    have h0' : ((l.length : Int) == 0) = false := by rw [beq_eq_false_iff_ne]; omega
    obtain ⟨m, hm⟩ : ∃ m, l.length = m + 1 := ⟨l.length - 1, by omega⟩
    have HM : Hid (l.length = m + 1) := hm
    have hmI : (l.length : Int) - 1 = (m : Int) := by omega
    have hmlt : m < l.length := by omega
    have hmlt' : (m : Int) < (l.length : Int) := by omega
    obtain ⟨hL0, hPL⟩ := HD.out m hmlt
    have HOk : Hid (D m).Ok := hL0
    have HPL := (show Hid (∀ w, Calls Tryd.prog 12 #[rawV l[m]] w fun e w' => e = .returned (ddV (D m)) ∧ Below w.heap.size w w') from hPL)
    clear h0 hm hL0 hPL
    go_wp2_with fail
    refine (pnew_any _).mono ?_
    rintro e w2 ⟨rfl, hP2, hb2⟩
    have HP2 : Hid (PM w2 w.heap.size nilV Mk.Mkt.new) := hP2
    have HB2 : Hid (Below w.heap.size w w2) := hb2
    have hp2 : w.heap.size < w2.heap.size := hP2.lt (.inl rfl)
    clear hP2 hb2
    obtain ⟨gb, off, rfl, hc⟩ : ∃ gb off, a = some ⟨gb, off, none⟩ ∧ ∀ i (h : i < l.length), w2.cell? ⟨gb, off + i * 5, none⟩ = some (.int .i64 (l[i] 0)) ∧ w2.cell? ⟨gb, off + i * 5 + 1, none⟩ = some (.int .i64 (l[i] 1)) ∧ w2.cell? ⟨gb, off + i * 5 + 2, none⟩ = some (.int .i64 (l[i] 2)) ∧ w2.cell? ⟨gb, off + i * 5 + 3, none⟩ = some (.int .i64 (l[i] 3)) ∧ w2.cell? ⟨gb, off + i * 5 + 4, none⟩ = some (.int .i64 (l[i] 4)) := by
      rcases HR.out.below HB2.out with h | h
      · rw [h] at hmlt; cases hmlt
      · exact h
    obtain ⟨c0, c1, c2, c3, c4⟩ := hc m hmlt
    clear hc
    have HPL2 : Hid (Calls Tryd.prog 12 #[rawV l[m]] w2 fun e w' => e = .returned (ddV (D m)) ∧ Below w2.heap.size w2 w') := HPL.out w2
    simp only [rawV] at HPL2
    generalize l[m] 0 = y0 at *
    generalize l[m] 1 = y1 at *
    generalize l[m] 2 = y2 at *
    generalize l[m] 3 = y3 at *
    generalize l[m] 4 = y4 at *
    go_wp2_with fail
    refine HPL2.out.mono ?_
    rintro e w3 ⟨rfl, hb3⟩
    clear c0 c1 c2 c3 c4 HPL HPL2
    have HB3 : Hid (Below w2.heap.size w2 w3) := hb3
    have HLd : Hid (Mk.Logd (Mk.runTo D m)) := run_logd D m
    have HQ : Hid (OwnQ w w.heap.size w3.heap.size Mk.Mkt.new 0 (D m) (w3.alloc (.cells #[.int .i64 ((D m).w : Int), .int .i64 ((D m).who : Int), .int .i64 ((D m).v : Int), .int .i64 ((D m).a : Int), .int .i64 ((D m).b : Int)] 29))) := (by
      have hb : Below w3.heap.size w3 (w3.alloc (.cells #[.int .i64 ((D m).w : Int), .int .i64 ((D m).who : Int), .int .i64 ((D m).v : Int), .int .i64 ((D m).a : Int), .int .i64 ((D m).b : Int)] 29)) := (Below.refl _ _).alloc (Nat.le_refl _) _
      have hb23 : Below w2.heap.size w2 (w3.alloc (.cells #[.int .i64 ((D m).w : Int), .int .i64 ((D m).who : Int), .int .i64 ((D m).v : Int), .int .i64 ((D m).a : Int), .int .i64 ((D m).b : Int)] 29)) := HB3.out.trans (hb.mono HB3.out.size)
      have hs3 := HB3.out.size
      have hnil : ∀ q, PHas w.heap.size nilV q → q = w.heap.size := fun q h => by
        rcases h with h | ⟨v, _, h⟩
        · exact h
        · cases h
      exact ⟨⟨nilV, HP2.out.below hb23, fun q h => by rw [hnil q h]; exact ⟨Nat.le_refl _, by omega⟩⟩, dd_row w3 (D m), by omega, all_new, ans_new, HB2.out.trans (hb23.mono HB2.out.size)⟩ : OwnQ w w.heap.size w3.heap.size Mk.Mkt.new 0 (D m) (w3.alloc (.cells #[.int .i64 ((D m).w : Int), .int .i64 ((D m).who : Int), .int .i64 ((D m).v : Int), .int .i64 ((D m).a : Int), .int .i64 ((D m).b : Int)] 29)))
    simp only [ddV]
    go_wp2_with fail
    generalize w3.alloc (.cells #[.int .i64 ((D m).w : Int), .int .i64 ((D m).who : Int), .int .i64 ((D m).v : Int), .int .i64 ((D m).a : Int), .int .i64 ((D m).b : Int)] 29) = W3 at *
    generalize w3.heap.size = q0 at *
    clear hb3 HB3 HP2 hp2
    go_loopw [8] (fun j wr => ∃ k : Nat, k ≤ m ∧ j = .int .i64 k ∧ OwnQ w w.heap.size q0 (Mk.runTo D k) k (D m) wr) (fun j _ => l.length - (intOf j).toNat)
    case atStart => exact ⟨0, Nat.zero_le _, rfl, HQ.out⟩
    case round =>
      obtain ⟨k, hk, rfl, hQ⟩ := hrel
      have HQr : Hid (OwnQ w w.heap.size q0 (Mk.runTo D k) k (D m) wr) := hQ
      clear hQ
      by_cases hlt : k < m
      · have hlt' : (k : Int) + 1 < (l.length : Int) := by omega
        have hltl : k < l.length := by omega
        have hltl' : (k : Int) < (l.length : Int) := by omega
        obtain ⟨hd, hpl⟩ := HD.out k hltl
        have HDk : Hid (D k).Ok := hd
        have HRn : Hid (Mk.runTo D (k + 1) = (Mk.didM (Mk.runTo D k) (D k)).2.2) := rfl
        have hc : ∀ i (h : i < l.length), wr.cell? ⟨gb, off + i * 5, none⟩ = some (.int .i64 (l[i] 0)) ∧ wr.cell? ⟨gb, off + i * 5 + 1, none⟩ = some (.int .i64 (l[i] 1)) ∧ wr.cell? ⟨gb, off + i * 5 + 2, none⟩ = some (.int .i64 (l[i] 2)) ∧ wr.cell? ⟨gb, off + i * 5 + 3, none⟩ = some (.int .i64 (l[i] 3)) ∧ wr.cell? ⟨gb, off + i * 5 + 4, none⟩ = some (.int .i64 (l[i] 4)) := by
          rcases HR.out.below HQr.out.bel with h | ⟨gb', off', e, h⟩
          · rw [h] at hltl; cases hltl
          · cases e; exact h
        obtain ⟨c0, c1, c2, c3, c4⟩ := hc k hltl
        have HPl : Hid (Calls Tryd.prog 12 #[rawV l[k]] wr fun e w' => e = .returned (ddV (D k)) ∧ Below wr.heap.size wr w') := hpl wr
        simp only [rawV] at HPl
        clear hc hpl hd
        generalize l[k] 0 = z0 at *
        generalize l[k] 1 = z1 at *
        generalize l[k] 2 = z2 at *
        generalize l[k] 3 = z3 at *
        generalize l[k] 4 = z4 at *
        generalize D k = d at *
        go_wp2_with fail
        refine HPl.out.mono ?_
        rintro e w5 ⟨rfl, hb5⟩
        have HQ5 : Hid (OwnQ w w.heap.size q0 (Mk.runTo D k) k (D m) (w5.alloc (.cells #[.int .i64 (d.w : Int), .int .i64 (d.who : Int), .int .i64 (d.v : Int), .int .i64 (d.a : Int), .int .i64 (d.b : Int)] 29))) := (HQr.out.next hb5).next ((Below.refl _ _).alloc (Nat.le_refl _) _)
        clear c0 c1 c2 c3 c4 hb5 HPl
        simp only [ddV]
        go_wp2_with fail
        generalize w5.alloc (.cells #[.int .i64 (d.w : Int), .int .i64 (d.who : Int), .int .i64 (d.v : Int), .int .i64 (d.a : Int), .int .i64 (d.b : Int)] 29) = W5 at *
        obtain ⟨vb5, hP5, hn5⟩ := HQ5.out.lies
        have HD5 : Hid (Calls Tryd.prog 13 #[.pointer (some ⟨w.heap.size, 0, none⟩), .agg #[.int .i64 (d.w : Int), .int .i64 (d.who : Int), .int .i64 (d.v : Int), .int .i64 (d.a : Int), .int .i64 (d.b : Int)]] W5 fun e w' => PDid w.heap.size vb5 (Mk.runTo D k) d W5 e w') := did_any HS.out w.heap.size vb5 (Mk.runTo D k) k d HDk.out W5 HQ5.out.inv (by omega) hP5 (HT.out.next HQ5.out.bel)
        have HN5 : Hid (∀ q, PHas w.heap.size vb5 q → w.heap.size ≤ q ∧ q ≠ q0) := hn5
        clear hP5 hn5
        refine HD5.out.mono ?_
        intro e w6 hD6
        have HQ6 : Hid (OwnQ w w.heap.size q0 (Mk.runTo D (k + 1)) (k + 1) (D m) w6) := (by rw [HRn.out]; exact HQ5.out.did HN5.out hD6 : OwnQ w w.heap.size q0 (Mk.runTo D (k + 1)) (k + 1) (D m) w6)
        obtain rfl := hD6.1
        clear hD6 HD5
        go_wp2_with fail
        go_roundw
        case rel => exact ⟨k + 1, by omega, by go_num, HQ6.out⟩
        case measure => simp [intOf]; omega
      · obtain rfl : k = m := by omega
        have hlt' : ¬ (k : Int) + 1 < (l.length : Int) := by omega
        clear hlt
        have hk1 : k + 1 ≤ 1048576 := by have := HM.out; omega
        have hInv := HQr.out.inv
        have hls := hInv.well.ls (D k).who HOk.out.who
        obtain ⟨n, hn⟩ : ∃ n : Nat, (Mk.runTo D k).ls (D k).who = (n : Int) := ⟨((Mk.runTo D k).ls (D k).who).toNat, by omega⟩
        have HN : Hid ((Mk.runTo D k).ls (D k).who = (n : Int)) := hn
        have hw4 : ((D k).who : Int) < 4 := by have := HOk.out.who; omega
        have HLa : Hid (Mk.lastM (Mk.runTo D k) ((D k).who : Int) = (n : Int)) := (by unfold Mk.lastM; rw [if_pos ⟨by omega, hw4⟩, ← hn]; simp : Mk.lastM (Mk.runTo D k) ((D k).who : Int) = (n : Int))
        have HMath : Hid (Mk.didB (Mk.runTo D k) (D k) = true → n < 99 ∧ (Mk.didM (Mk.runTo D k) (D k)).2.2.ls (D k).who = ((n + 1 : Nat) : Int) ∧ (Mk.didM (Mk.runTo D k) (D k)).2.2.tx (D k).who = (Mk.didM (Mk.runTo D k) (D k)).1 ∧ (Mk.didM (Mk.runTo D k) (D k)).2.2.er (D k).who = (Mk.didM (Mk.runTo D k) (D k)).2.1 ∧
            ∃ N : Nat, 1 ≤ N ∧ N ≤ 22 ∧ (Mk.didM (Mk.runTo D k) (D k)).2.2.disk.size = (Mk.runTo D k).disk.size + N ∧ (Mk.didM (Mk.runTo D k) (D k)).2.2.disk.extract 0 (Mk.runTo D k).disk.size = (Mk.runTo D k).disk ∧ (Mk.didM (Mk.runTo D k) (D k)).2.2.disk.size ≤ 8712 ∧
              Mk.openM (Mk.didM (Mk.runTo D k) (D k)).2.2.disk = some (Mk.didM (Mk.runTo D k) (D k)).2.2 ∧ ∀ i, i < N → Mk.openM ((Mk.didM (Mk.runTo D k) (D k)).2.2.disk.extract 0 ((Mk.runTo D k).disk.size + i)) = some (Mk.runTo D k)) := by
          intro hb
          have hl : (Mk.runTo D k).ls (D k).who < 99 := of_decide_eq_true hb
          obtain ⟨e1, e2, e3⟩ := did_last hInv HOk.out hb
          obtain ⟨d1, d2⟩ := did_disk HLd.out hInv HOk.out hb
          have hL1 : Mk.Logd (Mk.didM (Mk.runTo D k) (D k)).2.2 := did_logd HLd.out hInv (D k)
          have hsz := hL1.size (did_inv hInv (D k))
          have hz : (Mk.didM (Mk.runTo D k) (D k)).2.2.disk.size = (Mk.runTo D k).disk.size + (2 + (Mk.cmdN (Mk.runTo D k) (D k)).size) := by
            rw [d1, ByteArray.size_append, ByteArray.size_append]
            show _ + 2 + _ = _
            omega
          refine ⟨by omega, by rw [e1, hn]; rfl, e2, e3, 2 + (Mk.cmdN (Mk.runTo D k) (D k)).size, by omega, by omega, hz, ?_, hsz, hL1.ran.open (by omega), fun i hi => ?_⟩
          · rw [d1, ba_assoc]
            exact ByteArray.extract_append_eq_left rfl
          · rw [d1]
            exact HLd.out.ran.cut d2 hi (by omega)
        have hls0 := hls
        clear hInv hls hn
        generalize Mk.runTo D k = M at *
        generalize D k = L at *
        obtain ⟨vb, hP, hnv⟩ := HQr.out.lies
        have HP : Hid (PM wr w.heap.size vb M) := hP
        have HNv : Hid (∀ q, PHas w.heap.size vb q → w.heap.size ≤ q ∧ q ≠ q0) := hnv
        clear hP hnv
        go_wp2_with fail
        refine (pshow_any w.heap.size vb M _ HQr.out.inv.well.fine HP.out (HT.out.next HQr.out.bel)).mono ?_
        rintro e w4 ⟨rfl, hb4⟩
        have HQ4 : Hid (OwnQ w w.heap.size q0 M k L w4) := HQr.out.next hb4
        have HP4 : Hid (PM w4 w.heap.size vb M) := HP.out.below hb4
        clear hb4
        go_wp2_with fail
        refine (HS.out.logs w.heap.size vb M k _ HQ4.out.inv (by omega) HP4.out).mono ?_
        rintro e w5 ⟨rfl, hb5⟩
        have HQ5 : Hid (OwnQ w w.heap.size q0 M k L w5) := HQ4.out.next hb5
        have HP5 : Hid (PM w5 w.heap.size vb M) := HP4.out.below hb5
        clear hb5
        have y1 := HQ5.out.row.cell (i := 1) (by omega)
        simp only [ddF] at y1
        go_wp2_with fail
        refine (plast_any w.heap.size vb M _ _ HP5.out).mono ?_
        rintro e w6 ⟨rfl, hb6⟩
        rw [HLa.out]
        have HQ6 : Hid (OwnQ w w.heap.size q0 M k L w6) := HQ5.out.next hb6
        have HP6 : Hid (PM w6 w.heap.size vb M) := HP5.out.below hb6
        clear y1 hb6
        have g0 := HQ6.out.row.cell (i := 0) (by omega)
        have g1 := HQ6.out.row.cell (i := 1) (by omega)
        have g2 := HQ6.out.row.cell (i := 2) (by omega)
        have g3 := HQ6.out.row.cell (i := 3) (by omega)
        have g4 := HQ6.out.row.cell (i := 4) (by omega)
        simp only [ddF] at g0 g1 g2 g3 g4
        have HD6 : Hid (Calls Tryd.prog 13 #[.pointer (some ⟨w.heap.size, 0, none⟩), .agg #[.int .i64 (L.w : Int), .int .i64 (L.who : Int), .int .i64 (L.v : Int), .int .i64 (L.a : Int), .int .i64 (L.b : Int)]] w6 fun e w' => PDid w.heap.size vb M L w6 e w') := did_any HS.out w.heap.size vb M k L HOk.out w6 HQ6.out.inv (by omega) HP6.out (HT.out.next HQ6.out.bel)
        go_wp2_with fail
        refine HD6.out.mono ?_
        intro e w7 hD7
        have HQ7 : Hid (OwnQ w w.heap.size q0 (Mk.didM M L).2.2 (k + 1) L w7) := HQ6.out.did HNv.out hD7
        obtain rfl := hD7.1
        clear hD7 HD6 g0 g1 g2 g3 g4
        generalize Mk.didM M L = X at *
        generalize Mk.didB M L = bd at *
        obtain ⟨X1, X2, X3⟩ := X
        cases bd
        · go_wp2_with fail
          go_ret
          exact ⟨rfl, HQ7.out.bel⟩
        obtain ⟨hn99, e1, e2, e3, N, hN1, hN22, hz, hex, hz87, hopn, hcutN⟩ := HMath.out rfl
        simp only [] at e1 e2 e3 hz hex hz87 hopn hcutN
        have HE1 : Hid (X3.ls L.who = ((n + 1 : Nat) : Int)) := e1
        have HE2 : Hid (X3.tx L.who = X1) := e2
        have HE3 : Hid (X3.er L.who = X2) := e3
        have HOpn : Hid (Mk.openM X3.disk = some X3) := hopn
        have HCut : Hid (∀ i, i < N → Mk.openM (X3.disk.extract 0 (M.disk.size + i)) = some M) := hcutN
        obtain ⟨ci, hci, hpk⟩ := pick_fix cut N hcut.1 hcut.2 hN1 (by omega)
        have HPk := (show Hid (∀ w, Calls Tryd.prog 18 #[.int .i64 cut, .int .i64 N] w fun e w' => e = .returned (.int .i64 ci) ∧ w' = w) from hpk)
        clear e1 e2 e3 hopn hcutN hpk HMath
        obtain ⟨vb7, hP7, hn7⟩ := HQ7.out.lies
        have HP7 : Hid (PM w7 w.heap.size vb7 X3) := hP7
        clear hP7 hn7
        go_wp2_with fail
        refine (pshow_any w.heap.size vb7 X3 _ HQ7.out.inv.well.fine HP7.out (HT.out.next HQ7.out.bel)).mono ?_
        rintro e w8 ⟨rfl, hb8⟩
        have HQ8 : Hid (OwnQ w w.heap.size q0 X3 (k + 1) L w8) := HQ7.out.next hb8
        have HP8 : Hid (PM w8 w.heap.size vb7 X3) := HP7.out.below hb8
        clear hb8
        go_wp2_with fail
        refine (HS.out.logs w.heap.size vb7 X3 (k + 1) _ HQ8.out.inv (by omega) HP8.out).mono ?_
        rintro e w9 ⟨rfl, hb9⟩
        have HQ9 : Hid (OwnQ w w.heap.size q0 X3 (k + 1) L w9) := HQ8.out.next hb9
        clear hb9
        have HIM : Hid (AInv M k) := HQ6.out.inv
        have hdk0 : (M.disk.size : Int) ≤ 8712 := by omega
        have hzI : (X3.disk.size : Int) - (M.disk.size : Int) = (N : Int) := by omega
        have hle1 : ¬ (X3.disk.size : Int) ≤ (M.disk.size : Int) := by omega
        have hle2 : (M.disk.size : Int) ≤ (X3.disk.size : Int) := by omega
        have hle3 : (M.disk.size : Int) + (ci : Int) ≤ (X3.disk.size : Int) := by omega
        have HZ : Hid (X3.disk.size ≤ 8712) := hz87
        have HZC : Hid ((X3.disk.extract 0 (M.disk.size + ci)).size ≤ 1048576) := (by rw [ByteArray.size_extract]; omega : (X3.disk.extract 0 (M.disk.size + ci)).size ≤ 1048576)
        clear hz hz87
        go_wp2_with fail
        refine (HPk.out _).mono ?_
        rintro e w9' ⟨rfl, hw9⟩
        obtain rfl := hw9.symm
        go_wp2_with fail
        refine (popen_some HL.out (HCut.out ci hci) HZC.out _ (HT.out.next HQ9.out.bel)).mono ?_
        rintro e w10 ⟨px, vx, rfl, hPx, hnx, hb10⟩
        have HQ10 : Hid (OwnQ w w.heap.size q0 X3 (k + 1) L w10) := HQ9.out.next hb10
        have HPx : Hid (PM w10 px vx M) := hPx
        clear hPx hnx hb10
        go_wp2_with fail
        refine (popen_some HL.out HOpn.out (by have := HZ.out; omega) _ (HT.out.next HQ10.out.bel)).mono ?_
        rintro e w11 ⟨py, vy, rfl, hPy, hny, hb11⟩
        have HQ11 : Hid (OwnQ w w.heap.size q0 X3 (k + 1) L w11) := HQ10.out.next hb11
        have HPx2 : Hid (PM w11 px vx M) := HPx.out.below hb11
        have HPy : Hid (PM w11 py vy X3) := hPy
        have HNy : Hid (∀ q, PHas py vy q → w.heap.size ≤ q) := fun q hq => Nat.le_trans HQ10.out.bel.size (hny q hq)
        clear hPy hny hb11
        go_wp2_with fail
        refine (pshow_any px vx M _ HIM.out.well.fine HPx2.out (HT.out.next HQ11.out.bel)).mono ?_
        rintro e w12 ⟨rfl, hb12⟩
        have HQ12 : Hid (OwnQ w w.heap.size q0 X3 (k + 1) L w12) := HQ11.out.next hb12
        have HPx3 : Hid (PM w12 px vx M) := HPx2.out.below hb12
        have HPy2 : Hid (PM w12 py vy X3) := HPy.out.below hb12
        clear hb12
        go_wp2_with fail
        refine (HS.out.logs px vx M k _ HIM.out (by omega) HPx3.out).mono ?_
        rintro e w13 ⟨rfl, hb13⟩
        have HQ13 : Hid (OwnQ w w.heap.size q0 X3 (k + 1) L w13) := HQ12.out.next hb13
        have HPx4 : Hid (PM w13 px vx M) := HPx3.out.below hb13
        have HPy3 : Hid (PM w13 py vy X3) := HPy2.out.below hb13
        clear hb13
        have y1 := HQ13.out.row.cell (i := 1) (by omega)
        simp only [ddF] at y1
        go_wp2_with fail
        refine (plast_any px vx M _ _ HPx4.out).mono ?_
        rintro e w14 ⟨rfl, hb14⟩
        rw [HLa.out]
        have HQ14 : Hid (OwnQ w w.heap.size q0 X3 (k + 1) L w14) := HQ13.out.next hb14
        have HPy4 : Hid (PM w14 py vy X3) := HPy3.out.below hb14
        clear y1 hb14
        go_wp2_with fail
        refine (pshow_any py vy X3 _ HQ14.out.inv.well.fine HPy4.out (HT.out.next HQ14.out.bel)).mono ?_
        rintro e w15 ⟨rfl, hb15⟩
        have HQ15 : Hid (OwnQ w w.heap.size q0 X3 (k + 1) L w15) := HQ14.out.next hb15
        have HPy5 : Hid (PM w15 py vy X3) := HPy4.out.below hb15
        clear hb15
        go_wp2_with fail
        refine (HS.out.logs py vy X3 (k + 1) _ HQ15.out.inv (by omega) HPy5.out).mono ?_
        rintro e w16 ⟨rfl, hb16⟩
        have HQ16 : Hid (OwnQ w w.heap.size q0 X3 (k + 1) L w16) := HQ15.out.next hb16
        have HPy6 : Hid (PM w16 py vy X3) := HPy5.out.below hb16
        clear hb16
        have g0 := HQ16.out.row.cell (i := 0) (by omega)
        have g1 := HQ16.out.row.cell (i := 1) (by omega)
        have g2 := HQ16.out.row.cell (i := 2) (by omega)
        have g3 := HQ16.out.row.cell (i := 3) (by omega)
        have g4 := HQ16.out.row.cell (i := 4) (by omega)
        simp only [ddF] at g0 g1 g2 g3 g4
        have hn1 : (n : Int) + 1 = ((n + 1 : Nat) : Int) := by omega
        have HN1 : Hid ((n : Int) + 1 = ((n + 1 : Nat) : Int)) := hn1
        clear hn1
        go_wp2_with fail
        rw [HN1.out]
        refine (command_any L (n + 1) HOk.out (by omega) _).mono ?_
        rintro e w17 ⟨rfl, hb17⟩
        have HQ17 : Hid (OwnQ w w.heap.size q0 X3 (k + 1) L w17) := HQ16.out.next hb17
        have HPy7 : Hid (PM w17 py vy X3) := HPy6.out.below hb17
        clear g0 g1 g2 g3 g4 hb17
        have HDo : Hid (Calls Tryd.prog 23 #[.pointer (some ⟨py, 0, none⟩), .string (L.cmd (n + 1))] w17 fun e w' => PDoT py vy (X1, X2, X3) w17 e w') := (by
          have h := HS.out.dos py vy X3 (k + 1) (L.cmd (n + 1)) w17 HQ17.out.inv (by omega) (by have := cmd_size HOk.out (r := n + 1) ⟨by omega, by omega⟩; omega) HPy7.out (HT.out.next HQ17.out.bel)
          rw [do_again (M := X3) HOk.out ⟨by omega, by omega⟩ HE1.out, HE2.out, HE3.out] at h
          exact h : Calls Tryd.prog 23 #[.pointer (some ⟨py, 0, none⟩), .string (L.cmd (n + 1))] w17 fun e w' => PDoT py vy (X1, X2, X3) w17 e w')
        go_wp2_with fail
        refine HDo.out.mono ?_
        intro e w18 hD18
        have HB18 : Hid (Below w.heap.size w w18) := below_only HQ17.out.bel hD18.2.choose_spec.2.1 (fun q hq => HNy.out q hq) HQ17.out.bel.size
        obtain rfl := hD18.1
        clear hD18
        go_wp2_with fail
        go_ret
        exact ⟨rfl, HB18.out⟩
  · have hd : decide (l.length ≤ 1048576) = false := by simpa using hs
    rw [hd]
    clear hd
    go_wp2_with fail
    go_ret
    exact ⟨rfl, Below.refl _ _⟩

end Go.Proofs.YtmebcdpdpcpnmabDoor
