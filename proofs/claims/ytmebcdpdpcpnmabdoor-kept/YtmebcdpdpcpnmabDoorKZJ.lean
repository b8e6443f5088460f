import Derived.Test.YtmebcdpdpcpnmabDoorKZI
namespace Go.Proofs.YtmebcdpdpcpnmabDoor
open Go.RowKit

section
variable {w : World}
theorem mk_ints3 : (Instr.makeSlice 27 (.int .i64 3) (.int .i64 3)).run Tryd.prog w = .ok (.slice (some ⟨w.heap.size, 0, none⟩) 3 3) (w.alloc (.cells #[.int .i64 0, .int .i64 0, .int .i64 0] 3)) := by
  have hr := run_make_row' (P := Tryd.prog) 27 3 (.int .i64 0) 8 Tryd.underlying27 Tryd.infoInt rfl .i64 .i64 3 (by omega) (by omega) w
  rw [show madeCells #[.int .i64 0] 3 = #[.int .i64 0, .int .i64 0, .int .i64 0] from by kernel_rfl] at hr
  exact hr
end
theorem Seen.next {b : Nat} {M : Mk.Mkt} {v : Value} {w w' : World} (h : Seen b M v w) (hb : Below w.heap.size w w') : Seen b M v w' := by
  obtain ⟨av, fa, ov, fo, sv, e, h1, h2, h3, h4, h5⟩ := h
  exact ⟨av, fa, ov, fo, sv, e, own_next h1 hb, fun j hj => own_next (h2 j hj) hb, own_next h3 hb, fun j hj => own_next (h4 j hj) hb, own_next h5 hb⟩
/-- a row of numbers is none of a market's blocks -/
theorem pm_row {w : World} {p gi n : Nat} {vb : Nat → Value} {M : Mk.Mkt} {f : Nat → Value} (hP : PM w p vb M) (hr : w.rowIs gi 3 n f) : ¬ PHas p vb gi := by
  rintro (rfl | ⟨v, hv, h⟩)
  · exact (row_kind hP.box).ne (row_kind hr) (by decide) rfl
  · exact (own_kind' (hP.bk v hv) h).ne (row_kind hr) (by decide) rfl

/-- a store into a row of numbers leaves a market as it is -/
theorem OwnM.row {w : World} {p : Nat} {M : Mk.Mkt} {k : Nat} {w1 w2 : World} {gi n : Nat} {f : Nat → Value} (h : OwnM w p M k w1) (hr : w1.rowIs gi 3 n f) (hg : w.heap.size ≤ gi) (hO : Only (fun k => k = gi) w1 w2) : OwnM w p M k w2 := by
  obtain ⟨vb, hP, hn⟩ := h.lies
  exact ⟨⟨vb, hP.blocks (fun q hq => hO.block q (hP.lt hq) (fun e => pm_row hP hr (by rw [← e]; exact hq))), hn⟩, h.inv, h.ans, h.bel.trans ⟨hO.os, hO.tape, hO.output, hO.size, fun q hq => hO.block q (Nat.lt_of_lt_of_le hq h.bel.size) (fun e => by omega)⟩⟩
theorem kp_bd {M : Mk.Mkt} {k : Nat} {x : Nat → Int} (hI : AInv M k) (h : Mk.Kp M x) : ∀ i, i < 3 → -100000 ≤ x i ∧ x i ≤ 100000 := by
  have hM := hI.well.fine
  have h0 := totTo_bd (f := M.cf) (h := M.ch) (fun c hc => ⟨(hM.cf c hc).1, (hM.cf c hc).2, (hM.ch c hc).1, (hM.ch c hc).2⟩) 4 (by omega)
  have hv : ∀ v, v < 2 → 0 ≤ totTo (M.sf v) (M.sh v) 4 ∧ totTo (M.sf v) (M.sh v) 4 ≤ 19998 * (4 : Nat) := fun v hv => totTo_bd (f := M.sf v) (h := M.sh v) (fun c hc => ⟨(hM.sf v c hv hc).1, (hM.sf v c hv hc).2, (hM.sh v c hv hc).1, (hM.sh v c hv hc).2⟩) 4 (by omega)
  have hh := hM.house
  intro i hi
  match i, hi with
  | 0, _ => have := h.1; omega
  | 1, _ => have h2 : totTo (M.sf 0) (M.sh 0) 4 = x 1 := h.2 0 (by omega); have := hv 0 (by omega); omega
  | 2, _ => have h2 : totTo (M.sf 1) (M.sh 1) 4 = x 2 := h.2 1 (by omega); have := hv 1 (by omega); omega

set_option maxRecDepth 100000 in
set_option maxHeartbeats 4000000 in
theorem kept_law {LG : Mk.Mkt → ByteArray} (hS : PSide LG) (a : Option Addr) (cap : Nat) (l : List (Nat → Int)) (w : World) (hf : ∀ d ∈ l, Fits64 d) (hR : RdD w a l) (hT : Tab w) :
    Calls Tryd.prog 3 #[.slice a l.length cap] w fun e w' => e = .returned (.bool true) ∧ Below w.heap.size w w' := by
  have HS : Hid (PSide LG) := hS
  have HF : Hid (∀ d ∈ l, Fits64 d) := hf
  have HR : Hid (RdD w a l) := hR
  have HT : Hid (Tab w) := hT
  clear hS hf hR hT
  go_enter Tryd.func3, Tryd.ntmps3
  go_wp2_with fail
  refine (stands_any HS.out w HT.out).mono ?_
  rintro e w1 ⟨rfl, hb1⟩
  have HB1 : Hid (Below w.heap.size w w1) := hb1
  clear hb1
  go_wp2_with fail
  refine (some_any a l.length cap w1).mono ?_
  rintro e w1' ⟨rfl, hw1⟩
  obtain rfl := hw1.symm
  by_cases hs : l.length ≤ 1048576
  · have hd : decide (l.length ≤ 1048576) = true := by simpa using hs
    rw [hd]
    clear hd
    go_wp2_with fail
    refine (pnew_any _).mono ?_
    rintro e w2 ⟨rfl, hP2, hb2⟩
    have hp : w.heap.size ≤ w1.heap.size := HB1.out.size
    have HO2 : Hid (OwnM w w1.heap.size Mk.Mkt.new 0 w2) := (⟨⟨nilV, hP2, fun q h => by
      rcases h with rfl | ⟨v, _, h⟩
      · exact hp
      · cases h⟩, all_new, ans_new, HB1.out.trans (hb2.mono hp)⟩ : OwnM w w1.heap.size Mk.Mkt.new 0 w2)
    generalize w1.heap.size = p at *
    clear hP2 hb2
    have hmk := mk_ints3 (w := w2)
    have HI : Hid ((w2.alloc (.cells #[.int .i64 0, .int .i64 0, .int .i64 0] 3)).rowIs w2.heap.size 3 3 (fun _ => .int .i64 0)) := World.rowIs_alloc w2 #[.int .i64 0, .int .i64 0, .int .i64 0] 3 _ (fun i hi => by
      match i, hi with
      | 0, _ => rfl
      | 1, _ => rfl
      | 2, _ => rfl)
    have HO3 : Hid (OwnM w p Mk.Mkt.new 0 (w2.alloc (.cells #[.int .i64 0, .int .i64 0, .int .i64 0] 3))) := HO2.out.next ((Below.refl _ _).alloc (Nat.le_refl _) _)
    have hgi : w.heap.size ≤ w2.heap.size := HO2.out.bel.size
    go_wp2_with fail
    clear hmk
    generalize w2.alloc (.cells #[.int .i64 0, .int .i64 0, .int .i64 0] 3) = W3 at *
    generalize w2.heap.size = gi at *
    go_loopw [6, 7] (fun hv j wr => ∃ (k : Nat) (M : Mk.Mkt) (x : Nat → Int), k ≤ l.length ∧ j = .int .i64 k ∧ hv = .int .i64 M.house ∧ OwnM w p M k wr ∧ wr.rowIs gi 3 3 (fun i => .int .i64 (x i)) ∧ Mk.Kp M x) (fun _ j _ => l.length - (intOf j).toNat)
    case atStart => exact ⟨0, _, fun _ => 0, Nat.zero_le _, rfl, rfl, HO3.out, HI.out, kp_new⟩
    case round =>
      obtain ⟨k, M, x, hk, rfl, rfl, hO, hI, hK⟩ := hrel
      have HO : Hid (OwnM w p M k wr) := hO
      have HIr : Hid (wr.rowIs gi 3 3 (fun i => .int .i64 (x i))) := hI
      have HK : Hid (Mk.Kp M x) := hK
      have hpw := hO.bel.size
      obtain ⟨vb, hP, hn⟩ := hO.lies
      have HP : Hid (PM wr p vb M) := hP
      have HN : Hid (∀ q, PHas p vb q → w.heap.size ≤ q) := hn
      have HTr : Hid (Tab wr) := HT.out.next hO.bel
      clear hP hn hI hK
      by_cases hlt : k < l.length
      · have hlt' : (k : Int) < (l.length : Int) := by omega
        obtain ⟨d, hd, hpl⟩ := plain_fix l[k] (HF.out _ (List.getElem_mem _))
        have HPl := (show Hid (∀ w, Calls Tryd.prog 12 #[rawV l[k]] w fun e w' => e = .returned (ddV d) ∧ Below w.heap.size w w') from hpl)
        have HDk : Hid d.Ok := hd
        obtain ⟨gb, off, rfl, hc⟩ : ∃ gb off, a = some ⟨gb, off, none⟩ ∧ ∀ i (h : i < l.length), wr.cell? ⟨gb, off + i * 5, none⟩ = some (.int .i64 (l[i] 0)) ∧ wr.cell? ⟨gb, off + i * 5 + 1, none⟩ = some (.int .i64 (l[i] 1)) ∧ wr.cell? ⟨gb, off + i * 5 + 2, none⟩ = some (.int .i64 (l[i] 2)) ∧ wr.cell? ⟨gb, off + i * 5 + 3, none⟩ = some (.int .i64 (l[i] 3)) ∧ wr.cell? ⟨gb, off + i * 5 + 4, none⟩ = some (.int .i64 (l[i] 4)) := by
          rcases HR.out.below hO.bel with h | h
          · rw [h] at hlt; cases hlt
          · exact h
        obtain ⟨c0, c1, c2, c3, c4⟩ := hc k hlt
        clear hc hpl hd hO
        generalize l[k] = xr at *
        go_wp2_with fail
        refine (HPl.out _).mono ?_
        rintro e w3 ⟨rfl, hb3⟩
        have hbD : Below w3.heap.size w3 (w3.alloc (.cells #[.int .i64 (d.w : Int), .int .i64 (d.who : Int), .int .i64 (d.v : Int), .int .i64 (d.a : Int), .int .i64 (d.b : Int)] 29)) := (Below.refl _ _).alloc (Nat.le_refl _) _
        have HB4 : Hid (Below wr.heap.size wr (w3.alloc (.cells #[.int .i64 (d.w : Int), .int .i64 (d.who : Int), .int .i64 (d.v : Int), .int .i64 (d.a : Int), .int .i64 (d.b : Int)] 29))) := hb3.trans (hbD.mono hb3.size)
        have HD4 : Hid ((w3.alloc (.cells #[.int .i64 (d.w : Int), .int .i64 (d.who : Int), .int .i64 (d.v : Int), .int .i64 (d.a : Int), .int .i64 (d.b : Int)] 29)).rowIs w3.heap.size 29 5 (ddF d)) := dd_row w3 d
        have hq : wr.heap.size ≤ w3.heap.size := hb3.size
        clear c0 c1 c2 c3 c4 hb3 hbD
        simp only [ddV]
        go_wp2_with fail
        generalize w3.alloc (.cells #[.int .i64 (d.w : Int), .int .i64 (d.who : Int), .int .i64 (d.v : Int), .int .i64 (d.a : Int), .int .i64 (d.b : Int)] 29) = W4 at *
        generalize w3.heap.size = q at *
        have HDi : Hid (Calls Tryd.prog 13 #[.pointer (some ⟨p, 0, none⟩), .agg #[.int .i64 (d.w : Int), .int .i64 (d.who : Int), .int .i64 (d.v : Int), .int .i64 (d.a : Int), .int .i64 (d.b : Int)]] W4 fun e w' => PDid p vb M d W4 e w') := did_any HS.out p vb M k d HDk.out W4 HO.out.inv (by omega) (HP.out.below HB4.out) (HTr.out.next HB4.out)
        refine HDi.out.mono ?_
        intro e w5 hD
        have HO5 : Hid (OwnM w p (Mk.didM M d).2.2 (k + 1) w5) := (HO.out.next HB4.out).did HN.out hD
        have hOn : Only (PHas p vb) W4 w5 := hD.2.choose_spec.2.1
        have HI4 : W4.rowIs gi 3 3 (fun i => .int .i64 (x i)) := HIr.out.of_block (HB4.out.block _ HIr.out.lt)
        have HI5 : Hid (w5.rowIs gi 3 3 (fun i => .int .i64 (x i))) := HI4.of_block (hOn.block gi HI4.lt (pm_row (HP.out.below HB4.out) HI4))
        have HD5 : Hid (w5.rowIs q 29 5 (ddF d)) := HD4.out.of_block (hOn.block q HD4.out.lt (fun h => by have := HP.out.lt h; omega))
        have HX : Hid (Mk.Kp (Mk.didM M d).2.2 (if Mk.didB M d = true ∧ (Mk.didM M d).2.1 = 0 then Mk.flowI d x else x) ∧ M.house ≤ (Mk.didM M d).2.2.house) := did_kp HO.out.inv HDk.out HK.out
        have hbx : ∀ i, i < 3 → -100000 ≤ x i ∧ x i ≤ 100000 := kp_bd HO.out.inv HK.out
        obtain rfl := hD.1
        have hh := HX.out.2
        clear hD hOn HI4
        generalize Mk.didM M d = X at *
        generalize Mk.didB M d = bd at *
        obtain ⟨X1, X2, X3⟩ := X
        have hh' : ¬ X3.house < M.house := by have : M.house ≤ X3.house := hh; omega
        clear hh
        by_cases hy : bd = true ∧ X2 = 0
        · obtain ⟨rfl, rfl⟩ := hy
          have y0 := HD5.out.cell (i := 0) (by omega)
          have y1 := HD5.out.cell (i := 1) (by omega)
          have y2 := HD5.out.cell (i := 2) (by omega)
          have y3 := HD5.out.cell (i := 3) (by omega)
          have y4 := HD5.out.cell (i := 4) (by omega)
          simp only [ddF] at y0 y1 y2 y3 y4
          have HFw : Hid (Calls Tryd.prog 14 #[.agg #[.int .i64 (d.w : Int), .int .i64 (d.who : Int), .int .i64 (d.v : Int), .int .i64 (d.a : Int), .int .i64 (d.b : Int)], .slice (some ⟨gi, 0, none⟩) 3 3] w5 fun e w' => e = .returned (.tuple #[]) ∧ w'.rowIs gi 3 3 (fun i => .int .i64 (Mk.flowI d x i)) ∧ Only (fun k => k = gi) w5 w') := flow_any d HDk.out gi x w5 HI5.out hbx
          have HKn : Hid (Mk.Kp X3 (Mk.flowI d x)) := (by have h := HX.out.1; rw [if_pos ⟨rfl, rfl⟩] at h; exact h : Mk.Kp X3 (Mk.flowI d x))
          generalize Mk.flowI d x = xn at *
          go_wp2_with fail
          refine HFw.out.mono ?_
          rintro e w6 ⟨rfl, hI6, hO6⟩
          have HI6 : Hid (w6.rowIs gi 3 3 (fun i => .int .i64 (xn i))) := hI6
          have HO6 : Hid (OwnM w p X3 (k + 1) w6) := HO5.out.row HI5.out hgi hO6
          clear y0 y1 y2 y3 y4 hI6 hO6
          obtain ⟨vb6, hP6, hn6⟩ := HO6.out.lies
          have HP6 : Hid (PM w6 p vb6 X3) := hP6
          clear hP6 hn6
          go_wp2_with fail
          refine (look_any p vb6 X3 _ HO6.out.inv.well.fine HP6.out (HT.out.next HO6.out.bel)).mono ?_
          rintro e w7 ⟨sv, rfl, hSn, hb7⟩
          obtain ⟨av, fa, ov, fo, sd, rfl, hq1, hq2, hq3, hq4, hq5⟩ := hSn
          obtain ⟨xa, xc, rfl⟩ := own_form hq1
          obtain ⟨ya, yc, rfl⟩ := own_form hq3
          obtain ⟨za, zc, rfl⟩ := own_form hq5
          have hbA : Below w7.heap.size w7 (w7.alloc (.cells #[.slice xa 4 xc, .int .i64 X3.house, .slice ya 2 yc, .slice za 2 zc] 38)) := (Below.refl _ _).alloc (Nat.le_refl _) _
          have HSn : Hid (Seen w6.heap.size X3 (.agg #[.slice xa 4 xc, .int .i64 X3.house, .slice ya 2 yc, .slice za 2 zc]) (w7.alloc (.cells #[.slice xa 4 xc, .int .i64 X3.house, .slice ya 2 yc, .slice za 2 zc] 38))) := Seen.next ⟨_, fa, _, fo, _, rfl, hq1, hq2, hq3, hq4, hq5⟩ hbA
          have HO7 : Hid (OwnM w p X3 (k + 1) (w7.alloc (.cells #[.slice xa 4 xc, .int .i64 X3.house, .slice ya 2 yc, .slice za 2 zc] 38))) := (HO6.out.next hb7).next hbA
          have HI7 : Hid ((w7.alloc (.cells #[.slice xa 4 xc, .int .i64 X3.house, .slice ya 2 yc, .slice za 2 zc] 38)).rowIs gi 3 3 (fun i => .int .i64 (xn i))) := (HI6.out.of_block (hb7.block _ HI6.out.lt)).of_block (hbA.block _ (Nat.lt_of_lt_of_le HI6.out.lt hb7.size))
          clear hq1 hq2 hq3 hq4 hq5 hb7 hbA
          go_wp2_with fail
          generalize w7.alloc (.cells #[.slice xa 4 xc, .int .i64 X3.house, .slice ya 2 yc, .slice za 2 zc] 38) = W7 at *
          refine (kept_any w6.heap.size X3 _ gi xn W7 HO7.out.inv.well.fine HSn.out HI7.out HKn.out).mono ?_
          rintro e w8 ⟨rfl, hb8⟩
          have HO8 : Hid (OwnM w p X3 (k + 1) w8) := HO7.out.next hb8
          have HI8 : Hid (w8.rowIs gi 3 3 (fun i => .int .i64 (xn i))) := HI7.out.of_block (hb8.block _ HI7.out.lt)
          clear hb8
          go_wp2_with fail
          go_roundw
          case rel => exact ⟨k + 1, X3, xn, by omega, by go_num, rfl, HO8.out, HI8.out, HKn.out⟩
          case measure => simp [intOf]; omega
        · have HKn : Hid (Mk.Kp X3 x) := (by have h := HX.out.1; rw [if_neg hy] at h; exact h : Mk.Kp X3 x)
          have HI6 : Hid (w5.rowIs gi 3 3 (fun i => .int .i64 (x i))) := HI5.out
          have HO6 : Hid (OwnM w p X3 (k + 1) w5) := HO5.out
          by_cases h0 : X2 = 0
          · subst h0
            have hbd : bd = false := by
              cases bd
              · rfl
              · exact absurd ⟨rfl, rfl⟩ hy
            subst hbd
            clear hy
            obtain ⟨vb6, hP6, hn6⟩ := HO6.out.lies
            have HP6 : Hid (PM w5 p vb6 X3) := hP6
            clear hP6 hn6
            go_wp2_with fail
            refine (look_any p vb6 X3 _ HO6.out.inv.well.fine HP6.out (HT.out.next HO6.out.bel)).mono ?_
            rintro e w7 ⟨sv, rfl, hSn, hb7⟩
            obtain ⟨av, fa, ov, fo, sd, rfl, hq1, hq2, hq3, hq4, hq5⟩ := hSn
            obtain ⟨xa, xc, rfl⟩ := own_form hq1
            obtain ⟨ya, yc, rfl⟩ := own_form hq3
            obtain ⟨za, zc, rfl⟩ := own_form hq5
            have hbA : Below w7.heap.size w7 (w7.alloc (.cells #[.slice xa 4 xc, .int .i64 X3.house, .slice ya 2 yc, .slice za 2 zc] 38)) := (Below.refl _ _).alloc (Nat.le_refl _) _
            have HSn : Hid (Seen w5.heap.size X3 (.agg #[.slice xa 4 xc, .int .i64 X3.house, .slice ya 2 yc, .slice za 2 zc]) (w7.alloc (.cells #[.slice xa 4 xc, .int .i64 X3.house, .slice ya 2 yc, .slice za 2 zc] 38))) := Seen.next ⟨_, fa, _, fo, _, rfl, hq1, hq2, hq3, hq4, hq5⟩ hbA
            have HO7 : Hid (OwnM w p X3 (k + 1) (w7.alloc (.cells #[.slice xa 4 xc, .int .i64 X3.house, .slice ya 2 yc, .slice za 2 zc] 38))) := (HO6.out.next hb7).next hbA
            have HI7 : Hid ((w7.alloc (.cells #[.slice xa 4 xc, .int .i64 X3.house, .slice ya 2 yc, .slice za 2 zc] 38)).rowIs gi 3 3 (fun i => .int .i64 (x i))) := (HI6.out.of_block (hb7.block _ HI6.out.lt)).of_block (hbA.block _ (Nat.lt_of_lt_of_le HI6.out.lt hb7.size))
            clear hq1 hq2 hq3 hq4 hq5 hb7 hbA
            go_wp2_with fail
            generalize w7.alloc (.cells #[.slice xa 4 xc, .int .i64 X3.house, .slice ya 2 yc, .slice za 2 zc] 38) = W7 at *
            refine (kept_any w5.heap.size X3 _ gi x W7 HO7.out.inv.well.fine HSn.out HI7.out HKn.out).mono ?_
            rintro e w8 ⟨rfl, hb8⟩
            have HO8 : Hid (OwnM w p X3 (k + 1) w8) := HO7.out.next hb8
            have HI8 : Hid (w8.rowIs gi 3 3 (fun i => .int .i64 (x i))) := HI7.out.of_block (hb8.block _ HI7.out.lt)
            clear hb8
            go_wp2_with fail
            go_roundw
            case rel => exact ⟨k + 1, X3, x, by omega, by go_num, rfl, HO8.out, HI8.out, HKn.out⟩
            case measure => simp [intOf]; omega
          · have h0' : (X2 == 0) = false := by simpa using h0
            have h0'' : ¬ X2 = 0 := h0
            clear hy
            cases bd
            all_goals
              obtain ⟨vb6, hP6, hn6⟩ := HO6.out.lies
              have HP6 : Hid (PM w5 p vb6 X3) := hP6
              clear hP6 hn6
              go_wp2_with fail
              refine (look_any p vb6 X3 _ HO6.out.inv.well.fine HP6.out (HT.out.next HO6.out.bel)).mono ?_
              rintro e w7 ⟨sv, rfl, hSn, hb7⟩
              obtain ⟨av, fa, ov, fo, sd, rfl, hq1, hq2, hq3, hq4, hq5⟩ := hSn
              obtain ⟨xa, xc, rfl⟩ := own_form hq1
              obtain ⟨ya, yc, rfl⟩ := own_form hq3
              obtain ⟨za, zc, rfl⟩ := own_form hq5
              have hbA : Below w7.heap.size w7 (w7.alloc (.cells #[.slice xa 4 xc, .int .i64 X3.house, .slice ya 2 yc, .slice za 2 zc] 38)) := (Below.refl _ _).alloc (Nat.le_refl _) _
              have HSn : Hid (Seen w5.heap.size X3 (.agg #[.slice xa 4 xc, .int .i64 X3.house, .slice ya 2 yc, .slice za 2 zc]) (w7.alloc (.cells #[.slice xa 4 xc, .int .i64 X3.house, .slice ya 2 yc, .slice za 2 zc] 38))) := Seen.next ⟨_, fa, _, fo, _, rfl, hq1, hq2, hq3, hq4, hq5⟩ hbA
              have HO7 : Hid (OwnM w p X3 (k + 1) (w7.alloc (.cells #[.slice xa 4 xc, .int .i64 X3.house, .slice ya 2 yc, .slice za 2 zc] 38))) := (HO6.out.next hb7).next hbA
              have HI7 : Hid ((w7.alloc (.cells #[.slice xa 4 xc, .int .i64 X3.house, .slice ya 2 yc, .slice za 2 zc] 38)).rowIs gi 3 3 (fun i => .int .i64 (x i))) := (HI6.out.of_block (hb7.block _ HI6.out.lt)).of_block (hbA.block _ (Nat.lt_of_lt_of_le HI6.out.lt hb7.size))
              clear hq1 hq2 hq3 hq4 hq5 hb7 hbA
              go_wp2_with fail
              generalize w7.alloc (.cells #[.slice xa 4 xc, .int .i64 X3.house, .slice ya 2 yc, .slice za 2 zc] 38) = W7 at *
              refine (kept_any w5.heap.size X3 _ gi x W7 HO7.out.inv.well.fine HSn.out HI7.out HKn.out).mono ?_
              rintro e w8 ⟨rfl, hb8⟩
              have HO8 : Hid (OwnM w p X3 (k + 1) w8) := HO7.out.next hb8
              have HI8 : Hid (w8.rowIs gi 3 3 (fun i => .int .i64 (x i))) := HI7.out.of_block (hb8.block _ HI7.out.lt)
              clear hb8
              go_wp2_with fail
              go_roundw
              case rel => exact ⟨k + 1, X3, x, by omega, by go_num, rfl, HO8.out, HI8.out, HKn.out⟩
              case measure => simp [intOf]; omega
      · obtain rfl : k = l.length := by omega
        have HF2 : Hid (Below w.heap.size w wr) := HO.out.bel
        go_wp2_with fail
        go_ret
        exact ⟨rfl, HF2.out⟩
  · have hd : decide (l.length ≤ 1048576) = false := by simpa using hs
    rw [hd]
    clear hd
    go_wp2_with fail
    go_ret
    exact ⟨rfl, HB1.out⟩

end Go.Proofs.YtmebcdpdpcpnmabDoor
