import Derived.Test.YtmebcdpdpcpnmabDoorKZ5
namespace Go.Proofs.YtmebcdpdpcpnmabDoor
open Go.RowKit

theorem some_any (a : Option Addr) (n cap : Nat) (w : World) : Calls Tryd.prog 10 #[.slice a n cap] w fun e w' => e = .returned (.bool (decide (n ≤ 1048576))) ∧ w' = w := by
  by_cases h : n ≤ 1048576
  · have h' : (n : Int) ≤ 1048576 := by omega
    go_enter Tryd.func10, Tryd.ntmps10
    go_wp2
    go_ret
    exact ⟨by simp [h], rfl⟩
  · have h' : ¬ (n : Int) ≤ 1048576 := by omega
    go_enter Tryd.func10, Tryd.ntmps10
    go_wp2
    go_ret
    exact ⟨by simp, rfl⟩

/-- where a market of the call's own stands after k deeds -/
structure OwnM (w : World) (p : Nat) (M : Mk.Mkt) (k : Nat) (wr : World) : Prop where
  lies : ∃ vb, PM wr p vb M ∧ ∀ q, PHas p vb q → w.heap.size ≤ q
  inv : AInv M k
  ans : Mk.Ans M
  bel : Below w.heap.size w wr

theorem did_ans {M : Mk.Mkt} (h : Mk.Ans M) (d : Mk.Dd) : Mk.Ans (Mk.didM M d).2.2 := by
  unfold Mk.didM
  split
  · exact ans_step h _
  · exact h
theorem did_shown {M : Mk.Mkt} (h : Mk.Ans M) (d : Mk.Dd) (he : (Mk.didM M d).2.1 ≠ 0) : Mk.showM (Mk.didM M d).2.2 = Mk.showM M := by
  unfold Mk.didM at he ⊢
  split
  · rename_i hl
    rw [if_pos hl] at he
    exact (do_shown h _ he (fun c hc => (Mk.read_ok hc).1.who)).2
  · rfl
/-- a deed is done to a market of the call's own -/
theorem OwnM.did {w : World} {p : Nat} {M : Mk.Mkt} {k : Nat} {w1 w2 : World} {vb : Nat → Value} {d : Mk.Dd} {e : Ending} (h : OwnM w p M k w1) (hn : ∀ q, PHas p vb q → w.heap.size ≤ q) (hD : PDid p vb M d w1 e w2) : OwnM w p (Mk.didM M d).2.2 (k + 1) w2 := by
  obtain ⟨_, vb', hP, hO, hN⟩ := hD
  exact ⟨⟨vb', hP, fun q hq => (hN q hq).elim (hn q) (fun h2 => Nat.le_trans h.bel.size h2)⟩, did_inv h.inv d, did_ans h.ans d, below_only h.bel hO hn h.bel.size⟩
theorem OwnM.next {w : World} {p : Nat} {M : Mk.Mkt} {k : Nat} {w1 w2 : World} (h : OwnM w p M k w1) (hb : Below w1.heap.size w1 w2) : OwnM w p M k w2 := by
  obtain ⟨vb, hP, hn⟩ := h.lies
  exact ⟨⟨vb, hP.below hb, hn⟩, h.inv, h.ans, h.bel.trans (hb.mono h.bel.size)⟩

theorem OwnM.done {w : World} {p : Nat} {M : Mk.Mkt} {k : Nat} {w1 w2 : World} {vb : Nat → Value} {s : ByteArray} {e : Ending} (h : OwnM w p M k w1) (hn : ∀ q, PHas p vb q → w.heap.size ≤ q) (hD : PDoT p vb (Mk.doM (Mk.allM M) M s) w1 e w2) : OwnM w p (Mk.doM (Mk.allM M) M s).2.2 (k + 1) w2 := by
  obtain ⟨_, vb', hP, hO, hN⟩ := hD
  exact ⟨⟨vb', hP, fun q hq => (hN q hq).elim (hn q) (fun h2 => Nat.le_trans h.bel.size h2)⟩, all_step s h.inv, ans_step h.ans s, below_only h.bel hO hn h.bel.size⟩
/-- an answer: no command or no next request; OK; another error -/
theorem do_three {M : Mk.Mkt} (h : Mk.Ans M) (s : ByteArray) :
    (((Mk.doM (Mk.allM M) M s).2.1 = 2 ∨ (Mk.doM (Mk.allM M) M s).2.1 = 3 ∨ (Mk.doM (Mk.allM M) M s).2.1 = 4) ∧ (Mk.doM (Mk.allM M) M s).1 = ⟨#[]⟩ ∧ (Mk.doM (Mk.allM M) M s).2.2 = M) ∨ (Mk.doM (Mk.allM M) M s).2.1 = 0 ∨
    ((5 ≤ (Mk.doM (Mk.allM M) M s).2.1 ∧ (Mk.doM (Mk.allM M) M s).2.1 ≤ 10) ∧ (Mk.doM (Mk.allM M) M s).1 = ⟨#[]⟩ ∧ Mk.showM (Mk.doM (Mk.allM M) M s).2.2 = Mk.showM M) := by
  rcases do_ways M s with e | ⟨c, hr, _, e⟩ | e | e | ⟨c, _, _, e⟩
  · rw [e]; exact .inl ⟨.inl rfl, rfl, rfl⟩
  · rw [e]
    rcases h c.who (Mk.read_ok hr).1.who with h0 | h0
    · exact .inr (.inl h0)
    · exact .inr (.inr ⟨h0.2, h0.1, rfl⟩)
  · rw [e]; exact .inl ⟨.inr (.inl rfl), rfl, rfl⟩
  · rw [e]; exact .inl ⟨.inr (.inr rfl), rfl, rfl⟩
  · rw [e]
    rcases all_err M c with h0 | h0
    · exact .inr (.inl h0)
    · exact .inr (.inr ⟨h0.2.2, h0.1, by rw [show_rest, h0.2.1]⟩)

set_option maxRecDepth 100000 in
set_option maxHeartbeats 2000000 in
theorem refused_law {LG : Mk.Mkt → ByteArray} (hS : PSide LG) (a : Option Addr) (cap : Nat) (l : List (Nat → Int)) (t : ByteArray) (w : World) (hf : ∀ d ∈ l, Fits64 d) (hR : RdD w a l) (ht : t.size ≤ 140737488355328) (hT : Tab w) :
    Calls Tryd.prog 6 #[.slice a l.length cap, .string t] w fun e w' => e = .returned (.bool true) ∧ Below w.heap.size w w' := by
  have HS : Hid (PSide LG) := hS
  have HF : Hid (∀ d ∈ l, Fits64 d) := hf
  have HR : Hid (RdD w a l) := hR
  have HT : Hid (Tab w) := hT
  clear hS hf hR hT
  go_enter Tryd.func6, Tryd.ntmps6
  go_wp2_with fail
  refine (stands_any HS.out w HT.out).mono ?_
  rintro e w1 ⟨rfl, hb1⟩
  have HB1 : Hid (Below w.heap.size w w1) := hb1
  clear hb1
  go_wp2_with fail
  refine (some_any a l.length cap w1).mono ?_
  rintro e w1' ⟨rfl, hw1⟩
  obtain rfl := hw1.symm
  by_cases hs : l.length ≤ 1048576
  · by_cases ht2 : t.size ≤ 1048576
    · have ht3 : ¬ (1048576 : Int) < (t.size : Int) := by omega
      have hd : decide (l.length ≤ 1048576) = true := by simpa using hs
      rw [hd]
      clear hd
      go_wp2_with fail
      refine (pnew_any _).mono ?_
      rintro e w2 ⟨rfl, hP2, hb2⟩
      have hp : w.heap.size ≤ w1.heap.size := HB1.out.size
      have HO2 : Hid (OwnM w w1.heap.size Mk.Mkt.new 0 w2) := (⟨⟨nilV, hP2, fun q h => by
        rcases h with rfl | ⟨v, _, h⟩
        · exact hp
        · cases h⟩, all_new, ans_new, HB1.out.trans (hb2.mono hp)⟩ : OwnM w w1.heap.size Mk.Mkt.new 0 w2)
      generalize w1.heap.size = p at *
      clear hP2 hb2
      go_wp2_with fail
      go_loopw [7] (fun j wr => ∃ (k : Nat) (M : Mk.Mkt), k ≤ l.length ∧ j = .int .i64 k ∧ OwnM w p M k wr) (fun j _ => l.length - (intOf j).toNat)
      case atStart => exact ⟨0, _, Nat.zero_le _, rfl, HO2.out⟩
      case round =>
        obtain ⟨k, M, hk, rfl, hO⟩ := hrel
        have HO : Hid (OwnM w p M k wr) := hO
        have hpw := hO.bel.size
        obtain ⟨vb, hP, hn⟩ := hO.lies
        have HP : Hid (PM wr p vb M) := hP
        have HN : Hid (∀ q, PHas p vb q → w.heap.size ≤ q) := hn
        have HTr : Hid (Tab wr) := HT.out.next hO.bel
        clear hP hn
        by_cases hlt : k < l.length
        · have hlt' : (k : Int) < (l.length : Int) := by omega
          obtain ⟨d, hd, hpl⟩ := plain_fix l[k] (HF.out _ (List.getElem_mem _))
          have HPl := (show Hid (∀ w, Calls Tryd.prog 12 #[rawV l[k]] w fun e w' => e = .returned (ddV d) ∧ Below w.heap.size w w') from hpl)
          have HDk : Hid d.Ok := hd
          obtain ⟨gb, off, rfl, hc⟩ : ∃ gb off, a = some ⟨gb, off, none⟩ ∧ ∀ i (h : i < l.length), wr.cell? ⟨gb, off + i * 5, none⟩ = some (.int .i64 (l[i] 0)) ∧ wr.cell? ⟨gb, off + i * 5 + 1, none⟩ = some (.int .i64 (l[i] 1)) ∧ wr.cell? ⟨gb, off + i * 5 + 2, none⟩ = some (.int .i64 (l[i] 2)) ∧ wr.cell? ⟨gb, off + i * 5 + 3, none⟩ = some (.int .i64 (l[i] 3)) ∧ wr.cell? ⟨gb, off + i * 5 + 4, none⟩ = some (.int .i64 (l[i] 4)) := by
            rcases HR.out.below hO.bel with h | h
            · rw [h] at hlt; cases hlt
            · exact h
          obtain ⟨c0, c1, c2, c3, c4⟩ := hc k hlt
          clear hc hpl hd hO
          generalize l[k] = x at *
          go_wp2_with fail
          refine (HPl.out _).mono ?_
          rintro e w3 ⟨rfl, hb3⟩
          have HB3 : Hid (Below wr.heap.size wr w3) := hb3
          clear c0 c1 c2 c3 c4 hb3
          obtain ⟨dw, who, v, da, db⟩ := d
          simp only [ddV]
          go_wp2_with fail
          have HB3a : Hid (Below wr.heap.size wr (w3.alloc (.cells #[.int .i64 (dw : Int), .int .i64 (who : Int), .int .i64 (v : Int), .int .i64 (da : Int), .int .i64 (db : Int)] 29))) := HB3.out.trans (((Below.refl w3.heap.size w3).alloc (Nat.le_refl _) _).mono HB3.out.size)
          have HC : Hid (∀ i u, (#[.int .i64 (dw : Int), .int .i64 (who : Int), .int .i64 (v : Int), .int .i64 (da : Int), .int .i64 (db : Int)] : Array Value)[i]? = some u → (w3.alloc (.cells #[.int .i64 (dw : Int), .int .i64 (who : Int), .int .i64 (v : Int), .int .i64 (da : Int), .int .i64 (db : Int)] 29)).cell? ⟨w3.heap.size, i, none⟩ = some u) := fun i u h => by simpa using h
          have hdl : w3.heap.size < (w3.alloc (.cells #[.int .i64 (dw : Int), .int .i64 (who : Int), .int .i64 (v : Int), .int .i64 (da : Int), .int .i64 (db : Int)] 29)).heap.size := by simp
          generalize w3.alloc (.cells #[.int .i64 (dw : Int), .int .i64 (who : Int), .int .i64 (v : Int), .int .i64 (da : Int), .int .i64 (db : Int)] 29) = W3 at *
          generalize w3.heap.size = q at *
          refine (pshow_any p vb M _ HO.out.inv.well.fine (HP.out.below HB3a.out) (HTr.out.next HB3a.out)).mono ?_
          rintro e w4 ⟨rfl, hb4⟩
          have HB4 : Hid (Below wr.heap.size wr w4) := HB3a.out.trans (hb4.mono HB3a.out.size)
          have x0 : w4.cell? ⟨q, 0, none⟩ = some (.int .i64 (dw : Int)) := (hb4.cell (p := ⟨q, 0, none⟩) hdl).trans (HC.out 0 _ rfl)
          have x1 : w4.cell? ⟨q, 1, none⟩ = some (.int .i64 (who : Int)) := (hb4.cell (p := ⟨q, 1, none⟩) hdl).trans (HC.out 1 _ rfl)
          have x2 : w4.cell? ⟨q, 2, none⟩ = some (.int .i64 (v : Int)) := (hb4.cell (p := ⟨q, 2, none⟩) hdl).trans (HC.out 2 _ rfl)
          have x3 : w4.cell? ⟨q, 3, none⟩ = some (.int .i64 (da : Int)) := (hb4.cell (p := ⟨q, 3, none⟩) hdl).trans (HC.out 3 _ rfl)
          have x4 : w4.cell? ⟨q, 4, none⟩ = some (.int .i64 (db : Int)) := (hb4.cell (p := ⟨q, 4, none⟩) hdl).trans (HC.out 4 _ rfl)
          clear hb4
          go_wp2_with fail
          refine (did_any HS.out p vb M k ⟨dw, who, v, da, db⟩ HDk.out _ HO.out.inv (by omega) (HP.out.below HB4.out) (HTr.out.next HB4.out)).mono ?_
          intro e w5 hD
          have HO5 : Hid (OwnM w p (Mk.didM M ⟨dw, who, v, da, db⟩).2.2 (k + 1) w5) := (HO.out.next HB4.out).did HN.out hD
          obtain rfl := hD.1
          clear hD x0 x1 x2 x3 x4
          have HX : Hid ((Mk.didM M ⟨dw, who, v, da, db⟩).2.1 ≠ 0 → Mk.showM (Mk.didM M ⟨dw, who, v, da, db⟩).2.2 = Mk.showM M) := did_shown HO.out.ans _
          generalize Mk.didM M ⟨dw, who, v, da, db⟩ = X at *
          generalize Mk.didB M ⟨dw, who, v, da, db⟩ = bd at *
          obtain ⟨X1, X2, X3⟩ := X
          obtain ⟨vb5, hP5, hn5⟩ := HO5.out.lies
          have HP5 : Hid (PM w5 p vb5 X3) := hP5
          clear hP5 hn5
          go_wp2_with fail
          refine (pshow_any p vb5 X3 _ HO5.out.inv.well.fine HP5.out (HT.out.next HO5.out.bel)).mono ?_
          rintro e w6 ⟨rfl, hb6⟩
          have HO6 : Hid (OwnM w p X3 (k + 1) w6) := HO5.out.next hb6
          clear hb6
          by_cases h0 : X2 = 0
          · subst h0
            cases bd
            all_goals
              go_wp2_with fail
              go_roundw
              case rel => exact ⟨k + 1, X3, by omega, by go_num, HO6.out⟩
              case measure => simp [intOf]; omega
          · have h0' : (X2 == 0) = false := by simpa using h0
            rw [HX.out h0]
            cases bd
            all_goals
              go_wp2_with fail
              go_roundw
              case rel => exact ⟨k + 1, X3, by omega, by go_num, HO6.out⟩
              case measure => simp [intOf]; omega
        · obtain rfl : k = l.length := by omega
          clear hlt hk
          go_wp2_with fail
          refine (pshow_any p vb M _ HO.out.inv.well.fine HP.out HTr.out).mono ?_
          rintro e w3 ⟨rfl, hb3⟩
          have HB3 : Hid (Below wr.heap.size wr w3) := hb3
          clear hb3
          go_wp2_with fail
          refine (HS.out.logs p vb M _ _ HO.out.inv (by omega) (HP.out.below HB3.out)).mono ?_
          rintro e w4 ⟨rfl, hb4⟩
          have HB4 : Hid (Below wr.heap.size wr w4) := HB3.out.trans (hb4.mono HB3.out.size)
          clear hb4
          go_wp2_with fail
          refine (HS.out.dos p vb M _ t _ HO.out.inv hs ht2 (HP.out.below HB4.out) (HTr.out.next HB4.out)).mono ?_
          intro e w5 hD
          have HO5 : Hid (OwnM w p (Mk.doM (Mk.allM M) M t).2.2 (l.length + 1) w5) := (HO.out.next HB4.out).done HN.out hD
          obtain rfl := hD.1
          have HW := (show Hid _ from do_three HO.out.ans t)
          clear hD
          generalize Mk.doM (Mk.allM M) M t = X at *
          obtain ⟨X1, X2, X3⟩ := X
          obtain ⟨vb5, hP5, hn5⟩ := HO5.out.lies
          have HP5 : Hid (PM w5 p vb5 X3) := hP5
          clear hP5 hn5
          go_wp2_with fail
          refine (pshow_any p vb5 X3 _ HO5.out.inv.well.fine HP5.out (HT.out.next HO5.out.bel)).mono ?_
          rintro e w6 ⟨rfl, hb6⟩
          have HB6 : Hid (Below w5.heap.size w5 w6) := hb6
          clear hb6
          go_wp2_with fail
          refine (HS.out.logs p vb5 X3 (l.length + 1) _ HO5.out.inv (by omega) (HP5.out.below HB6.out)).mono ?_
          rintro e w7 ⟨rfl, hb7⟩
          have HB7 : Hid (Below w.heap.size w w7) := ((HO5.out.next HB6.out).next hb7).bel
          clear hb7
          rcases HW.out with ⟨h2, h1, h3⟩ | h2 | ⟨h2, h1, h3⟩
          · obtain rfl : X1 = ⟨#[]⟩ := h1
            obtain rfl : X3 = M := h3
            rcases h2 with h2 | h2 | h2
            all_goals
              obtain rfl := h2
              go_wp2_with fail
              go_ret
              exact ⟨rfl, HB7.out⟩
          · obtain rfl : X2 = 0 := h2
            go_wp2_with fail
            go_ret
            exact ⟨rfl, HB7.out⟩
          · obtain rfl : X1 = ⟨#[]⟩ := h1
            have h3' : Mk.showM X3 = Mk.showM M := h3
            rw [h3']
            have g2 : (X2 == 2) = false := by simp; omega
            have g3 : (X2 == 3) = false := by simp; omega
            have g4 : (X2 == 4) = false := by simp; omega
            have g0 : (X2 == 0) = false := by simp; omega
            clear h2
            go_wp2_with fail
            go_ret
            exact ⟨rfl, HB7.out⟩
    · have ht3 : (1048576 : Int) < (t.size : Int) := by omega
      have hd : decide (l.length ≤ 1048576) = true := by simpa using hs
      rw [hd]
      clear hd
      go_wp2_with fail
      go_ret
      exact ⟨rfl, HB1.out⟩
  · have hd : decide (l.length ≤ 1048576) = false := by simpa using hs
    rw [hd]
    clear hd
    go_wp2_with fail
    go_ret
    exact ⟨rfl, HB1.out⟩

end Go.Proofs.YtmebcdpdpcpnmabDoor
