import Derived.Test.YtmebcdpdpcpnmabDoorKZL
namespace Go.Proofs.YtmebcdpdpcpnmabDoor
open Go.RowKit

set_option maxRecDepth 100000 in
set_option maxHeartbeats 4000000 in
theorem held_law {LG : Mk.Mkt → ByteArray} (hS : PSide LG) (a : Option Addr) (cap : Nat) (l : List (Nat → Int)) (w : World) (hf : ∀ d ∈ l, Fits64 d) (hR : RdD w a l) (hT : Tab w) :
    Calls Tryd.prog 4 #[.slice a l.length cap] w fun e w' => e = .returned (.bool true) ∧ Below w.heap.size w w' := by
  have HS : Hid (PSide LG) := hS
  have HF : Hid (∀ d ∈ l, Fits64 d) := hf
  have HR : Hid (RdD w a l) := hR
  have HT : Hid (Tab w) := hT
  clear hS hf hR hT
  go_enter Tryd.func4, Tryd.ntmps4
  go_wp2_with fail
  refine (stands_any HS.out w HT.out).mono ?_
  rintro e w1 ⟨rfl, hb1⟩
  have HB1 : Hid (Below w.heap.size w w1) := hb1
  clear hb1
  go_wp2_with fail
  refine (some_any a l.length cap w1).mono ?_
  rintro e w1' ⟨rfl, hw1⟩
  obtain rfl := hw1.symm
  by_cases hs : l.length ≤ 1048576
  · have hd : decide (l.length ≤ 1048576) = true := by simpa using hs
    rw [hd]
    clear hd
    go_wp2_with fail
    refine (pnew_any _).mono ?_
    rintro e w2 ⟨rfl, hP2, hb2⟩
    have hp : w.heap.size ≤ w1.heap.size := HB1.out.size
    have HO2 : Hid (OwnM w w1.heap.size Mk.Mkt.new 0 w2) := (⟨⟨nilV, hP2, fun q h => by
      rcases h with rfl | ⟨v, _, h⟩
      · exact hp
      · cases h⟩, all_new, ans_new, HB1.out.trans (hb2.mono hp)⟩ : OwnM w w1.heap.size Mk.Mkt.new 0 w2)
    generalize w1.heap.size = p at *
    clear hP2 hb2
    go_wp2_with fail
    go_loopw [5] (fun j wr => ∃ (k : Nat) (M : Mk.Mkt), k ≤ l.length ∧ j = .int .i64 k ∧ OwnM w p M k wr) (fun j _ => l.length - (intOf j).toNat)
    case atStart => exact ⟨0, _, Nat.zero_le _, rfl, HO2.out⟩
    case round =>
      obtain ⟨k, M, hk, rfl, hO⟩ := hrel
      have HO : Hid (OwnM w p M k wr) := hO
      have hpw := hO.bel.size
      obtain ⟨vb, hP, hn⟩ := hO.lies
      have HP : Hid (PM wr p vb M) := hP
      have HN : Hid (∀ q, PHas p vb q → w.heap.size ≤ q) := hn
      have HTr : Hid (Tab wr) := HT.out.next hO.bel
      clear hP hn
      by_cases hlt : k < l.length
      · have hlt' : (k : Int) < (l.length : Int) := by omega
        obtain ⟨d, hd, hpl⟩ := plain_fix l[k] (HF.out _ (List.getElem_mem _))
        have HPl := (show Hid (∀ w, Calls Tryd.prog 12 #[rawV l[k]] w fun e w' => e = .returned (ddV d) ∧ Below w.heap.size w w') from hpl)
        have HDk : Hid d.Ok := hd
        obtain ⟨gb, off, rfl, hc⟩ : ∃ gb off, a = some ⟨gb, off, none⟩ ∧ ∀ i (h : i < l.length), wr.cell? ⟨gb, off + i * 5, none⟩ = some (.int .i64 (l[i] 0)) ∧ wr.cell? ⟨gb, off + i * 5 + 1, none⟩ = some (.int .i64 (l[i] 1)) ∧ wr.cell? ⟨gb, off + i * 5 + 2, none⟩ = some (.int .i64 (l[i] 2)) ∧ wr.cell? ⟨gb, off + i * 5 + 3, none⟩ = some (.int .i64 (l[i] 3)) ∧ wr.cell? ⟨gb, off + i * 5 + 4, none⟩ = some (.int .i64 (l[i] 4)) := by
          rcases HR.out.below hO.bel with h | h
          · rw [h] at hlt; cases hlt
          · exact h
        obtain ⟨c0, c1, c2, c3, c4⟩ := hc k hlt
        clear hc hpl hd hO
        generalize l[k] = xr at *
        go_wp2_with fail
        refine (HPl.out _).mono ?_
        rintro e w3 ⟨rfl, hb3⟩
        have hbD : Below w3.heap.size w3 (w3.alloc (.cells #[.int .i64 (d.w : Int), .int .i64 (d.who : Int), .int .i64 (d.v : Int), .int .i64 (d.a : Int), .int .i64 (d.b : Int)] 29)) := (Below.refl _ _).alloc (Nat.le_refl _) _
        have HB4 : Hid (Below wr.heap.size wr (w3.alloc (.cells #[.int .i64 (d.w : Int), .int .i64 (d.who : Int), .int .i64 (d.v : Int), .int .i64 (d.a : Int), .int .i64 (d.b : Int)] 29))) := hb3.trans (hbD.mono hb3.size)
        clear c0 c1 c2 c3 c4 hb3 hbD
        simp only [ddV]
        go_wp2_with fail
        generalize w3.alloc (.cells #[.int .i64 (d.w : Int), .int .i64 (d.who : Int), .int .i64 (d.v : Int), .int .i64 (d.a : Int), .int .i64 (d.b : Int)] 29) = W4 at *
        generalize w3.heap.size = q at *
        have HDi : Hid (Calls Tryd.prog 13 #[.pointer (some ⟨p, 0, none⟩), .agg #[.int .i64 (d.w : Int), .int .i64 (d.who : Int), .int .i64 (d.v : Int), .int .i64 (d.a : Int), .int .i64 (d.b : Int)]] W4 fun e w' => PDid p vb M d W4 e w') := did_any HS.out p vb M k d HDk.out W4 HO.out.inv (by omega) (HP.out.below HB4.out) (HTr.out.next HB4.out)
        refine HDi.out.mono ?_
        intro e w5 hD
        have HO5 : Hid (OwnM w p (Mk.didM M d).2.2 (k + 1) w5) := (HO.out.next HB4.out).did HN.out hD
        obtain rfl := hD.1
        clear hD
        generalize Mk.didM M d = X at *
        generalize Mk.didB M d = bd at *
        obtain ⟨X1, X2, X3⟩ := X
        obtain ⟨vb6, hP6, hn6⟩ := HO5.out.lies
        have HP6 : Hid (PM w5 p vb6 X3) := hP6
        clear hP6 hn6
        go_wp2_with fail
        refine (look_any p vb6 X3 _ HO5.out.inv.well.fine HP6.out (HT.out.next HO5.out.bel)).mono ?_
        rintro e w7 ⟨sv, rfl, hSn, hb7⟩
        obtain ⟨av, fa, ov, fo, sd, rfl, hq1, hq2, hq3, hq4, hq5⟩ := hSn
        obtain ⟨xa, xc, rfl⟩ := own_form hq1
        obtain ⟨ya, yc, rfl⟩ := own_form hq3
        obtain ⟨za, zc, rfl⟩ := own_form hq5
        have hbA : Below w7.heap.size w7 (w7.alloc (.cells #[.slice xa 4 xc, .int .i64 X3.house, .slice ya 2 yc, .slice za 2 zc] 38)) := (Below.refl _ _).alloc (Nat.le_refl _) _
        have HSn : Hid (Seen w5.heap.size X3 (.agg #[.slice xa 4 xc, .int .i64 X3.house, .slice ya 2 yc, .slice za 2 zc]) (w7.alloc (.cells #[.slice xa 4 xc, .int .i64 X3.house, .slice ya 2 yc, .slice za 2 zc] 38))) := Seen.next ⟨_, fa, _, fo, _, rfl, hq1, hq2, hq3, hq4, hq5⟩ hbA
        have HO7 : Hid (OwnM w p X3 (k + 1) (w7.alloc (.cells #[.slice xa 4 xc, .int .i64 X3.house, .slice ya 2 yc, .slice za 2 zc] 38))) := (HO5.out.next hb7).next hbA
        have HC7 : Hid (∀ i u, (#[.slice xa 4 xc, .int .i64 X3.house, .slice ya 2 yc, .slice za 2 zc] : Array Value)[i]? = some u → (w7.alloc (.cells #[.slice xa 4 xc, .int .i64 X3.house, .slice ya 2 yc, .slice za 2 zc] 38)).cell? ⟨w7.heap.size, i, none⟩ = some u) := fun i u h => by simpa using h
        clear hq1 hq2 hq3 hq4 hq5 hb7 hbA
        go_wp2_with fail
        generalize w7.alloc (.cells #[.slice xa 4 xc, .int .i64 X3.house, .slice ya 2 yc, .slice za 2 zc] 38) = W7 at *
        generalize w7.heap.size = q7 at *
        obtain ⟨ga, ca, ov', sd', he, hca⟩ := seen_acc HO7.out.inv.well.fine HSn.out
        simp at he
        obtain ⟨⟨rfl, rfl⟩, rfl, rfl⟩ := he
        have HCa := (show Hid (∀ c, c < 4 → ∃ gc cc, W7.cell? ⟨ga, c, none⟩ = some (.slice (some ⟨gc, 0, none⟩) 6 cc) ∧ ∀ i, i < 6 → W7.cell? ⟨gc, i, none⟩ = some (.int .i64 (Mk.accI X3 c i))) from hca)
        clear hca
        go_loopw [9] (fun cv wr => ∃ c : Nat, c ≤ 4 ∧ cv = .int .i64 c ∧ Below W7.heap.size W7 wr) (fun cv _ => 4 - (intOf cv).toNat)
        case atStart => exact ⟨0, Nat.zero_le _, rfl, Below.refl _ _⟩
        case round =>
          obtain ⟨c, hc, rfl, hbc⟩ := hrel
          have HBc : Hid (Below W7.heap.size W7 wr) := hbc
          clear hbc
          by_cases hlt4 : c < 4
          · have hlt4' : (c : Int) < 4 := by omega
            have hco : ∀ {g i : Nat} {u : Value}, W7.cell? ⟨g, i, none⟩ = some u → wr.cell? ⟨g, i, none⟩ = some u := fun {g i u} h => (HBc.out.cell (p := ⟨g, i, none⟩) (blk_lt h)).trans h
            have x0 := hco (HC7.out 0 _ rfl)
            have x1 := hco (HC7.out 1 _ rfl)
            have x2 := hco (HC7.out 2 _ rfl)
            have x3 := hco (HC7.out 3 _ rfl)
            have HSr := (show Hid (Seen w5.heap.size X3 (.agg #[.slice (some ⟨ga, 0, none⟩) 4 xc, .int .i64 X3.house, .slice ya 2 yc, .slice za 2 zc]) wr) from HSn.out.next HBc.out)
            clear hco
            go_wp2_with fail
            refine (lneeds_any w5.heap.size X3 _ c _ HO7.out.inv.well.fine HSr.out).mono ?_
            rintro e w8 ⟨gn, rfl, hr8, hg8, hb8⟩
            have HR8 : Hid (w8.rowIs gn 3 3 (fun j => .int .i64 (Mk.ndAll X3 c j))) := hr8
            have HB8 : Hid (Below W7.heap.size W7 w8) := HBc.out.trans (hb8.mono HBc.out.size)
            clear x0 x1 x2 x3 hr8 hg8 hb8
            obtain ⟨gc, cc, hc1, hc2⟩ := HCa.out c hlt4
            have HC1 : Hid (W7.cell? ⟨ga, c, none⟩ = some (.slice (some ⟨gc, 0, none⟩) 6 cc)) := hc1
            have HC2 : Hid (∀ i, i < 6 → W7.cell? ⟨gc, i, none⟩ = some (.int .i64 (Mk.accI X3 c i))) := hc2
            have hnd := nd_all HO7.out.inv.sound hlt4
            have HEq : Hid (∀ k, k < 3 → Mk.accI X3 c (2 * k + 1) = Mk.ndAll X3 c k) := fun k hk => by
              match k, hk with
              | 0, _ => exact hnd.1.symm
              | 1, _ => exact hnd.2.1.symm
              | 2, _ => exact hnd.2.2.symm
            clear hc1 hc2 hnd
            go_wp2_with fail
            go_loopw [11] (fun kv wr => ∃ kk : Nat, kk ≤ 3 ∧ kv = .int .i64 kk ∧ Below w8.heap.size w8 wr) (fun kv _ => 3 - (intOf kv).toNat)
            case atStart => exact ⟨0, Nat.zero_le _, rfl, Below.refl _ _⟩
            case round =>
              obtain ⟨kk, hkk, rfl, hbk⟩ := hrel
              have HBk : Hid (Below w8.heap.size w8 wr) := hbk
              clear hbk
              by_cases hlt3 : kk < 3
              · have hlt3' : (kk : Int) ≤ 2 := by omega
                have hlt3'' : (kk : Int) < 3 := by omega
                have i6 : (2 : Int) * (kk : Int) + 1 < 6 := by omega
                have hco : ∀ {g i : Nat} {u : Value}, W7.cell? ⟨g, i, none⟩ = some u → wr.cell? ⟨g, i, none⟩ = some u := fun {g i u} h => by
                  have h8 := (HB8.out.cell (p := ⟨g, i, none⟩) (blk_lt h)).trans h
                  exact (HBk.out.cell (p := ⟨g, i, none⟩) (blk_lt h8)).trans h8
                have y0 := hco (HC7.out 0 _ rfl)
                have y1 := hco HC1.out
                have y2 := hco (HC2.out (2 * kk + 1) (by omega))
                rw [HEq.out kk hlt3] at y2
                have y3 := (HR8.out.of_block (HBk.out.block _ HR8.out.lt)).cell (i := kk) hlt3
                clear hco
                go_wp2_with fail
                go_quiet (fail)
                have HBq : Hid (Below w8.heap.size w8 (wr.drewN nq)) := HBk.out.trans ((below_drewN (Below.refl wr.heap.size wr) nq).mono HBk.out.size)
                go_wp2_with fail
                go_roundw
                case rel => exact ⟨kk + 1, by omega, by go_num, HBq.out⟩
                case measure => simp [intOf]; omega
              · obtain rfl : kk = 3 := by omega
                have HBf : Hid (Below W7.heap.size W7 wr) := HB8.out.trans (HBk.out.mono HB8.out.size)
                go_wp2_with fail
                go_roundw
                case rel => exact ⟨c + 1, by omega, by go_num, HBf.out⟩
                case measure => simp [intOf]; omega
          · obtain rfl : c = 4 := by omega
            have HOf : Hid (OwnM w p X3 (k + 1) wr) := HO7.out.next HBc.out
            go_wp2_with fail
            go_roundw
            case rel => exact ⟨k + 1, X3, by omega, by go_num, HOf.out⟩
            case measure => simp [intOf]; omega
      · obtain rfl : k = l.length := by omega
        have HF2 : Hid (Below w.heap.size w wr) := HO.out.bel
        go_wp2_with fail
        go_ret
        exact ⟨rfl, HF2.out⟩
  · have hd : decide (l.length ≤ 1048576) = false := by simpa using hs
    rw [hd]
    clear hd
    go_wp2_with fail
    go_ret
    exact ⟨rfl, HB1.out⟩

end Go.Proofs.YtmebcdpdpcpnmabDoor
