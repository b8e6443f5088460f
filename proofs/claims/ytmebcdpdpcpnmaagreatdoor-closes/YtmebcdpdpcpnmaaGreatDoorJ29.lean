import Derived.Test.YtmebcdpdpcpnmaaGreatDoorJ19
import Derived.Test.YtmebcdpdpcpnmaaGreatDoorJ28
import Derived.Test.YtmebcdpdpcpnmaaGreatDoorJ5
namespace Go.Proofs.YtmebcdpdpcpnmaaGreatDoor
open Go.RowKit

set_option maxRecDepth 100000 in
set_option maxHeartbeats 4000000 in
theorem shut_any (p : Nat) (b : RB) (M : Mk.Mkt) (v : Nat) (w : World) (hS : Mk.Sound M) (h1 : Mk.One M) (hR : Ref w p b M) (hv : v < 2) :
    Calls Tryz.prog 83 #[.pointer (some ⟨p, 0, none⟩), .int .i64 v] w fun e w' =>
      e = .returned (.string (Mk.shutM M v).1) ∧ ∃ b', Ref w' p b' (Mk.shutM M v).2 ∧ Only (b.has p) w w' ∧ ∀ k, b'.has p k → b.has p k ∨ w.heap.size ≤ k := by
  obtain ⟨i0, hi0, hz0, hz1, hz2⟩ := info_parts Tryz.infoRef
  have HS : Hid (Mk.Sound M) := hS
  have HO1 : Hid (Mk.One M) := h1
  have HR0 : Hid (Ref w p b M) := hR
  have hlen := hS.fine.len v hv
  have hv' : (v : Int) < 2 := by omega
  clear hS h1 hR
  go_enter Tryz.func83, Tryz.ntmps83
  go_wp2_with fail
  have HLt0 : Hid (∀ k, b.has p k → k < w.heap.size) := fun k h => HR0.out.lt h
  have hol : (Mk.ords (M.bk v)).length = (M.bk v).length := ords_len _
  go_loopw [5, 6] (fun lv j wr => ∃ k : Nat, k ≤ (M.bk v).length ∧ j = .int .i64 k ∧ wr.ownsRow w.heap.size 120 3 lv k (cellsTo (Mk.ords (M.bk v)) k) ∧ Below w.heap.size w wr) (fun _ j _ => (M.bk v).length - (intOf j).toNat)
  case atStart => exact ⟨0, Nat.zero_le _, rfl, ⟨by simp [cellsTo], .inl ⟨rfl, rfl⟩⟩, Below.refl _ _⟩
  case round =>
    obtain ⟨k, hk, rfl, hown, hb⟩ := hrel
    have Hb : Hid (Below w.heap.size w wr) := hb
    have hsz := hb.size
    have hRk := HR0.out.below hb
    have f4 := hRk.box.cell (i := 4) (by omega)
    have n4 := hRk.books.cell hv
    simp only [mktF] at f4
    have hbk := hRk.bk v hv
    obtain ⟨ba, bc, hbv⟩ := own_form hbk
    rw [hbv] at n4 hbk
    have HRk : Hid (Ref wr p b M) := hRk
    have HOw := (show Hid _ from hown)
    clear hRk hb
    by_cases hlt : k < (M.bk v).length
    · have hlt' : (k : Int) < ((M.bk v).length : Int) := by omega
      obtain ⟨gg, rfl⟩ := own_some hbk (by omega)
      obtain ⟨s0, s1, s2, s3, s4⟩ := stand_cells hbk rfl hlt
      have HE : Hid (cellsTo (Mk.ords (M.bk v)) (k + 1) = cellsTo (Mk.ords (M.bk v)) k ++ [.bool (Mk.std (M.bk v) k).o.sell, .int .i64 (Mk.std (M.bk v) k).o.price, .int .i64 (Mk.std (M.bk v) k).o.qty]) := (by
        rw [cellsTo_succ _ _ (by omega)]
        have e : (Mk.ords (M.bk v))[k]'(by omega) = (Mk.std (M.bk v) k).o := by rw [Mk.std_at hlt]; simp [Mk.ords]
        rw [e] : cellsTo (Mk.ords (M.bk v)) (k + 1) = cellsTo (Mk.ords (M.bk v)) k ++ [.bool (Mk.std (M.bk v) k).o.sell, .int .i64 (Mk.std (M.bk v) k).o.price, .int .i64 (Mk.std (M.bk v) k).o.qty])
      have HA : Hid (∀ ob, Below w.heap.size w (wr.alloc ob)) := fun ob => Hb.out.alloc Hb.out.size ob
      clear hbk s0 s1
      go_wp2_with (at_builtin; (refine wpList_append_lies _ rfl _ _ _ rfl w.heap.size 120 i0 _ 3 24 Tryz.underlying96 hi0 hz0 hz1 hz2 rfl (by omega) _ k (cellsTo (Mk.ords (M.bk v)) k) rfl (World.ownsRow.alloc hown _) ⟨wr.heap.size, 0, none⟩ 1 1 [.bool (Mk.std (M.bk v) k).o.sell, .int .i64 (Mk.std (M.bk v) k).o.price, .int .i64 (Mk.std (M.bk v) k).o.qty] rfl rfl (World.news_of_block (cs := #[.bool (Mk.std (M.bk v) k).o.sell, .int .i64 (Mk.std (M.bk v) k).o.price, .int .i64 (Mk.std (M.bk v) k).o.qty]) (t := 120) (fr := (0, 0)) (heap_alloc_new wr _)) (by simp [Value.oneCell']) (by omega) (by unfold maxLen; omega) (by omega) (by simp; omega) (wr.heap.size + 1) (by simp) ?_; intro g7 cap' w7 hown7 hgrow hat hlt7))
      have HO7 := (show Hid _ from hown7)
      have HB7 : Hid (Below w.heap.size w w7) := Below.grown (HA.out _) hgrow (by simp; omega) (fun j hj => own_ge HOw.out j hj)
      clear hown7 hgrow hat hown
      go_wp2_with fail
      go_roundw
      case rel => exact ⟨k + 1, by omega, by go_num, by rw [HE.out]; exact HO7.out, HB7.out⟩
      case measure => simp [intOf]; omega
    · obtain rfl : k = (M.bk v).length := by omega
      clear hbk
      rw [← hol] at hown
      obtain ⟨la, lc, hlv, hRd⟩ := rd_of_own hown
      rw [hol] at hlv
      subst hlv
      have HRd : Hid (Rd wr la (Mk.ords (M.bk v))) := hRd
      have HLw := (show Hid _ from hown)
      have f3 := HRk.out.box.cell (i := 3) (by omega)
      have n3 := HRk.out.modes.cell hv
      simp only [mktF] at f3
      clear hown hRd
      go_wp2_with fail
      have hC := cleared_any la lc (Mk.ords (M.bk v)) (M.md v) wr (HS.out.valid hv) (HS.out.valid1 HO1.out hv) HRd.out
      rw [hol] at hC
      refine hC.mono ?_
      clear hC
      rintro e w8 ⟨g8, rfl, hg8, hb8, hrow8⟩
      rw [hol] at hrow8
      have HB8 : Hid (Below w.heap.size w w8) := Hb.out.trans (hb8.mono Hb.out.size)
      have HAt : Hid (∀ k, k < (M.bk v).length → ∃ gl off, la = some ⟨gl, off, none⟩ ∧ w.heap.size ≤ gl ∧ gl < w8.heap.size ∧ w8.cell? ⟨gl, off + k * 3, none⟩ = some (.bool (Mk.std (M.bk v) k).o.sell) ∧ w8.cell? ⟨gl, off + k * 3 + 1, none⟩ = some (.int .i64 (Mk.std (M.bk v) k).o.price) ∧ w8.cell? ⟨gl, off + k * 3 + 1 + 1, none⟩ = some (.int .i64 (Mk.std (M.bk v) k).o.qty)) := fun k hk => by
        rcases HRd.out with e | ⟨gl, off, rfl, hat⟩
        · rw [← hol, e] at hk; cases hk
        · have e : (Mk.ords (M.bk v))[k]'(by omega) = (Mk.std (M.bk v) k).o := by rw [Mk.std_at hk]; simp [Mk.ords]
          have h := hat k (by omega)
          rw [e] at h
          have hl := blk_lt h.1
          exact ⟨gl, off, rfl, own_ge HLw.out gl rfl, Nat.lt_of_lt_of_le hl hb8.size, (hb8.cell (p := ⟨gl, off + k * 3, none⟩) hl).trans h.1, (hb8.cell (p := ⟨gl, off + k * 3 + 1, none⟩) hl).trans h.2.1, (hb8.cell (p := ⟨gl, off + k * 3 + 1 + 1, none⟩) hl).trans h.2.2⟩
      have hg8l : g8 < w8.heap.size := hrow8.lt
      have HRow : Hid (∀ k, k < (M.bk v).length → w8.cell? ⟨g8, k, none⟩ = some (.int .i64 (Mk.sF M v k))) := fun k hk => hrow8.cell hk
      have hgw : w.heap.size ≤ g8 := Nat.le_trans Hb.out.size hg8
      have HFi : Hid (Mk.Fill (Mk.ords (M.bk v)) (Mk.sF M v) (Mk.sPay M v) (Mk.sGet M v) (Mk.sV M v)) := HS.out.fill HO1.out hv
      have HR8 : Hid (Ref w8 p b M) := HR0.out.below HB8.out
      have hpr := HFi.out.price
      clear f3 n3 f4 n4 hrow8 hb8 hg8
      rw [hol]
      go_wp2_with fail
      go_loopw [10, 11] (fun tr j wr => ∃ k : Nat, k ≤ (M.bk v).length ∧ j = .int .i64 k ∧ tr = .int .i64 (Mk.gotTo (M.bk v) (Mk.sF M v) false k) ∧ Ref wr p b (Mk.dealTo M v (M.bk v) (Mk.sF M v) (Mk.sPay M v) (Mk.sGet M v) k) ∧ Only (b.has p) w8 wr) (fun _ j _ => (M.bk v).length - (intOf j).toNat)
      case atStart => exact ⟨0, Nat.zero_le _, rfl, rfl, HR8.out, Only.refl _ _⟩
      case round =>
        obtain ⟨k, hk, rfl, rfl, hRk, hOk⟩ := hrel
        have hD := Mk.dealt HS.out hv HFi.out k hk
        have hMid := hD.mid HS.out hv HFi.out hk
        have hgb := got_bd HFi.out (fun x hx => (HS.out.ord v hv x hx).2.2.2) false k hk
        have HEq : Hid (Mk.dealTo M v (M.bk v) (Mk.sF M v) (Mk.sPay M v) (Mk.sGet M v) (k + 1) = Mk.dealM (Mk.dealTo M v (M.bk v) (Mk.sF M v) (Mk.sPay M v) (Mk.sGet M v) k) v (Mk.std (M.bk v) k).who.toNat (Mk.std (M.bk v) k).o (Mk.sF M v k) (Mk.sPay M v) (Mk.sGet M v)) := rfl
        have hbkk : (Mk.dealTo M v (M.bk v) (Mk.sF M v) (Mk.sPay M v) (Mk.sGet M v) k).bk = M.bk := hD.same.1
        by_cases hlt : k < (M.bk v).length
        · have hlt' : (k : Int) < ((M.bk v).length : Int) := by omega
          generalize Mk.dealTo M v (M.bk v) (Mk.sF M v) (Mk.sPay M v) (Mk.sGet M v) k = A at *
          generalize hgt : Mk.gotTo (M.bk v) (Mk.sF M v) false k = G at *
          have HGt : Hid (Mk.gotTo (M.bk v) (Mk.sF M v) false k = G) := hgt
          have hmem : Mk.std (M.bk v) k ∈ M.bk v := by rw [Mk.std_at hlt]; exact List.getElem_mem _
          have hwho := HS.out.who v hv _ hmem
          have hord := HS.out.ord v hv _ hmem
          have hfb := HFi.out.bd k (by rw [hol]; exact hlt)
          rw [ords_at hlt] at hfb
          obtain ⟨wn, hwn⟩ : ∃ wn : Nat, (Mk.std (M.bk v) k).who = (wn : Int) := ⟨(Mk.std (M.bk v) k).who.toNat, by omega⟩
          have hwn4 : wn < 4 := by omega
          have hwn' : (wn : Int) < 4 := by omega
          obtain ⟨gl, off, rfl, hgl, hgl8, l0, l1, l2⟩ := HAt.out k hlt
          have hr8 := HRow.out k hlt
          have ngl : ¬ b.has p gl := fun h => by have := HLt0.out gl h; omega
          have ng8 : ¬ b.has p g8 := fun h => by have := HLt0.out g8 h; omega
          have f4 := hRk.box.cell (i := 4) (by omega)
          have n4 := hRk.books.cell hv
          simp only [mktF] at f4
          have hbk := hRk.bk v hv
          rw [hbkk] at hbk
          obtain ⟨ba2, bc2, hbv2⟩ := own_form hbk
          rw [hbv2] at n4 hbk
          obtain ⟨gg, rfl⟩ := own_some hbk (by omega)
          obtain ⟨s0, s1, s2, s3, s4⟩ := stand_cells hbk rfl hlt
          rw [hwn] at s1
          have HEq' : Hid (Mk.dealTo M v (M.bk v) (Mk.sF M v) (Mk.sPay M v) (Mk.sGet M v) (k + 1) = Mk.dealM A v wn (Mk.std (M.bk v) k).o (Mk.sF M v k) (Mk.sPay M v) (Mk.sGet M v)) := (by rw [HEq.out, hwn]; rfl : Mk.dealTo M v (M.bk v) (Mk.sF M v) (Mk.sPay M v) (Mk.sGet M v) (k + 1) = Mk.dealM A v wn (Mk.std (M.bk v) k).o (Mk.sF M v k) (Mk.sPay M v) (Mk.sGet M v))
          have HGn : Hid (Mk.gotTo (M.bk v) (Mk.sF M v) false (k + 1) = G + if (Mk.std (M.bk v) k).o.sell = false then Mk.sF M v k else 0) := (by rw [← hgt]; rfl : Mk.gotTo (M.bk v) (Mk.sF M v) false (k + 1) = G + if (Mk.std (M.bk v) k).o.sell = false then Mk.sF M v k else 0)
          clear hD hbk s0 s2 s3 s4 HEq hmem hbkk
          generalize Mk.std (M.bk v) k = x at *
          generalize hF : Mk.sF M v k = n at *
          obtain ⟨xn, xw, sell, pr, q⟩ := x
          have m0 : wr.cell? ⟨gl, off + k * 3, none⟩ = some (.bool sell) := (hOk.cell hgl8 ngl).trans l0
          have m1 : wr.cell? ⟨gl, off + k * 3 + 1, none⟩ = some (.int .i64 pr) := (hOk.cell hgl8 ngl).trans l1
          have m2 : wr.cell? ⟨gl, off + k * 3 + 1 + 1, none⟩ = some (.int .i64 q) := (hOk.cell hgl8 ngl).trans l2
          cases sell
          · go_wp2_with fail
            refine (holds_buy p b A v wn pr q true wr ⟨by have := hMid.cf wn hwn4; omega, by have := hMid.cf wn hwn4; omega⟩ ⟨by have := hMid.ch wn hwn4; omega, by have := hMid.ch wn hwn4; omega⟩ hRk hwn4 ⟨hord.2.2.1, hord.2.2.2⟩ ⟨hord.1, hord.2.1⟩).mono ?_
            rintro e w9 ⟨rfl, hR9, hO9⟩
            have hO89 : Only (b.has p) w8 w9 := hOk.trans (S' := b.has p) hO9 (fun _ _ h => h)
            have q0 : w9.cell? ⟨gl, off + k * 3, none⟩ = some (.bool false) := (hO89.cell hgl8 ngl).trans l0
            have q8 : w9.cell? ⟨g8, k, none⟩ = some (.int .i64 n) := (hO89.cell hg8l ng8).trans hr8
            have hB : Ref w9 p b (Mk.holdM A v wn ⟨false, pr, q⟩ (-1)) := hR9
            have bS : -10000 ≤ (Mk.holdM A v wn ⟨false, pr, q⟩ (-1)).sf v wn ∧ (Mk.holdM A v wn ⟨false, pr, q⟩ (-1)).sf v wn ≤ 10000 := by
              have h1 := hMid.sf wn hwn4
              have h2 : (Mk.holdM A v wn ⟨false, pr, q⟩ (-1)).sf v wn = A.sf v wn := by simp [Mk.holdM]
              rw [h2]
              omega
            have bC : -100000 ≤ (Mk.holdM A v wn ⟨false, pr, q⟩ (-1)).cf wn ∧ (Mk.holdM A v wn ⟨false, pr, q⟩ (-1)).cf wn ≤ 100000 := by
              have h1 := hMid.cf wn hwn4
              have h2 : (Mk.holdM A v wn ⟨false, pr, q⟩ (-1)).cf wn = A.cf wn + pr * q := by simp [Mk.holdM, upd, Int.neg_mul]
              have h3 : 1 ≤ q ∧ q ≤ 20 := hord.2.2
              have h4 : 1 ≤ pr ∧ pr ≤ 99 := ⟨hord.1, hord.2.1⟩
              have h5 := mul_bd3 (a := pr) (b := q) (A := 99) (B := 20) ⟨by omega, by omega⟩ ⟨by omega, by omega⟩
              rw [h2]
              omega
            have bH : -100000 ≤ (Mk.holdM A v wn ⟨false, pr, q⟩ (-1)).house ∧ (Mk.holdM A v wn ⟨false, pr, q⟩ (-1)).house ≤ 100000 := by
              have h1 := hMid.house
              have h2 : (Mk.holdM A v wn ⟨false, pr, q⟩ (-1)).house = A.house := by simp [Mk.holdM]
              omega
            have HX : Hid (Mk.dealM A v wn ⟨false, pr, q⟩ n (Mk.sPay M v) (Mk.sGet M v) = { Mk.holdM A v wn ⟨false, pr, q⟩ (-1) with
                sf := upd (Mk.holdM A v wn ⟨false, pr, q⟩ (-1)).sf v (upd ((Mk.holdM A v wn ⟨false, pr, q⟩ (-1)).sf v) wn ((Mk.holdM A v wn ⟨false, pr, q⟩ (-1)).sf v wn + n)),
                cf := upd (Mk.holdM A v wn ⟨false, pr, q⟩ (-1)).cf wn ((Mk.holdM A v wn ⟨false, pr, q⟩ (-1)).cf wn - n * Mk.sPay M v), house := (Mk.holdM A v wn ⟨false, pr, q⟩ (-1)).house + n * Mk.sPay M v }) := rfl
            have bn : 0 ≤ n ∧ n ≤ 20 := by have h3 : 1 ≤ q ∧ q ≤ 20 := hord.2.2; have h4 : 0 ≤ n ∧ n ≤ q := hfb; omega
            have bng := mul_bd3 (a := n) (b := Mk.sPay M v) (A := 20) (B := 100) bn ⟨by omega, by omega⟩
            have hwg : IntKind.i64.wrap (n * Mk.sPay M v) = n * Mk.sPay M v := IntWalk.i64_in _ (by omega)
            generalize Mk.holdM A v wn ⟨false, pr, q⟩ (-1) = B at *
            have HB9 : Hid (Ref w9 p b B) := hB
            have HO9 : Hid (Only (b.has p) w8 w9) := hO89
            clear f4 n4 m0 m1 m2 s1 hR9 hB hO9 hO89 hMid hRk hOk l0 l1 l2 hr8
            go_upto_region 18 with fail
            clear q0 q8
            have f1 := HB9.out.box.cell (i := 1) (by omega)
            have g1 := HB9.out.slots.cell hv
            simp only [mktF] at f1
            have a0 := (HB9.out.sl v hv).cell (i := wn * 2) (by omega)
            rw [purseF_0] at a0
            have z0 := (HB9.out.sl v hv).frozen (wn * 2)
            go_region
            have HB10 : Hid (Ref ((w9.setCell ⟨b.sb v, wn * 2, none⟩ (.int .i64 (B.sf v wn + n))).drew) p b { B with sf := upd B.sf v (upd (B.sf v) wn (B.sf v wn + n)) }) := (HB9.out.setSf v hv wn _).below (Below.refl _ _).drew
            have HO10 : Hid (Only (b.has p) w8 ((w9.setCell ⟨b.sb v, wn * 2, none⟩ (.int .i64 (B.sf v wn + n))).drew)) := (HO9.out.set (.inr (.inr (.inr (.inl ⟨v, hv, rfl⟩)))) _).next (Below.refl _ _).drew
            clear f1 g1 a0 z0
            generalize (w9.setCell ⟨b.sb v, wn * 2, none⟩ (.int .i64 (B.sf v wn + n))).drew = W10 at *
            go_upto_region 19 with fail
            have f0 := HB10.out.box.cell (i := 0) (by omega)
            simp only [mktF] at f0
            have a0 := HB10.out.cash.cell (i := wn * 2) (by omega)
            rw [purseF_0] at a0
            have z0 := HB10.out.cash.frozen (wn * 2)
            go_region
            have HB11 : Hid (Ref ((W10.setCell ⟨b.bC, wn * 2, none⟩ (.int .i64 (B.cf wn - n * Mk.sPay M v))).drew) p b { B with sf := upd B.sf v (upd (B.sf v) wn (B.sf v wn + n)), cf := upd B.cf wn (B.cf wn - n * Mk.sPay M v) }) := (HB10.out.setCf wn _).below (Below.refl _ _).drew
            have HO11 : Hid (Only (b.has p) w8 ((W10.setCell ⟨b.bC, wn * 2, none⟩ (.int .i64 (B.cf wn - n * Mk.sPay M v))).drew)) := (HO10.out.set (.inr (.inl rfl)) _).next (Below.refl _ _).drew
            clear f0 a0 z0
            generalize (W10.setCell ⟨b.bC, wn * 2, none⟩ (.int .i64 (B.cf wn - n * Mk.sPay M v))).drew = W11 at *
            have f2 := HB11.out.box.cell (i := 2) (by omega)
            simp only [mktF] at f2
            have z0 := HB11.out.box.frozen 2
            have HB12 : Hid (Ref (W11.setCell ⟨p, 2, none⟩ (.int .i64 (B.house + n * Mk.sPay M v))) p b { B with sf := upd B.sf v (upd (B.sf v) wn (B.sf v wn + n)), cf := upd B.cf wn (B.cf wn - n * Mk.sPay M v), house := B.house + n * Mk.sPay M v }) := HB11.out.setHouse _
            have HO12 : Hid (Only (b.has p) w8 (W11.setCell ⟨p, 2, none⟩ (.int .i64 (B.house + n * Mk.sPay M v)))) := HO11.out.set (.inl rfl) _
            go_wp2_with fail
            go_roundw
            case rel => exact ⟨k + 1, by omega, by go_num, by rw [HGn.out]; simp, by rw [HEq'.out, HX.out]; exact HB12.out, HO12.out⟩
            case measure => simp [intOf]; omega
          · go_wp2_with fail
            refine (holds_sell p b A v wn pr q true wr ⟨by have := hMid.sf wn hwn4; omega, by have := hMid.sf wn hwn4; omega⟩ ⟨by have := hMid.sh wn hwn4; omega, by have := hMid.sh wn hwn4; omega⟩ hRk hwn4 hv ⟨hord.2.2.1, hord.2.2.2⟩).mono ?_
            rintro e w9 ⟨rfl, hR9, hO9⟩
            have hO89 : Only (b.has p) w8 w9 := hOk.trans (S' := b.has p) hO9 (fun _ _ h => h)
            have q0 : w9.cell? ⟨gl, off + k * 3, none⟩ = some (.bool true) := (hO89.cell hgl8 ngl).trans l0
            have q8 : w9.cell? ⟨g8, k, none⟩ = some (.int .i64 n) := (hO89.cell hg8l ng8).trans hr8
            have hB : Ref w9 p b (Mk.holdM A v wn ⟨true, pr, q⟩ (-1)) := hR9
            have bS : -10000 ≤ (Mk.holdM A v wn ⟨true, pr, q⟩ (-1)).sf v wn ∧ (Mk.holdM A v wn ⟨true, pr, q⟩ (-1)).sf v wn ≤ 10000 := by
              have h1 := hMid.sf wn hwn4
              have h2 : (Mk.holdM A v wn ⟨true, pr, q⟩ (-1)).sf v wn = A.sf v wn - (-1) * q := by simp [Mk.holdM, upd]
              have h3 : 1 ≤ q ∧ q ≤ 20 := hord.2.2
              rw [h2]
              omega
            have bC : -100000 ≤ (Mk.holdM A v wn ⟨true, pr, q⟩ (-1)).cf wn ∧ (Mk.holdM A v wn ⟨true, pr, q⟩ (-1)).cf wn ≤ 100000 := by
              have h1 := hMid.cf wn hwn4
              have h2 : (Mk.holdM A v wn ⟨true, pr, q⟩ (-1)).cf wn = A.cf wn := by simp [Mk.holdM]
              omega
            have bH : -100000 ≤ (Mk.holdM A v wn ⟨true, pr, q⟩ (-1)).house ∧ (Mk.holdM A v wn ⟨true, pr, q⟩ (-1)).house ≤ 100000 := by
              have h1 := hMid.house
              have h2 : (Mk.holdM A v wn ⟨true, pr, q⟩ (-1)).house = A.house := by simp [Mk.holdM]
              omega
            have HX : Hid (Mk.dealM A v wn ⟨true, pr, q⟩ n (Mk.sPay M v) (Mk.sGet M v) = { Mk.holdM A v wn ⟨true, pr, q⟩ (-1) with
                sf := upd (Mk.holdM A v wn ⟨true, pr, q⟩ (-1)).sf v (upd ((Mk.holdM A v wn ⟨true, pr, q⟩ (-1)).sf v) wn ((Mk.holdM A v wn ⟨true, pr, q⟩ (-1)).sf v wn - n)),
                cf := upd (Mk.holdM A v wn ⟨true, pr, q⟩ (-1)).cf wn ((Mk.holdM A v wn ⟨true, pr, q⟩ (-1)).cf wn + n * Mk.sGet M v), house := (Mk.holdM A v wn ⟨true, pr, q⟩ (-1)).house - n * Mk.sGet M v }) := rfl
            have bn : 0 ≤ n ∧ n ≤ 20 := by have h3 : 1 ≤ q ∧ q ≤ 20 := hord.2.2; have h4 : 0 ≤ n ∧ n ≤ q := hfb; omega
            have bng := mul_bd3 (a := n) (b := Mk.sGet M v) (A := 20) (B := 100) bn ⟨by omega, by omega⟩
            have hwg : IntKind.i64.wrap (n * Mk.sGet M v) = n * Mk.sGet M v := IntWalk.i64_in _ (by omega)
            generalize Mk.holdM A v wn ⟨true, pr, q⟩ (-1) = B at *
            have HB9 : Hid (Ref w9 p b B) := hB
            have HO9 : Hid (Only (b.has p) w8 w9) := hO89
            clear f4 n4 m0 m1 m2 s1 hR9 hB hO9 hO89 hMid hRk hOk l0 l1 l2 hr8
            go_upto_region 15 with fail
            clear q0 q8
            have f1 := HB9.out.box.cell (i := 1) (by omega)
            have g1 := HB9.out.slots.cell hv
            simp only [mktF] at f1
            have a0 := (HB9.out.sl v hv).cell (i := wn * 2) (by omega)
            rw [purseF_0] at a0
            have z0 := (HB9.out.sl v hv).frozen (wn * 2)
            go_region
            have HB10 : Hid (Ref ((w9.setCell ⟨b.sb v, wn * 2, none⟩ (.int .i64 (B.sf v wn - n))).drew) p b { B with sf := upd B.sf v (upd (B.sf v) wn (B.sf v wn - n)) }) := (HB9.out.setSf v hv wn _).below (Below.refl _ _).drew
            have HO10 : Hid (Only (b.has p) w8 ((w9.setCell ⟨b.sb v, wn * 2, none⟩ (.int .i64 (B.sf v wn - n))).drew)) := (HO9.out.set (.inr (.inr (.inr (.inl ⟨v, hv, rfl⟩)))) _).next (Below.refl _ _).drew
            clear f1 g1 a0 z0
            generalize (w9.setCell ⟨b.sb v, wn * 2, none⟩ (.int .i64 (B.sf v wn - n))).drew = W10 at *
            go_upto_region 16 with fail
            have f0 := HB10.out.box.cell (i := 0) (by omega)
            simp only [mktF] at f0
            have a0 := HB10.out.cash.cell (i := wn * 2) (by omega)
            rw [purseF_0] at a0
            have z0 := HB10.out.cash.frozen (wn * 2)
            go_region
            have HB11 : Hid (Ref ((W10.setCell ⟨b.bC, wn * 2, none⟩ (.int .i64 (B.cf wn + n * Mk.sGet M v))).drew) p b { B with sf := upd B.sf v (upd (B.sf v) wn (B.sf v wn - n)), cf := upd B.cf wn (B.cf wn + n * Mk.sGet M v) }) := (HB10.out.setCf wn _).below (Below.refl _ _).drew
            have HO11 : Hid (Only (b.has p) w8 ((W10.setCell ⟨b.bC, wn * 2, none⟩ (.int .i64 (B.cf wn + n * Mk.sGet M v))).drew)) := (HO10.out.set (.inr (.inl rfl)) _).next (Below.refl _ _).drew
            clear f0 a0 z0
            generalize (W10.setCell ⟨b.bC, wn * 2, none⟩ (.int .i64 (B.cf wn + n * Mk.sGet M v))).drew = W11 at *
            have f2 := HB11.out.box.cell (i := 2) (by omega)
            simp only [mktF] at f2
            have z0 := HB11.out.box.frozen 2
            have HB12 : Hid (Ref (W11.setCell ⟨p, 2, none⟩ (.int .i64 (B.house - n * Mk.sGet M v))) p b { B with sf := upd B.sf v (upd (B.sf v) wn (B.sf v wn - n)), cf := upd B.cf wn (B.cf wn + n * Mk.sGet M v), house := B.house - n * Mk.sGet M v }) := HB11.out.setHouse _
            have HO12 : Hid (Only (b.has p) w8 (W11.setCell ⟨p, 2, none⟩ (.int .i64 (B.house - n * Mk.sGet M v)))) := HO11.out.set (.inl rfl) _
            go_wp2_with fail
            go_roundw
            case rel => exact ⟨k + 1, by omega, by go_num, by rw [HGn.out]; simp, by rw [HEq'.out, HX.out]; exact HB12.out, HO12.out⟩
            case measure => simp [intOf]; omega
        · obtain rfl : k = (M.bk v).length := by omega
          have e0 : Mk.gotTo (M.bk v) (Mk.sF M v) false (M.bk v).length = Mk.sV M v := by rw [got_sum]; exact HFi.out.side false
          rw [e0] at hgb
          rw [e0]
          have HX : Hid (Mk.shutM M v = (Mk.shutT (Mk.sV M v) (Mk.sPay M v) (Mk.sGet M v), { Mk.dealTo M v (M.bk v) (Mk.sF M v) (Mk.sPay M v) (Mk.sGet M v) (M.bk v).length with bk := upd (Mk.dealTo M v (M.bk v) (Mk.sF M v) (Mk.sPay M v) (Mk.sGet M v) (M.bk v).length).bk v [], cm := upd (Mk.dealTo M v (M.bk v) (Mk.sF M v) (Mk.sPay M v) (Mk.sGet M v) (M.bk v).length).cm v 0 })) := (by unfold Mk.shutM; rw [hD.same.1, hD.same.2.1] : Mk.shutM M v = (Mk.shutT (Mk.sV M v) (Mk.sPay M v) (Mk.sGet M v), { Mk.dealTo M v (M.bk v) (Mk.sF M v) (Mk.sPay M v) (Mk.sGet M v) (M.bk v).length with bk := upd (Mk.dealTo M v (M.bk v) (Mk.sF M v) (Mk.sPay M v) (Mk.sGet M v) (M.bk v).length).bk v [], cm := upd (Mk.dealTo M v (M.bk v) (Mk.sF M v) (Mk.sPay M v) (Mk.sGet M v) (M.bk v).length).cm v 0 }))
          clear HEq hD hMid hbkk
          generalize Mk.dealTo M v (M.bk v) (Mk.sF M v) (Mk.sPay M v) (Mk.sGet M v) (M.bk v).length = A at *
          have f4 := hRk.box.cell (i := 4) (by omega)
          simp only [mktF] at f4
          have n4 := hRk.books.cell hv
          have zB := hRk.books.frozen v
          have HO : Hid (Only (b.has p) w (wr.setCell ⟨b.bB, v, none⟩ (.slice none 0 0))) := ((Only.of_below HB8.out).trans (S' := b.has p) hOk (fun _ _ h => h)).set (show b.has p b.bB from .inr (.inr (.inr (.inr (.inr (.inl rfl)))))) _
          have HR9 : Hid (Ref (wr.setCell ⟨b.bB, v, none⟩ (.slice none 0 0)) p { b with bv := upd b.bv v (.slice none 0 0) } { A with bk := upd A.bk v [] }) := hRk.setBk' (w1 := wr) hv (fun _ _ _ => rfl) ⟨by simp [standC], .inl ⟨rfl, rfl⟩⟩ (fun j hj => by cases hj)
          have HN : Hid (∀ j, RB.has { b with bv := upd b.bv v (.slice none 0 0) } p j → b.has p j ∨ w.heap.size ≤ j) := rb_new hv (fun j hj => by cases hj)
          clear hRk hOk hlt
          go_upto_region 23 with fail
          clear f4 n4 zB
          generalize wr.setCell ⟨b.bB, v, none⟩ (.slice none 0 0) = W1 at *
          have f5 := HR9.out.box.cell (i := 5) (by omega)
          simp only [mktF] at f5
          have n5 := HR9.out.came.cell hv
          have zC := HR9.out.came.frozen v
          have HR10 : Hid (Ref (W1.setCell ⟨b.bCm, v, none⟩ (.int .i64 0)) p { b with bv := upd b.bv v (.slice none 0 0) } { A with bk := upd A.bk v [], cm := upd A.cm v 0 }) := HR9.out.setCm v 0
          have HO10 : Hid (Only (b.has p) w (W1.setCell ⟨b.bCm, v, none⟩ (.int .i64 0))) := HO.out.set (show b.has p b.bCm from .inr (.inr (.inr (.inr (.inr (.inr (.inl rfl))))))) _
          go_upto_region 24 with fail
          clear f5 n5 zC
          generalize W1.setCell ⟨b.bCm, v, none⟩ (.int .i64 0) = W2 at *
          by_cases hV0 : Mk.sV M v = 0
          · have HT : Hid (Mk.shutT (Mk.sV M v) (Mk.sPay M v) (Mk.sGet M v) = ⟨#[48]⟩) := (by unfold Mk.shutT; rw [if_pos hV0] : Mk.shutT (Mk.sV M v) (Mk.sPay M v) (Mk.sGet M v) = ⟨#[48]⟩)
            rw [hV0]
            clear hV0 hgb
            go_wp2_with fail
            go_ret
            rw [HX.out]
            exact ⟨by rw [HT.out]; rfl, _, HR10.out, HO10.out, HN.out⟩
          · have hVb : (Mk.sV M v == 0) = false := by simpa using hV0
            have HT : Hid (Mk.shutT (Mk.sV M v) (Mk.sPay M v) (Mk.sGet M v) = Mk.digI (Mk.sV M v) ++ ⟨#[64]⟩ ++ Mk.digI (Mk.sPay M v) ++ ⟨#[47]⟩ ++ Mk.digI (Mk.sGet M v)) := (by unfold Mk.shutT; rw [if_neg hV0] : Mk.shutT (Mk.sV M v) (Mk.sPay M v) (Mk.sGet M v) = Mk.digI (Mk.sV M v) ++ ⟨#[64]⟩ ++ Mk.digI (Mk.sPay M v) ++ ⟨#[47]⟩ ++ Mk.digI (Mk.sGet M v))
            generalize Mk.sV M v = V at *
            generalize hPP : Mk.clPay (M.md v) (Mk.ords (M.bk v)) = P at *
            generalize hGG : Mk.clGet (M.md v) (Mk.ords (M.bk v)) = G at *
            have hPs : Mk.sPay M v = P := hPP
            have hGs : Mk.sGet M v = G := hGG
            rw [hPs, hGs] at hpr
            have HPG : Hid (Mk.sPay M v = P ∧ Mk.sGet M v = G) := ⟨hPs, hGs⟩
            clear hPP hGG hPs hGs
            have t1 := Mk.digI_le (show V ≤ 9999 by omega)
            have t2 := Mk.digI_le (show P ≤ 9999 by omega)
            have t3 := Mk.digI_le (show G ≤ 9999 by omega)
            go_wp2_with fail
            refine (digI_any V _ (by omega) (by omega)).mono ?_
            rintro e w3 ⟨rfl, hb3⟩
            have HB3 : Hid (Below W2.heap.size W2 w3) := hb3
            clear hb3
            go_wp2_with fail
            refine (digI_any P _ (by omega) (by omega)).mono ?_
            rintro e w4 ⟨rfl, hb4⟩
            have HB4 : Hid (Below W2.heap.size W2 w4) := HB3.out.trans (hb4.mono HB3.out.size)
            clear hb4
            go_wp2_with fail
            refine (digI_any G _ (by omega) (by omega)).mono ?_
            rintro e w5 ⟨rfl, hb5⟩
            have HB5 : Hid (Below W2.heap.size W2 w5) := HB4.out.trans (hb5.mono HB4.out.size)
            clear hb5
            go_wp2_with fail
            go_ret
            rw [HX.out]
            exact ⟨by rw [HT.out, HPG.out.1, HPG.out.2]; rfl, _, HR10.out.below HB5.out, HO10.out.next HB5.out, HN.out⟩

end Go.Proofs.YtmebcdpdpcpnmaaGreatDoor
