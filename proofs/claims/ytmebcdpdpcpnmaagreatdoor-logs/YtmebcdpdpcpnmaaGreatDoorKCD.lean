import Derived.Test.YtmebcdpdpcpnmaaGreatDoorKCB
import Derived.Test.YtmebcdpdpcpnmaaGreatDoorKCC
import Derived.Test.YtmebcdpdpcpnmaaGreatDoorJ24
import Derived.Test.YtmebcdpdpcpnmaaGreatDoorJ37
namespace Go.Proofs.YtmebcdpdpcpnmaaGreatDoor
open Go.RowKit

theorem PM.setHo {w : World} {p : Nat} {vb : Nat → Value} {M : Mk.Mkt} (h : PM w p vb M) (x : Int) : PM (w.setCell ⟨p, 24, none⟩ (.int .i64 x)) p vb { M with house := x } := by
  refine ⟨(h.box.set _ _).congr (pm_ext (fun d k hd hk => ?_) ?_ (fun v k hv hk => ?_) (fun d k hd hk => ?_) ?_), h.own_set _ _, h.vv⟩
  · rw [if_neg (by omega), pm_ac hd hk]; rfl
  · rw [if_pos rfl]
  · rw [if_neg (by omega), pm_vo hv hk]; rfl
  · rw [if_neg (by omega), pm_re hd hk]; rfl
  · rw [if_neg (by omega)]; rfl
theorem settle_house (A : Mk.Mkt) (h : Int) (v who : Nat) (o : Mk.Ord) (n pay get : Int) : Mk.settleM { A with house := h } v who o n pay get = { Mk.dealM A v who o n pay get with house := h } := by
  obtain ⟨sell, pr, q⟩ := o
  cases sell <;> rfl
/-- what a batch is cleared to, with its numbers named -/
def ClrT (b : List Mk.Stand) (F : Nat → Int) (V P G : Int) (w : World) (e : Ending) (w' : World) : Prop :=
  ∃ g, e = .returned (.tuple #[trV (some ⟨g, 0, none⟩) b.length b.length V P G, .int .i64 0]) ∧ w.heap.size ≤ g ∧ Below w.heap.size w w' ∧ w'.rowIs g 3 b.length (fun i => .int .i64 (F i))

set_option maxRecDepth 100000 in
set_option maxHeartbeats 8000000 in
theorem closeBatch_any (p : Nat) (vb : Nat → Value) (M : Mk.Mkt) (who : Nat) (r : Int) (t : ByteArray) (v : Nat) (a pr q n : Int) (m : Bool) (F : Nat → Int) (V P G : Int) (w : World) (hS : Mk.Sound M) (hFi : Mk.Fill (Mk.ords (M.bk v)) F P G V) (hP : PM w p vb M) (hv : v < 2) (hT : Tab w)
    (hC : ∀ W, PM W p vb M → Calls Tryz.prog 123 #[.pointer (some ⟨p, 25 + v * 3, none⟩)] W fun e w' => ClrT (M.bk v) F V P G W e w') :
    Calls Tryz.prog 107 #[.pointer (some ⟨p, 0, none⟩), rqA who r t v a pr q n m] w fun e w' =>
      PDoT p vb (Mk.shutT V P G, 0, { Mk.dealTo M v (M.bk v) F P G (M.bk v).length with bk := upd M.bk v [], cm := upd M.cm v 0 }) w e w' := by
  have HS : Hid (Mk.Sound M) := hS
  have HT : Hid (Tab w) := hT
  have HP0 : Hid (PM w p vb M) := hP
  have HFi : Hid (Mk.Fill (Mk.ords (M.bk v)) F P G V) := hFi
  have HC := (show Hid _ from hC)
  have HB1 : Hid (Below w.heap.size w (w.alloc (rqO who r t v a pr q n m))) := (Below.refl _ _).alloc (Nat.le_refl _) _
  have HP1 : Hid (PM (w.alloc (rqO who r t v a pr q n m)) p vb M) := hP.below HB1.out
  have x3 : (w.alloc (rqO who r t v a pr q n m)).cell? ⟨w.heap.size, 3, none⟩ = some (.int .i64 (v : Int)) := by simp
  have hwl : w.heap.size < (w.alloc (rqO who r t v a pr q n m)).heap.size := by simp
  have hv' : (v : Int) < 2 := by omega
  have hlen := hS.fine.len v hv
  have hpl : p < w.heap.size := hP.lt (.inl rfl)
  have hho := hS.fine.house
  have hpr := hFi.price
  have hol : (Mk.ords (M.bk v)).length = (M.bk v).length := ords_len _
  have HOl : Hid ((Mk.ords (M.bk v)).length = (M.bk v).length) := hol
  have HE0 : Hid (Mk.gotTo (M.bk v) F false (M.bk v).length = V) := (by rw [got_sum]; exact hFi.side false : Mk.gotTo (M.bk v) F false (M.bk v).length = V)
  have HE1 : Hid (Mk.gotTo (M.bk v) F true (M.bk v).length = V) := (by rw [got_sum]; exact hFi.side true : Mk.gotTo (M.bk v) F true (M.bk v).length = V)
  have bV : 0 ≤ V ∧ V ≤ 240 := by
    have := got_bd hFi (fun x hx => (hS.ord v hv x hx).2.2.2) false _ (Nat.le_refl _)
    rw [HE0.out] at this
    omega
  clear hS hFi hP hT hC hol
  go_enter Tryz.func107, Tryz.ntmps107
  go_upto_region 1 with fail
  generalize w.alloc (rqO who r t v a pr q n m) = W1 at *
  go_quiet (fail)
  have hbq : Below W1.heap.size W1 (W1.drewN nq) := below_drewN (Below.refl _ _) nq
  have HB2 : Hid (Below w.heap.size w (W1.drewN nq)) := HB1.out.trans (hbq.mono HB1.out.size)
  have HP2 : Hid (PM (W1.drewN nq) p vb M) := HP1.out.below hbq
  have y3 : (W1.drewN nq).cell? ⟨w.heap.size, 3, none⟩ = some (.int .i64 (v : Int)) := by simpa using x3
  have hwl2 : w.heap.size < (W1.drewN nq).heap.size := hwl
  clear x3 hwl hbq
  generalize W1.drewN nq = W2 at *
  go_wp2_with fail
  refine (HC.out W2 HP2.out).mono ?_
  rintro e w3 ⟨g, rfl, hg, hb3, hrow⟩
  have HB3 : Hid (Below w.heap.size w w3) := HB2.out.trans (hb3.mono HB2.out.size)
  have hb4 : Below w3.heap.size w3 (w3.alloc (.cells #[.slice (some ⟨g, 0, none⟩) (M.bk v).length (M.bk v).length, .int .i64 V, .int .i64 P, .int .i64 G] 179)) := (Below.refl _ _).alloc (Nat.le_refl _) _
  have HB4 : Hid (Below w.heap.size w (w3.alloc (.cells #[.slice (some ⟨g, 0, none⟩) (M.bk v).length (M.bk v).length, .int .i64 V, .int .i64 P, .int .i64 G] 179))) := HB3.out.trans (hb4.mono HB3.out.size)
  have HRq4 : Hid ((w3.alloc (.cells #[.slice (some ⟨g, 0, none⟩) (M.bk v).length (M.bk v).length, .int .i64 V, .int .i64 P, .int .i64 G] 179)).cell? ⟨w.heap.size, 3, none⟩ = some (.int .i64 (v : Int))) := (hb4.cell (p := ⟨w.heap.size, 3, none⟩) (Nat.lt_of_lt_of_le hwl2 hb3.size)).trans ((hb3.cell (p := ⟨w.heap.size, 3, none⟩) hwl2).trans y3)
  have HTr4 : Hid (∀ i u, (#[.slice (some ⟨g, 0, none⟩) (M.bk v).length (M.bk v).length, .int .i64 V, .int .i64 P, .int .i64 G] : Array Value)[i]? = some u → (w3.alloc (.cells #[.slice (some ⟨g, 0, none⟩) (M.bk v).length (M.bk v).length, .int .i64 V, .int .i64 P, .int .i64 G] 179)).cell? ⟨w3.heap.size, i, none⟩ = some u) := fun i u h => by simpa using h
  have HTl4 : Hid (w3.heap.size < (w3.alloc (.cells #[.slice (some ⟨g, 0, none⟩) (M.bk v).length (M.bk v).length, .int .i64 V, .int .i64 P, .int .i64 G] 179)).heap.size) := (by simp : w3.heap.size < (w3.alloc (.cells #[.slice (some ⟨g, 0, none⟩) (M.bk v).length (M.bk v).length, .int .i64 V, .int .i64 P, .int .i64 G] 179)).heap.size)
  have HRw4 : Hid (∀ k, k < (M.bk v).length → (w3.alloc (.cells #[.slice (some ⟨g, 0, none⟩) (M.bk v).length (M.bk v).length, .int .i64 V, .int .i64 P, .int .i64 G] 179)).cell? ⟨g, k, none⟩ = some (.int .i64 (F k))) := fun k hk => (hb4.cell (p := ⟨g, k, none⟩) hrow.lt).trans (hrow.cell hk)
  have hgl : g < (w3.alloc (.cells #[.slice (some ⟨g, 0, none⟩) (M.bk v).length (M.bk v).length, .int .i64 V, .int .i64 P, .int .i64 G] 179)).heap.size := by have := hrow.lt; simp; omega
  have hgw : w.heap.size ≤ g := Nat.le_trans HB2.out.size hg
  have hTw : w.heap.size < w3.heap.size := Nat.lt_of_lt_of_le hwl2 hb3.size
  clear hb3 hb4 hrow y3 HC
  go_upto_region 3 with fail
  generalize w3.alloc (.cells #[.slice (some ⟨g, 0, none⟩) (M.bk v).length (M.bk v).length, .int .i64 V, .int .i64 P, .int .i64 G] 179) = W4 at *
  generalize w3.heap.size = T0 at *
  have HP4 : Hid (PM W4 p vb M) := HP0.out.below HB4.out
  have c1 := HP4.out.vo hv (k := 1) (by omega)
  simp only [voF] at c1
  obtain ⟨ba, bc, hbv⟩ := own_form (HP4.out.bk v hv)
  have HBv : Hid (vb v = .slice ba (M.bk v).length bc) := hbv
  rw [hbv] at c1
  clear hbv
  go_wp2_with fail
  clear c1
  go_loopw [30] (fun j wr => ∃ k : Nat, k ≤ (M.bk v).length ∧ j = .int .i64 k ∧ PM wr p vb { Mk.dealTo M v (M.bk v) F P G k with house := M.house } ∧ Only (One p) W4 wr) (fun j _ => (M.bk v).length - (intOf j).toNat)
  case atStart => exact ⟨0, Nat.zero_le _, rfl, HP4.out, Only.refl _ _⟩
  case round =>
    obtain ⟨k, hk, rfl, hPk, hOk⟩ := hrel
    have hD := Mk.dealt HS.out hv HFi.out k hk
    have hMid := hD.mid HS.out hv HFi.out hk
    have hbkk : (Mk.dealTo M v (M.bk v) F P G k).bk = M.bk := hD.same.1
    have HPk : Hid (PM wr p vb { Mk.dealTo M v (M.bk v) F P G k with house := M.house }) := hPk
    have HOk : Hid (Only (One p) W4 wr) := hOk
    have hsz4 : W4.heap.size ≤ wr.heap.size := hOk.size
    have hwT : w.heap.size < W4.heap.size := by have := HTl4.out; omega
    by_cases hlt : k < (M.bk v).length
    · have hlt' : (k : Int) < ((M.bk v).length : Int) := by omega
      have hmem : Mk.std (M.bk v) k ∈ M.bk v := by rw [Mk.std_at hlt]; exact List.getElem_mem _
      have hwho := HS.out.who v hv _ hmem
      have hord := HS.out.ord v hv _ hmem
      have hfb := HFi.out.bd k (by rw [HOl.out]; exact hlt)
      rw [ords_at hlt] at hfb
      have HEq : Hid ({ Mk.dealTo M v (M.bk v) F P G (k + 1) with house := M.house } = Mk.settleM { Mk.dealTo M v (M.bk v) F P G k with house := M.house } v (Mk.std (M.bk v) k).who.toNat (Mk.std (M.bk v) k).o (F k) P G) := (settle_house _ _ _ _ _ _ _ _).symm
      have HMid : Hid (Mk.Mid { Mk.dealTo M v (M.bk v) F P G k with house := M.house } v) := ⟨hMid.cf, hMid.ch, hMid.sf, hMid.sh, by show -24000 ≤ M.house ∧ M.house ≤ 40000; omega⟩
      have hown : wr.ownsRow 0 152 5 (vb v) (M.bk v).length (standC (M.bk v)) := by
        have h := hPk.bk v hv
        have e : Mk.Mkt.bk { Mk.dealTo M v (M.bk v) F P G k with house := M.house } = M.bk := hbkk
        rw [e] at h
        exact h
      rw [HBv.out] at hown
      obtain ⟨gg, rfl⟩ := own_some hown (by omega)
      obtain ⟨e0, e1, e2, e3, e4⟩ := entry_cells hown rfl hlt
      obtain ⟨wn, hwn⟩ : ∃ wn : Nat, (Mk.std (M.bk v) k).who = (wn : Int) := ⟨(Mk.std (M.bk v) k).who.toNat, by omega⟩
      have hwn4 : wn < 4 := by omega
      have hwt : (Mk.std (M.bk v) k).who.toNat = wn := by omega
      rw [hwt] at HEq
      rw [hwn] at e1
      have nTr : ¬ One p T0 := fun e => by have e' : T0 = p := e; omega
      have ng : ¬ One p g := fun e => by have e' : g = p := e; omega
      have nR : ¬ One p w.heap.size := fun e => by have e' : w.heap.size = p := e; omega
      have t0 : wr.cell? ⟨T0, 0, none⟩ = some (.slice (some ⟨g, 0, none⟩) (M.bk v).length (M.bk v).length) := (hOk.cell HTl4.out nTr).trans (HTr4.out 0 _ rfl)
      have t1 : wr.cell? ⟨T0, 1, none⟩ = some (.int .i64 V) := (hOk.cell HTl4.out nTr).trans (HTr4.out 1 _ rfl)
      have t2 : wr.cell? ⟨T0, 2, none⟩ = some (.int .i64 P) := (hOk.cell HTl4.out nTr).trans (HTr4.out 2 _ rfl)
      have t3 : wr.cell? ⟨T0, 3, none⟩ = some (.int .i64 G) := (hOk.cell HTl4.out nTr).trans (HTr4.out 3 _ rfl)
      have r3 : wr.cell? ⟨w.heap.size, 3, none⟩ = some (.int .i64 (v : Int)) := (hOk.cell hwT nR).trans HRq4.out
      have g3 : wr.cell? ⟨g, k, none⟩ = some (.int .i64 (F k)) := (hOk.cell hgl ng).trans (HRw4.out k hlt)
      clear hD hMid hbkk hown hPk hOk hmem hwho nTr ng nR hwt hwn
      generalize Mk.std (M.bk v) k = x at *
      obtain ⟨xn, xw, xs, xp, xq⟩ := x
      have bp : 1 ≤ xp ∧ xp ≤ 99 := ⟨hord.1, hord.2.1⟩
      have bq : 1 ≤ xq ∧ xq ≤ 20 := hord.2.2
      have bF : 0 ≤ F k ∧ F k ≤ 20 := by have h4 : 0 ≤ F k ∧ F k ≤ xq := hfb; omega
      simp only at e0 e1 e2 e3 e4
      clear hord hfb
      have hbE : Below wr.heap.size wr (wr.alloc (.cells #[.int .i64 xn, .int .i64 (wn : Int), .bool xs, .int .i64 xp, .int .i64 xq] 152)) := (Below.refl _ _).alloc (Nat.le_refl _) _
      have HP5 : Hid (PM (wr.alloc (.cells #[.int .i64 xn, .int .i64 (wn : Int), .bool xs, .int .i64 xp, .int .i64 xq] 152)) p vb { Mk.dealTo M v (M.bk v) F P G k with house := M.house }) := HPk.out.below hbE
      have HO5 : Hid (Only (One p) W4 (wr.alloc (.cells #[.int .i64 xn, .int .i64 (wn : Int), .bool xs, .int .i64 xp, .int .i64 xq] 152))) := HOk.out.next hbE
      have HE5 : Hid (∀ i u, (#[.int .i64 xn, .int .i64 (wn : Int), .bool xs, .int .i64 xp, .int .i64 xq] : Array Value)[i]? = some u → (wr.alloc (.cells #[.int .i64 xn, .int .i64 (wn : Int), .bool xs, .int .i64 xp, .int .i64 xq] 152)).cell? ⟨wr.heap.size, i, none⟩ = some u) := fun i u h => by simpa using h
      have HEl : Hid (wr.heap.size < (wr.alloc (.cells #[.int .i64 xn, .int .i64 (wn : Int), .bool xs, .int .i64 xp, .int .i64 xq] 152)).heap.size) := (by simp : wr.heap.size < (wr.alloc (.cells #[.int .i64 xn, .int .i64 (wn : Int), .bool xs, .int .i64 xp, .int .i64 xq] 152)).heap.size)
      have HTr5 : Hid (∀ i u, (#[.slice (some ⟨g, 0, none⟩) (M.bk v).length (M.bk v).length, .int .i64 V, .int .i64 P, .int .i64 G] : Array Value)[i]? = some u → (wr.alloc (.cells #[.int .i64 xn, .int .i64 (wn : Int), .bool xs, .int .i64 xp, .int .i64 xq] 152)).cell? ⟨T0, i, none⟩ = some u) := fun i u h => by
        have e : i = 0 ∨ i = 1 ∨ i = 2 ∨ i = 3 := by
          have : i < 4 := by
            refine Nat.lt_of_not_le (fun hle => ?_)
            rw [Array.getElem?_eq_none (by simpa using hle)] at h
            cases h
          omega
        have hl : T0 < wr.heap.size := blk_lt t0
        refine (hbE.cell (p := ⟨T0, i, none⟩) hl).trans ?_
        rcases e with rfl | rfl | rfl | rfl
        · rw [t0]; exact h
        · rw [t1]; exact h
        · rw [t2]; exact h
        · rw [t3]; exact h
      have HRq5 : Hid ((wr.alloc (.cells #[.int .i64 xn, .int .i64 (wn : Int), .bool xs, .int .i64 xp, .int .i64 xq] 152)).cell? ⟨w.heap.size, 3, none⟩ = some (.int .i64 (v : Int))) := (hbE.cell (p := ⟨w.heap.size, 3, none⟩) (blk_lt r3)).trans r3
      have HG5 : Hid ((wr.alloc (.cells #[.int .i64 xn, .int .i64 (wn : Int), .bool xs, .int .i64 xp, .int .i64 xq] 152)).cell? ⟨g, k, none⟩ = some (.int .i64 (F k))) := (hbE.cell (p := ⟨g, k, none⟩) (blk_lt g3)).trans g3
      have hTr : T0 < wr.heap.size := blk_lt t0
      have hgr : g < wr.heap.size := blk_lt g3
      have hwr5 : w.heap.size < wr.heap.size := blk_lt r3
      have hggr : gg < wr.heap.size := blk_lt e0
      clear hbE r3 g3 t1 t2 t3
      go_upto_region 9 with fail
      clear e0 e1 e2 e3 e4 t0
      generalize wr.alloc (.cells #[.int .i64 xn, .int .i64 (wn : Int), .bool xs, .int .i64 xp, .int .i64 xq] 152) = W5 at *
      generalize wr.heap.size = E at *
      have l1 : T0 < W5.heap.size := by have := HEl.out; omega
      have l2 : g < W5.heap.size := by have := HEl.out; omega
      have l3 : w.heap.size < W5.heap.size := by have := HEl.out; omega
      have c0 : ∀ u : Wof (Below W5.heap.size W5), u.val.cell? ⟨E, 0, none⟩ = some (.int .i64 xn) := fun u => (u.ok.cell (p := ⟨E, 0, none⟩) HEl.out).trans (HE5.out 0 _ rfl)
      have c1 : ∀ u : Wof (Below W5.heap.size W5), u.val.cell? ⟨E, 1, none⟩ = some (.int .i64 (wn : Int)) := fun u => (u.ok.cell (p := ⟨E, 1, none⟩) HEl.out).trans (HE5.out 1 _ rfl)
      have c2 : ∀ u : Wof (Below W5.heap.size W5), u.val.cell? ⟨E, 2, none⟩ = some (.bool xs) := fun u => (u.ok.cell (p := ⟨E, 2, none⟩) HEl.out).trans (HE5.out 2 _ rfl)
      have c3 : ∀ u : Wof (Below W5.heap.size W5), u.val.cell? ⟨E, 3, none⟩ = some (.int .i64 xp) := fun u => (u.ok.cell (p := ⟨E, 3, none⟩) HEl.out).trans (HE5.out 3 _ rfl)
      have c4 : ∀ u : Wof (Below W5.heap.size W5), u.val.cell? ⟨E, 4, none⟩ = some (.int .i64 xq) := fun u => (u.ok.cell (p := ⟨E, 4, none⟩) HEl.out).trans (HE5.out 4 _ rfl)
      have d0 : ∀ u : Wof (Below W5.heap.size W5), u.val.cell? ⟨T0, 0, none⟩ = some (.slice (some ⟨g, 0, none⟩) (M.bk v).length (M.bk v).length) := fun u => (u.ok.cell (p := ⟨T0, 0, none⟩) l1).trans (HTr5.out 0 _ rfl)
      have d1 : ∀ u : Wof (Below W5.heap.size W5), u.val.cell? ⟨T0, 1, none⟩ = some (.int .i64 V) := fun u => (u.ok.cell (p := ⟨T0, 1, none⟩) l1).trans (HTr5.out 1 _ rfl)
      have d2 : ∀ u : Wof (Below W5.heap.size W5), u.val.cell? ⟨T0, 2, none⟩ = some (.int .i64 P) := fun u => (u.ok.cell (p := ⟨T0, 2, none⟩) l1).trans (HTr5.out 2 _ rfl)
      have d3 : ∀ u : Wof (Below W5.heap.size W5), u.val.cell? ⟨T0, 3, none⟩ = some (.int .i64 G) := fun u => (u.ok.cell (p := ⟨T0, 3, none⟩) l1).trans (HTr5.out 3 _ rfl)
      have d4 : ∀ u : Wof (Below W5.heap.size W5), u.val.cell? ⟨g, k, none⟩ = some (.int .i64 (F k)) := fun u => (u.ok.cell (p := ⟨g, k, none⟩) l2).trans HG5.out
      have d5 : ∀ u : Wof (Below W5.heap.size W5), u.val.cell? ⟨w.heap.size, 3, none⟩ = some (.int .i64 (v : Int)) := fun u => (u.ok.cell (p := ⟨w.heap.size, 3, none⟩) l3).trans HRq5.out
      have hne : Nonempty (Wof (Below W5.heap.size W5)) := ⟨⟨W5, Below.refl _ _⟩⟩
      refine wp_region_last2_lit (S := Below W5.heap.size W5) (by simp) (by kernel_rfl) (by kernel_rfl) (Below.refl _ _).drew ?_
      simp only [List.dropLast, List.getLast]
      repeat (quiet_step (fail))
      refine wpQuiet_nil ?_
      rintro _ ⟨u, rfl⟩
      unfold Oper.wp
      go_simp
      refine (settle_any p vb _ v wn xn xs xp xq (some ⟨g, 0, none⟩) (M.bk v).length (M.bk v).length V P G (F k) u.val HMid.out (HP5.out.below u.ok) hwn4 hv bp bq bF ⟨by omega, by omega⟩ ⟨by omega, by omega⟩).mono ?_
      rintro e w6 ⟨rfl, hP6, hO6⟩
      have HP6 : Hid (PM w6 p vb { Mk.dealTo M v (M.bk v) F P G (k + 1) with house := M.house }) := (by rw [HEq.out]; exact hP6 : PM w6 p vb { Mk.dealTo M v (M.bk v) F P G (k + 1) with house := M.house })
      have HO6 : Hid (Only (One p) W4 w6) := (HO5.out.next u.ok).trans (S' := One p) hO6 (fun _ _ h => h)
      clear hP6 hO6 c0 c1 c2 c3 c4 d0 d1 d2 d3 d4 d5 hne
      go_wp2_with fail
      go_roundw
      case rel => exact ⟨k + 1, by omega, by go_num, HP6.out, HO6.out⟩
      case measure => simp [intOf]; omega
    · obtain rfl : k = (M.bk v).length := by omega
      have hH := hD.house
      rw [HE0.out, HE1.out] at hH
      have nTr : ¬ One p T0 := fun e => by have e' : T0 = p := e; omega
      have t0 : wr.cell? ⟨T0, 0, none⟩ = some (.slice (some ⟨g, 0, none⟩) (M.bk v).length (M.bk v).length) := (hOk.cell HTl4.out nTr).trans (HTr4.out 0 _ rfl)
      have t1 : wr.cell? ⟨T0, 1, none⟩ = some (.int .i64 V) := (hOk.cell HTl4.out nTr).trans (HTr4.out 1 _ rfl)
      have t2 : wr.cell? ⟨T0, 2, none⟩ = some (.int .i64 P) := (hOk.cell HTl4.out nTr).trans (HTr4.out 2 _ rfl)
      have t3 : wr.cell? ⟨T0, 3, none⟩ = some (.int .i64 G) := (hOk.cell HTl4.out nTr).trans (HTr4.out 3 _ rfl)
      have hHe : M.house + V * (P - G) = (Mk.dealTo M v (M.bk v) F P G (M.bk v).length).house := by
        rw [hH, Int.mul_sub, Int.mul_comm V P, Int.mul_comm V G]
        omega
      have hbk0 : (Mk.dealTo M v (M.bk v) F P G (M.bk v).length).bk = M.bk := hD.same.1
      have hcm0 : (Mk.dealTo M v (M.bk v) F P G (M.bk v).length).cm = M.cm := hD.same.2.1
      have HX : Hid ({ Mk.dealTo M v (M.bk v) F P G (M.bk v).length with house := M.house + V * (P - G), bk := upd (Mk.dealTo M v (M.bk v) F P G (M.bk v).length).bk v [], cm := upd (Mk.dealTo M v (M.bk v) F P G (M.bk v).length).cm v 0 } = { Mk.dealTo M v (M.bk v) F P G (M.bk v).length with bk := upd M.bk v [], cm := upd M.cm v 0 }) := (by rw [hHe, hbk0, hcm0] : ({ Mk.dealTo M v (M.bk v) F P G (M.bk v).length with house := M.house + V * (P - G), bk := upd (Mk.dealTo M v (M.bk v) F P G (M.bk v).length).bk v [], cm := upd (Mk.dealTo M v (M.bk v) F P G (M.bk v).length).cm v 0 } : Mk.Mkt) = { Mk.dealTo M v (M.bk v) F P G (M.bk v).length with bk := upd M.bk v [], cm := upd M.cm v 0 })
      have hm := mul_bd3 (a := V) (b := P - G) (A := 240) (B := 100) bV ⟨by omega, by omega⟩
      have hwm : IntKind.i64.wrap (V * (P - G)) = V * (P - G) := IntWalk.i64_in _ (by omega)
      have hTr : T0 < wr.heap.size := blk_lt t0
      clear hD hMid hbkk hH hHe hbk0 hcm0 hlt nTr
      generalize hA : Mk.dealTo M v (M.bk v) F P G (M.bk v).length = A at *
      have HA : Hid (Mk.dealTo M v (M.bk v) F P G (M.bk v).length = A) := hA
      clear hA
      have f0 := hPk.ho
      have z0 := hPk.box.frozen 24
      have fh : wr.cell? ⟨p, 24, none⟩ = some (.int .i64 M.house) := f0
      have hpT : p ≠ T0 := by omega
      clear f0 hPk hOk
      go_upto_region 11 with fail
      go_region
      have HP6 : Hid (PM ((wr.setCell ⟨p, 24, none⟩ (.int .i64 (M.house + V * (P - G)))).drew) p vb { A with house := M.house + V * (P - G) }) := (HPk.out.setHo (M.house + V * (P - G))).below (Below.refl _ _).drew
      have HO6 : Hid (Only (One p) W4 ((wr.setCell ⟨p, 24, none⟩ (.int .i64 (M.house + V * (P - G)))).drew)) := (HOk.out.set (show One p p from rfl) _).next (Below.refl _ _).drew
      have s0 : ((wr.setCell ⟨p, 24, none⟩ (.int .i64 (M.house + V * (P - G)))).drew).cell? ⟨T0, 0, none⟩ = some (.slice (some ⟨g, 0, none⟩) (M.bk v).length (M.bk v).length) := cell_set_ne (w := wr) (.inl hpT.symm) t0
      have s1 : ((wr.setCell ⟨p, 24, none⟩ (.int .i64 (M.house + V * (P - G)))).drew).cell? ⟨T0, 1, none⟩ = some (.int .i64 V) := cell_set_ne (w := wr) (.inl hpT.symm) t1
      have s2 : ((wr.setCell ⟨p, 24, none⟩ (.int .i64 (M.house + V * (P - G)))).drew).cell? ⟨T0, 2, none⟩ = some (.int .i64 P) := cell_set_ne (w := wr) (.inl hpT.symm) t2
      have s3 : ((wr.setCell ⟨p, 24, none⟩ (.int .i64 (M.house + V * (P - G)))).drew).cell? ⟨T0, 3, none⟩ = some (.int .i64 G) := cell_set_ne (w := wr) (.inl hpT.symm) t3
      clear t0 t1 t2 t3 fh z0
      generalize (wr.setCell ⟨p, 24, none⟩ (.int .i64 (M.house + V * (P - G)))).drew = W6 at *
      have f1 := HP6.out.vo hv (k := 1) (by omega)
      simp only [voF] at f1
      rw [HBv.out] at f1
      have z1 := HP6.out.box.frozen (25 + v * 3 + 1)
      have HP7 : Hid (PM (W6.setCell ⟨p, 25 + v * 3 + 1, none⟩ (.slice none 0 0)) p (upd vb v (.slice none 0 0)) { A with house := M.house + V * (P - G), bk := upd A.bk v [] }) := HP6.out.setBk (w1 := W6) hv (fun _ _ => .inr (.inr rfl)) rfl ⟨by simp [standC], .inl ⟨rfl, rfl⟩⟩ (fun _ h => by cases h)
      have HO7 : Hid (Only (One p) W4 (W6.setCell ⟨p, 25 + v * 3 + 1, none⟩ (.slice none 0 0))) := HO6.out.set (show One p p from rfl) _
      have u0 : (W6.setCell ⟨p, 25 + v * 3 + 1, none⟩ (.slice none 0 0)).cell? ⟨T0, 0, none⟩ = some (.slice (some ⟨g, 0, none⟩) (M.bk v).length (M.bk v).length) := cell_set_ne (.inl hpT.symm) s0
      have u1 : (W6.setCell ⟨p, 25 + v * 3 + 1, none⟩ (.slice none 0 0)).cell? ⟨T0, 1, none⟩ = some (.int .i64 V) := cell_set_ne (.inl hpT.symm) s1
      have u2 : (W6.setCell ⟨p, 25 + v * 3 + 1, none⟩ (.slice none 0 0)).cell? ⟨T0, 2, none⟩ = some (.int .i64 P) := cell_set_ne (.inl hpT.symm) s2
      have u3 : (W6.setCell ⟨p, 25 + v * 3 + 1, none⟩ (.slice none 0 0)).cell? ⟨T0, 3, none⟩ = some (.int .i64 G) := cell_set_ne (.inl hpT.symm) s3
      go_upto_region 13 with fail
      clear f1 z1 s0 s1 s2 s3
      generalize W6.setCell ⟨p, 25 + v * 3 + 1, none⟩ (.slice none 0 0) = W7 at *
      have f2 := HP7.out.vo hv (k := 2) (by omega)
      simp only [voF] at f2
      have z2 := HP7.out.box.frozen (25 + v * 3 + 2)
      have HP8 : Hid (PM (W7.setCell ⟨p, 25 + v * 3 + 2, none⟩ (.int .i64 0)) p (upd vb v (.slice none 0 0)) { A with house := M.house + V * (P - G), bk := upd A.bk v [], cm := upd A.cm v 0 }) := HP7.out.setCm hv 0
      have HO8 : Hid (Only (One p) W4 (W7.setCell ⟨p, 25 + v * 3 + 2, none⟩ (.int .i64 0))) := HO7.out.set (show One p p from rfl) _
      have q0 : (W7.setCell ⟨p, 25 + v * 3 + 2, none⟩ (.int .i64 0)).cell? ⟨T0, 0, none⟩ = some (.slice (some ⟨g, 0, none⟩) (M.bk v).length (M.bk v).length) := cell_set_ne (.inl hpT.symm) u0
      have q1 : (W7.setCell ⟨p, 25 + v * 3 + 2, none⟩ (.int .i64 0)).cell? ⟨T0, 1, none⟩ = some (.int .i64 V) := cell_set_ne (.inl hpT.symm) u1
      have q2 : (W7.setCell ⟨p, 25 + v * 3 + 2, none⟩ (.int .i64 0)).cell? ⟨T0, 2, none⟩ = some (.int .i64 P) := cell_set_ne (.inl hpT.symm) u2
      have q3 : (W7.setCell ⟨p, 25 + v * 3 + 2, none⟩ (.int .i64 0)).cell? ⟨T0, 3, none⟩ = some (.int .i64 G) := cell_set_ne (.inl hpT.symm) u3
      go_upto_region 14 with fail
      clear f2 z2 u0 u1 u2 u3
      generalize W7.setCell ⟨p, 25 + v * 3 + 2, none⟩ (.int .i64 0) = W8 at *
      have HT8 : Hid (Tab W8) := tab_only (HT.out.next HB4.out) HP4.out HO8.out
      go_wp2_with fail
      refine (tshow_any (some ⟨g, 0, none⟩) (M.bk v).length (M.bk v).length V P G W8 ⟨by omega, by omega⟩ ⟨by omega, by omega⟩ ⟨by omega, by omega⟩ HT8.out).mono ?_
      rintro e w9 ⟨rfl, hb9⟩
      have HP9 : Hid (PM w9 p (upd vb v (.slice none 0 0)) { A with bk := upd M.bk v [], cm := upd M.cm v 0 }) := (by rw [← HX.out]; exact HP8.out.below hb9 : PM w9 p (upd vb v (.slice none 0 0)) { A with bk := upd M.bk v [], cm := upd M.cm v 0 })
      have HO9 : Hid (Only (PHas p vb) w w9) := ((Only.of_below HB4.out).trans (S' := One p) HO8.out (fun _ _ e => .inl e)).next hb9
      have HN : Hid (∀ k, PHas p (upd vb v (.slice none 0 0)) k → PHas p vb k ∨ w.heap.size ≤ k) := by
        rintro k (rfl | ⟨u, hu, hk⟩)
        · exact .inl (.inl rfl)
        · by_cases e : u = v
          · subst e
            rw [upd_self] at hk
            cases hk
          · rw [upd_ne _ _ e] at hk
            exact .inl (.inr ⟨u, hu, hk⟩)
      clear hb9 q0 q1 q2 q3
      go_wp2_with fail
      refine bodyPost_ret (v := .tuple #[.string (Mk.shutT V P G), .int .i64 0]) ?_ rfl ⟨rfl, _, by rw [HA.out]; exact HP9.out, HO9.out, HN.out⟩
      simp [results, Tryz.results107, go_sem]

set_option maxRecDepth 100000 in
set_option maxHeartbeats 2000000 in
theorem carry_close (p : Nat) (vb : Nat → Value) (M : Mk.Mkt) (who : Nat) (r : Int) (v : Nat) (a pr q o : Int) (m : Bool) (w : World) (hS : Mk.Sound M) (h1 : Mk.One M) (hP : PM w p vb M) (hv : v < 2) (hT : Tab w) :
    Calls Tryz.prog 78 #[.pointer (some ⟨p, 0, none⟩), rqA who r ⟨#[99, 108, 111, 115, 101]⟩ v a pr q o m] w fun e w' => PDoT p vb ((Mk.shutM M v).1, 0, (Mk.shutM M v).2) w e w' := by
  have HS : Hid (Mk.Sound M) := hS
  have HO1 : Hid (Mk.One M) := h1
  have HB1 : Hid (Below w.heap.size w (w.alloc (rqO who r ⟨#[99, 108, 111, 115, 101]⟩ v a pr q o m))) := (Below.refl _ _).alloc (Nat.le_refl _) _
  have HP1 : Hid (PM (w.alloc (rqO who r ⟨#[99, 108, 111, 115, 101]⟩ v a pr q o m)) p vb M) := hP.below HB1.out
  have HT1 : Hid (Tab (w.alloc (rqO who r ⟨#[99, 108, 111, 115, 101]⟩ v a pr q o m))) := hT.next HB1.out
  clear hS h1 hP hT
  go_enter Tryz.func78, Tryz.ntmps78
  go_wp2_with fail
  refine (closeBatch_any p vb M who r ⟨#[99, 108, 111, 115, 101]⟩ v a pr q o m (Mk.sF M v) (Mk.sV M v) (Mk.sPay M v) (Mk.sGet M v) _ HS.out (HS.out.fill HO1.out hv) HP1.out hv HT1.out (fun W hW => ?_)).mono ?_
  · have c0 := hW.vo hv (k := 0) (by omega)
    have c1 := hW.vo hv (k := 1) (by omega)
    simp only [voF, Nat.add_zero] at c0 c1
    exact pcleared_any p (25 + v * 3) (M.md v) (vb v) (M.bk v) W (HS.out.valid hv) (HS.out.valid1 HO1.out hv) c0 c1 (HS.out.fine.len v hv) (hW.bk v hv)
  · intro e w2 hD
    have HD : Hid (PDoT p vb ((Mk.shutM M v).1, 0, (Mk.shutM M v).2) w e w2) := pdoT_next HB1.out hD
    obtain rfl := hD.1
    clear hD
    go_wp2_with fail
    refine bodyPost_ret (v := .tuple #[.string (Mk.shutM M v).1, .int .i64 0]) ?_ rfl HD.out
    simp [results, Tryz.results78, go_sem, Mk.shutM]

theorem close_ok : CloseOk := by
  intro p vb M c W hS h1 hok hd hP hT
  obtain ⟨hv, hlen⟩ := close_v hok hd
  obtain ⟨who, r, d, n, mc⟩ := c
  obtain rfl : d = .close := hd
  exact carry_close p vb M who (r : Int) (Mk.nth n 0) _ _ _ _ mc W hS h1 hP hv hT

end Go.Proofs.YtmebcdpdpcpnmaaGreatDoor
