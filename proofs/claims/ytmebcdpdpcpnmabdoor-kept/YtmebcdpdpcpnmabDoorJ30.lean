import Derived.Test.YtmebcdpdpcpnmabDoorJ16
import Derived.Test.YtmebcdpdpcpnmabDoorJ26
import Derived.Test.YtmebcdpdpcpnmabDoorJ4
import Derived.Test.YtmebcdpdpcpnmabDoorJ9
namespace Go.Proofs.YtmebcdpdpcpnmabDoor
open Go.RowKit

/-- what the buyers get -/
def buyF (l : List Mk.Ord) (f : Nat → Int) (i : Nat) : Int := if (l.getD i Mk.ozero).sell = false then f i else 0
theorem buyF_bd {l : List Mk.Ord} {f : Nat → Int} (h : ∀ i, i < l.length → 0 ≤ f i ∧ f i ≤ 20) : ∀ k, k ≤ l.length → 0 ≤ Mk.sumn (buyF l f) k ∧ Mk.sumn (buyF l f) k ≤ 20 * k
  | 0, _ => by simp [Mk.sumn]
  | k + 1, hk => by
    have ih := buyF_bd h k (by omega)
    have h1 := h k (by omega)
    have e : Mk.sumn (buyF l f) (k + 1) = Mk.sumn (buyF l f) k + buyF l f k := rfl
    rw [e]
    unfold buyF at *
    split <;> omega

set_option maxRecDepth 100000 in
set_option maxHeartbeats 2000000 in
theorem bought_some (b off cap g gc : Nat) (l : List Mk.Ord) (f : Nat → Int) (w : World) (h12 : l.length ≤ 12) (hR : At w b off l) (hrow : w.rowIs g 3 l.length (fun i => .int .i64 (f i))) (hf : ∀ i, i < l.length → 0 ≤ f i ∧ f i ≤ 20) :
    Calls Tryd.prog 80 #[.slice (some ⟨b, off, none⟩) l.length cap, .slice (some ⟨g, 0, none⟩) l.length gc] w fun e w' => e = .returned (.int .i64 (Mk.sideSum l false f)) ∧ Below w.heap.size w w' := by
  have HR : Hid (At w b off l) := hR
  have HRow : Hid (w.rowIs g 3 l.length (fun i => .int .i64 (f i))) := hrow
  have HF : Hid (∀ i, i < l.length → 0 ≤ f i ∧ f i ≤ 20) := hf
  clear hR hrow hf
  go_enter Tryd.func80, Tryd.ntmps80
  go_wp2
  go_loopw [5, 10] (fun s j wr => ∃ k : Nat, k ≤ l.length ∧ j = .int .i64 k ∧ s = .int .i64 (Mk.sumn (buyF l f) k) ∧ Below w.heap.size w wr) (fun _ j _ => l.length - (intOf j).toNat)
  case atStart => exact ⟨0, Nat.zero_le _, rfl, rfl, Below.refl _ _⟩
  case round =>
    obtain ⟨k, hk, rfl, rfl, hb⟩ := hrel
    have Hb : Hid (Below w.heap.size w wr) := hb
    clear hb
    have sb := buyF_bd HF.out k hk
    by_cases hlt : k < l.length
    · obtain ⟨c0, c1, c2⟩ := At.below HR.out Hb.out k hlt
      have c3 : wr.cell? ⟨g, k, none⟩ = some (.int .i64 (f k)) := (Hb.out.cell (p := ⟨g, k, none⟩) HRow.out.lt).trans (HRow.out.cell hlt)
      have hfk := HF.out k hlt
      have hlt' : (k : Int) < (l.length : Int) := by omega
      have hbl := blk_lt c0
      have hgl := blk_lt c3
      have hE : Mk.sumn (buyF l f) (k + 1) = Mk.sumn (buyF l f) k + if l[k].sell = false then f k else 0 := by
        show Mk.sumn (buyF l f) k + buyF l f k = _
        unfold buyF
        rw [Mk.getD_at hlt]
      have HA : Hid (∀ ob, Below w.heap.size w (wr.alloc ob)) := fun ob => Hb.out.alloc Hb.out.size ob
      have HK : Hid (k < l.length) := hlt
      revert c0 c1 c2 hE
      generalize l[k] = o
      obtain ⟨s, pr, q⟩ := o
      intro c0 c1 c2 hE
      simp only at c0 c1 c2
      cases s
      · have HE : Hid (Mk.sumn (buyF l f) (k + 1) = Mk.sumn (buyF l f) k + f k) := (by rw [hE]; rfl : Mk.sumn (buyF l f) (k + 1) = Mk.sumn (buyF l f) k + f k)
        clear hE
        go_wp2
        go_roundw
        case rel => exact ⟨k + 1, by omega, by go_num, by rw [HE.out], HA.out _⟩
        case measure => simp [intOf]; omega
      · have HE : Hid (Mk.sumn (buyF l f) (k + 1) = Mk.sumn (buyF l f) k) := (by rw [hE]; simp : Mk.sumn (buyF l f) (k + 1) = Mk.sumn (buyF l f) k)
        clear hE
        go_wp2
        go_roundw
        case rel => exact ⟨k + 1, by omega, by go_num, by rw [HE.out], HA.out _⟩
        case measure => simp [intOf]; omega
    · obtain rfl : k = l.length := by omega
      go_wp2
      go_ret
      exact ⟨rfl, Hb.out⟩

set_option maxRecDepth 100000 in
set_option maxHeartbeats 2000000 in
theorem bought_nil (a : Option Addr) (cap g gc : Nat) (w : World) :
    Calls Tryd.prog 80 #[.slice a 0 cap, .slice (some ⟨g, 0, none⟩) 0 gc] w fun e w' => e = .returned (.int .i64 0) ∧ Below w.heap.size w w' := by
  go_enter Tryd.func80, Tryd.ntmps80
  go_wp2
  go_loop [5, 10] (fun s j => j = .int .i64 0 ∧ s = .int .i64 0) (fun _ j => 0)
  case atStart => exact ⟨rfl, rfl⟩
  case round =>
    obtain ⟨rfl, rfl⟩ := hrel
    go_wp2
    go_ret
    exact ⟨rfl, Below.refl _ _⟩

theorem bought_any (a : Option Addr) (cap g gc : Nat) (l : List Mk.Ord) (f : Nat → Int) (w : World) (h12 : l.length ≤ 12) (hR : Rd w a l) (hrow : w.rowIs g 3 l.length (fun i => .int .i64 (f i))) (hf : ∀ i, i < l.length → 0 ≤ f i ∧ f i ≤ 20) :
    Calls Tryd.prog 80 #[.slice a l.length cap, .slice (some ⟨g, 0, none⟩) l.length gc] w fun e w' => e = .returned (.int .i64 (Mk.sideSum l false f)) ∧ Below w.heap.size w w' := by
  rcases hR with rfl | ⟨b, off, rfl, hR⟩
  · exact bought_nil a cap g gc w
  · exact bought_some b off cap g gc l f w h12 hR hrow hf

/-- what a batch is cleared to, as a value -/
abbrev trV (ga : Option Addr) (n c : Nat) (V P G : Int) : Value := .agg #[.slice ga n c, .int .i64 V, .int .i64 P, .int .i64 G]

set_option maxRecDepth 100000 in
set_option maxHeartbeats 2000000 in
theorem tshow_any (ga : Option Addr) (n c : Nat) (V P G : Int) (w : World) (bV : 0 ≤ V ∧ V ≤ 9999) (bP : 0 ≤ P ∧ P ≤ 9999) (bG : 0 ≤ G ∧ G ≤ 9999) (hT : Tab w) :
    Calls Tryd.prog 73 #[trV ga n c V P G] w fun e w' => e = .returned (.string (Mk.shutT V P G)) ∧ Below w.heap.size w w' := by
  have HB1 : Hid (Below w.heap.size w (w.alloc (.cells #[.slice ga n c, .int .i64 V, .int .i64 P, .int .i64 G] 115))) := (Below.refl _ _).alloc (Nat.le_refl _) _
  have HT1 : Hid (Tab (w.alloc (.cells #[.slice ga n c, .int .i64 V, .int .i64 P, .int .i64 G] 115))) := hT.next HB1.out
  have x1 : (w.alloc (.cells #[.slice ga n c, .int .i64 V, .int .i64 P, .int .i64 G] 115)).cell? ⟨w.heap.size, 1, none⟩ = some (.int .i64 V) := by simp
  have x2 : (w.alloc (.cells #[.slice ga n c, .int .i64 V, .int .i64 P, .int .i64 G] 115)).cell? ⟨w.heap.size, 2, none⟩ = some (.int .i64 P) := by simp
  have x3 : (w.alloc (.cells #[.slice ga n c, .int .i64 V, .int .i64 P, .int .i64 G] 115)).cell? ⟨w.heap.size, 3, none⟩ = some (.int .i64 G) := by simp
  have hwl : w.heap.size < (w.alloc (.cells #[.slice ga n c, .int .i64 V, .int .i64 P, .int .i64 G] 115)).heap.size := by simp
  clear hT
  go_enter Tryd.func73, Tryd.ntmps73
  go_upto_region 1 with fail
  generalize w.alloc (.cells #[.slice ga n c, .int .i64 V, .int .i64 P, .int .i64 G] 115) = W1 at *
  by_cases hV0 : V = 0
  · have HX : Hid (Mk.shutT V P G = ⟨#[48]⟩) := (by unfold Mk.shutT; rw [if_pos hV0] : Mk.shutT V P G = ⟨#[48]⟩)
    have hV1 : (V == 0) = true := by simpa using hV0
    clear hV0
    go_wp2_with fail
    go_ret
    exact ⟨by rw [HX.out]; rfl, HB1.out⟩
  · have hV1 : (V == 0) = false := by simpa using hV0
    have HX : Hid (Mk.shutT V P G = Mk.digI V ++ ⟨#[64]⟩ ++ Mk.digI P ++ ⟨#[47]⟩ ++ Mk.digI G) := (by unfold Mk.shutT; rw [if_neg hV0] : Mk.shutT V P G = Mk.digI V ++ ⟨#[64]⟩ ++ Mk.digI P ++ ⟨#[47]⟩ ++ Mk.digI G)
    have t1 := Mk.digI_le bV.2
    have t2 := Mk.digI_le bP.2
    have t3 := Mk.digI_le bG.2
    clear hV0
    go_wp2_with fail
    refine (itoaI_any V bV _ HT1.out).mono ?_
    rintro e w3 ⟨rfl, hb3⟩
    have HB3 : Hid (Below w.heap.size w w3) := HB1.out.trans (hb3.mono HB1.out.size)
    have HT3 : Hid (Tab w3) := HT1.out.next hb3
    have y2 : w3.cell? ⟨w.heap.size, 2, none⟩ = some (.int .i64 P) := (hb3.cell (p := ⟨w.heap.size, 2, none⟩) hwl).trans x2
    have y3 : w3.cell? ⟨w.heap.size, 3, none⟩ = some (.int .i64 G) := (hb3.cell (p := ⟨w.heap.size, 3, none⟩) hwl).trans x3
    have hwl3 : w.heap.size < w3.heap.size := Nat.lt_of_lt_of_le hwl hb3.size
    clear hb3 x1 x2 x3
    go_wp2_with fail
    refine (itoaI_any P bP _ HT3.out).mono ?_
    rintro e w4 ⟨rfl, hb4⟩
    have HB4 : Hid (Below w.heap.size w w4) := HB3.out.trans (hb4.mono HB3.out.size)
    have HT4 : Hid (Tab w4) := HT3.out.next hb4
    have u3 : w4.cell? ⟨w.heap.size, 3, none⟩ = some (.int .i64 G) := (hb4.cell (p := ⟨w.heap.size, 3, none⟩) hwl3).trans y3
    clear hb4 y2 y3
    go_wp2_with fail
    refine (itoaI_any G bG _ HT4.out).mono ?_
    rintro e w5 ⟨rfl, hb5⟩
    have HB5 : Hid (Below w.heap.size w w5) := HB4.out.trans (hb5.mono HB4.out.size)
    clear hb5
    go_wp2_with fail
    go_ret
    exact ⟨by rw [HX.out]; rfl, HB5.out⟩

end Go.Proofs.YtmebcdpdpcpnmabDoor

namespace Go.Proofs.YtmebcdpdpcpnmabDoor
open Go.RowKit

/-- what the program's 'cleared' answers -/
def ClrIs (md : Bool) (b : List Mk.Stand) (w : World) (e : Ending) (w' : World) : Prop :=
  ∃ g, e = .returned (.tuple #[trV (some ⟨g, 0, none⟩) b.length b.length (Mk.clV md (Mk.ords b)) (Mk.clPay md (Mk.ords b)) (Mk.clGet md (Mk.ords b)), .int .i64 0]) ∧ w.heap.size ≤ g ∧ Below w.heap.size w w' ∧ w'.rowIs g 3 b.length (fun i => .int .i64 (Mk.clF md (Mk.ords b) i))

set_option maxRecDepth 100000 in
set_option maxHeartbeats 4000000 in
theorem pcleared_any (p o : Nat) (md : Bool) (bv : Value) (b : List Mk.Stand) (w : World) (h20 : Mk.validB 20 (Mk.ords b) = true) (h1 : md = true → Mk.validB 1 (Mk.ords b) = true)
    (hm : w.cell? ⟨p, o, none⟩ = some (.int .i64 (mdI md))) (hc : w.cell? ⟨p, o + 1, none⟩ = some bv) (hl : b.length ≤ 12) (hown : w.ownsRow 0 86 5 bv b.length (standC b)) :
    Calls Tryd.prog 71 #[.pointer (some ⟨p, o, none⟩)] w fun e w' => ClrIs md b w e w' := by
  obtain ⟨i0, hi0, hz0, hz1, hz2⟩ := info_parts Tryd.infoOrder
  have hpl := blk_lt hc
  have HO : Hid (w.ownsRow 0 86 5 bv b.length (standC b)) := hown
  obtain ⟨ba, bc, rfl⟩ := own_form hown
  have H20 : Hid (Mk.validB 20 (Mk.ords b) = true) := h20
  have H1 : Hid (md = true → Mk.validB 1 (Mk.ords b) = true) := h1
  have HFi : Hid (Mk.Fill (Mk.ords b) (Mk.clF md (Mk.ords b)) (Mk.clPay md (Mk.ords b)) (Mk.clGet md (Mk.ords b)) (Mk.clV md (Mk.ords b))) := Mk.cl_fill h20 h1
  have HMd : Hid (w.cell? ⟨p, o, none⟩ = some (.int .i64 (mdI md))) := hm
  have hol : (Mk.ords b).length = b.length := ords_len _
  have HOl : Hid ((Mk.ords b).length = b.length) := hol
  have HFb : Hid (∀ i, i < (Mk.ords b).length → 0 ≤ Mk.clF md (Mk.ords b) i ∧ Mk.clF md (Mk.ords b) i ≤ 20) := fun i hi => by
    have h2 := HFi.out.bd i hi
    rw [Mk.getD_at hi] at h2
    have h3 := (Mk.ok_of_valid h20).2 (Mk.ords b)[i] (List.getElem_mem hi)
    omega
  have HZ : Hid (Below w.heap.size w (w.alloc (.cells #[.slice none 0 0, .int .i64 0, .int .i64 0, .int .i64 0] 115))) := (Below.refl _ _).alloc (Nat.le_refl _) _
  have HRz : Hid ((w.alloc (.cells #[.slice none 0 0, .int .i64 0, .int .i64 0, .int .i64 0] 115)).rowIs w.heap.size 115 4 (fun i => (#[.slice none 0 0, .int .i64 0, .int .i64 0, .int .i64 0] : Array Value).getD i undef)) := World.rowIs_alloc w #[.slice none 0 0, .int .i64 0, .int .i64 0, .int .i64 0] 115 _ (fun i hi => by match i, hi with | 0, _ => rfl | 1, _ => rfl | 2, _ => rfl | 3, _ => rfl)
  clear hown h20 h1 hm
  go_enter Tryd.func71, Tryd.ntmps71
  go_wp2
  generalize w.alloc (.cells #[.slice none 0 0, .int .i64 0, .int .i64 0, .int .i64 0] 115) = W0 at *
  clear hc hol
  go_loopw [4, 21] (fun lv j wr => ∃ k : Nat, k ≤ b.length ∧ j = .int .i64 k ∧ wr.ownsRow W0.heap.size 84 3 lv k (cellsTo (Mk.ords b) k) ∧ Below W0.heap.size W0 wr) (fun _ j _ => b.length - (intOf j).toNat)
  case atStart => exact ⟨0, Nat.zero_le _, rfl, ⟨by simp [cellsTo], .inl ⟨rfl, rfl⟩⟩, Below.refl _ _⟩
  case round =>
    obtain ⟨k, hk, rfl, hr, hb⟩ := hrel
    have Hb : Hid (Below W0.heap.size W0 wr) := hb
    have HBw : Hid (Below w.heap.size w wr) := HZ.out.trans (hb.mono HZ.out.size)
    have hsz := hb.size
    clear hb
    by_cases hlt : k < b.length
    · have hlt' : (k : Int) < (b.length : Int) := by omega
      obtain ⟨g, rfl⟩ := own_some HO.out (by omega)
      obtain ⟨e0, e1, e2, e3, e4⟩ := entry_cells (own_below HO.out HBw.out (fun j hj => (HO.out.lt j hj).2)) rfl hlt
      have HE : Hid (cellsTo (Mk.ords b) (k + 1) = cellsTo (Mk.ords b) k ++ [.bool (Mk.std b k).o.sell, .int .i64 (Mk.std b k).o.price, .int .i64 (Mk.std b k).o.qty]) := (by
        rw [cellsTo_succ _ _ (by have := HOl.out; omega)]
        have e : (Mk.ords b)[k]'(by have := HOl.out; omega) = (Mk.std b k).o := by rw [Mk.std_at hlt]; simp [Mk.ords]
        rw [e] : cellsTo (Mk.ords b) (k + 1) = cellsTo (Mk.ords b) k ++ [.bool (Mk.std b k).o.sell, .int .i64 (Mk.std b k).o.price, .int .i64 (Mk.std b k).o.qty])
      have HA : Hid (∀ ob, Below W0.heap.size W0 (wr.alloc ob)) := fun ob => Hb.out.alloc Hb.out.size ob
      go_wp2_with (at_builtin; (refine wpList_append_lies _ rfl _ _ _ rfl W0.heap.size 84 i0 _ 3 24 Tryd.underlying125 hi0 hz0 hz1 hz2 rfl (by omega) _ k (cellsTo (Mk.ords b) k) rfl ((hr.alloc _).alloc _) ⟨wr.heap.size + 1, 0, none⟩ 1 1 [.bool (Mk.std b k).o.sell, .int .i64 (Mk.std b k).o.price, .int .i64 (Mk.std b k).o.qty] rfl rfl (World.news_of_block (cs := #[.bool (Mk.std b k).o.sell, .int .i64 (Mk.std b k).o.price, .int .i64 (Mk.std b k).o.qty]) (t := 84) (fr := (0, 0)) ?_) (by simp [Value.oneCell']) (by omega) (by unfold maxLen; omega) (by omega) (by simp; omega) (wr.heap.size + 2) (by simp) ?_))
      · have h := heap_alloc_new (wr.alloc (.cells #[.int .i64 (Mk.std b k).n, .int .i64 (Mk.std b k).who, .bool (Mk.std b k).o.sell, .int .i64 (Mk.std b k).o.price, .int .i64 (Mk.std b k).o.qty] 86)) (.cells #[.bool (Mk.std b k).o.sell, .int .i64 (Mk.std b k).o.price, .int .i64 (Mk.std b k).o.qty] 84)
        simpa using h
      · intro gg cap' w1 hown1 hgrow hat hlt1
        have HO1 := (show Hid _ from hown1)
        have HB1 : Hid (Below W0.heap.size W0 w1) := Below.grown ((HA.out _).alloc (by simp; omega) _) hgrow (by simp; omega) (fun j hj => own_ge hr j hj)
        clear hown1 hgrow hat hr
        go_wp2
        go_roundw
        case rel => exact ⟨k + 1, by omega, by go_num, by rw [HE.out]; exact HO1.out, HB1.out⟩
        case measure => simp [intOf]; omega
    · obtain rfl : k = b.length := by omega
      have hol := HOl.out
      rw [← hol] at hr
      obtain ⟨la, lc, hlv, hRd⟩ := rd_of_own hr
      rw [hol] at hlv
      subst hlv
      have HRd : Hid (Rd wr la (Mk.ords b)) := hRd
      have HRr : Hid (wr.rowIs w.heap.size 115 4 (fun i => (#[.slice none 0 0, .int .i64 0, .int .i64 0, .int .i64 0] : Array Value).getD i undef)) := HRz.out.of_block (Hb.out.block _ HRz.out.lt)
      clear hRd hr
      have c0 : wr.cell? ⟨p, o, none⟩ = some (.int .i64 (mdI md)) := (HBw.out.cell (p := ⟨p, o, none⟩) hpl).trans HMd.out
      have hzl := HRr.out.lt
      cases md
      · have c0' : wr.cell? ⟨p, o, none⟩ = some (.int .i64 0) := c0
        clear c0
        go_wp2_with fail
        have hC := uniform_any la lc (Mk.ords b) wr H20.out HRd.out
        rw [hol] at hC
        refine hC.mono ?_
        clear hC
        rintro e w2 ⟨g2, rfl, hg2, hb2, hrow2⟩
        have HB2 : Hid (Below wr.heap.size wr w2) := hb2
        have HRw : Hid (w2.rowIs g2 3 (Mk.ords b).length (fun i => .int .i64 (Mk.uni (Mk.ords b) i))) := (by rw [hol]; exact hrow2 : w2.rowIs g2 3 (Mk.ords b).length (fun i => .int .i64 (Mk.uni (Mk.ords b) i)))
        clear hb2 hrow2 c0'
        go_wp2_with fail
        have hC := bought_any la lc g2 b.length (Mk.ords b) (Mk.uni (Mk.ords b)) w2 (by omega) (HRd.out.below HB2.out) HRw.out HFb.out
        rw [hol] at hC
        refine hC.mono ?_
        clear hC
        rintro e w3 ⟨rfl, hb3⟩
        have hb23 : Below wr.heap.size wr w3 := HB2.out.trans (hb3.mono HB2.out.size)
        have HB3 : Hid (Below w.heap.size w w3) := HBw.out.trans (hb23.mono HBw.out.size)
        have HR3 : Hid (w3.rowIs w.heap.size 115 4 (fun i => (#[.slice none 0 0, .int .i64 0, .int .i64 0, .int .i64 0] : Array Value).getD i undef)) := HRr.out.of_block (hb23.block _ HRr.out.lt)
        have HRw3 : Hid (w3.rowIs g2 3 b.length (fun i => .int .i64 (Mk.uni (Mk.ords b) i))) := (by have h := HRw.out.of_block (hb3.block _ HRw.out.lt); rw [hol] at h; exact h : w3.rowIs g2 3 b.length (fun i => .int .i64 (Mk.uni (Mk.ords b) i)))
        have HV : Hid (Mk.sideSum (Mk.ords b) false (Mk.uni (Mk.ords b)) = Mk.clV false (Mk.ords b)) := HFi.out.side false
        have hgw : w.heap.size < g2 := by have := hg2; omega
        clear hb3 hb23
        have n0 := HR3.out.cell (i := 0) (by omega)
        have n1 := HR3.out.cell (i := 1) (by omega)
        have n2 := HR3.out.cell (i := 2) (by omega)
        have n3 := HR3.out.cell (i := 3) (by omega)
        have y0 := HR3.out.frozen 0
        have y1 := HR3.out.frozen 1
        have y2 := HR3.out.frozen 2
        have y3 := HR3.out.frozen 3
        rw [HV.out]
        go_wp2_with fail
        refine bodyPost_ret (v := .tuple #[trV (some ⟨g2, 0, none⟩) b.length b.length (Mk.clV false (Mk.ords b)) (Mk.price (Mk.ords b)) (Mk.price (Mk.ords b)), .int .i64 0]) ?_ rfl ⟨g2, rfl, by omega, ?_, ?_⟩
        · simp [results, Tryd.results71, go_sem, n0, n1, n2, n3]
        · iterate 4 (refine below_at ?_ _ _)
          exact HB3.out
        · iterate 4 (refine World.rowIs.of_block ?_ (Below.heap_setCell _ _ _ _ (by show g2 ≠ w.heap.size; omega)))
          exact HRw3.out
      · have c0' : wr.cell? ⟨p, o, none⟩ = some (.int .i64 1) := c0
        clear c0
        go_wp2_with fail
        have hC := mcafee_any la lc (Mk.ords b) wr (H1.out (by first | rfl | trivial)) HRd.out
        rw [hol] at hC
        refine hC.mono ?_
        clear hC
        rintro e w2 ⟨g2, rfl, hg2, hb2, hrow2⟩
        have HB2 : Hid (Below wr.heap.size wr w2) := hb2
        have HRw : Hid (w2.rowIs g2 3 (Mk.ords b).length (fun i => .int .i64 (Mk.mcF (Mk.ords b) i))) := hrow2
        clear hb2 hrow2 c0'
        rw [hol]
        go_wp2_with fail
        have hC := bought_any la lc g2 b.length (Mk.ords b) (Mk.mcF (Mk.ords b)) w2 (by omega) (HRd.out.below HB2.out) HRw.out HFb.out
        rw [hol] at hC
        refine hC.mono ?_
        clear hC
        rintro e w3 ⟨rfl, hb3⟩
        have hb23 : Below wr.heap.size wr w3 := HB2.out.trans (hb3.mono HB2.out.size)
        have HB3 : Hid (Below w.heap.size w w3) := HBw.out.trans (hb23.mono HBw.out.size)
        have HR3 : Hid (w3.rowIs w.heap.size 115 4 (fun i => (#[.slice none 0 0, .int .i64 0, .int .i64 0, .int .i64 0] : Array Value).getD i undef)) := HRr.out.of_block (hb23.block _ HRr.out.lt)
        have HRw3 : Hid (w3.rowIs g2 3 b.length (fun i => .int .i64 (Mk.mcF (Mk.ords b) i))) := (by have h := HRw.out.of_block (hb3.block _ HRw.out.lt); rw [hol] at h; exact h : w3.rowIs g2 3 b.length (fun i => .int .i64 (Mk.mcF (Mk.ords b) i)))
        have HV : Hid (Mk.sideSum (Mk.ords b) false (Mk.mcF (Mk.ords b)) = Mk.clV true (Mk.ords b)) := HFi.out.side false
        have hgw : w.heap.size < g2 := by have := hg2; omega
        clear hb3 hb23
        have n0 := HR3.out.cell (i := 0) (by omega)
        have n1 := HR3.out.cell (i := 1) (by omega)
        have n2 := HR3.out.cell (i := 2) (by omega)
        have n3 := HR3.out.cell (i := 3) (by omega)
        have y0 := HR3.out.frozen 0
        have y1 := HR3.out.frozen 1
        have y2 := HR3.out.frozen 2
        have y3 := HR3.out.frozen 3
        rw [HV.out]
        go_wp2_with fail
        refine bodyPost_ret (v := .tuple #[trV (some ⟨g2, 0, none⟩) b.length b.length (Mk.clV true (Mk.ords b)) (Mk.mcPay (Mk.ords b)) (Mk.mcGet (Mk.ords b)), .int .i64 0]) ?_ rfl ⟨g2, rfl, by omega, ?_, ?_⟩
        · simp [results, Tryd.results71, go_sem, n0, n1, n2, n3]
        · iterate 4 (refine below_at ?_ _ _)
          exact HB3.out
        · iterate 4 (refine World.rowIs.of_block ?_ (Below.heap_setCell _ _ _ _ (by show g2 ≠ w.heap.size; omega)))
          exact HRw3.out

end Go.Proofs.YtmebcdpdpcpnmabDoor
