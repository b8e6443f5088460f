import Derived.Test.YtmebcdpdpcpnmaaGreatDoorKCA
import Derived.Test.YtmebcdpdpcpnmaaGreatDoorJ5
import Derived.Test.YtmebcdpdpcpnmaaGreatDoorJ18
namespace Go.Proofs.YtmebcdpdpcpnmaaGreatDoor
open Go.RowKit

/-- what the program's 'cleared' answers -/
def ClrIs (md : Bool) (b : List Mk.Stand) (w : World) (e : Ending) (w' : World) : Prop :=
  ∃ g, e = .returned (.tuple #[trV (some ⟨g, 0, none⟩) b.length b.length (Mk.clV md (Mk.ords b)) (Mk.clPay md (Mk.ords b)) (Mk.clGet md (Mk.ords b)), .int .i64 0]) ∧ w.heap.size ≤ g ∧ Below w.heap.size w w' ∧ w'.rowIs g 3 b.length (fun i => .int .i64 (Mk.clF md (Mk.ords b) i))

set_option maxRecDepth 100000 in
set_option maxHeartbeats 4000000 in
theorem pcleared_any (p o : Nat) (md : Bool) (bv : Value) (b : List Mk.Stand) (w : World) (h20 : Mk.validB 20 (Mk.ords b) = true) (h1 : md = true → Mk.validB 1 (Mk.ords b) = true)
    (hm : w.cell? ⟨p, o, none⟩ = some (.int .i64 (mdI md))) (hc : w.cell? ⟨p, o + 1, none⟩ = some bv) (hl : b.length ≤ 12) (hown : w.ownsRow 0 152 5 bv b.length (standC b)) :
    Calls Tryz.prog 123 #[.pointer (some ⟨p, o, none⟩)] w fun e w' => ClrIs md b w e w' := by
  obtain ⟨i0, hi0, hz0, hz1, hz2⟩ := info_parts Tryz.infoOrder
  have hpl := blk_lt hc
  have HO : Hid (w.ownsRow 0 152 5 bv b.length (standC b)) := hown
  obtain ⟨ba, bc, rfl⟩ := own_form hown
  have H20 : Hid (Mk.validB 20 (Mk.ords b) = true) := h20
  have H1 : Hid (md = true → Mk.validB 1 (Mk.ords b) = true) := h1
  have HFi : Hid (Mk.Fill (Mk.ords b) (Mk.clF md (Mk.ords b)) (Mk.clPay md (Mk.ords b)) (Mk.clGet md (Mk.ords b)) (Mk.clV md (Mk.ords b))) := Mk.cl_fill h20 h1
  have HMd : Hid (w.cell? ⟨p, o, none⟩ = some (.int .i64 (mdI md))) := hm
  have hol : (Mk.ords b).length = b.length := ords_len _
  have HOl : Hid ((Mk.ords b).length = b.length) := hol
  have HFb : Hid (∀ i, i < (Mk.ords b).length → 0 ≤ Mk.clF md (Mk.ords b) i ∧ Mk.clF md (Mk.ords b) i ≤ 20) := fun i hi => by
    have h2 := HFi.out.bd i hi
    rw [Mk.getD_at hi] at h2
    have h3 := (Mk.ok_of_valid h20).2 (Mk.ords b)[i] (List.getElem_mem hi)
    omega
  have HZ : Hid (Below w.heap.size w (w.alloc (.cells #[.slice none 0 0, .int .i64 0, .int .i64 0, .int .i64 0] 179))) := (Below.refl _ _).alloc (Nat.le_refl _) _
  have HRz : Hid ((w.alloc (.cells #[.slice none 0 0, .int .i64 0, .int .i64 0, .int .i64 0] 179)).rowIs w.heap.size 179 4 (fun i => (#[.slice none 0 0, .int .i64 0, .int .i64 0, .int .i64 0] : Array Value).getD i undef)) := World.rowIs_alloc w #[.slice none 0 0, .int .i64 0, .int .i64 0, .int .i64 0] 179 _ (fun i hi => by match i, hi with | 0, _ => rfl | 1, _ => rfl | 2, _ => rfl | 3, _ => rfl)
  clear hown h20 h1 hm
  go_enter Tryz.func123, Tryz.ntmps123
  go_wp2
  generalize w.alloc (.cells #[.slice none 0 0, .int .i64 0, .int .i64 0, .int .i64 0] 179) = W0 at *
  clear hc hol
  go_loopw [4, 21] (fun lv j wr => ∃ k : Nat, k ≤ b.length ∧ j = .int .i64 k ∧ wr.ownsRow W0.heap.size 123 3 lv k (cellsTo (Mk.ords b) k) ∧ Below W0.heap.size W0 wr) (fun _ j _ => b.length - (intOf j).toNat)
  case atStart => exact ⟨0, Nat.zero_le _, rfl, ⟨by simp [cellsTo], .inl ⟨rfl, rfl⟩⟩, Below.refl _ _⟩
  case round =>
    obtain ⟨k, hk, rfl, hr, hb⟩ := hrel
    have Hb : Hid (Below W0.heap.size W0 wr) := hb
    have HBw : Hid (Below w.heap.size w wr) := HZ.out.trans (hb.mono HZ.out.size)
    have hsz := hb.size
    clear hb
    by_cases hlt : k < b.length
    · have hlt' : (k : Int) < (b.length : Int) := by omega
      obtain ⟨g, rfl⟩ := own_some HO.out (by omega)
      obtain ⟨e0, e1, e2, e3, e4⟩ := entry_cells (own_below HO.out HBw.out (fun j hj => (HO.out.lt j hj).2)) rfl hlt
      have HE : Hid (cellsTo (Mk.ords b) (k + 1) = cellsTo (Mk.ords b) k ++ [.bool (Mk.std b k).o.sell, .int .i64 (Mk.std b k).o.price, .int .i64 (Mk.std b k).o.qty]) := (by
        rw [cellsTo_succ _ _ (by have := HOl.out; omega)]
        have e : (Mk.ords b)[k]'(by have := HOl.out; omega) = (Mk.std b k).o := by rw [Mk.std_at hlt]; simp [Mk.ords]
        rw [e] : cellsTo (Mk.ords b) (k + 1) = cellsTo (Mk.ords b) k ++ [.bool (Mk.std b k).o.sell, .int .i64 (Mk.std b k).o.price, .int .i64 (Mk.std b k).o.qty])
      have HA : Hid (∀ ob, Below W0.heap.size W0 (wr.alloc ob)) := fun ob => Hb.out.alloc Hb.out.size ob
      go_wp2_with (at_builtin; (refine wpList_append_lies _ rfl _ _ _ rfl W0.heap.size 123 i0 _ 3 24 Tryz.underlying31 hi0 hz0 hz1 hz2 rfl (by omega) _ k (cellsTo (Mk.ords b) k) rfl ((hr.alloc _).alloc _) ⟨wr.heap.size + 1, 0, none⟩ 1 1 [.bool (Mk.std b k).o.sell, .int .i64 (Mk.std b k).o.price, .int .i64 (Mk.std b k).o.qty] rfl rfl (World.news_of_block (cs := #[.bool (Mk.std b k).o.sell, .int .i64 (Mk.std b k).o.price, .int .i64 (Mk.std b k).o.qty]) (t := 123) (fr := (0, 0)) ?_) (by simp [Value.oneCell']) (by omega) (by unfold maxLen; omega) (by omega) (by simp; omega) (wr.heap.size + 2) (by simp) ?_))
      · have h := heap_alloc_new (wr.alloc (.cells #[.int .i64 (Mk.std b k).n, .int .i64 (Mk.std b k).who, .bool (Mk.std b k).o.sell, .int .i64 (Mk.std b k).o.price, .int .i64 (Mk.std b k).o.qty] 152)) (.cells #[.bool (Mk.std b k).o.sell, .int .i64 (Mk.std b k).o.price, .int .i64 (Mk.std b k).o.qty] 123)
        simpa using h
      · intro gg cap' w1 hown1 hgrow hat hlt1
        have HO1 := (show Hid _ from hown1)
        have HB1 : Hid (Below W0.heap.size W0 w1) := Below.grown ((HA.out _).alloc (by simp; omega) _) hgrow (by simp; omega) (fun j hj => own_ge hr j hj)
        clear hown1 hgrow hat hr
        go_wp2
        go_roundw
        case rel => exact ⟨k + 1, by omega, by go_num, by rw [HE.out]; exact HO1.out, HB1.out⟩
        case measure => simp [intOf]; omega
    · obtain rfl : k = b.length := by omega
      have hol := HOl.out
      rw [← hol] at hr
      obtain ⟨la, lc, hlv, hRd⟩ := rd_of_own hr
      rw [hol] at hlv
      subst hlv
      have HRd : Hid (Rd wr la (Mk.ords b)) := hRd
      have HRr : Hid (wr.rowIs w.heap.size 179 4 (fun i => (#[.slice none 0 0, .int .i64 0, .int .i64 0, .int .i64 0] : Array Value).getD i undef)) := HRz.out.of_block (Hb.out.block _ HRz.out.lt)
      clear hRd hr
      have c0 : wr.cell? ⟨p, o, none⟩ = some (.int .i64 (mdI md)) := (HBw.out.cell (p := ⟨p, o, none⟩) hpl).trans HMd.out
      have hzl := HRr.out.lt
      cases md
      · have c0' : wr.cell? ⟨p, o, none⟩ = some (.int .i64 0) := c0
        clear c0
        go_wp2_with fail
        have hC := uniform_any la lc (Mk.ords b) wr H20.out HRd.out
        rw [hol] at hC
        refine hC.mono ?_
        clear hC
        rintro e w2 ⟨g2, rfl, hg2, hb2, hrow2⟩
        have HB2 : Hid (Below wr.heap.size wr w2) := hb2
        have HRw : Hid (w2.rowIs g2 3 (Mk.ords b).length (fun i => .int .i64 (Mk.uni (Mk.ords b) i))) := (by rw [hol]; exact hrow2 : w2.rowIs g2 3 (Mk.ords b).length (fun i => .int .i64 (Mk.uni (Mk.ords b) i)))
        clear hb2 hrow2 c0'
        go_wp2_with fail
        have hC := bought_any la lc g2 b.length (Mk.ords b) (Mk.uni (Mk.ords b)) w2 (by omega) (HRd.out.below HB2.out) HRw.out HFb.out
        rw [hol] at hC
        refine hC.mono ?_
        clear hC
        rintro e w3 ⟨rfl, hb3⟩
        have hb23 : Below wr.heap.size wr w3 := HB2.out.trans (hb3.mono HB2.out.size)
        have HB3 : Hid (Below w.heap.size w w3) := HBw.out.trans (hb23.mono HBw.out.size)
        have HR3 : Hid (w3.rowIs w.heap.size 179 4 (fun i => (#[.slice none 0 0, .int .i64 0, .int .i64 0, .int .i64 0] : Array Value).getD i undef)) := HRr.out.of_block (hb23.block _ HRr.out.lt)
        have HRw3 : Hid (w3.rowIs g2 3 b.length (fun i => .int .i64 (Mk.uni (Mk.ords b) i))) := (by have h := HRw.out.of_block (hb3.block _ HRw.out.lt); rw [hol] at h; exact h : w3.rowIs g2 3 b.length (fun i => .int .i64 (Mk.uni (Mk.ords b) i)))
        have HV : Hid (Mk.sideSum (Mk.ords b) false (Mk.uni (Mk.ords b)) = Mk.clV false (Mk.ords b)) := HFi.out.side false
        have hgw : w.heap.size < g2 := by have := hg2; omega
        clear hb3 hb23
        have n0 := HR3.out.cell (i := 0) (by omega)
        have n1 := HR3.out.cell (i := 1) (by omega)
        have n2 := HR3.out.cell (i := 2) (by omega)
        have n3 := HR3.out.cell (i := 3) (by omega)
        have y0 := HR3.out.frozen 0
        have y1 := HR3.out.frozen 1
        have y2 := HR3.out.frozen 2
        have y3 := HR3.out.frozen 3
        rw [HV.out]
        go_wp2_with fail
        refine bodyPost_ret (v := .tuple #[trV (some ⟨g2, 0, none⟩) b.length b.length (Mk.clV false (Mk.ords b)) (Mk.price (Mk.ords b)) (Mk.price (Mk.ords b)), .int .i64 0]) ?_ rfl ⟨g2, rfl, by omega, ?_, ?_⟩
        · simp [results, Tryz.results123, go_sem, n0, n1, n2, n3]
        · iterate 4 (refine below_at ?_ _ _)
          exact HB3.out
        · iterate 4 (refine World.rowIs.of_block ?_ (Below.heap_setCell _ _ _ _ (by show g2 ≠ w.heap.size; omega)))
          exact HRw3.out
      · have c0' : wr.cell? ⟨p, o, none⟩ = some (.int .i64 1) := c0
        clear c0
        go_wp2_with fail
        have hC := mcafee_any la lc (Mk.ords b) wr (H1.out (by first | rfl | trivial)) HRd.out
        rw [hol] at hC
        refine hC.mono ?_
        clear hC
        rintro e w2 ⟨g2, rfl, hg2, hb2, hrow2⟩
        have HB2 : Hid (Below wr.heap.size wr w2) := hb2
        have HRw : Hid (w2.rowIs g2 3 (Mk.ords b).length (fun i => .int .i64 (Mk.mcF (Mk.ords b) i))) := hrow2
        clear hb2 hrow2 c0'
        rw [hol]
        go_wp2_with fail
        have hC := bought_any la lc g2 b.length (Mk.ords b) (Mk.mcF (Mk.ords b)) w2 (by omega) (HRd.out.below HB2.out) HRw.out HFb.out
        rw [hol] at hC
        refine hC.mono ?_
        clear hC
        rintro e w3 ⟨rfl, hb3⟩
        have hb23 : Below wr.heap.size wr w3 := HB2.out.trans (hb3.mono HB2.out.size)
        have HB3 : Hid (Below w.heap.size w w3) := HBw.out.trans (hb23.mono HBw.out.size)
        have HR3 : Hid (w3.rowIs w.heap.size 179 4 (fun i => (#[.slice none 0 0, .int .i64 0, .int .i64 0, .int .i64 0] : Array Value).getD i undef)) := HRr.out.of_block (hb23.block _ HRr.out.lt)
        have HRw3 : Hid (w3.rowIs g2 3 b.length (fun i => .int .i64 (Mk.mcF (Mk.ords b) i))) := (by have h := HRw.out.of_block (hb3.block _ HRw.out.lt); rw [hol] at h; exact h : w3.rowIs g2 3 b.length (fun i => .int .i64 (Mk.mcF (Mk.ords b) i)))
        have HV : Hid (Mk.sideSum (Mk.ords b) false (Mk.mcF (Mk.ords b)) = Mk.clV true (Mk.ords b)) := HFi.out.side false
        have hgw : w.heap.size < g2 := by have := hg2; omega
        clear hb3 hb23
        have n0 := HR3.out.cell (i := 0) (by omega)
        have n1 := HR3.out.cell (i := 1) (by omega)
        have n2 := HR3.out.cell (i := 2) (by omega)
        have n3 := HR3.out.cell (i := 3) (by omega)
        have y0 := HR3.out.frozen 0
        have y1 := HR3.out.frozen 1
        have y2 := HR3.out.frozen 2
        have y3 := HR3.out.frozen 3
        rw [HV.out]
        go_wp2_with fail
        refine bodyPost_ret (v := .tuple #[trV (some ⟨g2, 0, none⟩) b.length b.length (Mk.clV true (Mk.ords b)) (Mk.mcPay (Mk.ords b)) (Mk.mcGet (Mk.ords b)), .int .i64 0]) ?_ rfl ⟨g2, rfl, by omega, ?_, ?_⟩
        · simp [results, Tryz.results123, go_sem, n0, n1, n2, n3]
        · iterate 4 (refine below_at ?_ _ _)
          exact HB3.out
        · iterate 4 (refine World.rowIs.of_block ?_ (Below.heap_setCell _ _ _ _ (by show g2 ≠ w.heap.size; omega)))
          exact HRw3.out

end Go.Proofs.YtmebcdpdpcpnmaaGreatDoor
