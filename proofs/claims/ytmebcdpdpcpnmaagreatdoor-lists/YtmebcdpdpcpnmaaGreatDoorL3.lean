import Derived.Test.YtmebcdpdpcpnmaaGreatDoorL2
import Derived.Deep.Cut
namespace Go.Proofs.YtmebcdpdpcpnmaaGreatDoor
open Go.RowKit

set_option maxRecDepth 100000 in
set_option maxHeartbeats 2000000 in
theorem keep_none (B : Nat) (a : Option Addr) (w : World) :
    Calls Tryz.prog 25 #[.pointer (some ⟨B, 0, none⟩), .slice a 0 0] w fun e w' => e = .returned (.tuple #[]) ∧ w' = w := by
  go_enter Tryz.func25, Tryz.ntmps25
  go_wp2
  (try simp only [Exit.inBlock, Exit.then]); refine bodyPost_ret (results_none rfl _ _ _) rfl ?_
  exact ⟨rfl, rfl⟩

set_option maxRecDepth 100000 in
set_option maxHeartbeats 2000000 in
theorem keep_some {G : Gst} (B g n : Nat) (o : Outs) (vo vw : Value) (F : Nat → Int) (w : World) (hS : St G w B o vo vw) (hrow : w.rowIs g 3 n (fun j => .int .i64 (F j))) (hn : 1 ≤ n ∧ n ≤ 12) (hB : B < g) (hnew : ∀ i, i < o.m → o.h i < g) (hm : o.m ≤ 1048576) (hX : ¬ G.X g) :
    Calls Tryz.prog 25 #[.pointer (some ⟨B, 0, none⟩), .slice (some ⟨g, 0, none⟩) n n] w fun e w' => e = .returned (.tuple #[]) ∧ ∃ vo' vw', St G w' B (o.push g w.heap.size n F) vo' vw' ∧ Below B w w' := by
  obtain ⟨i0, hi0, hz0, hz1, hz2⟩ := info_parts Tryz.infoInts
  have HS : Hid (St G w B o vo vw) := hS
  have HN : Hid (∀ i, i < o.m → o.h i < g) := hnew
  have HX2 : Hid (¬ G.X g ∧ ¬ G.X w.heap.size) := ⟨hX, fun h => by have := (hS.pt.gst _ h).1; omega⟩
  clear hX
  have hmk := run_make_row' (P := Tryz.prog) 53 3 (.int .i64 0) 8 Tryz.underlying53 Tryz.infoInt rfl .i64 .i64 n (by omega) (by omega)
  have hn0 : ((n : Int) == 0) = false := by simp; omega
  have hW1 : Below w.heap.size w (w.alloc (.cells (madeCells #[.int .i64 0] n) 3)) := (Below.refl _ _).alloc (Nat.le_refl _) _
  obtain ⟨W2, hcp, hb2, hrh⟩ := copy_ints (w.alloc (.cells (madeCells #[.int .i64 0] n) 3)) w.heap.size g n (fun _ => .int .i64 0) F (World.rowIs_made w (.int .i64 0) n 3) (row_below hrow hW1 hrow.lt)
  have HB2 : Hid (Below w.heap.size w W2) := hW1.trans (hb2 _ (Nat.le_refl _))
  have HRg : Hid (W2.rowIs g 3 n (fun j => .int .i64 (F j))) := row_below hrow HB2.out hrow.lt
  have HRh : Hid (W2.rowIs w.heap.size 3 n (fun j => .int .i64 (F j))) := hrh
  have hgw : g < w.heap.size := hrow.lt
  have hS2 : St G W2 B o vo vw := hS.below HB2.out
  have HS2 : Hid (St G W2 B o vo vw) := hS2
  have hBw : B < W2.heap.size := hS2.pt.lt
  have k1 := hS2.pt.c1
  clear hS hnew hW1 hb2 hrh hrow
  go_enter Tryz.func25, Tryz.ntmps25
  go_upto_region 4 with fail
  have HPA : Hid (Pt G (W2.alloc (.cells #[.slice (some ⟨g, 0, none⟩) n n] 53)) B vo o.m (sls o.g o.n o.m) vw o.m (sls o.h o.n o.m)) := HS2.out.pt.alloc _
  clear hmk hcp
  go_upto_region 5 with (at_builtin; (refine wpList_append_lies _ rfl _ _ _ rfl (B + 1) 53 i0 _ 1 24 Tryz.underlying28 hi0 hz0 hz1 hz2 rfl (by omega) vo o.m (sls o.g o.n o.m) rfl HPA.out.own1 ⟨W2.heap.size, 0, none⟩ 1 1 [.slice (some ⟨g, 0, none⟩) n n] rfl rfl (World.news_of_block (cs := #[.slice (some ⟨g, 0, none⟩) n n]) (t := 53) (fr := (0, 0)) (heap_alloc_new W2 _)) (by simp [Value.oneCell']) (by omega) (by unfold maxLen; omega) (by omega) (by simp; omega) (W2.heap.size + 1) (by simp) ?_; intro g3 cap3 w3 hown3 hgrow3 hat3 hlt3))
  obtain ⟨q1, q2, q3, q4⟩ := HPA.out.mid1 hgrow3
  have HP3 : Hid (Pt G (w3.setCell ⟨B, 1, none⟩ (.slice (some ⟨g3, 0, none⟩) (o.m + 1) cap3)) B (.slice (some ⟨g3, 0, none⟩) (o.m + 1) cap3) (o.m + 1) (sls o.g o.n o.m ++ [.slice (some ⟨g, 0, none⟩) n n]) vw o.m (sls o.h o.n o.m)) := HPA.out.app1 hgrow3 hown3 (by simpa using hat3)
  have HO1 : Hid ((W2.alloc (.cells #[.slice (some ⟨g, 0, none⟩) n n] 53)).ownsRow (B + 1) 53 1 vo o.m (sls o.g o.n o.m)) := HPA.out.own1
  have HG3 : Hid ((W2.alloc (.cells #[.slice (some ⟨g, 0, none⟩) n n] 53)).grownBy w3 vo.ownBlock) := hgrow3
  have HR3 : Hid (∀ b k (f : Nat → Value), W2.rowIs b 3 k f → B < b → (w3.setCell ⟨B, 1, none⟩ (.slice (some ⟨g3, 0, none⟩) (o.m + 1) cap3)).rowIs b 3 k f) := fun b k f h hb => (row_grown (h.alloc _) HO1.out HG3.out).setOther (by show b ≠ B; omega) _
  have HB3 : Hid (Below B w (w3.setCell ⟨B, 1, none⟩ (.slice (some ⟨g3, 0, none⟩) (o.m + 1) cap3))) := by
    have hb0 : Below B w (W2.alloc (.cells #[.slice (some ⟨g, 0, none⟩) n n] 53)) := (HB2.out.mono (by omega)).alloc (by omega) _
    have hb1 : Below B w w3 := Below.grown hb0 HG3.out (by simp; omega) (fun k hk => by have := (HO1.out.lt k hk).1; omega)
    exact hb1.setCell (Nat.le_refl _) _
  clear hown3 hgrow3 hat3 k1 HPA HO1 HG3
  go_upto_region 6 with fail
  have hlt3' : B < (w3.setCell ⟨B, 1, none⟩ (.slice (some ⟨g3, 0, none⟩) (o.m + 1) cap3)).heap.size := HP3.out.lt
  generalize w3.setCell ⟨B, 1, none⟩ (.slice (some ⟨g3, 0, none⟩) (o.m + 1) cap3) = W3 at *
  clear q1 q2 q3 q4
  have k2 := HP3.out.c2
  have HPB : Hid (Pt G (W3.alloc (.cells #[.slice (some ⟨w.heap.size, 0, none⟩) n n] 53)) B (.slice (some ⟨g3, 0, none⟩) (o.m + 1) cap3) (o.m + 1) (sls o.g o.n o.m ++ [.slice (some ⟨g, 0, none⟩) n n]) vw o.m (sls o.h o.n o.m)) := HP3.out.alloc _
  go_upto_region 7 with (at_builtin; (refine wpList_append_lies _ rfl _ _ _ rfl (B + 1) 53 i0 _ 1 24 Tryz.underlying28 hi0 hz0 hz1 hz2 rfl (by omega) vw o.m (sls o.h o.n o.m) rfl HPB.out.own2 ⟨W3.heap.size, 0, none⟩ 1 1 [.slice (some ⟨w.heap.size, 0, none⟩) n n] rfl rfl (World.news_of_block (cs := #[.slice (some ⟨w.heap.size, 0, none⟩) n n]) (t := 53) (fr := (0, 0)) (heap_alloc_new W3 _)) (by simp [Value.oneCell']) (by omega) (by unfold maxLen; omega) (by omega) (by simp; omega) (W3.heap.size + 1) (by simp) ?_; intro g4 cap4 w4 hown4 hgrow4 hat4 hlt4))
  obtain ⟨q1, q2, q3, q4⟩ := HPB.out.mid2 hgrow4
  have HP4 : Hid (Pt G (w4.setCell ⟨B, 2, none⟩ (.slice (some ⟨g4, 0, none⟩) (o.m + 1) cap4)) B (.slice (some ⟨g3, 0, none⟩) (o.m + 1) cap3) (o.m + 1) (sls o.g o.n o.m ++ [.slice (some ⟨g, 0, none⟩) n n]) (.slice (some ⟨g4, 0, none⟩) (o.m + 1) cap4) (o.m + 1) (sls o.h o.n o.m ++ [.slice (some ⟨w.heap.size, 0, none⟩) n n])) := HPB.out.app2 hgrow4 hown4 (by simpa using hat4)
  have HR4 : Hid (∀ b k (f : Nat → Value), W2.rowIs b 3 k f → B < b → (w4.setCell ⟨B, 2, none⟩ (.slice (some ⟨g4, 0, none⟩) (o.m + 1) cap4)).rowIs b 3 k f) := fun b k f h hb => (row_grown ((HR3.out b k f h hb).alloc _) HPB.out.own2 hgrow4).setOther (by show b ≠ B; omega) _
  have HB4 : Hid (Below B w (w4.setCell ⟨B, 2, none⟩ (.slice (some ⟨g4, 0, none⟩) (o.m + 1) cap4))) := by
    have hb0 : Below B w (W3.alloc (.cells #[.slice (some ⟨w.heap.size, 0, none⟩) n n] 53)) := HB3.out.alloc (by omega) _
    have hb1 : Below B w w4 := Below.grown hb0 hgrow4 (by simp; omega) (fun k hk => by have := (HPB.out.own2.lt k hk).1; omega)
    exact hb1.setCell (Nat.le_refl _) _
  clear hown4 hgrow4 hat4 k2
  go_wp2
  go_end0
  refine ⟨rfl, _, _, St.push HP4.out (fun i hi => HR4.out _ _ _ (HS2.out.rg i hi) (HS2.out.lo i hi)) (fun i hi => HR4.out _ _ _ (HS2.out.rh i hi) ?_) (HR4.out _ _ _ HRg.out hB) (HR4.out _ _ _ HRh.out ?_) HS2.out.pos HS2.out.lo HS2.out.gh HS2.out.hg hn hB hgw HN.out HS2.out.gx HX2.out, HB4.out⟩
  · have := HS2.out.lo i hi
    have := HS2.out.gh i hi
    omega
  · omega

end Go.Proofs.YtmebcdpdpcpnmaaGreatDoor
