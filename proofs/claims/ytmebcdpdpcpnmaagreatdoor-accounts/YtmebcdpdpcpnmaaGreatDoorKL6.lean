import Derived.Test.YtmebcdpdpcpnmaaGreatDoorKL5
namespace Go.Proofs.YtmebcdpdpcpnmaaGreatDoor
open Go.RowKit

set_option maxRecDepth 100000 in
set_option maxHeartbeats 2000000 in
theorem lists_write {G : Gst} (B : Nat) (o : Outs) (vo vw : Value) (m a b : Int) (s : ByteArray) (oa : Option Addr) (n cap : Nat) (w : World) (hm : o.m ≤ 1048576) (hS : St G w B o vo vw)
    (ha1 : -9223372036854775808 ≤ a) (ha2 : a ≤ 9223372036854775807) (hb1 : -9223372036854775808 ≤ b) (hb2 : b ≤ 9223372036854775807) :
    Calls Tryz.prog 15 #[.pointer (some ⟨B, 0, none⟩), opV 3 m a b s oa n cap] w fun e w' => Left G w B o e w' := by
  obtain ⟨ao, co, rfl⟩ := own_form hS.pt.own1
  obtain ⟨aw, cw, rfl⟩ := own_form hS.pt.own2
  have HS : Hid (St G w B o (.slice ao o.m co) (.slice aw o.m cw)) := hS
  have hBw := hS.lt
  have c1 := hS.pt.c1
  clear hS
  have HB1 : Hid (∀ ob, Below w.heap.size w (w.alloc ob)) := fun ob => (Below.refl _ _).alloc (Nat.le_refl _) _
  by_cases h0 : o.m = 0
  · have h0' : ¬ (0 : Int) < (o.m : Int) := by omega
    clear h0
    go_enter Tryz.func15, Tryz.ntmps15
    go_wp2
    go_ret
    exact ⟨rfl, o, _, _, by omega, HS.out.below (HB1.out _), (HB1.out _).mono (by omega)⟩
  · have h0' : (0 : Int) < (o.m : Int) := by omega
    obtain ⟨k, hk, hpk⟩ := pick_fix a o.m ha1 ha2 (by omega) (by omega)
    have hpos := HS.out.pos k hk
    obtain ⟨i, hi, hpi⟩ := pick_fix b (o.n k) hb1 hb2 (by omega) (by omega)
    have HK : Hid (∀ w, Calls Tryz.prog 21 #[.int .i64 a, .int .i64 o.m] w fun e w' => e = .returned (.int .i64 k) ∧ w' = w) := hpk
    have HI : Hid (∀ w, Calls Tryz.prog 21 #[.int .i64 b, .int .i64 (o.n k)] w fun e w' => e = .returned (.int .i64 i) ∧ w' = w) := hpi
    clear hpk hpi h0 ha1 ha2 hb1 hb2
    obtain ⟨go, rfl⟩ := own_some HS.out.pt.own1 (by omega)
    obtain ⟨gw, rfl⟩ := own_some HS.out.pt.own2 (by omega)
    have hk' : (k : Int) < (o.m : Int) := by omega
    have hi' : (i : Int) < (o.n k : Int) := by omega
    have l5 : B < o.g k := HS.out.lo k hk
    have l6 : o.g k < o.h k := HS.out.gh k hk
    go_enter Tryz.func15, Tryz.ntmps15
    go_wp2
    go_quiet ((go_at_call 21; exact Calls.quiet_of_same (HK.out _)))
    go_wp2_with fail
    have HB : Hid (Below w.heap.size w ((w.alloc (.cells #[.int .i64 3, .int .i64 m, .int .i64 a, .int .i64 b, .string s, .slice oa n cap] 33)).drewN nq)) := below_drewN (HB1.out _) nq
    have x1 : ((w.alloc (.cells #[.int .i64 3, .int .i64 m, .int .i64 a, .int .i64 b, .string s, .slice oa n cap] 33)).drewN nq).cell? ⟨w.heap.size, 1, none⟩ = some (.int .i64 m) := by simp
    have x3 : ((w.alloc (.cells #[.int .i64 3, .int .i64 m, .int .i64 a, .int .i64 b, .string s, .slice oa n cap] 33)).drewN nq).cell? ⟨w.heap.size, 3, none⟩ = some (.int .i64 b) := by simp
    generalize (w.alloc (.cells #[.int .i64 3, .int .i64 m, .int .i64 a, .int .i64 b, .string s, .slice oa n cap] 33)).drewN nq = W1 at *
    have HS1 : Hid (St G W1 B o (.slice (some ⟨go, 0, none⟩) o.m co) (.slice (some ⟨gw, 0, none⟩) o.m cw)) := HS.out.below HB.out
    clear c1
    have c1 := HS1.out.pt.c1
    have d1 := HS1.out.cellO hk
    go_quiet ((go_at_call 21; exact Calls.quiet_of_same (HI.out _)))
    go_wp2_with fail
    have HB2 : Hid (Below w.heap.size w (W1.drewN nq)) := below_drewN HB.out nq
    have x2 : (W1.drewN nq).cell? ⟨w.heap.size, 1, none⟩ = some (.int .i64 m) := by simpa using x1
    generalize W1.drewN nq = W2 at *
    have HS2 : Hid (St G W2 B o (.slice (some ⟨go, 0, none⟩) o.m co) (.slice (some ⟨gw, 0, none⟩) o.m cw)) := HS.out.below HB2.out
    clear c1 d1 x1 x3
    have c1 := HS2.out.pt.c1
    have d1 := HS2.out.cellO hk
    have e1 := (HS2.out.rg k hk).cell hi
    have z1 := (HS2.out.rg k hk).frozen i
    go_region
    have HSf : Hid (St G ((W2.setCell ⟨o.g k, i, none⟩ (.int .i64 m)).drew.setCell ⟨o.h k, i, none⟩ (.int .i64 m)) B (o.put k i m) (.slice (some ⟨go, 0, none⟩) o.m co) (.slice (some ⟨gw, 0, none⟩) o.m cw)) := (HS2.out.put hk m).below (w' := ((W2.setCell ⟨o.g k, i, none⟩ (.int .i64 m)).setCell ⟨o.h k, i, none⟩ (.int .i64 m)).drew) (Below.refl _ _).drew
    have HBf : Hid (Below B w ((W2.setCell ⟨o.g k, i, none⟩ (.int .i64 m)).drew.setCell ⟨o.h k, i, none⟩ (.int .i64 m))) := (((HB2.out.mono (by omega)).setCell (by show B ≤ o.g k; omega) _).drew).setCell (by show B ≤ o.h k; omega) _
    have hP := HS2.out.put1 (i := i) hk m
    have c2 : (W2.setCell ⟨o.g k, i, none⟩ (.int .i64 m)).drew.cell? ⟨B, 2, none⟩ = some (.slice (some ⟨gw, 0, none⟩) o.m cw) := hP.c2
    have d2 : (W2.setCell ⟨o.g k, i, none⟩ (.int .i64 m)).drew.cell? ⟨gw, k, none⟩ = some (.slice (some ⟨o.h k, 0, none⟩) (o.n k) (o.n k)) := (hP.own2.cellAt k (by omega)).trans (sls_get _ _ hk)
    have hR : (W2.setCell ⟨o.g k, i, none⟩ (.int .i64 m)).drew.rowIs (o.h k) 3 (o.n k) (fun j => .int .i64 (o.F k j)) := ((HS2.out.rh k hk).setOther (by show o.h k ≠ o.g k; omega) _).drew
    have e2 := hR.cell hi
    have z2 := hR.frozen i
    have l1 : o.g k < w.heap.size := (HS.out.rg k hk).lt
    have x4 : (W2.setCell ⟨o.g k, i, none⟩ (.int .i64 m)).drew.cell? ⟨w.heap.size, 1, none⟩ = some (.int .i64 m) := cell_set_ne (by omega) x2
    clear hP hR c1 d1 e1 z1 x2
    generalize (W2.setCell ⟨o.g k, i, none⟩ (.int .i64 m)).drew = W3 at *
    go_wp2_with fail
    go_region
    go_wp2
    go_ret
    exact ⟨rfl, o.put k i m, _, _, by show o.m ≤ o.m + 1; omega, HSf.out.below (Below.refl _ _).drew, HBf.out.drew⟩

end Go.Proofs.YtmebcdpdpcpnmaaGreatDoor
