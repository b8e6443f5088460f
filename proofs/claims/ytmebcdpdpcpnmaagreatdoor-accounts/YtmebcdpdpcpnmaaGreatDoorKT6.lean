import Derived.Test.YtmebcdpdpcpnmaaGreatDoorKT5
import Derived.Test.YtmebcdpdpcpnmaaGreatDoorKR25
namespace Go.Proofs.YtmebcdpdpcpnmaaGreatDoor
open Go.RowKit

section
variable {E : Ext} {D : Mk.Mkt → ByteArray → ByteArray × Int × Mk.Mkt} {Inv : Mk.Mkt → Nat → Prop} {Ok : ByteArray → Prop}

set_option maxRecDepth 100000 in
set_option maxHeartbeats 4000000 in
theorem step_call (hD : Doing D Inv Ok) (B : Nat) (vm : Value) (s : Mks) (k : Nat) (kind m a b : Int) (t : ByteArray) (oa : Option Addr) (n cap : Nat) (w : World) (h5 : 5 ≤ kind) (h7 : kind ≤ 8) (hk : k < 1048576) (hm : s.m ≤ k) (hm1 : -9223372036854775808 ≤ m) (hm2 : m ≤ 9223372036854775807) (hT : Tab w)
    (hS : Sm E w B vm s) (hI : ∀ i, i < s.m → s.Mp i = s.Mr i ∧ Inv (s.Mp i) k)
    (hC : ∀ i, i < s.m → ∀ W, Sm E W B vm s → Tab W → Calls Tryz.prog 22 #[.pointer (some ⟨s.q i, 0, none⟩), opV kind m a b t oa n cap] W fun e w' => Lm E Inv W B k e w') :
    Calls Tryz.prog 12 #[.pointer (some ⟨B, 0, none⟩), opV kind m a b t oa n cap] w fun e w' => Lm E Inv w B k e w' := by
  obtain ⟨ao, co, rfl⟩ := own_form hS.own
  have HIF : Hid (∀ j, j < s.m → s.Mp j = s.Mr j ∧ Inv (s.Mp j) (k + 1)) := fun j hj => ⟨(hI j hj).1, hD.up _ _ (hI j hj).2⟩
  have HC : Hid (∀ i, i < s.m → ∀ W, Sm E W B (.slice ao s.m co) s → Tab W → Calls Tryz.prog 22 #[.pointer (some ⟨s.q i, 0, none⟩), opV kind m a b t oa n cap] W fun e w' => Lm E Inv W B k e w') := hC
  have HB1 : Hid (Below w.heap.size w (w.alloc (opO kind m a b t oa n cap))) := (Below.refl _ _).alloc (Nat.le_refl _) _
  have HS1 : Hid (Sm E (w.alloc (opO kind m a b t oa n cap)) B (.slice ao s.m co) s) := hS.below HB1.out
  have HT1 : Hid (Tab (w.alloc (opO kind m a b t oa n cap))) := hT.next HB1.out
  have hBw := hS.lt
  have x0 : (w.alloc (opO kind m a b t oa n cap)).cell? ⟨w.heap.size, 0, none⟩ = some (.int .i64 kind) := by simp
  have x1 : (w.alloc (opO kind m a b t oa n cap)).cell? ⟨w.heap.size, 1, none⟩ = some (.int .i64 m) := by simp
  have x2 : (w.alloc (opO kind m a b t oa n cap)).cell? ⟨w.heap.size, 2, none⟩ = some (.int .i64 a) := by simp
  have x3 : (w.alloc (opO kind m a b t oa n cap)).cell? ⟨w.heap.size, 3, none⟩ = some (.int .i64 b) := by simp
  have x4 : (w.alloc (opO kind m a b t oa n cap)).cell? ⟨w.heap.size, 4, none⟩ = some (.string t) := by simp
  have x5 : (w.alloc (opO kind m a b t oa n cap)).cell? ⟨w.heap.size, 5, none⟩ = some (.slice oa n cap) := by simp
  have k1 : ¬ kind < 1 := by omega
  have k1' : (1 : Int) ≤ kind := by omega
  have k3 : ¬ kind ≤ 3 := by omega
  have k4 : (kind == 4) = false := by rw [beq_eq_false_iff_ne]; omega
  have k9 : (kind == 9) = false := by rw [beq_eq_false_iff_ne]; omega
  have k4' : ¬ kind < 4 := by omega
  have k9' : ¬ (9 : Int) < kind := by omega
  clear hI hS hD hT hC h5 h7
  by_cases h0 : s.m = 0
  · have h0' : ((s.m : Int) == 0) = true := by rw [beq_iff_eq]; omega
    clear h0
    have c0 := HS1.out.c0
    go_enter Tryz.func12, Tryz.ntmps12
    go_upto_region 1 with fail
    generalize w.alloc (opO kind m a b t oa n cap) = W1 at *
    go_wp2_with fail
    go_ret
    exact ⟨rfl, _, s, HS1.out, HIF.out, by omega, HB1.out.mono (by omega)⟩
  · have h0' : ((s.m : Int) == 0) = false := by rw [beq_eq_false_iff_ne]; omega
    have hmp : 0 < s.m := by omega
    obtain ⟨i, hi, hpk⟩ := pick_fix m s.m hm1 hm2 (by omega) (by omega)
    have HPk : Hid (∀ w, Calls Tryz.prog 21 #[.int .i64 m, .int .i64 s.m] w fun e w' => e = .returned (.int .i64 i) ∧ w' = w) := hpk
    obtain ⟨g, rfl⟩ := own_some HS1.out.own hmp
    have c0 := HS1.out.c0
    have cg : (w.alloc (opO kind m a b t oa n cap)).cell? ⟨g, i, none⟩ = some (.pointer (some ⟨s.q i, 0, none⟩)) := by rw [HS1.out.own.cellAt i (by omega), ptrs_get _ hi]
    have hi' : (i : Int) < (s.m : Int) := by omega
    clear h0 hpk hm1 hm2
    go_enter Tryz.func12, Tryz.ntmps12
    go_upto_region 1 with fail
    generalize w.alloc (opO kind m a b t oa n cap) = W1 at *
    go_upto_region 21 with fail
    have hgl := blk_lt cg
    have hBl := blk_lt c0
    have hxl := blk_lt x0
    have e0 : ∀ u : Wof (Below W1.heap.size W1), u.val.cell? ⟨B, 0, none⟩ = some (.slice (some ⟨g, 0, none⟩) s.m co) := fun u => (u.ok.cell (p := ⟨B, 0, none⟩) hBl).trans c0
    have eg : ∀ u : Wof (Below W1.heap.size W1), u.val.cell? ⟨g, i, none⟩ = some (.pointer (some ⟨s.q i, 0, none⟩)) := fun u => (u.ok.cell (p := ⟨g, i, none⟩) hgl).trans cg
    have y0 : ∀ u : Wof (Below W1.heap.size W1), u.val.cell? ⟨w.heap.size, 0, none⟩ = some (.int .i64 kind) := fun u => (u.ok.cell (p := ⟨w.heap.size, 0, none⟩) hxl).trans x0
    have y1 : ∀ u : Wof (Below W1.heap.size W1), u.val.cell? ⟨w.heap.size, 1, none⟩ = some (.int .i64 m) := fun u => (u.ok.cell (p := ⟨w.heap.size, 1, none⟩) hxl).trans x1
    have y2 : ∀ u : Wof (Below W1.heap.size W1), u.val.cell? ⟨w.heap.size, 2, none⟩ = some (.int .i64 a) := fun u => (u.ok.cell (p := ⟨w.heap.size, 2, none⟩) hxl).trans x2
    have y3 : ∀ u : Wof (Below W1.heap.size W1), u.val.cell? ⟨w.heap.size, 3, none⟩ = some (.int .i64 b) := fun u => (u.ok.cell (p := ⟨w.heap.size, 3, none⟩) hxl).trans x3
    have y4 : ∀ u : Wof (Below W1.heap.size W1), u.val.cell? ⟨w.heap.size, 4, none⟩ = some (.string t) := fun u => (u.ok.cell (p := ⟨w.heap.size, 4, none⟩) hxl).trans x4
    have y5 : ∀ u : Wof (Below W1.heap.size W1), u.val.cell? ⟨w.heap.size, 5, none⟩ = some (.slice oa n cap) := fun u => (u.ok.cell (p := ⟨w.heap.size, 5, none⟩) hxl).trans x5
    have hne : Nonempty (Wof (Below W1.heap.size W1)) := ⟨⟨W1, Below.refl _ _⟩⟩
    clear c0 cg x0 x1 x2 x3 x4 x5 hgl hBl hxl
    refine wp_region_two_lit (S := Below W1.heap.size W1) (by simp) (by simp) (by kernel_rfl) (by kernel_rfl) (Below.refl _ _).drew ?_
    simp only [List.dropLast, List.getLast]
    repeat (quiet_step ((rename_i u; refine (HPk.out _).mono ?_; rintro e w3 ⟨rfl, rfl⟩; exact ⟨rfl, u, rfl⟩)))
    refine wpQuiet_nil ?_
    rintro _ ⟨u, rfl⟩
    have HCc : Hid (Calls Tryz.prog 22 #[.pointer (some ⟨s.q i, 0, none⟩), opV kind m a b t oa n cap] u.val fun e w' => Lm E Inv u.val B k e w') := HC.out i hi u.val (HS1.out.below u.ok) (HT1.out.next u.ok)
    have HBu : Hid (Below w.heap.size w u.val) := HB1.out.trans (u.ok.mono HB1.out.size)
    unfold Oper.wp
    go_simp
    refine HCc.out.mono ?_
    rintro e w3 ⟨rfl, vm', s', hS', hI', hm', hb'⟩
    have HL : Hid (Lm E Inv w B k (.returned (.bool true)) w3) := ⟨rfl, vm', s', hS', hI', hm', (HBu.out.mono (by omega)).trans hb'⟩
    clear hS' hI' hm' hb'
    go_simp
    go_wp2_with fail
    go_ret
    exact HL.out

end

end Go.Proofs.YtmebcdpdpcpnmaaGreatDoor
