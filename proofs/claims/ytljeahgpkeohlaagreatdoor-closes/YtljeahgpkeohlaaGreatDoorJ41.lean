import Derived.Test.YtljeahgpkeohlaaGreatDoorJ40
import Derived.Test.YtljeahgpkeohlaaGreatDoorJ1
import Derived.ProofKit
import Derived.Deep.Strs
import Derived.Test.YtljeahgpkeohlaaGreatDoorJ38
import Derived.SizedLaws
import Derived.OpenShut
import Derived.ChangeOld
import Derived.Below
namespace Go.Proofs.YtljeahgpkeohlaaGreatDoor
open Go.RowKit

section
variable {D : Mk.Mkt → ByteArray → ByteArray × Int × Mk.Mkt} {Inv : Mk.Mkt → Nat → Prop} {Ok : ByteArray → Prop}

set_option maxRecDepth 100000 in
set_option maxHeartbeats 4000000 in
theorem step_call (hD : Doing D Inv Ok) (B : Nat) (vm : Value) (s : Mks) (k : Nat) (kind m a b : Int) (t : ByteArray) (oa : Option Addr) (n cap : Nat) (w : World) (h5 : 5 ≤ kind) (h7 : kind ≤ 7) (hk : k < 1048576) (hm : s.m ≤ k) (hm1 : -9223372036854775808 ≤ m) (hm2 : m ≤ 9223372036854775807) (hT : Tab w)
    (hS : Sm w B vm s) (hI : ∀ i, i < s.m → s.Mp i = s.Mr i ∧ Inv (s.Mp i) k)
    (hC : ∀ i, i < s.m → ∀ W, Sm W B vm s → Tab W → Calls Tryz.prog 20 #[.pointer (some ⟨s.q i, 0, none⟩), opV kind m a b t oa n cap] W fun e w' => Lm Inv W B k e w') :
    Calls Tryz.prog 10 #[.pointer (some ⟨B, 0, none⟩), opV kind m a b t oa n cap] w fun e w' => Lm Inv w B k e w' := by
  obtain ⟨ao, co, rfl⟩ := own_form hS.own
  have HIF : Hid (∀ j, j < s.m → s.Mp j = s.Mr j ∧ Inv (s.Mp j) (k + 1)) := fun j hj => ⟨(hI j hj).1, hD.up _ _ (hI j hj).2⟩
  have HC : Hid (∀ i, i < s.m → ∀ W, Sm W B (.slice ao s.m co) s → Tab W → Calls Tryz.prog 20 #[.pointer (some ⟨s.q i, 0, none⟩), opV kind m a b t oa n cap] W fun e w' => Lm Inv W B k e w') := hC
  have HB1 : Hid (Below w.heap.size w (w.alloc (opO kind m a b t oa n cap))) := (Below.refl _ _).alloc (Nat.le_refl _) _
  have HS1 : Hid (Sm (w.alloc (opO kind m a b t oa n cap)) B (.slice ao s.m co) s) := hS.below HB1.out
  have HT1 : Hid (Tab (w.alloc (opO kind m a b t oa n cap))) := hT.next HB1.out
  have hBw := hS.lt
  have x0 : (w.alloc (opO kind m a b t oa n cap)).cell? ⟨w.heap.size, 0, none⟩ = some (.int .i64 kind) := by simp
  have x1 : (w.alloc (opO kind m a b t oa n cap)).cell? ⟨w.heap.size, 1, none⟩ = some (.int .i64 m) := by simp
  have x2 : (w.alloc (opO kind m a b t oa n cap)).cell? ⟨w.heap.size, 2, none⟩ = some (.int .i64 a) := by simp
  have x3 : (w.alloc (opO kind m a b t oa n cap)).cell? ⟨w.heap.size, 3, none⟩ = some (.int .i64 b) := by simp
  have x4 : (w.alloc (opO kind m a b t oa n cap)).cell? ⟨w.heap.size, 4, none⟩ = some (.string t) := by simp
  have x5 : (w.alloc (opO kind m a b t oa n cap)).cell? ⟨w.heap.size, 5, none⟩ = some (.slice oa n cap) := by simp
  have k1 : ¬ kind < 1 := by omega
  have k1' : (1 : Int) ≤ kind := by omega
  have k3 : ¬ kind ≤ 3 := by omega
  have k4 : (kind == 4) = false := by rw [beq_eq_false_iff_ne]; omega
  have k9 : (kind == 9) = false := by rw [beq_eq_false_iff_ne]; omega
  have k4' : ¬ kind < 4 := by omega
  have k9' : ¬ (9 : Int) < kind := by omega
  clear hI hS hD hT hC h5 h7
  by_cases h0 : s.m = 0
  · have h0' : ((s.m : Int) == 0) = true := by rw [beq_iff_eq]; omega
    clear h0
    have c0 := HS1.out.c0
    go_enter Tryz.func10, Tryz.ntmps10
    go_upto_region 1 with fail
    generalize w.alloc (opO kind m a b t oa n cap) = W1 at *
    go_wp2_with fail
    go_ret
    exact ⟨rfl, _, s, HS1.out, HIF.out, by omega, HB1.out.mono (by omega)⟩
  · have h0' : ((s.m : Int) == 0) = false := by rw [beq_eq_false_iff_ne]; omega
    have hmp : 0 < s.m := by omega
    obtain ⟨i, hi, hpk⟩ := pick_fix m s.m hm1 hm2 (by omega) (by omega)
    have HPk : Hid (∀ w, Calls Tryz.prog 19 #[.int .i64 m, .int .i64 s.m] w fun e w' => e = .returned (.int .i64 i) ∧ w' = w) := hpk
    obtain ⟨g, rfl⟩ := own_some HS1.out.own hmp
    have c0 := HS1.out.c0
    have cg : (w.alloc (opO kind m a b t oa n cap)).cell? ⟨g, i, none⟩ = some (.pointer (some ⟨s.q i, 0, none⟩)) := by rw [HS1.out.own.cellAt i (by omega), ptrs_get _ hi]
    have hi' : (i : Int) < (s.m : Int) := by omega
    clear h0 hpk hm1 hm2
    go_enter Tryz.func10, Tryz.ntmps10
    go_upto_region 1 with fail
    generalize w.alloc (opO kind m a b t oa n cap) = W1 at *
    go_upto_region 21 with fail
    have hgl := blk_lt cg
    have hBl := blk_lt c0
    have hxl := blk_lt x0
    have e0 : ∀ u : Wof (Below W1.heap.size W1), u.val.cell? ⟨B, 0, none⟩ = some (.slice (some ⟨g, 0, none⟩) s.m co) := fun u => (u.ok.cell (p := ⟨B, 0, none⟩) hBl).trans c0
    have eg : ∀ u : Wof (Below W1.heap.size W1), u.val.cell? ⟨g, i, none⟩ = some (.pointer (some ⟨s.q i, 0, none⟩)) := fun u => (u.ok.cell (p := ⟨g, i, none⟩) hgl).trans cg
    have y0 : ∀ u : Wof (Below W1.heap.size W1), u.val.cell? ⟨w.heap.size, 0, none⟩ = some (.int .i64 kind) := fun u => (u.ok.cell (p := ⟨w.heap.size, 0, none⟩) hxl).trans x0
    have y1 : ∀ u : Wof (Below W1.heap.size W1), u.val.cell? ⟨w.heap.size, 1, none⟩ = some (.int .i64 m) := fun u => (u.ok.cell (p := ⟨w.heap.size, 1, none⟩) hxl).trans x1
    have y2 : ∀ u : Wof (Below W1.heap.size W1), u.val.cell? ⟨w.heap.size, 2, none⟩ = some (.int .i64 a) := fun u => (u.ok.cell (p := ⟨w.heap.size, 2, none⟩) hxl).trans x2
    have y3 : ∀ u : Wof (Below W1.heap.size W1), u.val.cell? ⟨w.heap.size, 3, none⟩ = some (.int .i64 b) := fun u => (u.ok.cell (p := ⟨w.heap.size, 3, none⟩) hxl).trans x3
    have y4 : ∀ u : Wof (Below W1.heap.size W1), u.val.cell? ⟨w.heap.size, 4, none⟩ = some (.string t) := fun u => (u.ok.cell (p := ⟨w.heap.size, 4, none⟩) hxl).trans x4
    have y5 : ∀ u : Wof (Below W1.heap.size W1), u.val.cell? ⟨w.heap.size, 5, none⟩ = some (.slice oa n cap) := fun u => (u.ok.cell (p := ⟨w.heap.size, 5, none⟩) hxl).trans x5
    have hne : Nonempty (Wof (Below W1.heap.size W1)) := ⟨⟨W1, Below.refl _ _⟩⟩
    clear c0 cg x0 x1 x2 x3 x4 x5 hgl hBl hxl
    refine wp_region_two_lit (S := Below W1.heap.size W1) (by simp) (by simp) (by kernel_rfl) (by kernel_rfl) (Below.refl _ _).drew ?_
    simp only [List.dropLast, List.getLast]
    repeat (quiet_step ((rename_i u; refine (HPk.out _).mono ?_; rintro e w3 ⟨rfl, rfl⟩; exact ⟨rfl, u, rfl⟩)))
    refine wpQuiet_nil ?_
    rintro _ ⟨u, rfl⟩
    have HCc : Hid (Calls Tryz.prog 20 #[.pointer (some ⟨s.q i, 0, none⟩), opV kind m a b t oa n cap] u.val fun e w' => Lm Inv u.val B k e w') := HC.out i hi u.val (HS1.out.below u.ok) (HT1.out.next u.ok)
    have HBu : Hid (Below w.heap.size w u.val) := HB1.out.trans (u.ok.mono HB1.out.size)
    unfold Oper.wp
    go_simp
    refine HCc.out.mono ?_
    rintro e w3 ⟨rfl, vm', s', hS', hI', hm', hb'⟩
    have HL : Hid (Lm Inv w B k (.returned (.bool true)) w3) := ⟨rfl, vm', s', hS', hI', hm', (HBu.out.mono (by omega)).trans hb'⟩
    clear hS' hI' hm' hb'
    go_simp
    go_wp2_with fail
    go_ret
    exact HL.out

end

end Go.Proofs.YtljeahgpkeohlaaGreatDoor

namespace Go.Proofs.YtljeahgpkeohlaaGreatDoor
open Go.RowKit

set_option maxRecDepth 100000 in
set_option maxHeartbeats 1000000 in
theorem looks_nil (B : Nat) (w : World) (hc : w.cell? ⟨B, 1, none⟩ = some (.slice none 0 0)) :
    Calls Tryz.prog 11 #[.pointer (some ⟨B, 0, none⟩)] w fun e w' => e = .returned (.bool true) ∧ w' = w := by
  go_enter Tryz.func11, Tryz.ntmps11
  go_wp2
  go_loop [3] (fun i => i = .int .i64 0) (fun i => 0)
  case atStart => rfl
  case round =>
    subst hrel
    go_wp2
    go_ret
    exact ⟨rfl, rfl⟩

theorem Sm.born (w : World) : ∃ s : Mks, s.m = 0 ∧ Sm (w.alloc (.cells #[.slice none 0 0, .slice none 0 0, .slice none 0 0] 30)) w.heap.size (.slice none 0 0) s := by
  refine ⟨⟨0, fun _ => 0, fun _ => 0, fun _ => 0, fun _ _ => .slice none 0 0, fun _ => ⟨0, 0, fun _ => 0, 0, 0, 0, 0, 0, 0, fun _ => .slice none 0 0⟩, fun _ => Mk.Mkt.new, fun _ => Mk.Mkt.new⟩, rfl, ⟨by simp, by simp [go_sem], by simp, ⟨by simp [ptrs], .inl ⟨rfl, rfl⟩⟩, ⟨?_, ?_, ?_, ?_, ?_, ?_⟩⟩⟩
  · intro i hi; exact absurd hi (Nat.not_lt_zero i)
  · intro i hi; exact absurd hi (Nat.not_lt_zero i)
  · intro i hi; exact absurd hi (Nat.not_lt_zero i)
  · intro a b ha; exact absurd ha (by show ¬ a < 2 * 0; omega)
  · intro a ha; exact absurd ha (by show ¬ a < 2 * 0; omega)
  · intro i hi; exact absurd hi (Nat.not_lt_zero i)

section
variable {D : Mk.Mkt → ByteArray → ByteArray × Int × Mk.Mkt} {Inv : Mk.Mkt → Nat → Prop} {Ok : ByteArray → Prop}

theorem stepM (hD : Doing D Inv Ok) (B : Nat) (vm : Value) (s : Mks) (k : Nat) (x : OpD) (w : World) (h4 : 4 ≤ x.kind) (h7 : x.kind ≤ 7) (hk : k < 1048576) (hm : s.m ≤ k) (hF : x.Fits) (hs : x.s.size ≤ 1048576) (hok : Ok x.s) (hT : Tab w) (hg : ∀ g, Tryz.prog.globalNamed "internal/strconv.uint64pow10" = some g → g < B)
    (hS : Sm w B vm s) (hI : ∀ i, i < s.m → s.Mp i = s.Mr i ∧ Inv (s.Mp i) k) :
    Calls Tryz.prog 10 #[.pointer (some ⟨B, 0, none⟩), opV x.kind x.m x.a x.b x.s x.oa x.os.length x.cap] w fun e w' => Lm Inv w B k e w' := by
  obtain h | h | h | h : x.kind = 4 ∨ x.kind = 5 ∨ x.kind = 6 ∨ x.kind = 7 := by omega
  · rw [h]; exact step_new hD B vm s k _ _ _ _ _ _ _ w hk hm hS hI
  · rw [h]; exact step_call hD B vm s k 5 _ _ _ _ _ _ _ w (by omega) (by omega) hk hm hF.m1 hF.m2 hT hS hI (fun i hi W hW hTW => call_do hD B vm s i k _ _ _ _ _ _ _ W hk hm hi hs hok hTW hg hW hI)
  · rw [h]; exact step_call hD B vm s k 6 _ _ _ _ _ _ _ w (by omega) (by omega) hk hm hF.m1 hF.m2 hT hS hI (fun i hi W hW hTW => call_show hD B vm s i k _ _ _ _ _ _ _ W hm hi hTW hW hI)
  · rw [h]; exact step_call hD B vm s k 7 _ _ _ _ _ _ _ w (by omega) (by omega) hk hm hF.m1 hF.m2 hT hS hI (fun i hi W hW hTW => call_last hD B vm s i k _ _ _ _ _ _ _ W hm hi hW hI)

set_option maxRecDepth 100000 in
set_option maxHeartbeats 4000000 in
theorem plays_markets (hD : Doing D Inv Ok) (a : Option Addr) (cap g cap2 : Nat) (ws : List ByteArray) (l : List OpD) (w : World) (hf : ∀ x ∈ l, x.Fits) (hR : RdOps w a l) (hT : Tab w) (hn : ws.length ≤ 100) (hw : ∀ x ∈ ws, x.size ≤ 100) (hc : ∀ i, i < ws.length → w.cell? ⟨g, i, none⟩ = some (.string (Mk.wordAt ws i))) (hgl : g < w.heap.size) (hOk : ∀ t, Mk.hasAny t ws = false → Ok t) :
    Calls Tryz.prog 7 #[.slice a l.length cap, .int .i64 4, .int .i64 7, .slice (some ⟨g, 0, none⟩) ws.length cap2] w fun e w' => e = .returned (.bool true) ∧ Below w.heap.size w w' := by
  have HF : Hid (∀ x ∈ l, x.Fits) := hf
  have HR : Hid (RdOps w a l) := hR
  have HT : Hid (Tab w) := hT
  have HD : Hid (Doing D Inv Ok) := hD
  have HW : Hid (ws.length ≤ 100 ∧ (∀ x ∈ ws, x.size ≤ 100) ∧ (∀ i, i < ws.length → w.cell? ⟨g, i, none⟩ = some (.string (Mk.wordAt ws i))) ∧ g < w.heap.size) := ⟨hn, hw, hc, hgl⟩
  have HOk : Hid (∀ t, Mk.hasAny t ws = false → Ok t) := hOk
  clear hf hR hT hD hn hw hc hgl hOk
  go_enter Tryz.func7, Tryz.ntmps7
  go_wp2_with fail
  refine (small_any a cap l _ HF.out HR.out).mono ?_
  rintro e w1 ⟨r, rfl, hsm, hb1⟩
  have HB1 : Hid (Below w.heap.size w w1) := hb1
  have HSm : Hid (SmallIs l r) := hsm
  clear hsm hb1
  cases r
  · go_wp2
    go_ret
    exact ⟨rfl, HB1.out⟩
  · obtain ⟨hlen, hos⟩ := HSm.out rfl
    have HO : Hid (∀ (i : Nat) (h : i < l.length), l[i].s.size ≤ 1048576) := fun i h => (hos i h).2
    clear hos
    have hsz := HB1.out.size
    have HG : Hid (∀ g, Tryz.prog.globalNamed "internal/strconv.uint64pow10" = some g → g < w1.heap.size) := fun g hg => Nat.lt_of_lt_of_le (HT.out.lt g hg) hsz
    go_wp2
    go_loopw [11] (fun j wr => ∃ k : Nat, k ≤ l.length ∧ j = .int .i64 k ∧ (∃ vm s, s.m ≤ k ∧ Sm wr w1.heap.size vm s ∧ ∀ i, i < s.m → s.Mp i = s.Mr i ∧ Inv (s.Mp i) k) ∧ Below w1.heap.size w1 wr) (fun j _ => l.length - (intOf j).toNat)
    case atStart =>
      obtain ⟨s, hs0, hS⟩ := Sm.born w1
      exact ⟨0, Nat.zero_le _, rfl, ⟨_, s, by omega, hS, fun i hi => by omega⟩, (Below.refl _ _).alloc (Nat.le_refl _) _⟩
    case round =>
      obtain ⟨k, hk, rfl, ⟨vm, s, hm, hS, hI⟩, hb⟩ := hrel
      have Hb : Hid (Below w1.heap.size w1 wr) := hb
      have HS : Hid (Sm wr w1.heap.size vm s) := hS
      have HI : Hid (∀ i, i < s.m → s.Mp i = s.Mr i ∧ Inv (s.Mp i) k) := hI
      have HBw : Hid (Below w.heap.size w wr) := HB1.out.trans (hb.mono hsz)
      have hBr : w1.heap.size < wr.heap.size := hS.lt
      have HUp : Hid (∀ i, i < s.m → s.Mp i = s.Mr i ∧ Inv (s.Mp i) (k + 1)) := fun i hi => ⟨(hI i hi).1, HD.out.up _ _ (hI i hi).2⟩
      clear hb hS hI
      by_cases hlt : k < l.length
      · rcases HR.out with h | ⟨b, off, rfl, hA⟩
        · rw [h] at hlt; simp at hlt
        obtain ⟨c0, c1, c2, c3, c4, c5, _⟩ := AtOps.below hA HBw.out k hlt
        clear hA
        have HFk : Hid (l[k].Fits) := HF.out _ (List.getElem_mem hlt)
        have hok := HO.out k hlt
        have hbl := blk_lt c0
        have hlt' : (k : Int) < (l.length : Int) := by omega
        have HAl : Hid (∀ ob, Below wr.heap.size wr (wr.alloc ob)) := fun ob => (Below.refl _ _).alloc (Nat.le_refl _) ob
        have HSay : Hid (∀ ob, Calls Tryz.prog 9 #[.string l[k].s, .slice (some ⟨g, 0, none⟩) ws.length cap2] (wr.alloc ob) fun e w' => e = .returned (.bool (Mk.hasAny l[k].s ws)) ∧ w' = wr.alloc ob) := fun ob =>
          saysAny_any l[k].s g cap2 ws (wr.alloc ob) (by omega) HW.out.2.1 HW.out.1 (fun i hi => ((HBw.out.trans ((HAl.out ob).mono HBw.out.size)).cell (p := ⟨g, i, none⟩) HW.out.2.2.2).trans (HW.out.2.2.1 i hi))
        by_cases h4 : l[k].kind < 4
        · go_wp2_with (go_at_call 9; refine (HSay.out _).mono ?_; rintro e w2 ⟨rfl, hw2⟩; obtain rfl := hw2.symm)
          go_roundw
          case rel => exact ⟨k + 1, by omega, by go_num, ⟨vm, s, by omega, HS.out.below (HAl.out _), HUp.out⟩, Hb.out.alloc Hb.out.size _⟩
          case measure => simp [intOf]; omega
        · by_cases h7 : 7 < l[k].kind
          · go_wp2_with (go_at_call 9; refine (HSay.out _).mono ?_; rintro e w2 ⟨rfl, hw2⟩; obtain rfl := hw2.symm)
            go_roundw
            case rel => exact ⟨k + 1, by omega, by go_num, ⟨vm, s, by omega, HS.out.below (HAl.out _), HUp.out⟩, Hb.out.alloc Hb.out.size _⟩
            case measure => simp [intOf]; omega
          · go_wp2_with fail
            refine (HSay.out _).mono ?_
            rintro e w2 ⟨rfl, hw2⟩
            obtain rfl := hw2.symm
            by_cases hh : Mk.hasAny l[k].s ws = true
            · go_wp2_with fail
              go_roundw
              case rel => exact ⟨k + 1, by omega, by go_num, ⟨vm, s, by omega, HS.out.below (HAl.out _), HUp.out⟩, Hb.out.alloc Hb.out.size _⟩
              case measure => simp [intOf]; omega
            · have hh' : Mk.hasAny l[k].s ws = false := by simpa using hh
              have HOkk : Hid (Ok l[k].s) := HOk.out _ hh'
              clear hh
              go_wp2_with fail
              refine (stepM HD.out w1.heap.size vm s k l[k] _ (by omega) (by omega) (by omega) hm HFk.out hok HOkk.out (HT.out.next (HBw.out.trans ((HAl.out _).mono HBw.out.size))) HG.out (HS.out.below (HAl.out _)) HI.out).mono ?_
              rintro e w3 ⟨rfl, vm3, s3, hS3, hI3, hm3, hb3⟩
              have HS3 : Hid (Sm w3 w1.heap.size vm3 s3) := hS3
              have HI3 : Hid (∀ i, i < s3.m → s3.Mp i = s3.Mr i ∧ Inv (s3.Mp i) (k + 1)) := hI3
              have HB3 : Hid (Below w1.heap.size w1 w3) := (Hb.out.alloc Hb.out.size _).trans hb3
              clear hS3 hb3 hI3
              go_wp2_with fail
              refine (looks_nil w1.heap.size _ HS3.out.c1).mono ?_
              rintro e w4 ⟨rfl, hw4⟩
              obtain rfl := hw4.symm
              go_wp2
              go_roundw
              case rel => exact ⟨k + 1, by omega, by go_num, ⟨vm3, s3, hm3, HS3.out, HI3.out⟩, HB3.out⟩
              case measure => simp [intOf]; omega
      · go_wp2
        go_ret
        exact ⟨rfl, HBw.out⟩

end

end Go.Proofs.YtljeahgpkeohlaaGreatDoor

namespace Go.Proofs.YtljeahgpkeohlaaGreatDoor
open Go.ChangeShapes Go.WideShapes Go.ChangeAt Go.RowKit Go.Deep

theorem Tryz.own : ownKnob Tryz.prog.godebug = none := by kernel_rfl
theorem Tryz.laidOut : laidOutB Tryz.prog = true := by kernel_rfl
theorem Tryz.cellsOrder : Tryz.prog.cellsOf 121 = 3 := by kernel_rfl
theorem Tryz.cellsBool : Tryz.prog.cellsOf 4 = 1 := by kernel_rfl
theorem Tryz.cellsInt : Tryz.prog.cellsOf 3 = 1 := by kernel_rfl

theorem three {α : Type} {l : List α} (h : l.length = 3) : ∃ a b c, l = [a, b, c] := by
  match l, h with
  | [a, b, c], _ => exact ⟨a, b, c, rfl⟩

theorem add_none (b off n : Nat) : (⟨b, off, none⟩ : Addr).add n = ⟨b, off + n, none⟩ := by
  unfold Addr.add; split <;> simp_all

section
variable {H : Type} {enc : TypeId × Value → H} {W : World} {base : Nat} {spare : Nat → Bool} {held : Bool}

/-- one order, out of its reading -/
theorem open_order {n : Nat} {cs : List Value} {x : DataW H × List MemPlace} (h : DataW.trod enc Tryz.prog W base spare held n 121 cs = some x) :
    ∃ o : Mk.Ord, cs = [.bool o.sell, .int .i64 o.price, .int .i64 o.qty] := by
  obtain ⟨y0, y1, y2, m, _, hl, h0, h1, h2⟩ := trod_struct3 Tryz.underlying121 h
  rw [Tryz.cellsOrder] at hl
  obtain ⟨c0, c1, c2, rfl⟩ := three hl
  simp only [Tryz.cellsBool, Tryz.cellsInt, List.drop_zero, List.drop_succ_cons, List.take_succ_cons, List.take_zero] at h0 h1 h2
  obtain ⟨s, e0, _⟩ := DataW.trod_bool Tryz.underlying4 h0
  obtain ⟨p, e1, _, _⟩ := DataW.trod_int Tryz.underlying3 h1
  obtain ⟨q, e2, _, _⟩ := DataW.trod_int Tryz.underlying3 h2
  simp only [List.cons.injEq, and_true] at e0 e1 e2
  exact ⟨⟨s, p, q⟩, by rw [e0, e1, e2]⟩

/-- the orders, out of an argument's reading -/
theorem open_orders {fuel : Nat} {a0 : Option Addr} {len0 cap0 : Nat} {x : DataW H × List MemPlace} (h : DataW.trod enc Tryz.prog W base spare held fuel 31 [.slice a0 len0 cap0] = some x) :
    ∃ l : List Mk.Ord, l.length = len0 ∧ len0 ≤ cap0 ∧ cap0 ≤ maxLen ∧ Rd W a0 l := by
  rcases open_slice Tryz.underlying31 h with ⟨hcs, _⟩ | ⟨a, len, cap, m, n, D, Pl, hcs, _, hl, hm, hmm, _, hx⟩
  · simp only [List.cons.injEq, and_true, Value.slice.injEq] at hcs
    obtain ⟨rfl, rfl, rfl⟩ := hcs
    exact ⟨[], rfl, Nat.le_refl _, Nat.zero_le _, .inl rfl⟩
  · simp only [List.cons.injEq, and_true, Value.slice.injEq] at hcs
    obtain ⟨rfl, rfl, rfl⟩ := hcs
    have hlm : len0 ≤ m := by rw [hmm]; split <;> omega
    rw [Tryz.cellsOrder] at hx
    have each : ∀ i, i < len0 → ∃ q : Bool × Int × Int, W.cell? (a.add (i * 3)) = some (.bool q.1) ∧ W.cell? (a.add (i * 3 + 1)) = some (.int .i64 q.2.1) ∧ W.cell? (a.add (i * 3 + 2)) = some (.int .i64 q.2.2) := by
      intro i hi
      obtain ⟨cs', h1, h2⟩ := hx i (by omega)
      obtain ⟨o, rfl⟩ := open_order h2
      obtain ⟨_, _, hcell⟩ := World.cells?_some h1
      have e0 := hcell 0 (by omega)
      have e1 := hcell 1 (by omega)
      have e2 := hcell 2 (by omega)
      rw [add_add] at e0 e1 e2
      exact ⟨(o.sell, o.price, o.qty), by simpa using e0, by simpa using e1, by simpa using e2⟩
    obtain ⟨q, hq⟩ := choose_lt each
    refine ⟨(List.range len0).map fun i => ⟨(q i).1, (q i).2.1, (q i).2.2⟩, by simp, hl, hm, ?_⟩
    by_cases h0 : len0 = 0
    · subst h0; exact .inl (by simp)
    · right
      obtain ⟨b, off, spot⟩ := a
      have hs : spot = none := by
        have := World.cell?_spot (hq 0 (by omega)).1
        simpa [Addr.add] using this
      subst hs
      refine ⟨b, off, rfl, fun i hi => ?_⟩
      have hi' : i < len0 := by simpa using hi
      obtain ⟨g0, g1, g2⟩ := hq i hi'
      rw [add_none] at g0 g1 g2
      simp only [List.getElem_map, List.getElem_range]
      exact ⟨g0, g1, g2⟩
end

end Go.Proofs.YtljeahgpkeohlaaGreatDoor

namespace Go.Proofs.YtljeahgpkeohlaaGreatDoor
open Go.ChangeShapes Go.WideShapes Go.ChangeAt Go.RowKit Go.Deep

theorem Tryz.bytesOrd : Tryz.prog.bytesOf 121 = 24 := by kernel_rfl
theorem Tryz.cellsOp : Tryz.prog.cellsOf 33 = 6 := by kernel_rfl
theorem Tryz.cellsStr : Tryz.prog.cellsOf 9 = 1 := by kernel_rfl
theorem Tryz.cellsOrders : Tryz.prog.cellsOf 31 = 1 := by kernel_rfl

theorem six {α : Type} {l : List α} (h : l.length = 6) : ∃ a b c d e f, l = [a, b, c, d, e, f] := by
  match l, h with
  | [a, b, c, d, e, f], _ => exact ⟨a, b, c, d, e, f, rfl⟩
theorem all_mem {H : Type} {P : Program} {e : TypeId} {ds : List (DataW H)} {d : DataW H} (h : d ∈ ds) (n : Nat) (hn : n ∈ d.weights P e) : n ∈ DataW.weightsAll P e ds := by
  induction ds with
  | nil => cases h
  | cons x r ih =>
    simp only [DataW.weightsAll, List.mem_append]
    rcases List.mem_cons.1 h with rfl | h
    · exact .inl hn
    · exact .inr (ih h)
theorem i64_bds {x : Int} (h : (Lit.int .i64 x).wf = true) : -9223372036854775808 ≤ x ∧ x ≤ 9223372036854775807 := by
  simp [Lit.wf, IntKind.min, IntKind.max, IntKind.signed, IntKind.bits] at h
  omega

section
variable {H : Type} {enc : TypeId × Value → H} {W : World} {base : Nat} {spare : Nat → Bool} {held : Bool}

/-- how many orders: within the reach -/
theorem reach_orders {fuel : Nat} {a0 : Option Addr} {len0 cap0 : Nat} {x : DataW H × List MemPlace} (h : DataW.trod enc Tryz.prog W base spare held fuel 31 [.slice a0 len0 cap0] = some x)
    (hz : ∀ q ∈ x.1.weights Tryz.prog 31, q ≤ reachBytes) : len0 ≤ 140737488355328 := by
  rcases open_slice Tryz.underlying31 h with ⟨hcs, _⟩ | ⟨a, len, cap, m, n, D, Pl, hcs, _, hl, hm, hmm, hx, _⟩
  · simp only [List.cons.injEq, and_true, Value.slice.injEq] at hcs
    obtain ⟨_, rfl, _⟩ := hcs
    omega
  · simp only [List.cons.injEq, and_true, Value.slice.injEq] at hcs
    obtain ⟨_, rfl, _⟩ := hcs
    rw [hx] at hz
    have h1 := hz ((((List.range len0).map D).length + ((List.range (m - len0)).map fun j => D (len0 + j)).length) * Tryz.prog.bytesOf 121) (by simp [DataW.weights, Tryz.underlying31])
    rw [Tryz.bytesOrd] at h1
    have hr : reachBytes < 140737488355328 := reachBytes_lt
    simp only [List.length_map, List.length_range] at h1
    omega

theorem trod_struct6 {P : Program} {t : TypeId} {f0 f1 f2 f3 f4 f5 : Field} {fuel : Nat} {cs : List Value} {x : DataW H × List MemPlace} (ht : P.underlying t = some (.struct #[f0, f1, f2, f3, f4, f5])) (h : DataW.trod enc P W base spare held fuel t cs = some x) :
    ∃ y0 y1 y2 y3 y4 y5 n, x.1 = .agg [y0.1, y1.1, y2.1, y3.1, y4.1, y5.1] ∧ cs.length = P.cellsOf t ∧ DataW.trod enc P W base spare held n f0.type ((cs.drop f0.offset).take (P.cellsOf f0.type)) = some y0 ∧
      DataW.trod enc P W base spare held n f1.type ((cs.drop f1.offset).take (P.cellsOf f1.type)) = some y1 ∧ DataW.trod enc P W base spare held n f2.type ((cs.drop f2.offset).take (P.cellsOf f2.type)) = some y2 ∧
      DataW.trod enc P W base spare held n f3.type ((cs.drop f3.offset).take (P.cellsOf f3.type)) = some y3 ∧ DataW.trod enc P W base spare held n f4.type ((cs.drop f4.offset).take (P.cellsOf f4.type)) = some y4 ∧
      DataW.trod enc P W base spare held n f5.type ((cs.drop f5.offset).take (P.cellsOf f5.type)) = some y5 := by
  obtain ⟨xs, n, _, rfl, hl, hlen, hf⟩ := DataW.trod_struct ht h
  match xs, hlen with
  | [y0, y1, y2, y3, y4, y5], _ => exact ⟨y0, y1, y2, y3, y4, y5, n, by simp, hl, by simpa using hf 0 f0 rfl, by simpa using hf 1 f1 rfl, by simpa using hf 2 f2 rfl, by simpa using hf 3 f3 rfl, by simpa using hf 4 f4 rfl, by simpa using hf 5 f5 rfl⟩

/-- one step, out of its reading -/
theorem open_op {n : Nat} {cs : List Value} {x : DataW H × List MemPlace} (h : DataW.trod enc Tryz.prog W base spare held n 33 cs = some x) (hz : ∀ q ∈ x.1.weights Tryz.prog 33, q ≤ reachBytes) :
    ∃ o : OpD, cs = [.int .i64 o.kind, .int .i64 o.m, .int .i64 o.a, .int .i64 o.b, .string o.s, .slice o.oa o.os.length o.cap] ∧ o.Fits ∧ Rd W o.oa o.os := by
  obtain ⟨y0, y1, y2, y3, y4, y5, m, hx1, hl, h0, h1, h2, h3, h4, h5⟩ := trod_struct6 Tryz.underlying33 h
  rw [Tryz.cellsOp] at hl
  obtain ⟨c0, c1, c2, c3, c4, c5, rfl⟩ := six hl
  simp only [Tryz.cellsInt, Tryz.cellsStr, Tryz.cellsOrders, List.drop_zero, List.drop_succ_cons, List.take_succ_cons, List.take_zero] at h0 h1 h2 h3 h4 h5
  rw [hx1] at hz
  obtain ⟨v0, e0, _, _⟩ := DataW.trod_int Tryz.underlying3 h0
  obtain ⟨v1, e1, _, w1⟩ := DataW.trod_int Tryz.underlying3 h1
  obtain ⟨v2, e2, _, w2⟩ := DataW.trod_int Tryz.underlying3 h2
  obtain ⟨v3, e3, _, w3⟩ := DataW.trod_int Tryz.underlying3 h3
  obtain ⟨s, e4, x4, _⟩ := DataW.trod_string Tryz.underlying9 h4
  obtain ⟨oa, olen, ocap, e5⟩ : ∃ oa olen ocap, c5 = .slice oa olen ocap := by
    rcases open_slice Tryz.underlying31 h5 with ⟨hcs, _⟩ | ⟨a, len, cap, _, _, _, _, hcs, _⟩
    · exact ⟨_, _, _, by simpa using hcs⟩
    · exact ⟨_, _, _, by simpa using hcs⟩
  subst e5
  obtain ⟨l, hlo, _, _, hRd⟩ := open_orders h5
  have hw : ∀ (j : Nat) (t : TypeId) (d : DataW H), ([3, 3, 3, 3, 9, 31] : List TypeId)[j]? = some t → ([y0.1, y1.1, y2.1, y3.1, y4.1, y5.1] : List (DataW H))[j]? = some d → ∀ q ∈ d.weights Tryz.prog t, q ≤ reachBytes := by
    intro j t d ht hd q hq
    refine hz q ?_
    simp only [DataW.weights, Tryz.underlying33]
    exact DataW.weights_mem_each (j := j) ht hd q hq
  have hr : reachBytes < 140737488355328 := reachBytes_lt
  have hs : s.size ≤ 140737488355328 := by
    have := hw 4 _ _ rfl rfl s.data.toList.length (by rw [x4]; simp [DataW.weights])
    have e : s.data.toList.length = s.size := Array.length_toList
    omega
  have ho := reach_orders h5 (hw 5 _ _ rfl rfl)
  simp only [List.cons.injEq, and_true] at e0 e1 e2 e3 e4
  subst hlo
  exact ⟨⟨v0, v1, v2, v3, s, oa, ocap, l⟩, by rw [e0, e1, e2, e3, e4], ⟨(i64_bds w2).1, (i64_bds w2).2, (i64_bds w3).1, (i64_bds w3).2, hs, ho, (i64_bds w1).1, (i64_bds w1).2⟩, hRd⟩

/-- the script, out of the argument's reading -/
theorem open_ops {fuel : Nat} {a0 : Option Addr} {len0 cap0 : Nat} {x : DataW H × List MemPlace} (h : DataW.trod enc Tryz.prog W base spare held fuel 22 [.slice a0 len0 cap0] = some x) (hz : ∀ q ∈ x.1.weights Tryz.prog 22, q ≤ reachBytes) :
    ∃ l : List OpD, l.length = len0 ∧ (∀ x ∈ l, x.Fits) ∧ RdOps W a0 l := by
  rcases open_slice Tryz.underlying22 h with ⟨hcs, _⟩ | ⟨a, len, cap, m, n, D, Pl, hcs, _, hl, hm, hmm, hxx, hx⟩
  · simp only [List.cons.injEq, and_true, Value.slice.injEq] at hcs
    obtain ⟨rfl, rfl, rfl⟩ := hcs
    exact ⟨[], rfl, by simp, .inl rfl⟩
  · simp only [List.cons.injEq, and_true, Value.slice.injEq] at hcs
    obtain ⟨rfl, rfl, rfl⟩ := hcs
    have hlm : len0 ≤ m := by rw [hmm]; split <;> omega
    rw [Tryz.cellsOp] at hx
    have each : ∀ i, i < len0 → ∃ q : OpD, (W.cell? (a.add (i * 6)) = some (.int .i64 q.kind) ∧ W.cell? (a.add (i * 6 + 1)) = some (.int .i64 q.m) ∧ W.cell? (a.add (i * 6 + 2)) = some (.int .i64 q.a) ∧ W.cell? (a.add (i * 6 + 3)) = some (.int .i64 q.b) ∧
        W.cell? (a.add (i * 6 + 4)) = some (.string q.s) ∧ W.cell? (a.add (i * 6 + 5)) = some (.slice q.oa q.os.length q.cap)) ∧ q.Fits ∧ Rd W q.oa q.os := by
      intro i hi
      obtain ⟨cs', h1, h2⟩ := hx i (by omega)
      have hzi : ∀ q ∈ (D i).weights Tryz.prog 33, q ≤ reachBytes := by
        intro q hq
        refine hz q ?_
        rw [hxx]
        simp only [DataW.weights, Tryz.underlying22, List.mem_cons, List.mem_append]
        exact .inr (.inl (all_mem (List.mem_map.2 ⟨i, List.mem_range.2 hi, rfl⟩) q hq))
      obtain ⟨o, rfl, hF, hRd⟩ := open_op h2 hzi
      obtain ⟨_, _, hcell⟩ := World.cells?_some h1
      have e0 := hcell 0 (by omega)
      have e1 := hcell 1 (by omega)
      have e2 := hcell 2 (by omega)
      have e3 := hcell 3 (by omega)
      have e4 := hcell 4 (by omega)
      have e5 := hcell 5 (by omega)
      rw [add_add] at e0 e1 e2 e3 e4 e5
      exact ⟨o, ⟨by simpa using e0, by simpa using e1, by simpa using e2, by simpa using e3, by simpa using e4, by simpa using e5⟩, hF, hRd⟩
    obtain ⟨q, hq⟩ := @choose_lt OpD ⟨⟨0, 0, 0, 0, ByteArray.empty, none, 0, []⟩⟩ len0 _ each
    refine ⟨(List.range len0).map q, by simp, ?_, ?_⟩
    · intro x hx
      obtain ⟨i, hi, rfl⟩ := List.mem_map.1 hx
      exact (hq i (List.mem_range.1 hi)).2.1
    · by_cases h0 : len0 = 0
      · subst h0; exact .inl (by simp)
      · right
        obtain ⟨b, off, spot⟩ := a
        have hs : spot = none := by
          have := World.cell?_spot (hq 0 (by omega)).1.1
          simpa [Addr.add] using this
        subst hs
        refine ⟨b, off, rfl, fun i hi => ?_⟩
        have hi' : i < len0 := by simpa using hi
        obtain ⟨⟨g0, g1, g2, g3, g4, g5⟩, _, hRd⟩ := hq i hi'
        rw [add_none] at g0 g1 g2 g3 g4 g5
        simp only [List.getElem_map, List.getElem_range]
        exact ⟨g0, g1, g2, g3, g4, g5, hRd⟩
end

end Go.Proofs.YtljeahgpkeohlaaGreatDoor
