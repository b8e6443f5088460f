import Derived.Test.YtmebcdpdpcpnmaaGreatDoorKT6
namespace Go.Proofs.YtmebcdpdpcpnmaaGreatDoor
open Go.RowKit

set_option maxRecDepth 100000 in
set_option maxHeartbeats 1000000 in
theorem looks_nil (B : Nat) (w : World) (hc : w.cell? ⟨B, 1, none⟩ = some (.slice none 0 0)) :
    Calls Tryz.prog 13 #[.pointer (some ⟨B, 0, none⟩)] w fun e w' => e = .returned (.bool true) ∧ w' = w := by
  go_enter Tryz.func13, Tryz.ntmps13
  go_wp2
  go_loop [3] (fun i => i = .int .i64 0) (fun i => 0)
  case atStart => rfl
  case round =>
    subst hrel
    go_wp2
    go_ret
    exact ⟨rfl, rfl⟩

/-- nothing else lies there -/
def Ext.none : Ext := ⟨fun _ => False, fun _ => Option.none, .slice Option.none 0 0, .slice Option.none 0 0⟩
theorem Sm.born (w : World) : ∃ s : Mks, s.m = 0 ∧ Sm Ext.none (w.alloc (.cells #[.slice none 0 0, .slice none 0 0, .slice none 0 0] 30)) w.heap.size (.slice none 0 0) s := by
  refine ⟨⟨0, fun _ => 0, fun _ => 0, fun _ => 0, fun _ _ => .slice none 0 0, fun _ => ⟨0, 0, fun _ => 0, 0, 0, 0, 0, 0, 0, fun _ => .slice none 0 0⟩, fun _ => Mk.Mkt.new, fun _ => Mk.Mkt.new⟩, rfl, ⟨by simp, by simp [go_sem], by simp [Ext.none], by simp [go_sem], by simp [Ext.none], by simp [go_sem], ⟨by simp [ptrs], .inl ⟨rfl, rfl⟩⟩, ⟨?_, ?_, ?_, ?_, ?_, ?_⟩, fun _ h => h.elim⟩⟩
  · intro i hi; exact absurd hi (Nat.not_lt_zero i)
  · intro i hi; exact absurd hi (Nat.not_lt_zero i)
  · intro i hi; exact absurd hi (Nat.not_lt_zero i)
  · intro a b ha; exact absurd ha (by show ¬ a < 2 * 0; omega)
  · intro a ha; exact absurd ha (by show ¬ a < 2 * 0; omega)
  · intro i hi; exact absurd hi (Nat.not_lt_zero i)

section
variable {E : Ext} {D : Mk.Mkt → ByteArray → ByteArray × Int × Mk.Mkt} {Inv : Mk.Mkt → Nat → Prop} {Ok : ByteArray → Prop}

theorem stepM (hD : Doing D Inv Ok) (B : Nat) (vm : Value) (s : Mks) (k : Nat) (x : OpD) (w : World) (h4 : 4 ≤ x.kind) (h7 : x.kind ≤ 7) (hk : k < 1048576) (hm : s.m ≤ k) (hF : x.Fits) (hs : x.s.size ≤ 1048576) (hok : Ok x.s) (hT : Tab w) (hg : ∀ g, Tryz.prog.globalNamed "internal/strconv.uint64pow10" = some g → g < B)
    (hS : Sm E w B vm s) (hI : ∀ i, i < s.m → s.Mp i = s.Mr i ∧ Inv (s.Mp i) k) :
    Calls Tryz.prog 12 #[.pointer (some ⟨B, 0, none⟩), opV x.kind x.m x.a x.b x.s x.oa x.os.length x.cap] w fun e w' => Lm E Inv w B k e w' := by
  obtain h | h | h | h : x.kind = 4 ∨ x.kind = 5 ∨ x.kind = 6 ∨ x.kind = 7 := by omega
  · rw [h]; exact step_new hD B vm s k _ _ _ _ _ _ _ w hk hm hS hI
  · rw [h]; exact step_call hD B vm s k 5 _ _ _ _ _ _ _ w (by omega) (by omega) hk hm hF.m1 hF.m2 hT hS hI (fun i hi W hW hTW => call_do hD B vm s i k _ _ _ _ _ _ _ W hk hm hi hs hok hTW hg hW hI)
  · rw [h]; exact step_call hD B vm s k 6 _ _ _ _ _ _ _ w (by omega) (by omega) hk hm hF.m1 hF.m2 hT hS hI (fun i hi W hW hTW => call_show hD B vm s i k _ _ _ _ _ _ _ W hm hi hTW hW hI)
  · rw [h]; exact step_call hD B vm s k 7 _ _ _ _ _ _ _ w (by omega) (by omega) hk hm hF.m1 hF.m2 hT hS hI (fun i hi W hW hTW => call_last hD B vm s i k _ _ _ _ _ _ _ W hm hi hW hI)

set_option maxRecDepth 100000 in
set_option maxHeartbeats 4000000 in
theorem plays_markets (hD : Doing D Inv Ok) (a : Option Addr) (cap g cap2 : Nat) (ws : List ByteArray) (l : List OpD) (w : World) (hf : ∀ x ∈ l, x.Fits) (hR : RdOps w a l) (hT : Tab w) (hn : ws.length ≤ 100) (hw : ∀ x ∈ ws, x.size ≤ 100) (hc : ∀ i, i < ws.length → w.cell? ⟨g, i, none⟩ = some (.string (Mk.wordAt ws i))) (hgl : g < w.heap.size) (hOk : ∀ t, Mk.hasAny t ws = false → Ok t) :
    Calls Tryz.prog 9 #[.slice a l.length cap, .int .i64 4, .int .i64 7, .slice (some ⟨g, 0, none⟩) ws.length cap2] w fun e w' => e = .returned (.bool true) ∧ Below w.heap.size w w' := by
  have HF : Hid (∀ x ∈ l, x.Fits) := hf
  have HR : Hid (RdOps w a l) := hR
  have HT : Hid (Tab w) := hT
  have HD : Hid (Doing D Inv Ok) := hD
  have HW : Hid (ws.length ≤ 100 ∧ (∀ x ∈ ws, x.size ≤ 100) ∧ (∀ i, i < ws.length → w.cell? ⟨g, i, none⟩ = some (.string (Mk.wordAt ws i))) ∧ g < w.heap.size) := ⟨hn, hw, hc, hgl⟩
  have HOk : Hid (∀ t, Mk.hasAny t ws = false → Ok t) := hOk
  clear hf hR hT hD hn hw hc hgl hOk
  go_enter Tryz.func9, Tryz.ntmps9
  go_wp2_with fail
  refine (small_any a cap l _ HF.out HR.out).mono ?_
  rintro e w1 ⟨r, rfl, hsm, hb1⟩
  have HB1 : Hid (Below w.heap.size w w1) := hb1
  have HSm : Hid (SmallIs l r) := hsm
  clear hsm hb1
  cases r
  · go_wp2
    go_ret
    exact ⟨rfl, HB1.out⟩
  · obtain ⟨hlen, hos⟩ := HSm.out rfl
    have HO : Hid (∀ (i : Nat) (h : i < l.length), l[i].s.size ≤ 1048576) := fun i h => (hos i h).2
    clear hos
    have hsz := HB1.out.size
    have HG : Hid (∀ g, Tryz.prog.globalNamed "internal/strconv.uint64pow10" = some g → g < w1.heap.size) := fun g hg => Nat.lt_of_lt_of_le (HT.out.lt g hg) hsz
    go_wp2
    go_loopw [11] (fun j wr => ∃ k : Nat, k ≤ l.length ∧ j = .int .i64 k ∧ (∃ vm s, s.m ≤ k ∧ Sm Ext.none wr w1.heap.size vm s ∧ ∀ i, i < s.m → s.Mp i = s.Mr i ∧ Inv (s.Mp i) k) ∧ Below w1.heap.size w1 wr) (fun j _ => l.length - (intOf j).toNat)
    case atStart =>
      obtain ⟨s, hs0, hS⟩ := Sm.born w1
      exact ⟨0, Nat.zero_le _, rfl, ⟨_, s, by omega, hS, fun i hi => by omega⟩, (Below.refl _ _).alloc (Nat.le_refl _) _⟩
    case round =>
      obtain ⟨k, hk, rfl, ⟨vm, s, hm, hS, hI⟩, hb⟩ := hrel
      have Hb : Hid (Below w1.heap.size w1 wr) := hb
      have HS : Hid (Sm Ext.none wr w1.heap.size vm s) := hS
      have HI : Hid (∀ i, i < s.m → s.Mp i = s.Mr i ∧ Inv (s.Mp i) k) := hI
      have HBw : Hid (Below w.heap.size w wr) := HB1.out.trans (hb.mono hsz)
      have hBr : w1.heap.size < wr.heap.size := hS.lt
      have HUp : Hid (∀ i, i < s.m → s.Mp i = s.Mr i ∧ Inv (s.Mp i) (k + 1)) := fun i hi => ⟨(hI i hi).1, HD.out.up _ _ (hI i hi).2⟩
      clear hb hS hI
      by_cases hlt : k < l.length
      · rcases HR.out with h | ⟨b, off, rfl, hA⟩
        · rw [h] at hlt; simp at hlt
        obtain ⟨c0, c1, c2, c3, c4, c5, _⟩ := AtOps.below hA HBw.out k hlt
        clear hA
        have HFk : Hid (l[k].Fits) := HF.out _ (List.getElem_mem hlt)
        have hok := HO.out k hlt
        have hbl := blk_lt c0
        have hlt' : (k : Int) < (l.length : Int) := by omega
        have HAl : Hid (∀ ob, Below wr.heap.size wr (wr.alloc ob)) := fun ob => (Below.refl _ _).alloc (Nat.le_refl _) ob
        have HSay : Hid (∀ ob, Calls Tryz.prog 11 #[.string l[k].s, .slice (some ⟨g, 0, none⟩) ws.length cap2] (wr.alloc ob) fun e w' => e = .returned (.bool (Mk.hasAny l[k].s ws)) ∧ w' = wr.alloc ob) := fun ob =>
          saysAny_any l[k].s g cap2 ws (wr.alloc ob) (by omega) HW.out.2.1 HW.out.1 (fun i hi => ((HBw.out.trans ((HAl.out ob).mono HBw.out.size)).cell (p := ⟨g, i, none⟩) HW.out.2.2.2).trans (HW.out.2.2.1 i hi))
        by_cases h4 : l[k].kind < 4
        · go_wp2_with (go_at_call 11; refine (HSay.out _).mono ?_; rintro e w2 ⟨rfl, hw2⟩; obtain rfl := hw2.symm)
          go_roundw
          case rel => exact ⟨k + 1, by omega, by go_num, ⟨vm, s, by omega, HS.out.below (HAl.out _), HUp.out⟩, Hb.out.alloc Hb.out.size _⟩
          case measure => simp [intOf]; omega
        · by_cases h7 : 7 < l[k].kind
          · go_wp2_with (go_at_call 11; refine (HSay.out _).mono ?_; rintro e w2 ⟨rfl, hw2⟩; obtain rfl := hw2.symm)
            go_roundw
            case rel => exact ⟨k + 1, by omega, by go_num, ⟨vm, s, by omega, HS.out.below (HAl.out _), HUp.out⟩, Hb.out.alloc Hb.out.size _⟩
            case measure => simp [intOf]; omega
          · go_wp2_with fail
            refine (HSay.out _).mono ?_
            rintro e w2 ⟨rfl, hw2⟩
            obtain rfl := hw2.symm
            by_cases hh : Mk.hasAny l[k].s ws = true
            · go_wp2_with fail
              go_roundw
              case rel => exact ⟨k + 1, by omega, by go_num, ⟨vm, s, by omega, HS.out.below (HAl.out _), HUp.out⟩, Hb.out.alloc Hb.out.size _⟩
              case measure => simp [intOf]; omega
            · have hh' : Mk.hasAny l[k].s ws = false := by simpa using hh
              have HOkk : Hid (Ok l[k].s) := HOk.out _ hh'
              clear hh
              go_wp2_with fail
              refine (stepM HD.out w1.heap.size vm s k l[k] _ (by omega) (by omega) (by omega) hm HFk.out hok HOkk.out (HT.out.next (HBw.out.trans ((HAl.out _).mono HBw.out.size))) HG.out (HS.out.below (HAl.out _)) HI.out).mono ?_
              rintro e w3 ⟨rfl, vm3, s3, hS3, hI3, hm3, hb3⟩
              have HS3 : Hid (Sm Ext.none w3 w1.heap.size vm3 s3) := hS3
              have HI3 : Hid (∀ i, i < s3.m → s3.Mp i = s3.Mr i ∧ Inv (s3.Mp i) (k + 1)) := hI3
              have HB3 : Hid (Below w1.heap.size w1 w3) := (Hb.out.alloc Hb.out.size _).trans hb3
              clear hS3 hb3 hI3
              go_wp2_with fail
              refine (looks_nil w1.heap.size _ HS3.out.c1).mono ?_
              rintro e w4 ⟨rfl, hw4⟩
              obtain rfl := hw4.symm
              go_wp2
              go_roundw
              case rel => exact ⟨k + 1, by omega, by go_num, ⟨vm3, s3, hm3, HS3.out, HI3.out⟩, HB3.out⟩
              case measure => simp [intOf]; omega
      · go_wp2
        go_ret
        exact ⟨rfl, HBw.out⟩

end

end Go.Proofs.YtmebcdpdpcpnmaaGreatDoor
