import Derived.Test.YtmebcdpdpcpnmaaGreatDoorKL7
namespace Go.Proofs.YtmebcdpdpcpnmaaGreatDoor
open Go.RowKit

/-- nothing has come out yet -/
def Outs.none : Outs := ⟨0, fun _ => 0, fun _ => 0, fun _ => 0, fun _ _ => 0⟩
/-- nothing else lies there -/
def Gst.none : Gst := ⟨fun _ => False, fun _ => Option.none, .slice Option.none 0 0⟩
theorem St.born (w : World) : St Gst.none (w.alloc (.cells #[.slice none 0 0, .slice none 0 0, .slice none 0 0] 30)) w.heap.size Outs.none (.slice none 0 0) (.slice none 0 0) :=
  ⟨⟨by simp [Gst.none], by simp [go_sem], by simp, by simp, by simp [go_sem], by simp [go_sem], ⟨by simp [sls, Outs.none], .inl ⟨rfl, rfl⟩⟩, ⟨by simp [sls, Outs.none], .inl ⟨rfl, rfl⟩⟩, fun k hk => by simp [Value.ownBlock] at hk, fun _ h => h.elim⟩,
    fun i hi => absurd hi (Nat.not_lt_zero i), fun i hi => absurd hi (Nat.not_lt_zero i), fun i hi => absurd hi (Nat.not_lt_zero i), fun i hi => absurd hi (Nat.not_lt_zero i), fun i hi => absurd hi (Nat.not_lt_zero i), fun i j _ hj => absurd hj (Nat.not_lt_zero j), fun i hi => absurd hi (Nat.not_lt_zero i)⟩

set_option maxRecDepth 100000 in
set_option maxHeartbeats 2000000 in
theorem plays_lists (a : Option Addr) (cap : Nat) (l : List OpD) (w : World) (hf : ∀ x ∈ l, x.Fits) (hR : RdOps w a l) :
    Calls Tryz.prog 9 #[.slice a l.length cap, .int .i64 1, .int .i64 3, .slice none 0 0] w fun e w' => e = .returned (.bool true) ∧ Below w.heap.size w w' := by
  have HF : Hid (∀ x ∈ l, x.Fits) := hf
  have HR : Hid (RdOps w a l) := hR
  clear hf hR
  go_enter Tryz.func9, Tryz.ntmps9
  go_wp2_with fail
  refine (small_any a cap l _ HF.out HR.out).mono ?_
  rintro e w1 ⟨r, rfl, hsm, hb1⟩
  have HB1 : Hid (Below w.heap.size w w1) := hb1
  have HSm : Hid (SmallIs l r) := hsm
  clear hsm hb1
  cases r
  · go_wp2
    go_ret
    exact ⟨rfl, HB1.out⟩
  · obtain ⟨hlen, hos⟩ := HSm.out rfl
    have HO : Hid (∀ (i : Nat) (h : i < l.length), l[i].os.length ≤ 1048576) := fun i h => (hos i h).1
    clear hos
    have hsz := HB1.out.size
    go_wp2
    go_loopw [11] (fun j wr => ∃ k : Nat, k ≤ l.length ∧ j = .int .i64 k ∧ (∃ o vo vw, o.m ≤ k ∧ St Gst.none wr w1.heap.size o vo vw) ∧ Below w1.heap.size w1 wr) (fun j _ => l.length - (intOf j).toNat)
    case atStart => exact ⟨0, Nat.zero_le _, rfl, ⟨Outs.none, _, _, Nat.le_refl _, St.born w1⟩, (Below.refl _ _).alloc (Nat.le_refl _) _⟩
    case round =>
      obtain ⟨k, hk, rfl, ⟨o, vo, vw, hm, hS⟩, hb⟩ := hrel
      have Hb : Hid (Below w1.heap.size w1 wr) := hb
      have HS : Hid (St Gst.none wr w1.heap.size o vo vw) := hS
      have HBw : Hid (Below w.heap.size w wr) := HB1.out.trans (hb.mono hsz)
      have hBr : w1.heap.size < wr.heap.size := hS.lt
      clear hb hS
      by_cases hlt : k < l.length
      · rcases HR.out with h | ⟨b, off, rfl, hA⟩
        · rw [h] at hlt; simp at hlt
        obtain ⟨c0, c1, c2, c3, c4, c5, hRk⟩ := AtOps.below hA HBw.out k hlt
        clear hA
        have HRk : Hid (Rd wr l[k].oa l[k].os) := hRk
        have HFk : Hid (l[k].Fits) := HF.out _ (List.getElem_mem hlt)
        have hok := HO.out k hlt
        clear hRk
        have hbl := blk_lt c0
        have hlt' : (k : Int) < (l.length : Int) := by omega
        have HAl : Hid (∀ ob, Below wr.heap.size wr (wr.alloc ob)) := fun ob => (Below.refl _ _).alloc (Nat.le_refl _) ob
        by_cases h1 : l[k].kind < 1
        · go_wp2_with (go_at_call 11; refine (saysAny_nil _ _).mono ?_; rintro e w2 ⟨rfl, hw2⟩; obtain rfl := hw2.symm)
          go_roundw
          case rel => exact ⟨k + 1, by omega, by go_num, ⟨o, vo, vw, by omega, HS.out.below (HAl.out _)⟩, Hb.out.alloc Hb.out.size _⟩
          case measure => simp [intOf]; omega
        · by_cases h3 : 3 < l[k].kind
          · go_wp2_with (go_at_call 11; refine (saysAny_nil _ _).mono ?_; rintro e w2 ⟨rfl, hw2⟩; obtain rfl := hw2.symm)
            go_roundw
            case rel => exact ⟨k + 1, by omega, by go_num, ⟨o, vo, vw, by omega, HS.out.below (HAl.out _)⟩, Hb.out.alloc Hb.out.size _⟩
            case measure => simp [intOf]; omega
          · go_wp2_with fail
            refine (saysAny_nil _ _).mono ?_
            rintro e w2 ⟨rfl, hw2⟩
            obtain rfl := hw2.symm
            go_wp2_with fail
            refine (step_any w1.heap.size o vo vw l[k] _ (by omega) (by omega) (by omega) hok HFk.out (HRk.out.below (HAl.out _)) (HS.out.below (HAl.out _))).mono ?_
            rintro e w3 ⟨rfl, o3, vo3, vw3, hm3, hS3, hb3⟩
            have HS3 : Hid (St Gst.none w3 w1.heap.size o3 vo3 vw3) := hS3
            have HB3 : Hid (Below w1.heap.size w1 w3) := (Hb.out.alloc Hb.out.size _).trans hb3
            clear hS3 hb3
            go_wp2_with fail
            refine (looks_any w1.heap.size o3 vo3 vw3 _ (by omega) HS3.out).mono ?_
            rintro e w4 ⟨rfl, hb4⟩
            have HS4 : Hid (St Gst.none w4 w1.heap.size o3 vo3 vw3) := HS3.out.below hb4
            have HB4 : Hid (Below w1.heap.size w1 w4) := HB3.out.trans (hb4.mono HB3.out.size)
            clear hb4
            go_wp2
            go_roundw
            case rel => exact ⟨k + 1, by omega, by go_num, ⟨o3, vo3, vw3, by omega, HS4.out⟩, HB4.out⟩
            case measure => simp [intOf]; omega
      · go_wp2
        go_ret
        exact ⟨rfl, HBw.out⟩

set_option maxHeartbeats 1000000 in
theorem lists_law (a : Option Addr) (cap : Nat) (l : List OpD) (w : World) (hf : ∀ x ∈ l, x.Fits) (hR : RdOps w a l) :
    Calls Tryz.prog 3 #[.slice a l.length cap] w fun e w' => e = .returned (.bool true) ∧ Below w.heap.size w w' := by
  have HF : Hid (∀ x ∈ l, x.Fits) := hf
  have HR : Hid (RdOps w a l) := hR
  clear hf hR
  go_enter Tryz.func3, Tryz.ntmps3
  go_wp2_with fail
  refine (plays_lists a cap l _ HF.out HR.out).mono ?_
  rintro e w1 ⟨rfl, hb1⟩
  have HB1 : Hid (Below w.heap.size w w1) := hb1
  clear hb1
  go_wp2
  go_ret
  exact ⟨rfl, HB1.out⟩

end Go.Proofs.YtmebcdpdpcpnmaaGreatDoor
