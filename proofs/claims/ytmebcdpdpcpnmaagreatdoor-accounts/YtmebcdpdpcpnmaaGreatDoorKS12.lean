import Derived.Test.YtmebcdpdpcpnmaaGreatDoorKS11
import Derived.Test.YtmebcdpdpcpnmaaGreatDoorJ15
namespace Go.Proofs.YtmebcdpdpcpnmaaGreatDoor
open Go.RowKit

theorem itoaI_any (x : Int) (hx : 0 ≤ x ∧ x ≤ 9999) (w : World) (ht : Tab w) :
    Calls Tryz.prog 52 #[.int .i64 x] w fun e w' => e = .returned (.string (Mk.digI x)) ∧ Below w.heap.size w w' := by
  obtain ⟨n, rfl⟩ := Int.eq_ofNat_of_zero_le hx.1
  exact itoa_any n (by omega) w ht

set_option maxRecDepth 100000 in
set_option maxHeartbeats 4000000 in
theorem pshow_any (p : Nat) (vb : Nat → Value) (M : Mk.Mkt) (w : World) (hM : M.Fine) (hP : PM w p vb M) (ht : Tab w) :
    Calls Tryz.prog 32 #[.pointer (some ⟨p, 0, none⟩)] w fun e w' => e = .returned (.string (Mk.showM M)) ∧ Below w.heap.size w w' := by
  have HM : Hid M.Fine := hM
  have HP : Hid (PM w p vb M) := hP
  have HT : Hid (Tab w) := ht
  have HR : Hid (w.rangeAt p 0 (acsL M)) := acs_at hP
  have HIX : Hid (∀ k, k < 4 → ∀ W, (Instr.index 62 (.agg (acsL M).toArray) (.int .i64 ((k : Nat) : Int))).run Tryz.prog W = .ok (acV M k) W) := fun k hk W => idx_acs M k hk W
  have HIV : Hid (∀ k, k < 2 → ∀ W, (Instr.index 67 (.agg (vosL vb M).toArray) (.int .i64 ((k : Nat) : Int))).run Tryz.prog W = .ok (.agg #[.int .i64 (mdI (M.md k)), vb k, .int .i64 (M.cm k)]) W) := fun k hk W => idx_vos vb M k hk W
  clear hM hP ht
  go_enter Tryz.func32, Tryz.ntmps32
  go_upto_region 2 with fail
  iterate 10 go_step
  refine wpList_load_mid rfl 62 _ rfl p 0 rfl (acsL M) _ HR.out Tryz.underlying62 rfl (by rw [Tryz.infoAcs]; simp [acsL]) ?_
  generalize (Value.agg (acsL M).toArray) = A at *
  go_wp2
  go_loopw [3, 12] (fun x j wr => ∃ c : Nat, c ≤ 4 ∧ j = .int .i64 c ∧ x = .string (Mk.addC M c) ∧ Below w.heap.size w wr) (fun _ j _ => 4 - (intOf j).toNat)
  case atStart => exact ⟨0, by omega, rfl, rfl, Below.refl _ _⟩
  case round =>
    obtain ⟨c, hc, rfl, rfl, hb⟩ := hrel
    have Hb : Hid (Below w.heap.size w wr) := hb
    clear hb
    have qc := Mk.addC_le HM.out c hc
    by_cases hlt : c < 4
    · have hlt' : (c : Int) < 4 := by omega
      have hix := HIX.out c hlt
      have HA : Hid (∀ ob, Below w.heap.size w (wr.alloc ob)) := fun ob => Hb.out.alloc Hb.out.size ob
      have qa : (Mk.acT M c).size ≤ 29 := by
        have h1 := Mk.addV_le HM.out hlt (Mk.purseI (M.cf c) (M.ch c)) 2 (by omega)
        have h2 := Mk.purseI_le (HM.out.cf c hlt).2 (HM.out.ch c hlt).2
        unfold Mk.acT
        omega
      have HE : Hid (Mk.addC M (c + 1) = Mk.addC M c ++ Mk.acT M c ++ ⟨#[59]⟩) := Mk.addC_succ M c
      go_wp2_with fail
      refine (acct_show M c _ hlt HM.out (HT.out.next (HA.out _))).mono ?_
      rintro e w3 ⟨rfl, hb3⟩
      have HB3 : Hid (Below w.heap.size w w3) := (HA.out _).trans (hb3.mono (HA.out _).size)
      clear hb3
      go_wp2_with fail
      go_roundw
      case rel => exact ⟨c + 1, by omega, by go_num, by rw [HE.out], HB3.out⟩
      case measure => simp [intOf]; omega
    · obtain rfl : c = 4 := by omega
      have HPr : Hid (PM wr p vb M) := HP.out.below Hb.out
      have ch := HPr.out.ho
      have bh := HM.out.house
      have qh := Mk.digI_le bh.2
      go_wp2_with fail
      refine (itoaI_any _ bh _ (HT.out.next Hb.out)).mono ?_
      rintro e w4 ⟨rfl, hb4⟩
      have HB4 : Hid (Below w.heap.size w w4) := Hb.out.trans (hb4.mono Hb.out.size)
      have HP4 : Hid (PM w4 p vb M) := HP.out.below HB4.out
      have HR4 : Hid (w4.rangeAt p 25 (vosL vb M)) := vos_at HP4.out
      clear hb4 ch
      have qs : (Mk.addC M 4 ++ Mk.digI M.house).size ≤ 164 := by rw [ByteArray.size_append]; omega
      go_upto_region 9 with fail
      iterate 10 go_step
      refine wpList_load_mid rfl 67 _ rfl p 25 rfl (vosL vb M) _ HR4.out Tryz.underlying67 rfl (by rw [Tryz.infoVos]; simp [vosL]) ?_
      generalize (Value.agg (vosL vb M).toArray) = V at *
      have HS : Hid (Mk.showM M = Mk.addM M (Mk.addC M 4 ++ Mk.digI M.house) 2) := rfl
      generalize Mk.addC M 4 ++ Mk.digI M.house = S at *
      go_wp2
      go_loopw [3, 33] (fun x j wr => ∃ v : Nat, v ≤ 2 ∧ j = .int .i64 v ∧ x = .string (Mk.addM M S v) ∧ Below w.heap.size w wr) (fun _ j _ => 2 - (intOf j).toNat)
      case atStart => exact ⟨0, by omega, rfl, rfl, HB4.out⟩
      case round =>
        obtain ⟨v, hv, rfl, rfl, hb5⟩ := hrel
        have Hb5 : Hid (Below w.heap.size w wr) := hb5
        clear hb5
        have qm := Mk.addM_le HM.out S v hv
        by_cases hv2 : v < 2
        · have hv2' : (v : Int) < 2 := by omega
          obtain ⟨ba, bc, hbv⟩ := HP.out.book hv2
          have hix := HIV.out v hv2
          rw [hbv] at hix
          have ho := HP.out.bk v hv2
          rw [hbv] at ho
          have HO : Hid (w.ownsRow 0 152 5 (.slice ba (M.bk v).length bc) (M.bk v).length (standC (M.bk v))) := ho
          have qv : (Mk.voT M v).size ≤ 241 := by
            have h1 := Mk.addB_le HM.out hv2 (Mk.modeL (M.md v)) (M.bk v).length (Nat.le_refl _)
            have h2 := HM.out.len v hv2
            have h3 : (Mk.modeL (M.md v)).size = 1 := by unfold Mk.modeL; split <;> rfl
            unfold Mk.voT
            omega
          have HA : Hid (∀ ob, Below w.heap.size w (wr.alloc ob)) := fun ob => Hb5.out.alloc Hb5.out.size ob
          have HE : Hid (Mk.addM M S (v + 1) = Mk.addM M S v ++ ⟨#[59]⟩ ++ Mk.voT M v) := Mk.addM_succ M S v
          clear ho hbv
          go_wp2_with fail
          refine (voyage_show M v _ _ hv2 HM.out (HT.out.next (HA.out _)) (own_below HO.out (HA.out _) (fun j hj => (HO.out.lt j hj).2))).mono ?_
          rintro e w6 ⟨rfl, hb6⟩
          have HB6 : Hid (Below w.heap.size w w6) := (HA.out _).trans (hb6.mono (HA.out _).size)
          clear hb6
          go_wp2_with fail
          go_roundw
          case rel => exact ⟨v + 1, by omega, by go_num, by rw [HE.out], HB6.out⟩
          case measure => simp [intOf]; omega
        · obtain rfl : v = 2 := by omega
          go_wp2_with fail
          go_ret
          exact ⟨by rw [HS.out]; rfl, Hb5.out⟩

end Go.Proofs.YtmebcdpdpcpnmaaGreatDoor
