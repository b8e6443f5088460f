import Derived.Test.YtmebcdpdpcpnmaaGreatDoorKS10
namespace Go.Proofs.YtmebcdpdpcpnmaaGreatDoor
open Go.RowKit

/-- order i of a batch, in memory -/
theorem entry_cells {w : World} {g n c : Nat} {l : List Mk.Stand} (h : w.ownsRow 0 152 5 (.slice (some ⟨g, 0, none⟩) n c) n (standC l)) (hn : n = l.length) {i : Nat} (hi : i < n) :
    w.cell? ⟨g, i * 5, none⟩ = some (.int .i64 (Mk.std l i).n) ∧ w.cell? ⟨g, i * 5 + 1, none⟩ = some (.int .i64 (Mk.std l i).who) ∧ w.cell? ⟨g, i * 5 + 2, none⟩ = some (.bool (Mk.std l i).o.sell) ∧ w.cell? ⟨g, i * 5 + 3, none⟩ = some (.int .i64 (Mk.std l i).o.price) ∧ w.cell? ⟨g, i * 5 + 4, none⟩ = some (.int .i64 (Mk.std l i).o.qty) := by
  have hf := standF_at l i
  have hj : ∀ j, j < n * 5 → w.cell? ⟨g, j, none⟩ = some (standF l j) := fun j hj => by rw [h.cellAt j hj, standC_get l (by omega)]
  refine ⟨?_, ?_, ?_, ?_, ?_⟩
  · rw [hj _ (by omega), hf.1]
  · rw [hj _ (by omega), hf.2.1]
  · rw [hj _ (by omega), hf.2.2.1]
  · rw [hj _ (by omega), hf.2.2.2.1]
  · rw [hj _ (by omega), hf.2.2.2.2]

set_option maxRecDepth 100000 in
set_option maxHeartbeats 2000000 in
theorem voyage_show (M : Mk.Mkt) (v : Nat) (bv : Value) (w : World) (hv : v < 2) (hM : M.Fine) (ht : Tab w) (hown : w.ownsRow 0 152 5 bv (M.bk v).length (standC (M.bk v))) :
    Calls Tryz.prog 53 #[.agg #[.int .i64 (mdI (M.md v)), bv, .int .i64 (M.cm v)]] w fun e w' => e = .returned (.string (Mk.voT M v)) ∧ Below w.heap.size w w' := by
  have HT : Hid (Tab w) := ht
  have HM : Hid M.Fine := hM
  have HO : Hid (w.ownsRow 0 152 5 bv (M.bk v).length (standC (M.bk v))) := hown
  have HV : Hid (v < 2) := hv
  have hlen := hM.len v hv
  have HB1 : Hid (∀ ob, Below w.heap.size w (w.alloc ob)) := fun ob => (Below.refl _ _).alloc (Nat.le_refl _) _
  have q0 : (Mk.modeL (M.md v)).size = 1 := by unfold Mk.modeL; split <;> rfl
  rcases hown.2 with ⟨rfl, h0⟩ | ⟨g, cap, cur, rfl, hrest⟩
  · have HZ : Hid (Mk.voT M v = Mk.modeL (M.md v)) := (by unfold Mk.voT; rw [h0]; rfl : Mk.voT M v = Mk.modeL (M.md v))
    clear ht hM hown
    generalize M.md v = md at *
    generalize M.cm v = cm at *
    go_enter Tryz.func53, Tryz.ntmps53
    go_wp2_with fail
    refine (mode_show md _).mono ?_
    rintro e w2 ⟨rfl, hw2⟩
    obtain rfl := hw2.symm
    go_wp2_with fail
    go_loopw [3, 12] (fun x j wr => j = .int .i64 0 ∧ x = .string (Mk.modeL md) ∧ Below w.heap.size w wr) (fun _ _ _ => 0)
    case atStart => exact ⟨rfl, rfl, HB1.out _⟩
    case round =>
      obtain ⟨rfl, rfl, hb⟩ := hrel
      have Hb : Hid (Below w.heap.size w wr) := hb
      clear hb
      go_wp2_with fail
      go_ret
      exact ⟨by rw [HZ.out]; rfl, Hb.out⟩
  · clear ht hM hown hrest
    have HQ : Hid (∀ k, k ≤ (M.bk v).length → (Mk.addB (M.bk v) (Mk.modeL (M.md v)) k).size ≤ 1 + 20 * k) := fun k hk => by
      have := Mk.addB_le HM.out HV.out (Mk.modeL (M.md v)) k hk
      omega
    have HE : Hid (∀ k, Mk.addB (M.bk v) (Mk.modeL (M.md v)) (k + 1) = Mk.comma k (Mk.addB (M.bk v) (Mk.modeL (M.md v)) k) ++ Mk.standI (Mk.std (M.bk v) k)) := fun k => rfl
    have HZ : Hid (Mk.voT M v = Mk.addB (M.bk v) (Mk.modeL (M.md v)) (M.bk v).length) := rfl
    have HF : Hid (∀ k, k < (M.bk v).length → (0 ≤ (Mk.std (M.bk v) k).n ∧ (Mk.std (M.bk v) k).n ≤ 11) ∧ (0 ≤ (Mk.std (M.bk v) k).who ∧ (Mk.std (M.bk v) k).who ≤ 3) ∧ (1 ≤ (Mk.std (M.bk v) k).o.price ∧ (Mk.std (M.bk v) k).o.price ≤ 99 ∧ 1 ≤ (Mk.std (M.bk v) k).o.qty ∧ (Mk.std (M.bk v) k).o.qty ≤ 20)) := fun k hk => by
      have hm : Mk.std (M.bk v) k ∈ M.bk v := by rw [Mk.std_at hk]; exact List.getElem_mem _
      exact ⟨HM.out.num v HV.out _ hm, HM.out.who v HV.out _ hm, HM.out.ord v HV.out _ hm⟩
    generalize hbk : M.bk v = l at *
    generalize M.md v = md at *
    generalize M.cm v = cm at *
    clear hbk
    go_enter Tryz.func53, Tryz.ntmps53
    go_wp2_with fail
    refine (mode_show md _).mono ?_
    rintro e w2 ⟨rfl, hw2⟩
    obtain rfl := hw2.symm
    go_wp2_with fail
    go_loopw [3, 12] (fun x j wr => ∃ k : Nat, k ≤ l.length ∧ j = .int .i64 k ∧ x = .string (Mk.addB l (Mk.modeL md) k) ∧ Below w.heap.size w wr) (fun _ j _ => l.length - (intOf j).toNat)
    case atStart => exact ⟨0, Nat.zero_le _, rfl, rfl, HB1.out _⟩
    case round =>
      obtain ⟨k, hk, rfl, rfl, hb⟩ := hrel
      have Hb : Hid (Below w.heap.size w wr) := hb
      clear hb
      have qk := HQ.out k hk
      by_cases hlt : k < l.length
      · have hlt' : (k : Int) < (l.length : Int) := by omega
        obtain ⟨b1, b2, b3⟩ := HF.out k hlt
        obtain ⟨e0, e1, e2, e3, e4⟩ := entry_cells (own_below HO.out Hb.out (fun j hj => (HO.out.lt j hj).2)) rfl hlt
        have qs := Mk.standI_le (s := Mk.std l k) (by omega) (by omega) (by omega) (by omega)
        have HA : Hid (∀ ob, Below w.heap.size w (wr.alloc ob)) := fun ob => Hb.out.alloc Hb.out.size ob
        by_cases h0 : 0 < k
        · have h0' : (0 : Int) < (k : Int) := by omega
          have HC : Hid (Mk.addB l (Mk.modeL md) (k + 1) = Mk.addB l (Mk.modeL md) k ++ ⟨#[44]⟩ ++ Mk.standI (Mk.std l k)) := (by rw [HE.out k]; unfold Mk.comma; rw [if_pos h0] : Mk.addB l (Mk.modeL md) (k + 1) = Mk.addB l (Mk.modeL md) k ++ ⟨#[44]⟩ ++ Mk.standI (Mk.std l k))
          go_wp2_with fail
          refine (entry_any (Mk.std l k) _ b1 b2 b3 (HT.out.next (HA.out _))).mono ?_
          rintro e w3 ⟨rfl, hb3⟩
          have HB3 : Hid (Below w.heap.size w w3) := (HA.out _).trans (hb3.mono (HA.out _).size)
          clear hb3
          go_wp2_with fail
          go_roundw
          case rel => exact ⟨k + 1, by omega, by go_num, by rw [HC.out], HB3.out⟩
          case measure => simp [intOf]; omega
        · have h0' : ¬ (0 : Int) < (k : Int) := by omega
          have HC : Hid (Mk.addB l (Mk.modeL md) (k + 1) = Mk.addB l (Mk.modeL md) k ++ Mk.standI (Mk.std l k)) := (by rw [HE.out k]; unfold Mk.comma; rw [if_neg h0] : Mk.addB l (Mk.modeL md) (k + 1) = Mk.addB l (Mk.modeL md) k ++ Mk.standI (Mk.std l k))
          go_wp2_with fail
          refine (entry_any (Mk.std l k) _ b1 b2 b3 (HT.out.next (HA.out _))).mono ?_
          rintro e w3 ⟨rfl, hb3⟩
          have HB3 : Hid (Below w.heap.size w w3) := (HA.out _).trans (hb3.mono (HA.out _).size)
          clear hb3
          go_wp2_with fail
          go_roundw
          case rel => exact ⟨k + 1, by omega, by go_num, by rw [HC.out], HB3.out⟩
          case measure => simp [intOf]; omega
      · obtain rfl : k = l.length := by omega
        go_wp2_with fail
        go_ret
        exact ⟨by rw [HZ.out]; rfl, Hb.out⟩

/-- the voyages, as a value -/
def vosL (vb : Nat → Value) (M : Mk.Mkt) : List Value := (List.range 6).map (fun j => voF vb M (j / 3) (j % 3))
theorem Tryz.infoVos : (Tryz.prog.info? 67).map (·.size) = some 6 := by kernel_rfl
theorem idx_vos (vb : Nat → Value) (M : Mk.Mkt) (k : Nat) (hk : k < 2) (W : World) : (Instr.index 67 (.agg (vosL vb M).toArray) (.int .i64 (k : Int))).run Tryz.prog W = .ok (.agg #[.int .i64 (mdI (M.md k)), vb k, .int .i64 (M.cm k)]) W := by
  rcases (show k = 0 ∨ k = 1 by omega) with rfl | rfl
  all_goals
    simp [Instr.index, run_underlying Tryz.underlying67, asIntOf, Tryz.sizeOf66, go_sem]
    rfl
theorem vos_at {w : World} {p : Nat} {vb : Nat → Value} {M : Mk.Mkt} (hP : PM w p vb M) : w.rangeAt p 25 (vosL vb M) := by
  intro j v hv
  have hj : j < 6 := by
    refine Nat.lt_of_not_le (fun h => ?_)
    rw [List.getElem?_eq_none (by simp [vosL]; exact h)] at hv
    cases hv
  have : v = voF vb M (j / 3) (j % 3) := by
    simp [vosL, List.getElem?_range hj] at hv
    exact hv.symm
  subst this
  have h := hP.vo (v := j / 3) (k := j % 3) (by omega) (by omega)
  rw [show 25 + j / 3 * 3 + j % 3 = 25 + j by omega] at h
  exact h

end Go.Proofs.YtmebcdpdpcpnmaaGreatDoor
