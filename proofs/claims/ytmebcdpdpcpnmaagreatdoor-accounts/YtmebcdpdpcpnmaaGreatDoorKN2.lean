import Derived.Test.YtmebcdpdpcpnmaaGreatDoorKN1
import Derived.Test.YtmebcdpdpcpnmaaGreatDoorKM4
namespace Go.Proofs.YtmebcdpdpcpnmaaGreatDoor
open Go.RowKit

theorem at_predB (a : Option Addr) (cap : Nat) (l : List Mk.Ord) (w : World) (h12 : l.length ≤ 12) (h0 : Mk.kk l ≠ 0) (hR : Rd w a l) :
    Calls Tryz.prog 72 #[.slice a l.length cap, .bool false, .int .i64 ((Mk.kk l : Int) - 1), .int .i64 0] w fun e w' => e = .returned (.int .i64 (Mk.pB l (Mk.kk l - 1))) ∧ Below w.heap.size w w' := by
  rw [show ((Mk.kk l : Int) - 1) = ((Mk.kk l - 1 : Nat) : Int) by omega]
  exact at_B a cap l _ w h12 hR
theorem at_predS (a : Option Addr) (cap : Nat) (l : List Mk.Ord) (w : World) (h12 : l.length ≤ 12) (hp : Mk.okP l) (h0 : Mk.kk l ≠ 0) (hR : Rd w a l) :
    Calls Tryz.prog 72 #[.slice a l.length cap, .bool true, .int .i64 ((Mk.kk l : Int) - 1), .int .i64 0] w fun e w' => e = .returned (.int .i64 (Mk.pS l (Mk.kk l - 1))) ∧ Below w.heap.size w w' := by
  rw [show ((Mk.kk l : Int) - 1) = ((Mk.kk l - 1 : Nat) : Int) by omega, ← Mk.prAt_get hp h0]
  exact at_any a cap l true _ 0 w h12 hR

set_option maxRecDepth 100000 in
set_option maxHeartbeats 2000000 in
theorem rmcafee_bad (a : Option Addr) (cap : Nat) (l : List Mk.Ord) (w : World) (hv : Mk.validB 1 l = false) (hR : Rd w a l) :
    Calls Tryz.prog 44 #[.slice a l.length cap] w fun e w' => e = .returned (.tuple #[.slice none 0 0, .int .i64 0, .int .i64 0, .int .i64 1]) ∧ Below w.heap.size w w' := by
  have HR : Hid (Rd w a l) := hR
  rcases Bool.eq_false_or_eq_true (Mk.validB 20 l) with h20 | h20
  · have h12 := (Mk.ok_of_valid h20).1
    have hone : l.all Mk.oneB = false := by rw [Mk.valid_one, h20, Bool.true_and] at hv; exact hv
    have HO : Hid (l.all Mk.oneB = false) := hone
    rcases hR with rfl | ⟨b, off, rfl, hR⟩
    · simp at hone
    have HA : Hid (At w b off l) := hR
    clear hv hone hR
    go_enter Tryz.func44, Tryz.ntmps44
    go_wp2_with (go_at_call 61; refine (are_any _ cap l _ HR.out).mono ?_; rintro e w1 ⟨rfl, hw1⟩; obtain rfl := hw1.symm)
    go_loopw [6, 7] (fun o j wr => wr = w ∧ ∃ k : Nat, k ≤ l.length ∧ j = .int .i64 k ∧ o = .bool ((l.take k).all Mk.oneB)) (fun _ j _ => l.length - (intOf j).toNat)
    case atStart => exact ⟨rfl, 0, Nat.zero_le _, rfl, by simp⟩
    case round =>
      obtain ⟨hwr, k, hk, rfl, rfl⟩ := hrel
      obtain rfl := hwr.symm
      rcases Bool.eq_false_or_eq_true ((l.take k).all Mk.oneB) with hall | hall
      · by_cases hlt : k < l.length
        · obtain ⟨c0, c1, c2⟩ := HA.out k hlt
          have hlt' : (k : Int) < (l.length : Int) := by omega
          have HN : Hid ((l.take (k + 1)).all Mk.oneB = (l[k].qty == 1)) := (by rw [Mk.all_take_succ _ _ _ hlt, hall, Bool.true_and]; simp [Mk.oneB]; rw [Bool.eq_iff_iff]; simp : (l.take (k + 1)).all Mk.oneB = (l[k].qty == 1))
          go_wp2
          go_roundw
          case rel => exact ⟨by first | rfl | trivial, k + 1, by omega, by go_num, by rw [HN.out]⟩
          case measure => simp [intOf]; omega
        · exfalso
          obtain rfl : k = l.length := by omega
          rw [List.take_length, HO.out] at hall
          cases hall
      · go_wp2
        (try simp only [Exit.inBlock, Exit.then]); refine bodyPost_ret (results_tmp4 rfl _ _ _) rfl ?_
        exact ⟨rfl, Below.refl _ _⟩
  · clear hv hR
    go_enter Tryz.func44, Tryz.ntmps44
    go_wp2_with (go_at_call 61; refine (are_any _ cap l _ HR.out).mono ?_; rintro e w1 ⟨rfl, hw1⟩; obtain rfl := hw1.symm)
    go_loop [6, 7] (fun o j => o = .bool false ∧ j = .int .i64 0) (fun _ _ => 0)
    case atStart => exact ⟨rfl, rfl⟩
    case round =>
      obtain ⟨rfl, rfl⟩ := hrel
      go_wp2
      (try simp only [Exit.inBlock, Exit.then]); refine bodyPost_ret (results_tmp4 rfl _ _ _) rfl ?_
      exact ⟨rfl, Below.refl _ _⟩

/-- the row that McAfee fills, behind i orders -/
theorem fill_yes {l : List Mk.Ord} {m : Int} {k : Nat} (h : (Mk.rk l k : Int) < m) (j : Nat) : (if j = k then (1 : Int) else if j < k then (if (Mk.rk l j : Int) < m then 1 else 0) else 0) = if j < k + 1 then (if (Mk.rk l j : Int) < m then 1 else 0) else 0 :=
  Mk.step_on (G := fun j => if (Mk.rk l j : Int) < m then (1 : Int) else 0) (k := k) (if_pos h) j
theorem fill_no {l : List Mk.Ord} {m : Int} {k : Nat} (h : ¬ (Mk.rk l k : Int) < m) (j : Nat) : (if j < k then (if (Mk.rk l j : Int) < m then (1 : Int) else 0) else 0) = if j < k + 1 then (if (Mk.rk l j : Int) < m then 1 else 0) else 0 :=
  Mk.step_off (G := fun j => if (Mk.rk l j : Int) < m then (1 : Int) else 0) (k := k) (if_neg h) j

set_option maxRecDepth 100000 in
set_option maxHeartbeats 2000000 in
theorem rmcafee_some (b off cap : Nat) (l : List Mk.Ord) (w : World) (hv : Mk.validB 1 l = true) (hR : At w b off l) :
    Calls Tryz.prog 44 #[.slice (some ⟨b, off, none⟩) l.length cap] w fun e w' => McIs l w e w' := by
  have HA : Hid (At w b off l) := hR
  have HR : Hid (Rd w (some ⟨b, off, none⟩) l) := .inr ⟨b, off, rfl, hR⟩
  have h20 := Mk.valid_20 hv
  have h12 := (Mk.ok_of_valid h20).1
  have HO : Hid (∀ o ∈ l, 1 ≤ o.price ∧ o.price ≤ 99 ∧ 1 ≤ o.qty ∧ o.qty ≤ 1) := (Mk.ok_of_valid hv).2
  have hp := Mk.okP_of hv
  have HP : Hid (Mk.okP l) := hp
  have hmk := run_make_row' (P := Tryz.prog) 53 3 (.int .i64 0) 8 Tryz.underlying53 Tryz.infoInt rfl .i64 .i64 l.length (by omega) (by omega)
  have b1 := Mk.pB_bd hp (Mk.kk l)
  have b2 := Mk.pS_bd hp (Mk.kk l)
  have b3 := Mk.kk_le (l := l)
  clear hv hp hR
  go_enter Tryz.func44, Tryz.ntmps44
  go_wp2_with (go_at_call 61; refine (are_any _ cap l _ HR.out).mono ?_; rintro e w1 ⟨rfl, hw1⟩; obtain rfl := hw1.symm)
  go_loopw [6, 7] (fun o j wr => wr = w ∧ ∃ k : Nat, k ≤ l.length ∧ j = .int .i64 k ∧ o = .bool true) (fun _ j _ => l.length - (intOf j).toNat)
  case atStart => exact ⟨rfl, 0, Nat.zero_le _, rfl, rfl⟩
  case round =>
    obtain ⟨hwr, k, hk, rfl, rfl⟩ := hrel
    obtain rfl := hwr.symm
    by_cases hlt : k < l.length
    · obtain ⟨c0, c1, c2⟩ := HA.out k hlt
      have hlt' : (k : Int) < (l.length : Int) := by omega
      have hq : l[k].qty = 1 := by have := HO.out _ (List.getElem_mem hlt); omega
      rw [hq] at c2
      clear hq
      go_wp2
      go_roundw
      case rel => exact ⟨by first | rfl | trivial, k + 1, by omega, by go_num, rfl⟩
      case measure => simp [intOf]; omega
    · obtain rfl : k = l.length := by omega
      clear hk
      go_wp2_with fail
      have HB1 : Hid (Below w.heap.size w (w.alloc (.cells (madeCells #[.int .i64 0] l.length) 3))) := (Below.refl _ _).alloc (Nat.le_refl _) _
      have HW1 : Hid ((w.alloc (.cells (madeCells #[.int .i64 0] l.length) 3)).rowIs w.heap.size 3 l.length (fun _ => .int .i64 0)) := World.rowIs_made w (.int .i64 0) l.length 3
      refine (pairs_any _ cap l _ h12 (HR.out.below HB1.out)).mono ?_
      rintro e w2 ⟨rfl, hb2⟩
      have HB2 : Hid (Below w.heap.size w w2) := HB1.out.trans (hb2.mono HB1.out.size)
      have HW2 : Hid (w2.rowIs w.heap.size 3 l.length (fun _ => .int .i64 0)) := row_below HW1.out hb2 (World.rowIs.lt HW1.out)
      clear hb2 HW1 HB1 hmk
      by_cases h0 : Mk.kk l = 0
      · have h0' : ((Mk.kk l : Int) == 0) = true := by simp; omega
        have HZ : Hid (Mk.mcK l = 0 ∧ Mk.mcPay l = 0 ∧ Mk.mcGet l = 0) := Mk.mc_none h0
        clear h0
        go_wp2
        (try simp only [Exit.inBlock, Exit.then]); refine bodyPost_ret (results_tmp4 rfl _ _ _) rfl ?_
        exact mcIs_zero HZ.out (Nat.le_refl _) HB2.out HW2.out
      · have h0' : ((Mk.kk l : Int) == 0) = false := by simp; omega
        have H0 : Hid (Mk.kk l ≠ 0) := h0
        have b4 := Mk.pB_bd HP.out (Mk.kk l - 1)
        have b5 := Mk.pS_bd HP.out (Mk.kk l - 1)
        have hk1 : (1 : Int) ≤ (Mk.kk l : Int) := by omega
        clear h0
        go_wp2_with fail
        refine (at_B _ cap l (Mk.kk l) _ h12 (HR.out.below HB2.out)).mono ?_
        rintro e w3 ⟨rfl, hb3⟩
        have HB3 : Hid (Below w.heap.size w w3) := HB2.out.trans (hb3.mono HB2.out.size)
        have HW3 : Hid (w3.rowIs w.heap.size 3 l.length (fun _ => .int .i64 0)) := row_below HW2.out hb3 (World.rowIs.lt HW2.out)
        clear hb3
        go_wp2_with fail
        refine (at_S _ cap l (Mk.kk l) _ h12 (HR.out.below HB3.out)).mono ?_
        rintro e w4 ⟨rfl, hb4⟩
        have HB4 : Hid (Below w.heap.size w w4) := HB3.out.trans (hb4.mono HB3.out.size)
        have HW4 : Hid (w4.rowIs w.heap.size 3 l.length (fun _ => .int .i64 0)) := row_below HW3.out hb4 (World.rowIs.lt HW3.out)
        clear hb4
        go_wp2_with fail
        refine (at_predB _ cap l _ h12 H0.out (HR.out.below HB4.out)).mono ?_
        rintro e w5 ⟨rfl, hb5⟩
        have HB5 : Hid (Below w.heap.size w w5) := HB4.out.trans (hb5.mono HB4.out.size)
        have HW5 : Hid (w5.rowIs w.heap.size 3 l.length (fun _ => .int .i64 0)) := row_below HW4.out hb5 (World.rowIs.lt HW4.out)
        clear hb5
        go_wp2_with fail
        refine (at_predS _ cap l _ h12 HP.out H0.out (HR.out.below HB5.out)).mono ?_
        rintro e w6 ⟨rfl, hb6⟩
        have HB6 : Hid (Below w.heap.size w w6) := HB5.out.trans (hb6.mono HB5.out.size)
        have HW6 : Hid (w6.rowIs w.heap.size 3 l.length (fun _ => .int .i64 0)) := row_below HW5.out hb6 (World.rowIs.lt HW5.out)
        clear hb6 HB2 HW2 HB3 HW3 HB4 HW4 HB5 HW5
        rcases Bool.eq_false_or_eq_true (Mk.full l) with hf | hf
        · obtain ⟨m1, m2⟩ := Mk.full_iff.1 hf
          have f1 : Mk.pS l (Mk.kk l - 1) ≤ (Mk.pB l (Mk.kk l) + Mk.pS l (Mk.kk l)) / 2 := m1
          have f2 : (Mk.pB l (Mk.kk l) + Mk.pS l (Mk.kk l)) / 2 ≤ Mk.pB l (Mk.kk l - 1) := m2
          have HM : Hid (Mk.mcK l = Mk.kk l ∧ Mk.mcPay l = Mk.mid l ∧ Mk.mcGet l = Mk.mid l) := Mk.mc_full H0.out hf
          clear m1 m2 hf
          go_wp2
          go_loopw [15] (fun j wr => ∃ k : Nat, k ≤ l.length ∧ j = .int .i64 k ∧ Pl w wr l.length (fun j => if j < k then (if (Mk.rk l j : Int) < (Mk.kk l : Int) then 1 else 0) else 0)) (fun j _ => l.length - (intOf j).toNat)
          case atStart => exact ⟨0, Nat.zero_le _, rfl, HB6.out, World.rowIs.congr HW6.out (fun j _ => by simp)⟩
          case round =>
            obtain ⟨k, hk, rfl, hb⟩ := hrel
            have Hb : Hid (Pl w wr l.length (fun j => if j < k then (if (Mk.rk l j : Int) < (Mk.kk l : Int) then 1 else 0) else 0)) := hb
            clear hb
            by_cases hlt : k < l.length
            · have hlt' : (k : Int) < (l.length : Int) := by omega
              go_wp2_with fail
              refine (rank_any b off cap l k _ hlt h12 (HA.out.below Hb.out.below)).mono ?_
              rintro e w7 ⟨rfl, hb7⟩
              have H7 : Hid (Pl w w7 l.length (fun j => if j < k then (if (Mk.rk l j : Int) < (Mk.kk l : Int) then 1 else 0) else 0)) := Hb.out.next hb7
              clear hb7
              have gc := H7.out.row.cell hlt
              have gf := H7.out.row.frozen k
              simp only [Nat.lt_irrefl, if_false] at gc
              by_cases hm : (Mk.rk l k : Int) < (Mk.kk l : Int)
              · have HF := fun j => (show Hid _ from fill_yes hm j)
                go_wp2
                go_roundw
                case rel => exact ⟨k + 1, by omega, by go_num, (H7.out.set k _).congr (fun j _ => (HF j).out)⟩
                case measure => simp [intOf]; omega
              · have HF := fun j => (show Hid _ from fill_no hm j)
                go_wp2
                go_roundw
                case rel => exact ⟨k + 1, by omega, by go_num, H7.out.congr (fun j _ => (HF j).out)⟩
                case measure => simp [intOf]; omega
            · obtain rfl : k = l.length := by omega
              go_wp2
              (try simp only [Exit.inBlock, Exit.then]); refine bodyPost_ret (results_tmp4 rfl _ _ _) rfl ?_
              exact mcIs_some (m := (Mk.kk l : Int)) (by rw [HM.out.1]) HM.out.2.1.symm HM.out.2.2.symm (Nat.le_refl _) Hb.out.below (Hb.out.row.congr (fun j hj => by rw [if_pos hj]))
        · have hn' : ¬ (Mk.pS l (Mk.kk l - 1) ≤ (Mk.pB l (Mk.kk l) + Mk.pS l (Mk.kk l)) / 2 ∧ (Mk.pB l (Mk.kk l) + Mk.pS l (Mk.kk l)) / 2 ≤ Mk.pB l (Mk.kk l - 1)) := fun h => by rw [Mk.full_iff.2 h] at hf; cases hf
          by_cases h1 : Mk.kk l = 1
          · have HZ : Hid (Mk.mcK l = 0 ∧ Mk.mcPay l = 0 ∧ Mk.mcGet l = 0) := Mk.mc_one h1 hf
            have h1' : (((Mk.kk l : Int) - 1) == 0) = true := by simp; omega
            clear h1 hf
            by_cases f1 : Mk.pS l (Mk.kk l - 1) ≤ (Mk.pB l (Mk.kk l) + Mk.pS l (Mk.kk l)) / 2
            · have f2 : ¬ (Mk.pB l (Mk.kk l) + Mk.pS l (Mk.kk l)) / 2 ≤ Mk.pB l (Mk.kk l - 1) := fun h => hn' ⟨f1, h⟩
              clear hn'
              go_wp2
              (try simp only [Exit.inBlock, Exit.then]); refine bodyPost_ret (results_tmp4 rfl _ _ _) rfl ?_
              exact mcIs_zero HZ.out (Nat.le_refl _) HB6.out HW6.out
            · clear hn'
              go_wp2
              (try simp only [Exit.inBlock, Exit.then]); refine bodyPost_ret (results_tmp4 rfl _ _ _) rfl ?_
              exact mcIs_zero HZ.out (Nat.le_refl _) HB6.out HW6.out
          · have HM : Hid (Mk.mcK l = Mk.kk l - 1 ∧ Mk.mcPay l = Mk.pB l (Mk.kk l - 1) ∧ Mk.mcGet l = Mk.pS l (Mk.kk l - 1)) := Mk.mc_less (by omega) hf
            have h1' : (((Mk.kk l : Int) - 1) == 0) = false := by simp; omega
            have HK : Hid (((Mk.kk l : Int) - 1) = ((Mk.kk l - 1 : Nat) : Int)) := (by omega : ((Mk.kk l : Int) - 1) = ((Mk.kk l - 1 : Nat) : Int))
            clear h1 hf
            by_cases f1 : Mk.pS l (Mk.kk l - 1) ≤ (Mk.pB l (Mk.kk l) + Mk.pS l (Mk.kk l)) / 2
            · have f2 : ¬ (Mk.pB l (Mk.kk l) + Mk.pS l (Mk.kk l)) / 2 ≤ Mk.pB l (Mk.kk l - 1) := fun h => hn' ⟨f1, h⟩
              clear hn'
              go_wp2
              go_loopw [15] (fun j wr => ∃ k : Nat, k ≤ l.length ∧ j = .int .i64 k ∧ Pl w wr l.length (fun j => if j < k then (if (Mk.rk l j : Int) < (Mk.kk l : Int) - 1 then 1 else 0) else 0)) (fun j _ => l.length - (intOf j).toNat)
              case atStart => exact ⟨0, Nat.zero_le _, rfl, HB6.out, World.rowIs.congr HW6.out (fun j _ => by simp)⟩
              case round =>
                obtain ⟨k, hk, rfl, hb⟩ := hrel
                have Hb : Hid (Pl w wr l.length (fun j => if j < k then (if (Mk.rk l j : Int) < (Mk.kk l : Int) - 1 then 1 else 0) else 0)) := hb
                clear hb
                by_cases hlt : k < l.length
                · have hlt' : (k : Int) < (l.length : Int) := by omega
                  go_wp2_with fail
                  refine (rank_any b off cap l k _ hlt h12 (HA.out.below Hb.out.below)).mono ?_
                  rintro e w7 ⟨rfl, hb7⟩
                  have H7 : Hid (Pl w w7 l.length (fun j => if j < k then (if (Mk.rk l j : Int) < (Mk.kk l : Int) - 1 then 1 else 0) else 0)) := Hb.out.next hb7
                  clear hb7
                  have gc := H7.out.row.cell hlt
                  have gf := H7.out.row.frozen k
                  simp only [Nat.lt_irrefl, if_false] at gc
                  by_cases hm : (Mk.rk l k : Int) < (Mk.kk l : Int) - 1
                  · have HF := fun j => (show Hid _ from fill_yes hm j)
                    go_wp2
                    go_roundw
                    case rel => exact ⟨k + 1, by omega, by go_num, (H7.out.set k _).congr (fun j _ => (HF j).out)⟩
                    case measure => simp [intOf]; omega
                  · have HF := fun j => (show Hid _ from fill_no hm j)
                    go_wp2
                    go_roundw
                    case rel => exact ⟨k + 1, by omega, by go_num, H7.out.congr (fun j _ => (HF j).out)⟩
                    case measure => simp [intOf]; omega
                · obtain rfl : k = l.length := by omega
                  go_wp2
                  (try simp only [Exit.inBlock, Exit.then]); refine bodyPost_ret (results_tmp4 rfl _ _ _) rfl ?_
                  exact mcIs_some (m := (Mk.kk l : Int) - 1) (by rw [HM.out.1]; exact HK.out) HM.out.2.1.symm HM.out.2.2.symm (Nat.le_refl _) Hb.out.below (Hb.out.row.congr (fun j hj => by rw [if_pos hj]))
            · clear hn'
              go_wp2
              go_loopw [15] (fun j wr => ∃ k : Nat, k ≤ l.length ∧ j = .int .i64 k ∧ Pl w wr l.length (fun j => if j < k then (if (Mk.rk l j : Int) < (Mk.kk l : Int) - 1 then 1 else 0) else 0)) (fun j _ => l.length - (intOf j).toNat)
              case atStart => exact ⟨0, Nat.zero_le _, rfl, HB6.out, World.rowIs.congr HW6.out (fun j _ => by simp)⟩
              case round =>
                obtain ⟨k, hk, rfl, hb⟩ := hrel
                have Hb : Hid (Pl w wr l.length (fun j => if j < k then (if (Mk.rk l j : Int) < (Mk.kk l : Int) - 1 then 1 else 0) else 0)) := hb
                clear hb
                by_cases hlt : k < l.length
                · have hlt' : (k : Int) < (l.length : Int) := by omega
                  go_wp2_with fail
                  refine (rank_any b off cap l k _ hlt h12 (HA.out.below Hb.out.below)).mono ?_
                  rintro e w7 ⟨rfl, hb7⟩
                  have H7 : Hid (Pl w w7 l.length (fun j => if j < k then (if (Mk.rk l j : Int) < (Mk.kk l : Int) - 1 then 1 else 0) else 0)) := Hb.out.next hb7
                  clear hb7
                  have gc := H7.out.row.cell hlt
                  have gf := H7.out.row.frozen k
                  simp only [Nat.lt_irrefl, if_false] at gc
                  by_cases hm : (Mk.rk l k : Int) < (Mk.kk l : Int) - 1
                  · have HF := fun j => (show Hid _ from fill_yes hm j)
                    go_wp2
                    go_roundw
                    case rel => exact ⟨k + 1, by omega, by go_num, (H7.out.set k _).congr (fun j _ => (HF j).out)⟩
                    case measure => simp [intOf]; omega
                  · have HF := fun j => (show Hid _ from fill_no hm j)
                    go_wp2
                    go_roundw
                    case rel => exact ⟨k + 1, by omega, by go_num, H7.out.congr (fun j _ => (HF j).out)⟩
                    case measure => simp [intOf]; omega
                · obtain rfl : k = l.length := by omega
                  go_wp2
                  (try simp only [Exit.inBlock, Exit.then]); refine bodyPost_ret (results_tmp4 rfl _ _ _) rfl ?_
                  exact mcIs_some (m := (Mk.kk l : Int) - 1) (by rw [HM.out.1]; exact HK.out) HM.out.2.1.symm HM.out.2.2.symm (Nat.le_refl _) Hb.out.below (Hb.out.row.congr (fun j hj => by rw [if_pos hj]))

set_option maxRecDepth 100000 in
set_option maxHeartbeats 2000000 in
theorem rmcafee_nil (a : Option Addr) (cap : Nat) (l : List Mk.Ord) (hl : l = []) (w : World) :
    Calls Tryz.prog 44 #[.slice a l.length cap] w fun e w' => McIs l w e w' := by
  have HR : Hid (∀ W, Rd W a l) := fun W => .inl hl
  have HV : Hid (Mk.validB 20 l = true) := by rw [hl]; rfl
  have h20 := HV.out
  have h12 : l.length ≤ 12 := by rw [hl]; simp
  have hn : ¬ (0 : Int) < (l.length : Int) := by rw [hl]; simp
  have hk : Mk.kk l = 0 := by rw [hl]; rfl
  have h0' : ((Mk.kk l : Int) == 0) = true := by simp; omega
  have HZ : Hid (Mk.mcK l = 0 ∧ Mk.mcPay l = 0 ∧ Mk.mcGet l = 0) := Mk.mc_none hk
  have hmk := run_make_row' (P := Tryz.prog) 53 3 (.int .i64 0) 8 Tryz.underlying53 Tryz.infoInt rfl .i64 .i64 l.length (by omega) (by omega)
  clear hk hl
  go_enter Tryz.func44, Tryz.ntmps44
  go_wp2_with (go_at_call 61; refine (are_any _ cap l _ (HR.out _)).mono ?_; rintro e w1 ⟨rfl, hw1⟩; obtain rfl := hw1.symm)
  go_loopw [6, 7] (fun o j wr => wr = w ∧ o = .bool true ∧ j = .int .i64 0) (fun _ _ _ => 0)
  case atStart => exact ⟨rfl, rfl, rfl⟩
  case round =>
    obtain ⟨hwr, rfl, rfl⟩ := hrel
    obtain rfl := hwr.symm
    go_wp2_with fail
    have HB1 : Hid (Below w.heap.size w (w.alloc (.cells (madeCells #[.int .i64 0] l.length) 3))) := (Below.refl _ _).alloc (Nat.le_refl _) _
    have HW1 : Hid ((w.alloc (.cells (madeCells #[.int .i64 0] l.length) 3)).rowIs w.heap.size 3 l.length (fun _ => .int .i64 0)) := World.rowIs_made w (.int .i64 0) l.length 3
    refine (pairs_any _ cap l _ h12 (HR.out _)).mono ?_
    rintro e w2 ⟨rfl, hb2⟩
    have HB2 : Hid (Below w.heap.size w w2) := HB1.out.trans (hb2.mono HB1.out.size)
    have HW2 : Hid (w2.rowIs w.heap.size 3 l.length (fun _ => .int .i64 0)) := row_below HW1.out hb2 (World.rowIs.lt HW1.out)
    clear hb2 HW1 HB1 hmk
    go_wp2
    (try simp only [Exit.inBlock, Exit.then]); refine bodyPost_ret (results_tmp4 rfl _ _ _) rfl ?_
    exact mcIs_zero HZ.out (Nat.le_refl _) HB2.out HW2.out

theorem rmcafee_any (a : Option Addr) (cap : Nat) (l : List Mk.Ord) (w : World) (hv : Mk.validB 1 l = true) (hR : Rd w a l) :
    Calls Tryz.prog 44 #[.slice a l.length cap] w fun e w' => McIs l w e w' := by
  rcases hR with hl | ⟨b, off, rfl, hR⟩
  · exact rmcafee_nil a cap l hl w
  · exact rmcafee_some b off cap l w hv hR

end Go.Proofs.YtmebcdpdpcpnmaaGreatDoor
