import Derived.Test.YtmebcdpdpcpnmaaGreatDoorJ17
import Derived.Test.YtmebcdpdpcpnmaaGreatDoorJ18
import Derived.Test.YtmebcdpdpcpnmaaGreatDoorJ15
import Derived.Test.YtmebcdpdpcpnmaaGreatDoorJ16
import Derived.Test.YtmebcdpdpcpnmaaGreatDoorJ12
import Derived.Lib.Strings
namespace Go.Proofs.YtmebcdpdpcpnmaaGreatDoor
open Go.RowKit

theorem at_predB (a : Option Addr) (cap : Nat) (l : List Mk.Ord) (w : World) (h12 : l.length ≤ 12) (h0 : Mk.kk l ≠ 0) (hR : Rd w a l) :
    Calls Tryz.prog 72 #[.slice a l.length cap, .bool false, .int .i64 ((Mk.kk l : Int) - 1), .int .i64 0] w fun e w' => e = .returned (.int .i64 (Mk.pB l (Mk.kk l - 1))) ∧ Below w.heap.size w w' := by
  rw [show ((Mk.kk l : Int) - 1) = ((Mk.kk l - 1 : Nat) : Int) by omega]
  exact at_B a cap l _ w h12 hR
theorem at_predS (a : Option Addr) (cap : Nat) (l : List Mk.Ord) (w : World) (h12 : l.length ≤ 12) (hp : Mk.okP l) (h0 : Mk.kk l ≠ 0) (hR : Rd w a l) :
    Calls Tryz.prog 72 #[.slice a l.length cap, .bool true, .int .i64 ((Mk.kk l : Int) - 1), .int .i64 0] w fun e w' => e = .returned (.int .i64 (Mk.pS l (Mk.kk l - 1))) ∧ Below w.heap.size w w' := by
  rw [show ((Mk.kk l : Int) - 1) = ((Mk.kk l - 1 : Nat) : Int) by omega, ← Mk.prAt_get hp h0]
  exact at_any a cap l true _ 0 w h12 hR

set_option maxRecDepth 100000 in
set_option maxHeartbeats 2000000 in
theorem rmcafee_bad (a : Option Addr) (cap : Nat) (l : List Mk.Ord) (w : World) (hv : Mk.validB 1 l = false) (hR : Rd w a l) :
    Calls Tryz.prog 44 #[.slice a l.length cap] w fun e w' => e = .returned (.tuple #[.slice none 0 0, .int .i64 0, .int .i64 0, .int .i64 1]) ∧ Below w.heap.size w w' := by
  have HR : Hid (Rd w a l) := hR
  rcases Bool.eq_false_or_eq_true (Mk.validB 20 l) with h20 | h20
  · have h12 := (Mk.ok_of_valid h20).1
    have hone : l.all Mk.oneB = false := by rw [Mk.valid_one, h20, Bool.true_and] at hv; exact hv
    have HO : Hid (l.all Mk.oneB = false) := hone
    rcases hR with rfl | ⟨b, off, rfl, hR⟩
    · simp at hone
    have HA : Hid (At w b off l) := hR
    clear hv hone hR
    go_enter Tryz.func44, Tryz.ntmps44
    go_wp2_with (go_at_call 61; refine (are_any _ cap l _ HR.out).mono ?_; rintro e w1 ⟨rfl, hw1⟩; obtain rfl := hw1.symm)
    go_loopw [6, 7] (fun o j wr => wr = w ∧ ∃ k : Nat, k ≤ l.length ∧ j = .int .i64 k ∧ o = .bool ((l.take k).all Mk.oneB)) (fun _ j _ => l.length - (intOf j).toNat)
    case atStart => exact ⟨rfl, 0, Nat.zero_le _, rfl, by simp⟩
    case round =>
      obtain ⟨hwr, k, hk, rfl, rfl⟩ := hrel
      obtain rfl := hwr.symm
      rcases Bool.eq_false_or_eq_true ((l.take k).all Mk.oneB) with hall | hall
      · by_cases hlt : k < l.length
        · obtain ⟨c0, c1, c2⟩ := HA.out k hlt
          have hlt' : (k : Int) < (l.length : Int) := by omega
          have HN : Hid ((l.take (k + 1)).all Mk.oneB = (l[k].qty == 1)) := (by rw [Mk.all_take_succ _ _ _ hlt, hall, Bool.true_and]; simp [Mk.oneB]; rw [Bool.eq_iff_iff]; simp : (l.take (k + 1)).all Mk.oneB = (l[k].qty == 1))
          go_wp2
          go_roundw
          case rel => exact ⟨by first | rfl | trivial, k + 1, by omega, by go_num, by rw [HN.out]⟩
          case measure => simp [intOf]; omega
        · exfalso
          obtain rfl : k = l.length := by omega
          rw [List.take_length, HO.out] at hall
          cases hall
      · go_wp2
        (try simp only [Exit.inBlock, Exit.then]); refine bodyPost_ret (results_tmp4 rfl _ _ _) rfl ?_
        exact ⟨rfl, Below.refl _ _⟩
  · clear hv hR
    go_enter Tryz.func44, Tryz.ntmps44
    go_wp2_with (go_at_call 61; refine (are_any _ cap l _ HR.out).mono ?_; rintro e w1 ⟨rfl, hw1⟩; obtain rfl := hw1.symm)
    go_loop [6, 7] (fun o j => o = .bool false ∧ j = .int .i64 0) (fun _ _ => 0)
    case atStart => exact ⟨rfl, rfl⟩
    case round =>
      obtain ⟨rfl, rfl⟩ := hrel
      go_wp2
      (try simp only [Exit.inBlock, Exit.then]); refine bodyPost_ret (results_tmp4 rfl _ _ _) rfl ?_
      exact ⟨rfl, Below.refl _ _⟩

/-- the row that McAfee fills, behind i orders -/
theorem fill_yes {l : List Mk.Ord} {m : Int} {k : Nat} (h : (Mk.rk l k : Int) < m) (j : Nat) : (if j = k then (1 : Int) else if j < k then (if (Mk.rk l j : Int) < m then 1 else 0) else 0) = if j < k + 1 then (if (Mk.rk l j : Int) < m then 1 else 0) else 0 :=
  Mk.step_on (G := fun j => if (Mk.rk l j : Int) < m then (1 : Int) else 0) (k := k) (if_pos h) j
theorem fill_no {l : List Mk.Ord} {m : Int} {k : Nat} (h : ¬ (Mk.rk l k : Int) < m) (j : Nat) : (if j < k then (if (Mk.rk l j : Int) < m then (1 : Int) else 0) else 0) = if j < k + 1 then (if (Mk.rk l j : Int) < m then 1 else 0) else 0 :=
  Mk.step_off (G := fun j => if (Mk.rk l j : Int) < m then (1 : Int) else 0) (k := k) (if_neg h) j

set_option maxRecDepth 100000 in
set_option maxHeartbeats 2000000 in
theorem rmcafee_some (b off cap : Nat) (l : List Mk.Ord) (w : World) (hv : Mk.validB 1 l = true) (hR : At w b off l) :
    Calls Tryz.prog 44 #[.slice (some ⟨b, off, none⟩) l.length cap] w fun e w' => McIs l w e w' := by
  have HA : Hid (At w b off l) := hR
  have HR : Hid (Rd w (some ⟨b, off, none⟩) l) := .inr ⟨b, off, rfl, hR⟩
  have h20 := Mk.valid_20 hv
  have h12 := (Mk.ok_of_valid h20).1
  have HO : Hid (∀ o ∈ l, 1 ≤ o.price ∧ o.price ≤ 99 ∧ 1 ≤ o.qty ∧ o.qty ≤ 1) := (Mk.ok_of_valid hv).2
  have hp := Mk.okP_of hv
  have HP : Hid (Mk.okP l) := hp
  have hmk := run_make_row' (P := Tryz.prog) 53 3 (.int .i64 0) 8 Tryz.underlying53 Tryz.infoInt rfl .i64 .i64 l.length (by omega) (by omega)
  have b1 := Mk.pB_bd hp (Mk.kk l)
  have b2 := Mk.pS_bd hp (Mk.kk l)
  have b3 := Mk.kk_le (l := l)
  clear hv hp hR
  go_enter Tryz.func44, Tryz.ntmps44
  go_wp2_with (go_at_call 61; refine (are_any _ cap l _ HR.out).mono ?_; rintro e w1 ⟨rfl, hw1⟩; obtain rfl := hw1.symm)
  go_loopw [6, 7] (fun o j wr => wr = w ∧ ∃ k : Nat, k ≤ l.length ∧ j = .int .i64 k ∧ o = .bool true) (fun _ j _ => l.length - (intOf j).toNat)
  case atStart => exact ⟨rfl, 0, Nat.zero_le _, rfl, rfl⟩
  case round =>
    obtain ⟨hwr, k, hk, rfl, rfl⟩ := hrel
    obtain rfl := hwr.symm
    by_cases hlt : k < l.length
    · obtain ⟨c0, c1, c2⟩ := HA.out k hlt
      have hlt' : (k : Int) < (l.length : Int) := by omega
      have hq : l[k].qty = 1 := by have := HO.out _ (List.getElem_mem hlt); omega
      rw [hq] at c2
      clear hq
      go_wp2
      go_roundw
      case rel => exact ⟨by first | rfl | trivial, k + 1, by omega, by go_num, rfl⟩
      case measure => simp [intOf]; omega
    · obtain rfl : k = l.length := by omega
      clear hk
      go_wp2_with fail
      have HB1 : Hid (Below w.heap.size w (w.alloc (.cells (madeCells #[.int .i64 0] l.length) 3))) := (Below.refl _ _).alloc (Nat.le_refl _) _
      have HW1 : Hid ((w.alloc (.cells (madeCells #[.int .i64 0] l.length) 3)).rowIs w.heap.size 3 l.length (fun _ => .int .i64 0)) := World.rowIs_made w (.int .i64 0) l.length 3
      refine (pairs_any _ cap l _ h12 (HR.out.below HB1.out)).mono ?_
      rintro e w2 ⟨rfl, hb2⟩
      have HB2 : Hid (Below w.heap.size w w2) := HB1.out.trans (hb2.mono HB1.out.size)
      have HW2 : Hid (w2.rowIs w.heap.size 3 l.length (fun _ => .int .i64 0)) := row_below HW1.out hb2 (World.rowIs.lt HW1.out)
      clear hb2 HW1 HB1 hmk
      by_cases h0 : Mk.kk l = 0
      · have h0' : ((Mk.kk l : Int) == 0) = true := by simp; omega
        have HZ : Hid (Mk.mcK l = 0 ∧ Mk.mcPay l = 0 ∧ Mk.mcGet l = 0) := Mk.mc_none h0
        clear h0
        go_wp2
        (try simp only [Exit.inBlock, Exit.then]); refine bodyPost_ret (results_tmp4 rfl _ _ _) rfl ?_
        exact mcIs_zero HZ.out (Nat.le_refl _) HB2.out HW2.out
      · have h0' : ((Mk.kk l : Int) == 0) = false := by simp; omega
        have H0 : Hid (Mk.kk l ≠ 0) := h0
        have b4 := Mk.pB_bd HP.out (Mk.kk l - 1)
        have b5 := Mk.pS_bd HP.out (Mk.kk l - 1)
        have hk1 : (1 : Int) ≤ (Mk.kk l : Int) := by omega
        clear h0
        go_wp2_with fail
        refine (at_B _ cap l (Mk.kk l) _ h12 (HR.out.below HB2.out)).mono ?_
        rintro e w3 ⟨rfl, hb3⟩
        have HB3 : Hid (Below w.heap.size w w3) := HB2.out.trans (hb3.mono HB2.out.size)
        have HW3 : Hid (w3.rowIs w.heap.size 3 l.length (fun _ => .int .i64 0)) := row_below HW2.out hb3 (World.rowIs.lt HW2.out)
        clear hb3
        go_wp2_with fail
        refine (at_S _ cap l (Mk.kk l) _ h12 (HR.out.below HB3.out)).mono ?_
        rintro e w4 ⟨rfl, hb4⟩
        have HB4 : Hid (Below w.heap.size w w4) := HB3.out.trans (hb4.mono HB3.out.size)
        have HW4 : Hid (w4.rowIs w.heap.size 3 l.length (fun _ => .int .i64 0)) := row_below HW3.out hb4 (World.rowIs.lt HW3.out)
        clear hb4
        go_wp2_with fail
        refine (at_predB _ cap l _ h12 H0.out (HR.out.below HB4.out)).mono ?_
        rintro e w5 ⟨rfl, hb5⟩
        have HB5 : Hid (Below w.heap.size w w5) := HB4.out.trans (hb5.mono HB4.out.size)
        have HW5 : Hid (w5.rowIs w.heap.size 3 l.length (fun _ => .int .i64 0)) := row_below HW4.out hb5 (World.rowIs.lt HW4.out)
        clear hb5
        go_wp2_with fail
        refine (at_predS _ cap l _ h12 HP.out H0.out (HR.out.below HB5.out)).mono ?_
        rintro e w6 ⟨rfl, hb6⟩
        have HB6 : Hid (Below w.heap.size w w6) := HB5.out.trans (hb6.mono HB5.out.size)
        have HW6 : Hid (w6.rowIs w.heap.size 3 l.length (fun _ => .int .i64 0)) := row_below HW5.out hb6 (World.rowIs.lt HW5.out)
        clear hb6 HB2 HW2 HB3 HW3 HB4 HW4 HB5 HW5
        rcases Bool.eq_false_or_eq_true (Mk.full l) with hf | hf
        · obtain ⟨m1, m2⟩ := Mk.full_iff.1 hf
          have f1 : Mk.pS l (Mk.kk l - 1) ≤ (Mk.pB l (Mk.kk l) + Mk.pS l (Mk.kk l)) / 2 := m1
          have f2 : (Mk.pB l (Mk.kk l) + Mk.pS l (Mk.kk l)) / 2 ≤ Mk.pB l (Mk.kk l - 1) := m2
          have HM : Hid (Mk.mcK l = Mk.kk l ∧ Mk.mcPay l = Mk.mid l ∧ Mk.mcGet l = Mk.mid l) := Mk.mc_full H0.out hf
          clear m1 m2 hf
          go_wp2
          go_loopw [15] (fun j wr => ∃ k : Nat, k ≤ l.length ∧ j = .int .i64 k ∧ Pl w wr l.length (fun j => if j < k then (if (Mk.rk l j : Int) < (Mk.kk l : Int) then 1 else 0) else 0)) (fun j _ => l.length - (intOf j).toNat)
          case atStart => exact ⟨0, Nat.zero_le _, rfl, HB6.out, World.rowIs.congr HW6.out (fun j _ => by simp)⟩
          case round =>
            obtain ⟨k, hk, rfl, hb⟩ := hrel
            have Hb : Hid (Pl w wr l.length (fun j => if j < k then (if (Mk.rk l j : Int) < (Mk.kk l : Int) then 1 else 0) else 0)) := hb
            clear hb
            by_cases hlt : k < l.length
            · have hlt' : (k : Int) < (l.length : Int) := by omega
              go_wp2_with fail
              refine (rank_any b off cap l k _ hlt h12 (HA.out.below Hb.out.below)).mono ?_
              rintro e w7 ⟨rfl, hb7⟩
              have H7 : Hid (Pl w w7 l.length (fun j => if j < k then (if (Mk.rk l j : Int) < (Mk.kk l : Int) then 1 else 0) else 0)) := Hb.out.next hb7
              clear hb7
              have gc := H7.out.row.cell hlt
              have gf := H7.out.row.frozen k
              simp only [Nat.lt_irrefl, if_false] at gc
              by_cases hm : (Mk.rk l k : Int) < (Mk.kk l : Int)
              · have HF := fun j => (show Hid _ from fill_yes hm j)
                go_wp2
                go_roundw
                case rel => exact ⟨k + 1, by omega, by go_num, (H7.out.set k _).congr (fun j _ => (HF j).out)⟩
                case measure => simp [intOf]; omega
              · have HF := fun j => (show Hid _ from fill_no hm j)
                go_wp2
                go_roundw
                case rel => exact ⟨k + 1, by omega, by go_num, H7.out.congr (fun j _ => (HF j).out)⟩
                case measure => simp [intOf]; omega
            · obtain rfl : k = l.length := by omega
              go_wp2
              (try simp only [Exit.inBlock, Exit.then]); refine bodyPost_ret (results_tmp4 rfl _ _ _) rfl ?_
              exact mcIs_some (m := (Mk.kk l : Int)) (by rw [HM.out.1]) HM.out.2.1.symm HM.out.2.2.symm (Nat.le_refl _) Hb.out.below (Hb.out.row.congr (fun j hj => by rw [if_pos hj]))
        · have hn' : ¬ (Mk.pS l (Mk.kk l - 1) ≤ (Mk.pB l (Mk.kk l) + Mk.pS l (Mk.kk l)) / 2 ∧ (Mk.pB l (Mk.kk l) + Mk.pS l (Mk.kk l)) / 2 ≤ Mk.pB l (Mk.kk l - 1)) := fun h => by rw [Mk.full_iff.2 h] at hf; cases hf
          by_cases h1 : Mk.kk l = 1
          · have HZ : Hid (Mk.mcK l = 0 ∧ Mk.mcPay l = 0 ∧ Mk.mcGet l = 0) := Mk.mc_one h1 hf
            have h1' : (((Mk.kk l : Int) - 1) == 0) = true := by simp; omega
            clear h1 hf
            by_cases f1 : Mk.pS l (Mk.kk l - 1) ≤ (Mk.pB l (Mk.kk l) + Mk.pS l (Mk.kk l)) / 2
            · have f2 : ¬ (Mk.pB l (Mk.kk l) + Mk.pS l (Mk.kk l)) / 2 ≤ Mk.pB l (Mk.kk l - 1) := fun h => hn' ⟨f1, h⟩
              clear hn'
              go_wp2
              (try simp only [Exit.inBlock, Exit.then]); refine bodyPost_ret (results_tmp4 rfl _ _ _) rfl ?_
              exact mcIs_zero HZ.out (Nat.le_refl _) HB6.out HW6.out
            · clear hn'
              go_wp2
              (try simp only [Exit.inBlock, Exit.then]); refine bodyPost_ret (results_tmp4 rfl _ _ _) rfl ?_
              exact mcIs_zero HZ.out (Nat.le_refl _) HB6.out HW6.out
          · have HM : Hid (Mk.mcK l = Mk.kk l - 1 ∧ Mk.mcPay l = Mk.pB l (Mk.kk l - 1) ∧ Mk.mcGet l = Mk.pS l (Mk.kk l - 1)) := Mk.mc_less (by omega) hf
            have h1' : (((Mk.kk l : Int) - 1) == 0) = false := by simp; omega
            have HK : Hid (((Mk.kk l : Int) - 1) = ((Mk.kk l - 1 : Nat) : Int)) := (by omega : ((Mk.kk l : Int) - 1) = ((Mk.kk l - 1 : Nat) : Int))
            clear h1 hf
            by_cases f1 : Mk.pS l (Mk.kk l - 1) ≤ (Mk.pB l (Mk.kk l) + Mk.pS l (Mk.kk l)) / 2
            · have f2 : ¬ (Mk.pB l (Mk.kk l) + Mk.pS l (Mk.kk l)) / 2 ≤ Mk.pB l (Mk.kk l - 1) := fun h => hn' ⟨f1, h⟩
              clear hn'
              go_wp2
              go_loopw [15] (fun j wr => ∃ k : Nat, k ≤ l.length ∧ j = .int .i64 k ∧ Pl w wr l.length (fun j => if j < k then (if (Mk.rk l j : Int) < (Mk.kk l : Int) - 1 then 1 else 0) else 0)) (fun j _ => l.length - (intOf j).toNat)
              case atStart => exact ⟨0, Nat.zero_le _, rfl, HB6.out, World.rowIs.congr HW6.out (fun j _ => by simp)⟩
              case round =>
                obtain ⟨k, hk, rfl, hb⟩ := hrel
                have Hb : Hid (Pl w wr l.length (fun j => if j < k then (if (Mk.rk l j : Int) < (Mk.kk l : Int) - 1 then 1 else 0) else 0)) := hb
                clear hb
                by_cases hlt : k < l.length
                · have hlt' : (k : Int) < (l.length : Int) := by omega
                  go_wp2_with fail
                  refine (rank_any b off cap l k _ hlt h12 (HA.out.below Hb.out.below)).mono ?_
                  rintro e w7 ⟨rfl, hb7⟩
                  have H7 : Hid (Pl w w7 l.length (fun j => if j < k then (if (Mk.rk l j : Int) < (Mk.kk l : Int) - 1 then 1 else 0) else 0)) := Hb.out.next hb7
                  clear hb7
                  have gc := H7.out.row.cell hlt
                  have gf := H7.out.row.frozen k
                  simp only [Nat.lt_irrefl, if_false] at gc
                  by_cases hm : (Mk.rk l k : Int) < (Mk.kk l : Int) - 1
                  · have HF := fun j => (show Hid _ from fill_yes hm j)
                    go_wp2
                    go_roundw
                    case rel => exact ⟨k + 1, by omega, by go_num, (H7.out.set k _).congr (fun j _ => (HF j).out)⟩
                    case measure => simp [intOf]; omega
                  · have HF := fun j => (show Hid _ from fill_no hm j)
                    go_wp2
                    go_roundw
                    case rel => exact ⟨k + 1, by omega, by go_num, H7.out.congr (fun j _ => (HF j).out)⟩
                    case measure => simp [intOf]; omega
                · obtain rfl : k = l.length := by omega
                  go_wp2
                  (try simp only [Exit.inBlock, Exit.then]); refine bodyPost_ret (results_tmp4 rfl _ _ _) rfl ?_
                  exact mcIs_some (m := (Mk.kk l : Int) - 1) (by rw [HM.out.1]; exact HK.out) HM.out.2.1.symm HM.out.2.2.symm (Nat.le_refl _) Hb.out.below (Hb.out.row.congr (fun j hj => by rw [if_pos hj]))
            · clear hn'
              go_wp2
              go_loopw [15] (fun j wr => ∃ k : Nat, k ≤ l.length ∧ j = .int .i64 k ∧ Pl w wr l.length (fun j => if j < k then (if (Mk.rk l j : Int) < (Mk.kk l : Int) - 1 then 1 else 0) else 0)) (fun j _ => l.length - (intOf j).toNat)
              case atStart => exact ⟨0, Nat.zero_le _, rfl, HB6.out, World.rowIs.congr HW6.out (fun j _ => by simp)⟩
              case round =>
                obtain ⟨k, hk, rfl, hb⟩ := hrel
                have Hb : Hid (Pl w wr l.length (fun j => if j < k then (if (Mk.rk l j : Int) < (Mk.kk l : Int) - 1 then 1 else 0) else 0)) := hb
                clear hb
                by_cases hlt : k < l.length
                · have hlt' : (k : Int) < (l.length : Int) := by omega
                  go_wp2_with fail
                  refine (rank_any b off cap l k _ hlt h12 (HA.out.below Hb.out.below)).mono ?_
                  rintro e w7 ⟨rfl, hb7⟩
                  have H7 : Hid (Pl w w7 l.length (fun j => if j < k then (if (Mk.rk l j : Int) < (Mk.kk l : Int) - 1 then 1 else 0) else 0)) := Hb.out.next hb7
                  clear hb7
                  have gc := H7.out.row.cell hlt
                  have gf := H7.out.row.frozen k
                  simp only [Nat.lt_irrefl, if_false] at gc
                  by_cases hm : (Mk.rk l k : Int) < (Mk.kk l : Int) - 1
                  · have HF := fun j => (show Hid _ from fill_yes hm j)
                    go_wp2
                    go_roundw
                    case rel => exact ⟨k + 1, by omega, by go_num, (H7.out.set k _).congr (fun j _ => (HF j).out)⟩
                    case measure => simp [intOf]; omega
                  · have HF := fun j => (show Hid _ from fill_no hm j)
                    go_wp2
                    go_roundw
                    case rel => exact ⟨k + 1, by omega, by go_num, H7.out.congr (fun j _ => (HF j).out)⟩
                    case measure => simp [intOf]; omega
                · obtain rfl : k = l.length := by omega
                  go_wp2
                  (try simp only [Exit.inBlock, Exit.then]); refine bodyPost_ret (results_tmp4 rfl _ _ _) rfl ?_
                  exact mcIs_some (m := (Mk.kk l : Int) - 1) (by rw [HM.out.1]; exact HK.out) HM.out.2.1.symm HM.out.2.2.symm (Nat.le_refl _) Hb.out.below (Hb.out.row.congr (fun j hj => by rw [if_pos hj]))

set_option maxRecDepth 100000 in
set_option maxHeartbeats 2000000 in
theorem rmcafee_nil (a : Option Addr) (cap : Nat) (l : List Mk.Ord) (hl : l = []) (w : World) :
    Calls Tryz.prog 44 #[.slice a l.length cap] w fun e w' => McIs l w e w' := by
  have HR : Hid (∀ W, Rd W a l) := fun W => .inl hl
  have HV : Hid (Mk.validB 20 l = true) := by rw [hl]; rfl
  have h20 := HV.out
  have h12 : l.length ≤ 12 := by rw [hl]; simp
  have hn : ¬ (0 : Int) < (l.length : Int) := by rw [hl]; simp
  have hk : Mk.kk l = 0 := by rw [hl]; rfl
  have h0' : ((Mk.kk l : Int) == 0) = true := by simp; omega
  have HZ : Hid (Mk.mcK l = 0 ∧ Mk.mcPay l = 0 ∧ Mk.mcGet l = 0) := Mk.mc_none hk
  have hmk := run_make_row' (P := Tryz.prog) 53 3 (.int .i64 0) 8 Tryz.underlying53 Tryz.infoInt rfl .i64 .i64 l.length (by omega) (by omega)
  clear hk hl
  go_enter Tryz.func44, Tryz.ntmps44
  go_wp2_with (go_at_call 61; refine (are_any _ cap l _ (HR.out _)).mono ?_; rintro e w1 ⟨rfl, hw1⟩; obtain rfl := hw1.symm)
  go_loopw [6, 7] (fun o j wr => wr = w ∧ o = .bool true ∧ j = .int .i64 0) (fun _ _ _ => 0)
  case atStart => exact ⟨rfl, rfl, rfl⟩
  case round =>
    obtain ⟨hwr, rfl, rfl⟩ := hrel
    obtain rfl := hwr.symm
    go_wp2_with fail
    have HB1 : Hid (Below w.heap.size w (w.alloc (.cells (madeCells #[.int .i64 0] l.length) 3))) := (Below.refl _ _).alloc (Nat.le_refl _) _
    have HW1 : Hid ((w.alloc (.cells (madeCells #[.int .i64 0] l.length) 3)).rowIs w.heap.size 3 l.length (fun _ => .int .i64 0)) := World.rowIs_made w (.int .i64 0) l.length 3
    refine (pairs_any _ cap l _ h12 (HR.out _)).mono ?_
    rintro e w2 ⟨rfl, hb2⟩
    have HB2 : Hid (Below w.heap.size w w2) := HB1.out.trans (hb2.mono HB1.out.size)
    have HW2 : Hid (w2.rowIs w.heap.size 3 l.length (fun _ => .int .i64 0)) := row_below HW1.out hb2 (World.rowIs.lt HW1.out)
    clear hb2 HW1 HB1 hmk
    go_wp2
    (try simp only [Exit.inBlock, Exit.then]); refine bodyPost_ret (results_tmp4 rfl _ _ _) rfl ?_
    exact mcIs_zero HZ.out (Nat.le_refl _) HB2.out HW2.out

theorem rmcafee_any (a : Option Addr) (cap : Nat) (l : List Mk.Ord) (w : World) (hv : Mk.validB 1 l = true) (hR : Rd w a l) :
    Calls Tryz.prog 44 #[.slice a l.length cap] w fun e w' => McIs l w e w' := by
  rcases hR with hl | ⟨b, off, rfl, hR⟩
  · exact rmcafee_nil a cap l hl w
  · exact rmcafee_some b off cap l w hv hR

end Go.Proofs.YtmebcdpdpcpnmaaGreatDoor

namespace Go.Proofs.YtmebcdpdpcpnmaaGreatDoor
open Go.RowKit

/-- what 'cleared' answers -/
def ClIs (md : Bool) (l : List Mk.Ord) (w : World) (e : Ending) (w' : World) : Prop :=
  ∃ g, e = .returned (.tuple #[.slice (some ⟨g, 0, none⟩) l.length l.length, .int .i64 (Mk.clPay md l), .int .i64 (Mk.clGet md l)]) ∧ w.heap.size ≤ g ∧ Below w.heap.size w w' ∧ w'.rowIs g 3 l.length (fun i => .int .i64 (Mk.clF md l i))

set_option maxRecDepth 100000 in
set_option maxHeartbeats 2000000 in
theorem cleared_any (a : Option Addr) (cap : Nat) (l : List Mk.Ord) (md : Bool) (w : World) (h20 : Mk.validB 20 l = true) (h1 : md = true → Mk.validB 1 l = true) (hR : Rd w a l) :
    Calls Tryz.prog 110 #[.slice a l.length cap, .bool md] w fun e w' => ClIs md l w e w' := by
  have HR : Hid (Rd w a l) := hR
  have HV : Hid (Mk.validB 20 l = true) := h20
  cases md
  · clear hR h20 h1
    go_enter Tryz.func110, Tryz.ntmps110
    go_wp2_with fail
    refine (runiform_any a cap l w HV.out HR.out).mono ?_
    rintro e w1 ⟨g, rfl, hg, hb, hrow⟩
    have HD : Hid (ClIs false l w (.returned (.tuple #[.slice (some ⟨g, 0, none⟩) l.length l.length, .int .i64 (Mk.price l), .int .i64 (Mk.price l)])) w1) := ⟨g, rfl, hg, hb, hrow⟩
    clear hg hb hrow
    go_wp2_with fail
    refine bodyPost_ret (v := .tuple #[.slice (some ⟨g, 0, none⟩) l.length l.length, .int .i64 (Mk.price l), .int .i64 (Mk.price l)]) ?_ rfl HD.out
    simp [results, Tryz.results110, go_sem]
  · have HV1 : Hid (Mk.validB 1 l = true) := h1 rfl
    clear hR h20 h1
    go_enter Tryz.func110, Tryz.ntmps110
    go_wp2_with fail
    refine (rmcafee_any a cap l w HV1.out HR.out).mono ?_
    rintro e w1 ⟨g, rfl, hg, hb, hrow⟩
    have HD : Hid (ClIs true l w (.returned (.tuple #[.slice (some ⟨g, 0, none⟩) l.length l.length, .int .i64 (Mk.mcPay l), .int .i64 (Mk.mcGet l)])) w1) := ⟨g, rfl, hg, hb, hrow⟩
    clear hg hb hrow
    go_wp2_with fail
    refine bodyPost_ret (v := .tuple #[.slice (some ⟨g, 0, none⟩) l.length l.length, .int .i64 (Mk.mcPay l), .int .i64 (Mk.mcGet l)]) ?_ rfl HD.out
    simp [results, Tryz.results110, go_sem]

end Go.Proofs.YtmebcdpdpcpnmaaGreatDoor

/- Plain mathematics of the law: does a text have a word in it? -/
namespace Mk

def hasAt (s w : ByteArray) (i : Nat) : Bool := (s.extract i (i + w.size)).toList == w.toList
def hasTo (s w : ByteArray) : Nat → Bool
  | 0 => false
  | k + 1 => hasTo s w k || hasAt s w k
/-- does a text have a word in it? -/
def has (s w : ByteArray) : Bool := decide (w.size ≤ s.size) && hasTo s w (s.size - w.size + 1)

theorem hasTo_at {s w : ByteArray} : ∀ {k i : Nat}, i < k → hasAt s w i = true → hasTo s w k = true
  | 0, i, h, _ => by omega
  | k + 1, i, h, hi => by
    simp only [hasTo, Bool.or_eq_true]
    by_cases e : i = k
    · subst e; exact .inr hi
    · exact .inl (hasTo_at (by omega) hi)

/-- a piece of a text -/
def Piece (s x : ByteArray) : Prop := ∃ a, a + x.size ≤ s.size ∧ s.extract a (a + x.size) = x
theorem piece_extract (s : ByteArray) {a b : Nat} (h : a ≤ b) (hb : b ≤ s.size) : Piece s (s.extract a b) := by
  have e : (s.extract a b).size = b - a := by rw [ByteArray.size_extract]; omega
  exact ⟨a, by omega, by rw [e, show a + (b - a) = b by omega]⟩
theorem cutTo_piece (s : ByteArray) : ∀ k, k ≤ s.size → ∀ x ∈ (cutTo s k).1, Piece s x
  | 0, _, x, hx => by simp [cutTo] at hx
  | k + 1, hk, x, hx => by
    simp only [cutTo] at hx
    split at hx
    · rcases List.mem_append.1 hx with h | h
      · exact cutTo_piece s k (by omega) x h
      · rw [List.mem_singleton.1 h]; exact piece_extract s (cutTo_le s k).1 (by omega)
    · exact cutTo_piece s k (by omega) x hx
theorem words_piece {s x : ByteArray} (h : x ∈ words s) : Piece s x := by
  rcases List.mem_append.1 h with h | h
  · exact cutTo_piece s _ (Nat.le_refl _) x h
  · rw [List.mem_singleton.1 h]; exact piece_extract s (cutTo_le s _).1 (Nat.le_refl _)
theorem Piece.has {s x w : ByteArray} (h : Piece s x) (hw : x.toList = w.toList) : has s w = true := by
  obtain ⟨a, ha, he⟩ := h
  have hsz : x.size = w.size := by
    have h1 : x.toList.length = w.toList.length := by rw [hw]
    rw [Go.Lib.toList_data, Go.Lib.toList_data] at h1
    simpa using h1
  have h1 : hasAt s w a = true := by
    unfold hasAt
    rw [← hsz, he, hw]
    simp
  unfold Mk.has
  rw [Bool.and_eq_true, decide_eq_true_eq]
  exact ⟨by omega, hasTo_at (by omega) h1⟩
theorem wd_is {s : ByteArray} {d : Wd} (h : wd s = some d) : isW s d = true := by
  unfold wd at h
  repeat (split at h; · rename_i hh; cases h; exact hh)
  cases h
/-- a text that is a command has its word in it -/
theorem read_has {s : ByteArray} {c : Cmd} (h : readP s = some c) : has s c.d.text = true := by
  have h0 := h
  unfold readP at h
  split at h
  · cases h
  · split at h
    · cases h
    · rename_i hl
      split at h
      · cases h
      · rename_i d hd
        split at h
        · cases h
          have h2 : 2 < (words s).length := by omega
          have hp : Piece s (wrd (words s) 2) := by rw [wrd_at h2]; exact words_piece (List.getElem_mem h2)
          have hw := wd_is hd
          simp only [isW, beq_iff_eq] at hw
          exact hp.has hw
        · cases h

end Mk
