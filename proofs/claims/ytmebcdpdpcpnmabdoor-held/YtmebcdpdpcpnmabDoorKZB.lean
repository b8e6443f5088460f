import Derived.Test.YtmebcdpdpcpnmabDoorKZ6
import Derived.Test.YtmebcdpdpcpnmabDoorKPlainG
import Derived.Test.YtmebcdpdpcpnmabDoorJ12
namespace Go.Proofs.YtmebcdpdpcpnmabDoor
open Go.RowKit

theorem Mk.pcut_yes {s : ByteArray} {k : Nat} (h : Mk.bt s k = 59) : Mk.pcut s (k + 1) = ((Mk.pcut s k).1 ++ [s.extract (Mk.pcut s k).2 k], k + 1) := if_pos h
theorem Mk.pcut_no {s : ByteArray} {k : Nat} (h : ¬ Mk.bt s k = 59) : Mk.pcut s (k + 1) = Mk.pcut s k := if_neg h
theorem Mk.pcut_le2 (s : ByteArray) : ∀ k, (Mk.pcut s k).2 ≤ k ∧ (Mk.pcut s k).1.length ≤ k
  | 0 => by simp [Mk.pcut]
  | k + 1 => by
    have := Mk.pcut_le2 s k
    simp only [Mk.pcut]
    split
    · simp; omega
    · omega

set_option maxRecDepth 100000 in
set_option maxHeartbeats 2000000 in
theorem parts_any (s : ByteArray) (w : World) (hs : s.size ≤ 1000000) :
    Calls Tryd.prog 25 #[.string s] w fun e w' => ∃ v, e = .returned v ∧ w'.ownsRow w.heap.size 9 1 v (Mk.parts s).length ((Mk.parts s).map .string) ∧ Below w.heap.size w w' := by
  obtain ⟨i0, hi0, hz0, hz1, hz2⟩ := info_parts Tryd.infoStr
  go_enter Tryd.func25, Tryd.ntmps25
  go_wp2
  go_loopw [3, 4, 5] (fun v f j wr => ∃ k : Nat, k ≤ s.size ∧ j = .int .i64 k ∧ f = .int .i64 ((Mk.pcut s k).2 : Int) ∧ wr.ownsRow w.heap.size 9 1 v (Mk.pcut s k).1.length ((Mk.pcut s k).1.map .string) ∧ Below w.heap.size w wr) (fun _ _ j _ => s.size - (intOf j).toNat)
  case atStart => exact ⟨0, Nat.zero_le _, rfl, rfl, ⟨by simp [Mk.pcut], .inl ⟨rfl, rfl⟩⟩, Below.refl _ _⟩
  case round =>
    obtain ⟨k, hk, rfl, rfl, hown, hb⟩ := hrel
    have Hb : Hid (Below w.heap.size w wr) := hb
    clear hb
    obtain ⟨q1, q2⟩ := Mk.pcut_le2 s k
    have q1' : ((Mk.pcut s k).2 : Int) ≤ (k : Int) := by omega
    have hsz := Hb.out.size
    by_cases hlt : k < s.size
    · have hlt' : (k : Int) < (s.size : Int) := by omega
      have HB : Hid (s[k].toNat = Mk.bt s k) := Mk.bt_at hlt
      by_cases hsp : s[k].toNat = 59
      · have hsp' : ((s[k].toNat : Int) == 59) = true := by rw [beq_iff_eq]; omega
        have HC : Hid (Mk.pcut s (k + 1) = ((Mk.pcut s k).1 ++ [s.extract (Mk.pcut s k).2 k], k + 1)) := Mk.pcut_yes (by rw [← HB.out]; exact hsp)
        have hle : ((Mk.pcut s k).2 : Int) ≤ (k : Int) ∧ (k : Int) ≤ (s.size : Int) := by omega
        clear hsp
        go_wp2_with (at_builtin; (refine wpList_append_lies _ rfl _ _ _ rfl w.heap.size 9 i0 _ 1 16 Tryd.underlying36 hi0 hz0 hz1 hz2 rfl (by omega) _ (Mk.pcut s k).1.length ((Mk.pcut s k).1.map .string) rfl (hown.alloc _) ⟨wr.heap.size, 0, none⟩ 1 1 [.string (s.extract (Mk.pcut s k).2 k)] rfl rfl (World.news_of_block (cs := #[.string (s.extract (Mk.pcut s k).2 k)]) (t := 9) (fr := (0, 0)) (heap_alloc_new wr _)) (by simp [Value.oneCell']) (by omega) (by unfold maxLen; omega) (by omega) (by simp; omega) (wr.heap.size + 1) (by simp) ?_; intro gg cap' w1 hown1 hgrow hat hlt1))
        have HO1 := (show Hid _ from hown1)
        have HB1 : Hid (Below w.heap.size w w1) := Below.grown (Hb.out.alloc hsz _) hgrow (by simp; omega) (fun j hj => own_ge hown j hj)
        clear hown1 hgrow hat hown
        go_wp2
        go_roundw
        case rel =>
          refine ⟨k + 1, by omega, by go_num, by rw [HC.out]; go_num, ?_, HB1.out⟩
          rw [HC.out]
          simp only [List.length_append, List.length_cons, List.length_nil, Nat.zero_add, List.map_append, List.map_cons, List.map_nil]
          exact HO1.out
        case measure => simp [intOf]; omega
      · have hsp' : ((s[k].toNat : Int) == 59) = false := by rw [beq_eq_false_iff_ne]; omega
        have HC : Hid (Mk.pcut s (k + 1) = Mk.pcut s k) := Mk.pcut_no (by rw [← HB.out]; exact hsp)
        have HO1 := (show Hid _ from hown)
        clear hsp hown
        go_wp2
        go_roundw
        case rel =>
          refine ⟨k + 1, by omega, by go_num, by rw [HC.out], ?_, Hb.out⟩
          rw [HC.out]
          exact HO1.out
        case measure => simp [intOf]; omega
    · obtain rfl : k = s.size := by omega
      have HW : Hid (Mk.parts s = (Mk.pcut s s.size).1 ++ [s.extract (Mk.pcut s s.size).2 s.size]) := rfl
      go_wp2_with (at_builtin; (refine wpList_append_lies _ rfl _ _ _ rfl w.heap.size 9 i0 _ 1 16 Tryd.underlying36 hi0 hz0 hz1 hz2 rfl (by omega) _ (Mk.pcut s s.size).1.length ((Mk.pcut s s.size).1.map .string) rfl (hown.alloc _) ⟨wr.heap.size, 0, none⟩ 1 1 [.string (s.extract (Mk.pcut s s.size).2 s.size)] rfl rfl (World.news_of_block (cs := #[.string (s.extract (Mk.pcut s s.size).2 s.size)]) (t := 9) (fr := (0, 0)) (heap_alloc_new wr _)) (by simp [Value.oneCell']) (by omega) (by unfold maxLen; omega) (by omega) (by simp; omega) (wr.heap.size + 1) (by simp) ?_; intro gg cap' w1 hown1 hgrow hat hlt1))
      have HO1 := (show Hid _ from hown1)
      have HB1 : Hid (Below w.heap.size w w1) := Below.grown (Hb.out.alloc hsz _) hgrow (by simp; omega) (fun j hj => own_ge hown j hj)
      clear hown1 hgrow hat hown
      go_wp2
      go_ret
      refine ⟨_, rfl, ?_, HB1.out⟩
      rw [HW.out]
      simp only [List.length_append, List.length_cons, List.length_nil, Nat.zero_add, List.map_append, List.map_cons, List.map_nil]
      exact HO1.out

end Go.Proofs.YtmebcdpdpcpnmabDoor
