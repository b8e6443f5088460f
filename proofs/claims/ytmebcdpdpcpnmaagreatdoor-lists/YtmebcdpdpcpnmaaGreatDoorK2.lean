import Derived.Test.YtmebcdpdpcpnmaaGreatDoorK1
namespace Go.Proofs.YtmebcdpdpcpnmaaGreatDoor
open Go.RowKit

theorem Own.spare {w : World} {g : Nat} {l : List Mk.Ord} (h : Own w g (l ++ [o7, o8])) :
    w.cell? ⟨g, l.length * 3, none⟩ = some (.bool false) ∧ w.cell? ⟨g, l.length * 3 + 1, none⟩ = some (.int .i64 7) ∧ w.cell? ⟨g, l.length * 3 + 1 + 1, none⟩ = some (.int .i64 0) ∧
    w.cell? ⟨g, (l.length + 1) * 3, none⟩ = some (.bool false) ∧ w.cell? ⟨g, (l.length + 1) * 3 + 1, none⟩ = some (.int .i64 8) ∧ w.cell? ⟨g, (l.length + 1) * 3 + 1 + 1, none⟩ = some (.int .i64 0) := by
  obtain ⟨a0, a1, a2⟩ := h.at l.length (by simp)
  obtain ⟨b0, b1, b2⟩ := h.at (l.length + 1) (by simp)
  rw [Nat.zero_add] at a0 a1 a2 b0 b1 b2
  rw [get7] at a0 a1 a2
  rw [get8] at b0 b1 b2
  exact ⟨a0, a1, a2, b0, b1, b2⟩
theorem Own.head {w : World} {g : Nat} {l r : List Mk.Ord} (h : Own w g (l ++ r)) : At w g 0 l :=
  at_of_row h (by simp; omega) (fun j hj => cellOf_left l r hj)

set_option maxRecDepth 100000 in
set_option maxHeartbeats 1000000 in
theorem still_some (g b off cap : Nat) (l : List Mk.Ord) (w : World) (hn : l.length ≤ 1048576) (hO : Own w g (l ++ [o7, o8])) (hR : At w b off l) :
    Calls Tryz.prog 40 #[.slice (some ⟨g, 0, none⟩) l.length (l.length + 2), .slice (some ⟨b, off, none⟩) l.length cap] w fun e w' => e = .returned (.bool true) ∧ ∃ m, w' = w.drewN m := by
  have HA : Hid (At w b off l) := hR
  have HG : Hid (At w g 0 l) := hO.head
  obtain ⟨a0, a1, a2, b0, b1, b2⟩ := hO.spare
  clear hO hR
  go_enter Tryz.func40, Tryz.ntmps40
  go_wp2
  go_loopw [7] (fun i wr => ∃ k : Nat, k ≤ l.length ∧ i = .int .i64 k ∧ ∃ m, wr = w.drewN m) (fun i _ => l.length - (intOf i).toNat)
  case atStart => exact ⟨0, Nat.zero_le _, rfl, 0, rfl⟩
  case round =>
    obtain ⟨k, hk, rfl, m, rfl⟩ := hrel
    by_cases hlt : k < l.length
    · obtain ⟨c0, c1, c2⟩ := HA.out k hlt
      obtain ⟨d0, d1, d2⟩ := HG.out k hlt
      rw [Nat.zero_add] at d0 d1 d2
      have hlt' : (k : Int) < (l.length : Int) := by omega
      go_wp2
      go_quiet (fail)
      go_wp2
      go_roundw
      case rel => exact ⟨k + 1, by omega, by go_num, _, rfl⟩
      case measure => simp [intOf]; omega
    · obtain rfl : k = l.length := by omega
      go_wp2
      go_ret
      exact ⟨rfl, _, rfl⟩

set_option maxRecDepth 100000 in
set_option maxHeartbeats 1000000 in
theorem still_nil (g : Nat) (a : Option Addr) (cap : Nat) (w : World) (hO : Own w g [o7, o8]) :
    Calls Tryz.prog 40 #[.slice (some ⟨g, 0, none⟩) 0 2, .slice a 0 cap] w fun e w' => e = .returned (.bool true) ∧ ∃ m, w' = w.drewN m := by
  obtain ⟨a0, a1, a2, b0, b1, b2⟩ := Own.spare (l := []) hO
  simp only [List.length_nil, Nat.zero_mul, Nat.zero_add, Nat.one_mul] at a0 a1 a2 b0 b1 b2
  clear hO
  go_enter Tryz.func40, Tryz.ntmps40
  go_wp2
  go_loop [7] (fun i => i = .int .i64 0) (fun i => 0)
  case atStart => rfl
  case round =>
    subst hrel
    go_wp2
    go_ret
    exact ⟨rfl, 0, rfl⟩

theorem still_any (g : Nat) (a : Option Addr) (cap : Nat) (l : List Mk.Ord) (w : World) (hn : l.length ≤ 1048576) (hO : Own w g (l ++ [o7, o8])) (hR : Rd w a l) :
    Calls Tryz.prog 40 #[.slice (some ⟨g, 0, none⟩) l.length (l.length + 2), .slice a l.length cap] w fun e w' => e = .returned (.bool true) ∧ ∃ m, w' = w.drewN m := by
  rcases hR with rfl | ⟨b, off, rfl, hR⟩
  · exact still_nil g a cap w hO
  · exact still_some g b off cap l w hn hO hR

set_option maxRecDepth 100000 in
set_option maxHeartbeats 1000000 in
theorem same_some (g h n : Nat) (F : Nat → Int) (w : World) (hn : n ≤ 1048576) (h1 : w.rowIs g 3 n (fun i => .int .i64 (F i))) (h2 : w.rowIs h 3 n (fun i => .int .i64 (F i))) :
    Calls Tryz.prog 23 #[.slice (some ⟨g, 0, none⟩) n n, .slice (some ⟨h, 0, none⟩) n n] w fun e w' => e = .returned (.bool true) ∧ ∃ m, w' = w.drewN m := by
  have H1 : Hid (w.rowIs g 3 n (fun i => .int .i64 (F i))) := h1
  have H2 : Hid (w.rowIs h 3 n (fun i => .int .i64 (F i))) := h2
  clear h1 h2
  go_enter Tryz.func23, Tryz.ntmps23
  go_wp2
  go_loopw [5] (fun i wr => ∃ k : Nat, k ≤ n ∧ i = .int .i64 k ∧ ∃ m, wr = w.drewN m) (fun i _ => n - (intOf i).toNat)
  case atStart => exact ⟨0, Nat.zero_le _, rfl, 0, rfl⟩
  case round =>
    obtain ⟨k, hk, rfl, m, rfl⟩ := hrel
    by_cases hlt : k < n
    · have c1 := World.rowIs.cell H1.out hlt
      have c2 := World.rowIs.cell H2.out hlt
      have hlt' : (k : Int) < (n : Int) := by omega
      go_wp2
      go_quiet (fail)
      go_wp2
      go_roundw
      case rel => exact ⟨k + 1, by omega, by go_num, _, rfl⟩
      case measure => simp [intOf]; omega
    · go_wp2
      go_ret
      exact ⟨rfl, _, rfl⟩

set_option maxHeartbeats 1000000 in
theorem same_nil (w : World) :
    Calls Tryz.prog 23 #[.slice none 0 0, .slice none 0 0] w fun e w' => e = .returned (.bool true) ∧ ∃ m, w' = w.drewN m := by
  go_enter Tryz.func23, Tryz.ntmps23
  go_wp2
  go_loop [5] (fun i => i = .int .i64 0) (fun i => 0)
  case atStart => rfl
  case round =>
    subst hrel
    go_wp2
    go_ret
    exact ⟨rfl, 0, rfl⟩

theorem num_any (e : Int) (w : World) : Calls Tryz.prog 20 #[.int .i64 e] w fun x w' => x = .returned (.int .i64 e) ∧ w' = w := by
  go_enter Tryz.func20, Tryz.ntmps20
  go_wp2
  go_ret
  exact ⟨rfl, rfl⟩

end Go.Proofs.YtmebcdpdpcpnmaaGreatDoor
