import Derived.Test.YtmebcdpdpcpnmabB2
import Derived.Test.YtmebcdpdpcpnmabPlain6
import Derived.Deep.QuietTactic
import Derived.BigQuiet
namespace Go.Proofs.Ytmebcdpdpcpnmab
open Go.RowKit

set_option maxHeartbeats 1000000 in
theorem got_some (b off cap : Nat) (l : List Mk.Ord) (g : Nat) (F : Nat → Int) (sell : Bool) (w : World) (h12 : l.length ≤ 12) (hF : ∀ i, 0 ≤ F i ∧ F i ≤ 5000) (hR : At w b off l) (hrow : w.rowIs g 3 l.length (fun i => .int .i64 (F i))) :
    Calls Try.prog 6 #[.slice (some ⟨b, off, none⟩) l.length cap, .slice (some ⟨g, 0, none⟩) l.length l.length, .bool sell] w fun e w' => e = .returned (.int .i64 (Mk.sideSum l sell F)) ∧ w' = w := by
  have HF : Hid (∀ i, 0 ≤ F i ∧ F i ≤ 5000) := hF
  have HR : Hid (At w b off l) := hR
  have HRow : Hid (w.rowIs g 3 l.length (fun i => .int .i64 (F i))) := hrow
  clear hF hR hrow
  go_enter Try.func6, Try.ntmps6
  go_wp2
  go_loop [7, 8] (fun n i => ∃ k : Nat, k ≤ l.length ∧ i = .int .i64 k ∧ n = .int .i64 (Mk.sumn (fun i => if (l.getD i Mk.ozero).sell = sell then F i else 0) k)) (fun _ i => l.length - (intOf i).toNat)
  case atStart => exact ⟨0, Nat.zero_le _, rfl, rfl⟩
  case round =>
    obtain ⟨k, hk, rfl, rfl⟩ := hrel
    have sb := Mk.sumn_bd (fun i => if (l.getD i Mk.ozero).sell = sell then F i else 0) 5000 (fun i => by have := HF.out i; split <;> omega) k
    have HS : Hid (Mk.sumn (fun i => if (l.getD i Mk.ozero).sell = sell then F i else 0) (k + 1) = Mk.sumn (fun i => if (l.getD i Mk.ozero).sell = sell then F i else 0) k + if (l.getD k Mk.ozero).sell = sell then F k else 0) := rfl
    have HX : ∃ x, Hid (Mk.sumn (fun i => if (l.getD i Mk.ozero).sell = sell then F i else 0) k = x) := ⟨_, rfl⟩
    obtain ⟨x, HX⟩ := HX
    rw [HX.out] at sb HS ⊢
    obtain ⟨sb1, sb2⟩ : 0 ≤ x ∧ x ≤ 60000 := by omega
    clear sb
    by_cases hlt : k < l.length
    · obtain ⟨c0, _, _⟩ := HR.out k hlt
      have ck := World.rowIs.cell HRow.out hlt
      have fb := HF.out k
      have hlt' : (k : Int) < (l.length : Int) := by omega
      rw [Mk.getD_at hlt] at HS
      by_cases hs : l[k].sell = sell
      · have hs' : (l[k].sell == sell) = true := by simpa using hs
        rw [if_pos hs] at HS
        clear hs
        go_wp2
        go_round
        case rel => exact ⟨k + 1, by omega, by go_num, by rw [HS.out]⟩
        case measure => simp [intOf]; omega
      · have hs' : (l[k].sell == sell) = false := by simpa using hs
        rw [if_neg hs] at HS
        clear hs
        go_wp2
        go_round
        case rel => exact ⟨k + 1, by omega, by go_num, by rw [HS.out]; simp⟩
        case measure => simp [intOf]; omega
    · obtain rfl : k = l.length := by omega
      go_wp2
      go_ret
      exact ⟨ret_int HX.out.symm, rfl⟩

set_option maxHeartbeats 1000000 in
theorem got_nil (a : Option Addr) (cap : Nat) (a' : Option Addr) (c1 c2 : Nat) (sell : Bool) (w : World) :
    Calls Try.prog 6 #[.slice a 0 cap, .slice a' c1 c2, .bool sell] w fun e w' => e = .returned (.int .i64 0) ∧ w' = w := by
  go_enter Try.func6, Try.ntmps6
  go_wp2
  go_loop [7, 8] (fun n i => i = .int .i64 0 ∧ n = .int .i64 0) (fun _ i => 0)
  case atStart => exact ⟨rfl, rfl⟩
  case round =>
    obtain ⟨rfl, rfl⟩ := hrel
    go_wp2
    go_ret
    exact ⟨rfl, rfl⟩

end Go.Proofs.Ytmebcdpdpcpnmab
