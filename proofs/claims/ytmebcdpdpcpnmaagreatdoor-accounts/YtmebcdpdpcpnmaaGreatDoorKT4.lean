import Derived.Test.YtmebcdpdpcpnmaaGreatDoorKR24
import Derived.Test.YtmebcdpdpcpnmaaGreatDoorKL8
namespace Go.Proofs.YtmebcdpdpcpnmaaGreatDoor
open Go.RowKit

/-- has a text one of some words in it? -/
def Mk.hasAny (s : ByteArray) (ws : List ByteArray) : Bool := ws.any (fun t => Mk.has s t)
def Mk.wordAt (ws : List ByteArray) (i : Nat) : ByteArray := ws.getD i ⟨#[]⟩
theorem Mk.wordAt_eq {ws : List ByteArray} {i : Nat} (h : i < ws.length) : Mk.wordAt ws i = ws[i] := by simp [Mk.wordAt, List.getD, List.getElem?_eq_getElem h]

set_option maxRecDepth 100000 in
set_option maxHeartbeats 2000000 in
theorem saysAny_any (s : ByteArray) (g cap : Nat) (ws : List ByteArray) (w : World) (hs : s.size ≤ 2000000) (hw : ∀ x ∈ ws, x.size ≤ 100) (hn : ws.length ≤ 100) (hc : ∀ i, i < ws.length → w.cell? ⟨g, i, none⟩ = some (.string (Mk.wordAt ws i))) :
    Calls Tryz.prog 11 #[.string s, .slice (some ⟨g, 0, none⟩) ws.length cap] w fun e w' => e = .returned (.bool (Mk.hasAny s ws)) ∧ w' = w := by
  have HC : Hid (∀ i, i < ws.length → w.cell? ⟨g, i, none⟩ = some (.string (Mk.wordAt ws i))) := hc
  have HW : Hid (∀ i, i < ws.length → (Mk.wordAt ws i).size ≤ 100) := fun i hi => by rw [Mk.wordAt_eq hi]; exact hw _ (List.getElem_mem hi)
  clear hc hw
  go_enter Tryz.func11, Tryz.ntmps11
  go_wp2
  go_loop [5] (fun j => ∃ k : Nat, k ≤ ws.length ∧ j = .int .i64 k ∧ ∀ i, i < k → Mk.has s (Mk.wordAt ws i) = false) (fun j => ws.length - (intOf j).toNat)
  case atStart => exact ⟨0, Nat.zero_le _, rfl, fun i hi => by omega⟩
  case round =>
    obtain ⟨k, hk, rfl, hf⟩ := hrel
    have HF : Hid (∀ i, i < k → Mk.has s (Mk.wordAt ws i) = false) := hf
    clear hf
    by_cases hlt : k < ws.length
    · have hlt' : (k : Int) < (ws.length : Int) := by omega
      have ck := HC.out k hlt
      have hwk := HW.out k hlt
      go_wp2_with fail
      refine (says_any s (Mk.wordAt ws k) w hs (by omega)).mono ?_
      rintro e w2 ⟨rfl, hw2⟩
      obtain rfl := hw2.symm
      by_cases hh : Mk.has s (Mk.wordAt ws k) = true
      · have HY : Hid (Mk.hasAny s ws = true) := by
          unfold Mk.hasAny
          rw [List.any_eq_true]
          exact ⟨ws[k], List.getElem_mem hlt, by rw [← Mk.wordAt_eq hlt]; exact hh⟩
        go_wp2
        go_ret
        exact ⟨by rw [HY.out]; rfl, rfl⟩
      · have hh' : Mk.has s (Mk.wordAt ws k) = false := by simpa using hh
        have HF' : Hid (∀ i, i < k + 1 → Mk.has s (Mk.wordAt ws i) = false) := by
          intro i hi
          by_cases e : i = k
          · subst e; exact hh'
          · exact HF.out i (by omega)
        clear hh
        go_wp2
        go_round
        case rel => exact ⟨k + 1, by omega, by go_num, HF'.out⟩
        case measure => simp [intOf]; omega
    · obtain rfl : k = ws.length := by omega
      have HN : Hid (Mk.hasAny s ws = false) := by
        unfold Mk.hasAny
        rw [List.any_eq_false]
        intro x hx
        obtain ⟨i, hi, rfl⟩ := List.mem_iff_getElem.1 hx
        rw [← Mk.wordAt_eq hi, HF.out i hi]
        simp
      go_wp2
      go_ret
      exact ⟨by rw [HN.out]; rfl, rfl⟩

end Go.Proofs.YtmebcdpdpcpnmaaGreatDoor
