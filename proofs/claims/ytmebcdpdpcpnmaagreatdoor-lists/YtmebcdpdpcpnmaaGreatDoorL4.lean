import Derived.Test.YtmebcdpdpcpnmaaGreatDoorL3
import Derived.Laws.OwnMore
namespace Go.Proofs.YtmebcdpdpcpnmaaGreatDoor
open Go.RowKit

theorem own_form {w : World} {base e size n : Nat} {v : Value} {xs : List Value} (h : w.ownsRow base e size v n xs) : ∃ a c, v = .slice a n c := by
  rcases h.2 with ⟨rfl, rfl⟩ | ⟨g, cap, cur, rfl, _⟩
  · exact ⟨none, 0, rfl⟩
  · exact ⟨_, _, rfl⟩
theorem own_some {w : World} {base e size n c : Nat} {a : Option Addr} {xs : List Value} (h : w.ownsRow base e size (.slice a n c) n xs) (hn : 0 < n) : ∃ g, a = some ⟨g, 0, none⟩ := by
  obtain ⟨g, cap, hv, _⟩ := h.form hn
  exact ⟨g, by injection hv⟩
theorem sls_get (g n : Nat → Nat) {m i : Nat} (hi : i < m) : (sls g n m)[i]? = some (.slice (some ⟨g i, 0, none⟩) (n i) (n i)) := by
  unfold sls; simp [List.getElem?_map, List.getElem?_range hi]
theorem St.cellO {G : Gst} {w : World} {B : Nat} {o : Outs} {gv c i : Nat} {vw : Value} (h : St G w B o (.slice (some ⟨gv, 0, none⟩) o.m c) vw) (hi : i < o.m) : w.cell? ⟨gv, i, none⟩ = some (.slice (some ⟨o.g i, 0, none⟩) (o.n i) (o.n i)) := by
  rw [h.pt.own1.cellAt i (by omega), sls_get _ _ hi]
theorem St.cellW {G : Gst} {w : World} {B : Nat} {o : Outs} {hv c i : Nat} {vo : Value} (h : St G w B o vo (.slice (some ⟨hv, 0, none⟩) o.m c)) (hi : i < o.m) : w.cell? ⟨hv, i, none⟩ = some (.slice (some ⟨o.h i, 0, none⟩) (o.n i) (o.n i)) := by
  rw [h.pt.own2.cellAt i (by omega), sls_get _ _ hi]

set_option maxRecDepth 100000 in
set_option maxHeartbeats 2000000 in
theorem looks_any {G : Gst} (B : Nat) (o : Outs) (vo vw : Value) (w : World) (hm : o.m ≤ 1048576) (hS : St G w B o vo vw) :
    Calls Tryz.prog 13 #[.pointer (some ⟨B, 0, none⟩)] w fun e w' => e = .returned (.bool true) ∧ Below w.heap.size w w' := by
  obtain ⟨ao, co, rfl⟩ := own_form hS.pt.own1
  obtain ⟨aw, cw, rfl⟩ := own_form hS.pt.own2
  have HS : Hid (St G w B o (.slice ao o.m co) (.slice aw o.m cw)) := hS
  clear hS
  go_enter Tryz.func13, Tryz.ntmps13
  go_wp2
  go_loopw [3] (fun i wr => ∃ k : Nat, k ≤ o.m ∧ i = .int .i64 k ∧ Below w.heap.size w wr) (fun i _ => o.m - (intOf i).toNat)
  case atStart => exact ⟨0, Nat.zero_le _, rfl, Below.refl _ _⟩
  case round =>
    obtain ⟨k, hk, rfl, hb⟩ := hrel
    have Hb : Hid (Below w.heap.size w wr) := hb
    have HSr : Hid (St G wr B o (.slice ao o.m co) (.slice aw o.m cw)) := HS.out.below hb
    have c1 := HSr.out.pt.c1
    have c2 := HSr.out.pt.c2
    clear hb
    by_cases hlt : k < o.m
    · obtain ⟨go, rfl⟩ := own_some HSr.out.pt.own1 (by omega)
      obtain ⟨gw, rfl⟩ := own_some HSr.out.pt.own2 (by omega)
      have d1 := HSr.out.cellO hlt
      have d2 := HSr.out.cellW hlt
      have hlt' : (k : Int) < (o.m : Int) := by omega
      have hpos := HSr.out.pos k hlt
      have HR1 : Hid (∀ q, (wr.drewN q).rowIs (o.g k) 3 (o.n k) (fun j => .int .i64 (o.F k j))) := fun q => row_below (HSr.out.rg k hlt) (below_drewN (Below.refl _ _) q) (HSr.out.rg k hlt).lt
      have HR2 : Hid (∀ q, (wr.drewN q).rowIs (o.h k) 3 (o.n k) (fun j => .int .i64 (o.F k j))) := fun q => row_below (HSr.out.rh k hlt) (below_drewN (Below.refl _ _) q) (HSr.out.rh k hlt).lt
      have HSm : Hid (∀ q, Calls Tryz.prog 23 #[.slice (some ⟨o.g k, 0, none⟩) (o.n k) (o.n k), .slice (some ⟨o.h k, 0, none⟩) (o.n k) (o.n k)] (wr.drewN q) fun e w' => e = .returned (.bool true) ∧ ∃ m, w' = (wr.drewN q).drewN m) := fun q => same_some (o.g k) (o.h k) (o.n k) (o.F k) _ (by omega) (HR1.out q) (HR2.out q)
      go_wp2
      go_quiet ((go_at_call 23; exact Calls.quiet_of (HSm.out _)))
      go_wp2
      go_roundw
      case rel => exact ⟨k + 1, by omega, by go_num, below_drewN Hb.out _⟩
      case measure => simp [intOf]; omega
    · go_wp2
      go_ret
      exact ⟨rfl, Hb.out⟩

end Go.Proofs.YtmebcdpdpcpnmaaGreatDoor
