import Derived.Test.YtmebcdpdpcpnmaaA2
namespace Go.Proofs.Ytmebcdpdpcpnmaa
open Go.RowKit

theorem blk_lt {w : World} {b o : Nat} {v : Value} (h : w.cell? ⟨b, o, none⟩ = some v) : b < w.heap.size := by
  apply Classical.byContradiction
  intro hb
  have : w.heap[b]? = none := by simp; omega
  simp [World.cell?, this] at h

/-- the orders l, at block b from offset off on -/
def At (w : World) (b off : Nat) (l : List Mk.Ord) : Prop :=
  ∀ (i : Nat) (h : i < l.length), w.cell? ⟨b, off + i * 3, none⟩ = some (.bool l[i].sell) ∧ w.cell? ⟨b, off + i * 3 + 1, none⟩ = some (.int .i64 l[i].price) ∧ w.cell? ⟨b, off + i * 3 + 1 + 1, none⟩ = some (.int .i64 l[i].qty)

theorem At.below {w w' : World} {b off : Nat} {l : List Mk.Ord} (h : At w b off l) (hb : Below w.heap.size w w') : At w' b off l := by
  intro i hi
  obtain ⟨c0, c1, c2⟩ := h i hi
  have hl := blk_lt c0
  exact ⟨(hb.cell (p := ⟨b, _, none⟩) hl).trans c0, (hb.cell (p := ⟨b, _, none⟩) hl).trans c1, (hb.cell (p := ⟨b, _, none⟩) hl).trans c2⟩
theorem Rd.below {w w' : World} {a : Option Addr} {l : List Mk.Ord} (h : Rd w a l) (hb : Below w.heap.size w w') : Rd w' a l := by
  rcases h with h | ⟨b, off, h, hR⟩
  · exact .inl h
  · exact .inr ⟨b, off, h, At.below (w := w) (fun i hi => hR i hi) hb⟩

set_option maxHeartbeats 1000000 in
theorem sums_some (b off cap : Nat) (l : List Mk.Ord) (p : Int) (w : World) (hv : Mk.validB 20 l = true) (hR : At w b off l) :
    Calls Try.prog 15 #[.slice (some ⟨b, off, none⟩) l.length cap, .int .i64 p] w fun e w' => e = .returned (.tuple #[.int .i64 (Mk.dem l p), .int .i64 (Mk.sup l p)]) ∧ Below w.heap.size w w' := by
  obtain ⟨h12, hok⟩ := Mk.ok_of_valid hv
  have HV : Hid (Mk.validB 20 l = true) := hv
  have HO : Hid (∀ o ∈ l, 1 ≤ o.price ∧ o.price ≤ 99 ∧ 1 ≤ o.qty ∧ o.qty ≤ 20) := hok
  have HR : Hid (At w b off l) := hR
  clear hv hok hR
  go_enter Try.func15, Try.ntmps15
  go_wp2
  go_loopw [6, 7, 8] (fun d s i wr => ∃ k : Nat, k ≤ l.length ∧ i = .int .i64 k ∧ d = .int .i64 (Mk.sumf (Mk.sideq false p) (l.take k)) ∧ s = .int .i64 (Mk.sumf (Mk.sideq true p) (l.take k)) ∧ Below w.heap.size w wr) (fun _ _ i _ => l.length - (intOf i).toNat)
  case atStart => exact ⟨0, Nat.zero_le _, rfl, rfl, rfl, Below.refl _ _⟩
  case round =>
    obtain ⟨k, hk, rfl, rfl, rfl, hb⟩ := hrel
    have Hb : Hid (Below w.heap.size w wr) := hb
    clear hb
    have bd := Mk.side_take_bd HV.out false p k
    have bs := Mk.side_take_bd HV.out true p k
    by_cases hlt : k < l.length
    · obtain ⟨c0, c1, c2⟩ := At.below HR.out Hb.out k hlt
      have hbl := blk_lt c0
      have hd := Mk.sumf_take_succ (Mk.sideq false p) l k hlt
      have hs := Mk.sumf_take_succ (Mk.sideq true p) l k hlt
      have hq := HO.out _ (List.getElem_mem hlt)
      have HK : Hid (k < l.length) := hlt
      have hlt' : (k : Int) < (l.length : Int) := by omega
      revert c0 c1 c2 hd hs hq
      generalize l[k] = o
      obtain ⟨s, pr, q⟩ := o
      intro c0 c1 c2 hd hs hq
      simp only at c0 c1 c2 hq
      obtain ⟨q1, q2⟩ : 0 ≤ q ∧ q ≤ 20 := by omega
      clear hq
      rw [Mk.sideq_mk] at hd hs
      rcases Bool.eq_false_or_eq_true (Mk.willB s pr p) with hw | hw <;> rw [hw] at hd hs <;> cases s <;> simp at hd hs
      all_goals
        have HD := (show Hid _ from hd)
        have HS := (show Hid _ from hs)
        clear hd hs
        go_wp2_with (go_at_call 17; refine (lwilling_any _ _ _ _ _).mono ?_; rintro e w' ⟨rfl, rfl⟩)
        go_roundw
        case rel => exact ⟨k + 1, by omega, by go_num, by rw [HD.out], by rw [HS.out], Hb.out.alloc Hb.out.size _⟩
        case measure => simp [intOf]; omega
    · go_wp2
      go_ret2
      have : k = l.length := by omega
      subst this
      exact ⟨by rw [List.take_length]; rfl, Hb.out⟩

end Go.Proofs.Ytmebcdpdpcpnmaa
