import Derived.Test.YtmebcdpdpcpnmaaK1
import Derived.Test.YtmebcdpdpcpnmaaM4
namespace Go.Proofs.Ytmebcdpdpcpnmaa
open Go.RowKit

/-- make([]api.Order, n), n as great as what came in -/
theorem make_orders' (w : World) (n : Nat) (hn : 24 * n ≤ 140737488355328) :
    ∃ W, (Instr.makeSlice 22 (.int .i64 (n : Int)) (.int .i64 (n : Int))).run Try.prog w = .ok (.slice (some ⟨w.heap.size, 0, none⟩) n n) W ∧
      Below w.heap.size w W ∧ w.heap.size < W.heap.size ∧ ∃ f, W.rowIs w.heap.size 36 (n * 3) f := by
  obtain ⟨i, hi, hzz⟩ := Option.map_eq_some_iff.1 Try.infoOrder
  simp only [Prod.mk.injEq] at hzz
  obtain ⟨hz, hs, hb⟩ := hzz
  have hr := run_make (P := Try.prog) w 22 36 i _ Try.underlying22 hi hz .i64 .i64 n n (by omega) (Int.le_refl _) (by rw [hb]; omega) (by omega)
  rw [hs] at hr
  simp only [Int.toNat_natCast] at hr
  refine ⟨_, hr, (Below.refl _ _).alloc (Nat.le_refl _) _, by simp, ?_⟩
  have hsz := size_madeCells (Value.agg #[.bool false, .int .i64 0, .int .i64 0]).cells (n * 3)
  have := World.rowIs_alloc w (madeCells (Value.agg #[.bool false, .int .i64 0, .int .i64 0]).cells (n * 3)) 36 (fun i => (madeCells (Value.agg #[.bool false, .int .i64 0, .int .i64 0]).cells (n * 3))[i]?.getD undef) (fun i hi => by rw [Array.getElem?_eq_getElem hi]; rfl)
  rw [hsz] at this
  exact ⟨_, this⟩

theorem Own.setQ {w : World} {g : Nat} {l : List Mk.Ord} (h : Own w g l) {i : Nat} (hi : i < l.length) (v : Int) :
    Own (w.setCell ⟨g, i * 3 + 2, none⟩ (.int .i64 v)) g (l.set i ⟨l[i].sell, l[i].price, v⟩) := by
  unfold Own at h ⊢
  rw [List.length_set]
  refine World.rowIs.congr (World.rowIs.set h _ _) (fun j hj => ?_)
  have hd : (l.set i ⟨l[i].sell, l[i].price, v⟩).getD (j / 3) Mk.ozero = if j / 3 = i then ⟨l[i].sell, l[i].price, v⟩ else l.getD (j / 3) Mk.ozero := Mk.getD_set l i _ hi (j / 3)
  unfold cellOf
  rw [hd]
  by_cases h2 : j = i * 3 + 2
  · rw [if_pos h2, if_neg (by omega), if_neg (by omega), if_pos (by omega)]
  · rw [if_neg h2]
    by_cases h1 : j / 3 = i
    · rw [if_pos h1, h1, Mk.getD_at hi]
      by_cases h0 : j % 3 = 0
      · rw [if_pos h0, if_pos h0]
      · rw [if_neg h0, if_neg h0, if_pos (by omega), if_pos (by omega)]
    · rw [if_neg h1]
theorem Own.setP {w : World} {g : Nat} {l : List Mk.Ord} (h : Own w g l) {i : Nat} (hi : i < l.length) (v : Int) :
    Own (w.setCell ⟨g, i * 3 + 1, none⟩ (.int .i64 v)) g (Mk.bid l i v) := by
  unfold Own at h ⊢
  rw [Mk.bid_len]
  refine World.rowIs.congr (World.rowIs.set h _ _) (fun j hj => ?_)
  unfold cellOf
  rw [Mk.bid_at hi]
  by_cases h2 : j = i * 3 + 1
  · rw [if_pos h2, if_neg (by omega), if_pos (by omega), if_pos (by omega)]
  · rw [if_neg h2]
    by_cases h1 : j / 3 = i
    · rw [if_pos h1, h1]
      by_cases h0 : j % 3 = 0
      · rw [if_pos h0, if_pos h0]
      · rw [if_neg h0, if_neg h0, if_neg (by omega), if_neg (by omega)]
    · rw [if_neg h1]
theorem Own.congr {w : World} {g : Nat} {l l' : List Mk.Ord} (h : Own w g l) (e : l = l') : Own w g l' := by subst e; exact h

set_option maxRecDepth 100000 in
set_option maxHeartbeats 1000000 in
theorem single_any (a : Option Addr) (cap : Nat) (l : List Mk.Ord) (w : World) (hn : 24 * l.length ≤ 140737488355328) (hR : Rd w a l) :
    Calls Try.prog 20 #[.slice a l.length cap] w fun e w' => e = .returned (.slice (some ⟨w.heap.size, 0, none⟩) l.length l.length) ∧ Below w.heap.size w w' ∧ Own w' w.heap.size (l.map Mk.one) := by
  obtain ⟨W1, hmk, hb1, hz1, f, hrow1⟩ := make_orders' w l.length hn
  obtain ⟨W2, hcp, hb2, hrow2⟩ := copy_any W1 w.heap.size (l.length * 3) l.length l.length f a cap l hrow1 (Nat.le_refl _) (Nat.le_refl _) (hR.below hb1)
  have HB2 : Hid (Below w.heap.size w W2) := hb1.trans (hb2 _ (Nat.le_refl _))
  have HO2 : Hid (Own W2 w.heap.size l) := World.rowIs.congr hrow2 (fun j hj => by rw [if_pos hj])
  clear hR hb1 hb2 hrow1 hrow2
  go_enter Try.func20, Try.ntmps20
  go_wp2
  go_loopw [4] (fun j wr => ∃ k : Nat, k ≤ l.length ∧ j = .int .i64 k ∧ Own wr w.heap.size (Mk.oneTo l k) ∧ Below w.heap.size w wr) (fun j _ => l.length - (intOf j).toNat)
  case atStart => exact ⟨0, Nat.zero_le _, rfl, by rw [Mk.oneTo_zero]; exact HO2.out, HB2.out⟩
  case round =>
    obtain ⟨k, hk, rfl, ho, hb⟩ := hrel
    have Hb : Hid (Below w.heap.size w wr) := hb
    have HO : Hid (Own wr w.heap.size (Mk.oneTo l k)) := ho
    clear hb ho hmk hcp
    by_cases hlt : k < l.length
    · have hlt' : (k : Int) < (l.length : Int) := by omega
      have hlen := Mk.oneTo_len (l := l) k
      have o2 := World.rowIs.cell HO.out (i := k * 3 + 2) (by rw [hlen]; omega)
      have z2 := HO.out.frozen (k * 3 + 2)
      have HN : Hid (Own (wr.setCell ⟨w.heap.size, k * 3 + 2, none⟩ (.int .i64 1)) w.heap.size (Mk.oneTo l (k + 1))) := by
        refine (HO.out.setQ (i := k) (by rw [hlen]; exact hlt) 1).congr ?_
        rw [Mk.oneTo_succ hlt, Mk.oneTo_get hlt (by rw [hlen]; exact hlt)]
        rfl
      clear hlen
      go_wp2
      go_roundw
      case rel => exact ⟨k + 1, by omega, by go_num, HN.out, Hb.out.setCell (Nat.le_refl _) _⟩
      case measure => simp [intOf]; omega
    · obtain rfl : k = l.length := by omega
      go_wp2
      go_ret
      exact ⟨rfl, Hb.out, HO.out.congr Mk.oneTo_all⟩

/-- what order i gains by McAfee, if a slot is worth v to it -/
def Mk.gainOf (l : List Mk.Ord) (i : Nat) (v : Int) : Int := if Mk.sl l i then Mk.mcF l i * (Mk.mcGet l - v) else Mk.mcF l i * (v - Mk.mcPay l)

set_option maxRecDepth 100000 in
set_option maxHeartbeats 1000000 in
theorem gain_some (b off cap n : Nat) (l : List Mk.Ord) (hn : l.length = n) (i : Nat) (v : Int) (w : World) (hi : i < n) (h1 : 1 ≤ v) (h2 : v ≤ 99) (hv : Mk.validB 1 l = true) (hR : At w b off l) :
    Calls Try.prog 21 #[.slice (some ⟨b, off, none⟩) n cap, .int .i64 i, .int .i64 v] w fun e w' => e = .returned (.tuple #[.int .i64 (Mk.gainOf l i v), .bool true]) ∧ Below w.heap.size w w' := by
  subst hn
  have HA : Hid (At w b off l) := hR
  have HV : Hid (Mk.validB 1 l = true) := hv
  have h12 := (Mk.ok_of_valid hv).1
  have hp := Mk.okP_of hv
  have fb := Mk.mcF_bd l i
  have pb := Mk.mcPay_bd hp
  have gb := Mk.mcGet_bd hp
  have m1 := Mk.mc_gain_bd fb (x := Mk.mcGet l - v) (by omega)
  have m2 := Mk.mc_gain_bd fb (x := v - Mk.mcPay l) (by omega)
  have hi' : (i : Int) < (l.length : Int) := by omega
  have HG : Hid (Mk.gainOf l i v = if l[i].sell then Mk.mcF l i * (Mk.mcGet l - v) else Mk.mcF l i * (v - Mk.mcPay l)) := (by unfold Mk.gainOf; rw [Mk.sl_at hi] : Mk.gainOf l i v = if l[i].sell then Mk.mcF l i * (Mk.mcGet l - v) else Mk.mcF l i * (v - Mk.mcPay l))
  clear hR hp hv
  go_enter Try.func21, Try.ntmps21
  go_wp2_with fail
  refine (mcafee_any _ cap l _ HV.out (.inr ⟨b, off, rfl, HA.out⟩)).mono ?_
  rintro e w1 ⟨g, rfl, hg, hb1, hrow⟩
  have Hb1 : Hid (Below w.heap.size w w1) := hb1
  obtain ⟨c0, c1, c2⟩ := HA.out.below hb1 i hi
  have rc := World.rowIs.cell hrow hi
  clear hb1 hrow hg
  rcases Bool.eq_false_or_eq_true l[i].sell with hs | hs
  · rw [hs] at HG c0
    clear hs
    go_wp2
    go_ret2
    exact ⟨by rw [HG.out]; rfl, Hb1.out⟩
  · rw [hs] at HG c0
    clear hs
    go_wp2
    go_ret2
    exact ⟨by rw [HG.out]; rfl, Hb1.out⟩

theorem pick_99 (c : Int) (w : World) (h1 : -9223372036854775808 ≤ c) (h2 : c ≤ 9223372036854775807) :
    Calls Try.prog 19 #[.int .i64 c, .int .i64 99] w fun e w' => ∃ i : Nat, i < 99 ∧ e = .returned (.int .i64 i) ∧ w' = w := pick_any c 99 w h1 h2 (by omega) (by omega)

end Go.Proofs.Ytmebcdpdpcpnmaa
