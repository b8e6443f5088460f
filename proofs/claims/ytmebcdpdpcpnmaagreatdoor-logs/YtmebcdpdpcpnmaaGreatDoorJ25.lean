import Derived.Test.YtmebcdpdpcpnmaaGreatDoorJ23
import Derived.Test.YtmebcdpdpcpnmaaGreatDoorJ14
import Derived.Test.YtmebcdpdpcpnmaaGreatDoorJ24
namespace Mk
theorem app_assoc (a b c : ByteArray) : a ++ (b ++ c) = a ++ b ++ c := (ByteArray.append_assoc).symm
theorem addV_app (M : Mkt) (c : Nat) (s x : ByteArray) : ∀ v, addV M c (s ++ x) v = s ++ addV M c x v
  | 0 => rfl
  | v + 1 => by simp only [addV, addV_app M c s x v, app_assoc]
/-- an account's text -/
def acT (M : Mkt) (c : Nat) : ByteArray := addV M c (purseI (M.cf c) (M.ch c)) 2
theorem addC_succ (M : Mkt) (c : Nat) : addC M (c + 1) = addC M c ++ acT M c ++ ⟨#[59]⟩ := by
  show addV M c (addC M c ++ purseI (M.cf c) (M.ch c)) 2 ++ ⟨#[59]⟩ = _
  rw [addV_app]
  rfl
def modeL (b : Bool) : ByteArray := if b then ⟨#[109]⟩ else ⟨#[117]⟩
theorem modeT_eq (b : Bool) : modeT b = ⟨#[59]⟩ ++ modeL b := by cases b <;> rfl
theorem addB_app (l : List Stand) (s x : ByteArray) : ∀ i, addB l (s ++ x) i = s ++ addB l x i
  | 0 => rfl
  | i + 1 => by
    simp only [addB, addB_app l s x i]
    by_cases h : 0 < i
    · simp only [comma, h, if_true, app_assoc]
    · simp only [comma, h, if_false, app_assoc]
/-- a voyage's text -/
def voT (M : Mkt) (v : Nat) : ByteArray := addB (M.bk v) (modeL (M.md v)) (M.bk v).length
theorem addM_succ (M : Mkt) (s : ByteArray) (v : Nat) : addM M s (v + 1) = addM M s v ++ ⟨#[59]⟩ ++ voT M v := by
  show addB (M.bk v) (addM M s v ++ modeT (M.md v)) (M.bk v).length = _
  rw [modeT_eq, app_assoc, addB_app]
  rfl
end Mk
namespace Go.Proofs.YtmebcdpdpcpnmaaGreatDoor
open Go.RowKit

set_option maxRecDepth 100000 in
set_option maxHeartbeats 1000000 in
theorem pot_nat (f h : Nat) (w : World) (hf : f ≤ 9999) (hh : h ≤ 9999) (ht : Tab w) :
    Calls Tryz.prog 84 #[.agg #[.int .i64 f, .int .i64 h]] w fun e w' => e = .returned (.string (Mk.purseT f h)) ∧ Below w.heap.size w w' := by
  have s1 := Mk.dig_le4 hf
  have s2 := Mk.dig_le4 hh
  have HB1 : Hid (∀ ob, Below w.heap.size w (w.alloc ob)) := fun ob => (Below.refl _ _).alloc (Nat.le_refl _) _
  have HT : Hid (Tab w) := ht
  clear ht
  go_enter Tryz.func84, Tryz.ntmps84
  go_wp2_with fail
  refine (itoa_any f hf _ (HT.out.next (HB1.out _))).mono ?_
  rintro e w2 ⟨rfl, hb2⟩
  have x1 : w2.cell? ⟨w.heap.size, 1, none⟩ = some (.int .i64 h) := by rw [hb2.cell (p := ⟨w.heap.size, 1, none⟩) (by simp)]; simp
  have HB2 : Hid (Below w.heap.size w w2) := (HB1.out _).trans (hb2.mono (by simp))
  clear hb2
  go_wp2_with fail
  refine (itoa_any h hh _ (HT.out.next HB2.out)).mono ?_
  rintro e w3 ⟨rfl, hb3⟩
  have HB3 : Hid (Below w.heap.size w w3) := HB2.out.trans (hb3.mono HB2.out.size)
  clear hb3
  go_wp2_with fail
  go_ret
  exact ⟨rfl, HB3.out⟩
theorem pot_any (f h : Int) (w : World) (bf : 0 ≤ f ∧ f ≤ 9999) (bh : 0 ≤ h ∧ h ≤ 9999) (ht : Tab w) :
    Calls Tryz.prog 84 #[.agg #[.int .i64 f, .int .i64 h]] w fun e w' => e = .returned (.string (Mk.purseI f h)) ∧ Below w.heap.size w w' := by
  obtain ⟨a, rfl⟩ := Int.eq_ofNat_of_zero_le bf.1
  obtain ⟨b, rfl⟩ := Int.eq_ofNat_of_zero_le bh.1
  exact pot_nat a b w (by omega) (by omega) ht

theorem idx_slots (f h : Nat → Int) (k : Nat) (hk : k < 2) (W : World) : (Instr.index 59 (.agg #[.int .i64 (f 0), .int .i64 (h 0), .int .i64 (f 1), .int .i64 (h 1)]) (.int .i64 (k : Int))).run Tryz.prog W = .ok (.agg #[.int .i64 (f k), .int .i64 (h k)]) W := by
  rcases (show k = 0 ∨ k = 1 by omega) with rfl | rfl
  all_goals simp [Instr.index, run_underlying Tryz.underlying59, asIntOf, Tryz.sizeOf58, go_sem]

set_option maxRecDepth 100000 in
set_option maxHeartbeats 2000000 in
theorem acct_show (M : Mk.Mkt) (k : Nat) (w : World) (hk : k < 4) (hM : M.Fine) (ht : Tab w) :
    Calls Tryz.prog 51 #[acV M k] w fun e w' => e = .returned (.string (Mk.acT M k)) ∧ Below w.heap.size w w' := by
  have HT : Hid (Tab w) := ht
  have HM : Hid M.Fine := hM
  have bf := hM.cf k hk
  have bh := hM.ch k hk
  have qp := Mk.purseI_le bf.2 bh.2
  have HB1 : Hid (∀ ob, Below w.heap.size w (w.alloc ob)) := fun ob => (Below.refl _ _).alloc (Nat.le_refl _) _
  have HI : Hid (∀ v, v < 2 → ∀ W, (Instr.index 59 (.agg #[.int .i64 (M.sf 0 k), .int .i64 (M.sh 0 k), .int .i64 (M.sf 1 k), .int .i64 (M.sh 1 k)]) (.int .i64 ((v : Nat) : Int))).run Tryz.prog W = .ok (.agg #[.int .i64 (M.sf v k), .int .i64 (M.sh v k)]) W) := fun v hv W => idx_slots (fun v => M.sf v k) (fun v => M.sh v k) v hv W
  clear ht hM
  go_enter Tryz.func51, Tryz.ntmps51
  go_wp2_with fail
  refine (pot_any _ _ _ bf bh (HT.out.next (HB1.out _))).mono ?_
  rintro e w2 ⟨rfl, hb2⟩
  have x2 : w2.cell? ⟨w.heap.size, 2, none⟩ = some (.int .i64 (M.sf 0 k)) := by rw [hb2.cell (p := ⟨w.heap.size, 2, none⟩) (by simp)]; simp
  have x3 : w2.cell? ⟨w.heap.size, 3, none⟩ = some (.int .i64 (M.sh 0 k)) := by rw [hb2.cell (p := ⟨w.heap.size, 3, none⟩) (by simp)]; simp
  have x4 : w2.cell? ⟨w.heap.size, 4, none⟩ = some (.int .i64 (M.sf 1 k)) := by rw [hb2.cell (p := ⟨w.heap.size, 4, none⟩) (by simp)]; simp
  have x5 : w2.cell? ⟨w.heap.size, 5, none⟩ = some (.int .i64 (M.sh 1 k)) := by rw [hb2.cell (p := ⟨w.heap.size, 5, none⟩) (by simp)]; simp
  have HB2 : Hid (Below w.heap.size w w2) := (HB1.out _).trans (hb2.mono (by simp))
  clear hb2
  go_wp2_with fail
  clear x2 x3 x4 x5
  go_loopw [3, 11] (fun x j wr => ∃ v : Nat, v ≤ 2 ∧ j = .int .i64 v ∧ x = .string (Mk.addV M k (Mk.purseI (M.cf k) (M.ch k)) v) ∧ Below w.heap.size w wr) (fun _ j _ => 2 - (intOf j).toNat)
  case atStart => exact ⟨0, by omega, rfl, rfl, HB2.out⟩
  case round =>
    obtain ⟨v, hv, rfl, rfl, hb⟩ := hrel
    have Hb : Hid (Below w.heap.size w wr) := hb
    clear hb
    have qv := Mk.addV_le HM.out hk (Mk.purseI (M.cf k) (M.ch k)) v hv
    by_cases hlt : v < 2
    · have hlt' : (v : Int) < 2 := by omega
      have cf := HM.out.sf v k hlt hk
      have ch := HM.out.sh v k hlt hk
      have qw := Mk.purseI_le cf.2 ch.2
      have hix := HI.out v hlt
      have HA : Hid (∀ ob, Below w.heap.size w (wr.alloc ob)) := fun ob => Hb.out.alloc Hb.out.size ob
      have HE : Hid (Mk.addV M k (Mk.purseI (M.cf k) (M.ch k)) (v + 1) = Mk.addV M k (Mk.purseI (M.cf k) (M.ch k)) v ++ ⟨#[32]⟩ ++ Mk.purseI (M.sf v k) (M.sh v k)) := rfl
      go_wp2_with fail
      refine (pot_any _ _ _ cf ch (HT.out.next (HA.out _))).mono ?_
      rintro e w3 ⟨rfl, hb3⟩
      have HB3 : Hid (Below w.heap.size w w3) := (HA.out _).trans (hb3.mono (HA.out _).size)
      clear hb3
      go_wp2_with fail
      go_roundw
      case rel => exact ⟨v + 1, by omega, by go_num, by rw [HE.out], HB3.out⟩
      case measure => simp [intOf]; omega
    · obtain rfl : v = 2 := by omega
      go_wp2_with fail
      go_ret
      exact ⟨rfl, Hb.out⟩

set_option maxRecDepth 100000 in
set_option maxHeartbeats 1000000 in
theorem mode_show (b : Bool) (w : World) :
    Calls Tryz.prog 86 #[.int .i64 (mdI b)] w fun e w' => e = .returned (.string (Mk.modeL b)) ∧ w' = w := by
  cases b
  · show Calls Tryz.prog 86 #[.int .i64 0] w _
    go_enter Tryz.func86, Tryz.ntmps86
    go_wp2
    go_ret
    exact ⟨rfl, rfl⟩
  · show Calls Tryz.prog 86 #[.int .i64 1] w _
    go_enter Tryz.func86, Tryz.ntmps86
    go_wp2
    go_ret
    exact ⟨rfl, rfl⟩

set_option maxRecDepth 100000 in
set_option maxHeartbeats 2000000 in
theorem entry_nat (n : Nat) (sell : Bool) (who p q : Nat) (w : World) (h1 : n ≤ 9999) (h2 : who ≤ 9999) (h3 : p ≤ 9999) (h4 : q ≤ 9999) (ht : Tab w) :
    Calls Tryz.prog 87 #[.agg #[.int .i64 n, .int .i64 who, .bool sell, .int .i64 p, .int .i64 q]] w fun e w' => e = .returned (.string (Mk.standT n sell who p q)) ∧ Below w.heap.size w w' := by
  have s1 := Mk.dig_le4 h1
  have s2 := Mk.dig_le4 h2
  have s3 := Mk.dig_le4 h3
  have s4 := Mk.dig_le4 h4
  have HB1 : Hid (∀ ob, Below w.heap.size w (w.alloc ob)) := fun ob => (Below.refl _ _).alloc (Nat.le_refl _) _
  have HT : Hid (Tab w) := ht
  clear ht
  cases sell
  all_goals
    go_enter Tryz.func87, Tryz.ntmps87
    go_wp2_with fail
    refine (itoa_any n h1 _ (HT.out.next (HB1.out _))).mono ?_
    rintro e w2 ⟨rfl, hb2⟩
    have x1 : w2.cell? ⟨w.heap.size, 1, none⟩ = some (.int .i64 who) := by rw [hb2.cell (p := ⟨w.heap.size, 1, none⟩) (by simp)]; simp
    have x2 := (show w2.cell? ⟨w.heap.size, 2, none⟩ = some (.bool _) from by rw [hb2.cell (p := ⟨w.heap.size, 2, none⟩) (by simp)]; simp; rfl)
    have x3 : w2.cell? ⟨w.heap.size, 3, none⟩ = some (.int .i64 p) := by rw [hb2.cell (p := ⟨w.heap.size, 3, none⟩) (by simp)]; simp
    have x4 : w2.cell? ⟨w.heap.size, 4, none⟩ = some (.int .i64 q) := by rw [hb2.cell (p := ⟨w.heap.size, 4, none⟩) (by simp)]; simp
    have hl2 : w.heap.size < w2.heap.size := Nat.lt_of_lt_of_le (by simp) hb2.size
    have HB2 : Hid (Below w.heap.size w w2) := (HB1.out _).trans (hb2.mono (by simp))
    clear hb2
    go_wp2_with fail
    refine (itoa_any who h2 _ (HT.out.next HB2.out)).mono ?_
    rintro e w3 ⟨rfl, hb3⟩
    have y3 : w3.cell? ⟨w.heap.size, 3, none⟩ = some (.int .i64 p) := (hb3.cell (p := ⟨w.heap.size, 3, none⟩) hl2).trans x3
    have y4 : w3.cell? ⟨w.heap.size, 4, none⟩ = some (.int .i64 q) := (hb3.cell (p := ⟨w.heap.size, 4, none⟩) hl2).trans x4
    have hl3 : w.heap.size < w3.heap.size := Nat.lt_of_lt_of_le hl2 hb3.size
    have HB3 : Hid (Below w.heap.size w w3) := HB2.out.trans (hb3.mono HB2.out.size)
    clear hb3 x1 x2 x3 x4
    go_wp2_with fail
    refine (itoa_any p h3 _ (HT.out.next HB3.out)).mono ?_
    rintro e w4 ⟨rfl, hb4⟩
    have z4 : w4.cell? ⟨w.heap.size, 4, none⟩ = some (.int .i64 q) := (hb4.cell (p := ⟨w.heap.size, 4, none⟩) hl3).trans y4
    have HB4 : Hid (Below w.heap.size w w4) := HB3.out.trans (hb4.mono HB3.out.size)
    clear hb4 y3 y4
    go_wp2_with fail
    refine (itoa_any q h4 _ (HT.out.next HB4.out)).mono ?_
    rintro e w5 ⟨rfl, hb5⟩
    have HB5 : Hid (Below w.heap.size w w5) := HB4.out.trans (hb5.mono HB4.out.size)
    clear hb5
    go_wp2_with fail
    go_ret
    exact ⟨rfl, HB5.out⟩
theorem entry_any (x : Mk.Stand) (w : World) (h1 : 0 ≤ x.n ∧ x.n ≤ 11) (h2 : 0 ≤ x.who ∧ x.who ≤ 3) (h3 : 1 ≤ x.o.price ∧ x.o.price ≤ 99 ∧ 1 ≤ x.o.qty ∧ x.o.qty ≤ 20) (ht : Tab w) :
    Calls Tryz.prog 87 #[.agg #[.int .i64 x.n, .int .i64 x.who, .bool x.o.sell, .int .i64 x.o.price, .int .i64 x.o.qty]] w fun e w' => e = .returned (.string (Mk.standI x)) ∧ Below w.heap.size w w' := by
  obtain ⟨n, who, sell, p, q⟩ := x
  obtain ⟨n, rfl⟩ := Int.eq_ofNat_of_zero_le h1.1
  obtain ⟨who, rfl⟩ := Int.eq_ofNat_of_zero_le h2.1
  obtain ⟨p, rfl⟩ := Int.eq_ofNat_of_zero_le (show (0 : Int) ≤ p by have := h3.1; simp at this; omega)
  obtain ⟨q, rfl⟩ := Int.eq_ofNat_of_zero_le (show (0 : Int) ≤ q by have := h3.2.2.1; simp at this; omega)
  have a1 := h1.2
  have a2 := h2.2
  have a3 := h3.2.1
  have a4 := h3.2.2.2
  simp only at a1 a2 a3 a4
  exact entry_nat n sell who p q w (by omega) (by omega) (by omega) (by omega) ht

end Go.Proofs.YtmebcdpdpcpnmaaGreatDoor

namespace Go.Proofs.YtmebcdpdpcpnmaaGreatDoor
open Go.RowKit

/-- order i of a batch, in memory -/
theorem entry_cells {w : World} {g n c : Nat} {l : List Mk.Stand} (h : w.ownsRow 0 152 5 (.slice (some ⟨g, 0, none⟩) n c) n (standC l)) (hn : n = l.length) {i : Nat} (hi : i < n) :
    w.cell? ⟨g, i * 5, none⟩ = some (.int .i64 (Mk.std l i).n) ∧ w.cell? ⟨g, i * 5 + 1, none⟩ = some (.int .i64 (Mk.std l i).who) ∧ w.cell? ⟨g, i * 5 + 2, none⟩ = some (.bool (Mk.std l i).o.sell) ∧ w.cell? ⟨g, i * 5 + 3, none⟩ = some (.int .i64 (Mk.std l i).o.price) ∧ w.cell? ⟨g, i * 5 + 4, none⟩ = some (.int .i64 (Mk.std l i).o.qty) := by
  have hf := standF_at l i
  have hj : ∀ j, j < n * 5 → w.cell? ⟨g, j, none⟩ = some (standF l j) := fun j hj => by rw [h.cellAt j hj, standC_get l (by omega)]
  refine ⟨?_, ?_, ?_, ?_, ?_⟩
  · rw [hj _ (by omega), hf.1]
  · rw [hj _ (by omega), hf.2.1]
  · rw [hj _ (by omega), hf.2.2.1]
  · rw [hj _ (by omega), hf.2.2.2.1]
  · rw [hj _ (by omega), hf.2.2.2.2]

set_option maxRecDepth 100000 in
set_option maxHeartbeats 2000000 in
theorem voyage_show (M : Mk.Mkt) (v : Nat) (bv : Value) (w : World) (hv : v < 2) (hM : M.Fine) (ht : Tab w) (hown : w.ownsRow 0 152 5 bv (M.bk v).length (standC (M.bk v))) :
    Calls Tryz.prog 53 #[.agg #[.int .i64 (mdI (M.md v)), bv, .int .i64 (M.cm v)]] w fun e w' => e = .returned (.string (Mk.voT M v)) ∧ Below w.heap.size w w' := by
  have HT : Hid (Tab w) := ht
  have HM : Hid M.Fine := hM
  have HO : Hid (w.ownsRow 0 152 5 bv (M.bk v).length (standC (M.bk v))) := hown
  have HV : Hid (v < 2) := hv
  have hlen := hM.len v hv
  have HB1 : Hid (∀ ob, Below w.heap.size w (w.alloc ob)) := fun ob => (Below.refl _ _).alloc (Nat.le_refl _) _
  have q0 : (Mk.modeL (M.md v)).size = 1 := by unfold Mk.modeL; split <;> rfl
  rcases hown.2 with ⟨rfl, h0⟩ | ⟨g, cap, cur, rfl, hrest⟩
  · have HZ : Hid (Mk.voT M v = Mk.modeL (M.md v)) := (by unfold Mk.voT; rw [h0]; rfl : Mk.voT M v = Mk.modeL (M.md v))
    clear ht hM hown
    generalize M.md v = md at *
    generalize M.cm v = cm at *
    go_enter Tryz.func53, Tryz.ntmps53
    go_wp2_with fail
    refine (mode_show md _).mono ?_
    rintro e w2 ⟨rfl, hw2⟩
    obtain rfl := hw2.symm
    go_wp2_with fail
    go_loopw [3, 12] (fun x j wr => j = .int .i64 0 ∧ x = .string (Mk.modeL md) ∧ Below w.heap.size w wr) (fun _ _ _ => 0)
    case atStart => exact ⟨rfl, rfl, HB1.out _⟩
    case round =>
      obtain ⟨rfl, rfl, hb⟩ := hrel
      have Hb : Hid (Below w.heap.size w wr) := hb
      clear hb
      go_wp2_with fail
      go_ret
      exact ⟨by rw [HZ.out]; rfl, Hb.out⟩
  · clear ht hM hown hrest
    have HQ : Hid (∀ k, k ≤ (M.bk v).length → (Mk.addB (M.bk v) (Mk.modeL (M.md v)) k).size ≤ 1 + 20 * k) := fun k hk => by
      have := Mk.addB_le HM.out HV.out (Mk.modeL (M.md v)) k hk
      omega
    have HE : Hid (∀ k, Mk.addB (M.bk v) (Mk.modeL (M.md v)) (k + 1) = Mk.comma k (Mk.addB (M.bk v) (Mk.modeL (M.md v)) k) ++ Mk.standI (Mk.std (M.bk v) k)) := fun k => rfl
    have HZ : Hid (Mk.voT M v = Mk.addB (M.bk v) (Mk.modeL (M.md v)) (M.bk v).length) := rfl
    have HF : Hid (∀ k, k < (M.bk v).length → (0 ≤ (Mk.std (M.bk v) k).n ∧ (Mk.std (M.bk v) k).n ≤ 11) ∧ (0 ≤ (Mk.std (M.bk v) k).who ∧ (Mk.std (M.bk v) k).who ≤ 3) ∧ (1 ≤ (Mk.std (M.bk v) k).o.price ∧ (Mk.std (M.bk v) k).o.price ≤ 99 ∧ 1 ≤ (Mk.std (M.bk v) k).o.qty ∧ (Mk.std (M.bk v) k).o.qty ≤ 20)) := fun k hk => by
      have hm : Mk.std (M.bk v) k ∈ M.bk v := by rw [Mk.std_at hk]; exact List.getElem_mem _
      exact ⟨HM.out.num v HV.out _ hm, HM.out.who v HV.out _ hm, HM.out.ord v HV.out _ hm⟩
    generalize hbk : M.bk v = l at *
    generalize M.md v = md at *
    generalize M.cm v = cm at *
    clear hbk
    go_enter Tryz.func53, Tryz.ntmps53
    go_wp2_with fail
    refine (mode_show md _).mono ?_
    rintro e w2 ⟨rfl, hw2⟩
    obtain rfl := hw2.symm
    go_wp2_with fail
    go_loopw [3, 12] (fun x j wr => ∃ k : Nat, k ≤ l.length ∧ j = .int .i64 k ∧ x = .string (Mk.addB l (Mk.modeL md) k) ∧ Below w.heap.size w wr) (fun _ j _ => l.length - (intOf j).toNat)
    case atStart => exact ⟨0, Nat.zero_le _, rfl, rfl, HB1.out _⟩
    case round =>
      obtain ⟨k, hk, rfl, rfl, hb⟩ := hrel
      have Hb : Hid (Below w.heap.size w wr) := hb
      clear hb
      have qk := HQ.out k hk
      by_cases hlt : k < l.length
      · have hlt' : (k : Int) < (l.length : Int) := by omega
        obtain ⟨b1, b2, b3⟩ := HF.out k hlt
        obtain ⟨e0, e1, e2, e3, e4⟩ := entry_cells (own_below HO.out Hb.out (fun j hj => (HO.out.lt j hj).2)) rfl hlt
        have qs := Mk.standI_le (s := Mk.std l k) (by omega) (by omega) (by omega) (by omega)
        have HA : Hid (∀ ob, Below w.heap.size w (wr.alloc ob)) := fun ob => Hb.out.alloc Hb.out.size ob
        by_cases h0 : 0 < k
        · have h0' : (0 : Int) < (k : Int) := by omega
          have HC : Hid (Mk.addB l (Mk.modeL md) (k + 1) = Mk.addB l (Mk.modeL md) k ++ ⟨#[44]⟩ ++ Mk.standI (Mk.std l k)) := (by rw [HE.out k]; unfold Mk.comma; rw [if_pos h0] : Mk.addB l (Mk.modeL md) (k + 1) = Mk.addB l (Mk.modeL md) k ++ ⟨#[44]⟩ ++ Mk.standI (Mk.std l k))
          go_wp2_with fail
          refine (entry_any (Mk.std l k) _ b1 b2 b3 (HT.out.next (HA.out _))).mono ?_
          rintro e w3 ⟨rfl, hb3⟩
          have HB3 : Hid (Below w.heap.size w w3) := (HA.out _).trans (hb3.mono (HA.out _).size)
          clear hb3
          go_wp2_with fail
          go_roundw
          case rel => exact ⟨k + 1, by omega, by go_num, by rw [HC.out], HB3.out⟩
          case measure => simp [intOf]; omega
        · have h0' : ¬ (0 : Int) < (k : Int) := by omega
          have HC : Hid (Mk.addB l (Mk.modeL md) (k + 1) = Mk.addB l (Mk.modeL md) k ++ Mk.standI (Mk.std l k)) := (by rw [HE.out k]; unfold Mk.comma; rw [if_neg h0] : Mk.addB l (Mk.modeL md) (k + 1) = Mk.addB l (Mk.modeL md) k ++ Mk.standI (Mk.std l k))
          go_wp2_with fail
          refine (entry_any (Mk.std l k) _ b1 b2 b3 (HT.out.next (HA.out _))).mono ?_
          rintro e w3 ⟨rfl, hb3⟩
          have HB3 : Hid (Below w.heap.size w w3) := (HA.out _).trans (hb3.mono (HA.out _).size)
          clear hb3
          go_wp2_with fail
          go_roundw
          case rel => exact ⟨k + 1, by omega, by go_num, by rw [HC.out], HB3.out⟩
          case measure => simp [intOf]; omega
      · obtain rfl : k = l.length := by omega
        go_wp2_with fail
        go_ret
        exact ⟨by rw [HZ.out]; rfl, Hb.out⟩

/-- the voyages, as a value -/
def vosL (vb : Nat → Value) (M : Mk.Mkt) : List Value := (List.range 6).map (fun j => voF vb M (j / 3) (j % 3))
theorem Tryz.infoVos : (Tryz.prog.info? 67).map (·.size) = some 6 := by kernel_rfl
theorem idx_vos (vb : Nat → Value) (M : Mk.Mkt) (k : Nat) (hk : k < 2) (W : World) : (Instr.index 67 (.agg (vosL vb M).toArray) (.int .i64 (k : Int))).run Tryz.prog W = .ok (.agg #[.int .i64 (mdI (M.md k)), vb k, .int .i64 (M.cm k)]) W := by
  rcases (show k = 0 ∨ k = 1 by omega) with rfl | rfl
  all_goals
    simp [Instr.index, run_underlying Tryz.underlying67, asIntOf, Tryz.sizeOf66, go_sem]
    rfl
theorem vos_at {w : World} {p : Nat} {vb : Nat → Value} {M : Mk.Mkt} (hP : PM w p vb M) : w.rangeAt p 25 (vosL vb M) := by
  intro j v hv
  have hj : j < 6 := by
    refine Nat.lt_of_not_le (fun h => ?_)
    rw [List.getElem?_eq_none (by simp [vosL]; exact h)] at hv
    cases hv
  have : v = voF vb M (j / 3) (j % 3) := by
    simp [vosL, List.getElem?_range hj] at hv
    exact hv.symm
  subst this
  have h := hP.vo (v := j / 3) (k := j % 3) (by omega) (by omega)
  rw [show 25 + j / 3 * 3 + j % 3 = 25 + j by omega] at h
  exact h

end Go.Proofs.YtmebcdpdpcpnmaaGreatDoor

namespace Go.Proofs.YtmebcdpdpcpnmaaGreatDoor
open Go.RowKit

theorem itoaI_any (x : Int) (hx : 0 ≤ x ∧ x ≤ 9999) (w : World) (ht : Tab w) :
    Calls Tryz.prog 52 #[.int .i64 x] w fun e w' => e = .returned (.string (Mk.digI x)) ∧ Below w.heap.size w w' := by
  obtain ⟨n, rfl⟩ := Int.eq_ofNat_of_zero_le hx.1
  exact itoa_any n (by omega) w ht

set_option maxRecDepth 100000 in
set_option maxHeartbeats 4000000 in
theorem pshow_any (p : Nat) (vb : Nat → Value) (M : Mk.Mkt) (w : World) (hM : M.Fine) (hP : PM w p vb M) (ht : Tab w) :
    Calls Tryz.prog 32 #[.pointer (some ⟨p, 0, none⟩)] w fun e w' => e = .returned (.string (Mk.showM M)) ∧ Below w.heap.size w w' := by
  have HM : Hid M.Fine := hM
  have HP : Hid (PM w p vb M) := hP
  have HT : Hid (Tab w) := ht
  have HR : Hid (w.rangeAt p 0 (acsL M)) := acs_at hP
  have HIX : Hid (∀ k, k < 4 → ∀ W, (Instr.index 62 (.agg (acsL M).toArray) (.int .i64 ((k : Nat) : Int))).run Tryz.prog W = .ok (acV M k) W) := fun k hk W => idx_acs M k hk W
  have HIV : Hid (∀ k, k < 2 → ∀ W, (Instr.index 67 (.agg (vosL vb M).toArray) (.int .i64 ((k : Nat) : Int))).run Tryz.prog W = .ok (.agg #[.int .i64 (mdI (M.md k)), vb k, .int .i64 (M.cm k)]) W) := fun k hk W => idx_vos vb M k hk W
  clear hM hP ht
  go_enter Tryz.func32, Tryz.ntmps32
  go_upto_region 2 with fail
  iterate 10 go_step
  refine wpList_load_mid rfl 62 _ rfl p 0 rfl (acsL M) _ HR.out Tryz.underlying62 rfl (by rw [Tryz.infoAcs]; simp [acsL]) ?_
  generalize (Value.agg (acsL M).toArray) = A at *
  go_wp2
  go_loopw [3, 12] (fun x j wr => ∃ c : Nat, c ≤ 4 ∧ j = .int .i64 c ∧ x = .string (Mk.addC M c) ∧ Below w.heap.size w wr) (fun _ j _ => 4 - (intOf j).toNat)
  case atStart => exact ⟨0, by omega, rfl, rfl, Below.refl _ _⟩
  case round =>
    obtain ⟨c, hc, rfl, rfl, hb⟩ := hrel
    have Hb : Hid (Below w.heap.size w wr) := hb
    clear hb
    have qc := Mk.addC_le HM.out c hc
    by_cases hlt : c < 4
    · have hlt' : (c : Int) < 4 := by omega
      have hix := HIX.out c hlt
      have HA : Hid (∀ ob, Below w.heap.size w (wr.alloc ob)) := fun ob => Hb.out.alloc Hb.out.size ob
      have qa : (Mk.acT M c).size ≤ 29 := by
        have h1 := Mk.addV_le HM.out hlt (Mk.purseI (M.cf c) (M.ch c)) 2 (by omega)
        have h2 := Mk.purseI_le (HM.out.cf c hlt).2 (HM.out.ch c hlt).2
        unfold Mk.acT
        omega
      have HE : Hid (Mk.addC M (c + 1) = Mk.addC M c ++ Mk.acT M c ++ ⟨#[59]⟩) := Mk.addC_succ M c
      go_wp2_with fail
      refine (acct_show M c _ hlt HM.out (HT.out.next (HA.out _))).mono ?_
      rintro e w3 ⟨rfl, hb3⟩
      have HB3 : Hid (Below w.heap.size w w3) := (HA.out _).trans (hb3.mono (HA.out _).size)
      clear hb3
      go_wp2_with fail
      go_roundw
      case rel => exact ⟨c + 1, by omega, by go_num, by rw [HE.out], HB3.out⟩
      case measure => simp [intOf]; omega
    · obtain rfl : c = 4 := by omega
      have HPr : Hid (PM wr p vb M) := HP.out.below Hb.out
      have ch := HPr.out.ho
      have bh := HM.out.house
      have qh := Mk.digI_le bh.2
      go_wp2_with fail
      refine (itoaI_any _ bh _ (HT.out.next Hb.out)).mono ?_
      rintro e w4 ⟨rfl, hb4⟩
      have HB4 : Hid (Below w.heap.size w w4) := Hb.out.trans (hb4.mono Hb.out.size)
      have HP4 : Hid (PM w4 p vb M) := HP.out.below HB4.out
      have HR4 : Hid (w4.rangeAt p 25 (vosL vb M)) := vos_at HP4.out
      clear hb4 ch
      have qs : (Mk.addC M 4 ++ Mk.digI M.house).size ≤ 164 := by rw [ByteArray.size_append]; omega
      go_upto_region 9 with fail
      iterate 10 go_step
      refine wpList_load_mid rfl 67 _ rfl p 25 rfl (vosL vb M) _ HR4.out Tryz.underlying67 rfl (by rw [Tryz.infoVos]; simp [vosL]) ?_
      generalize (Value.agg (vosL vb M).toArray) = V at *
      have HS : Hid (Mk.showM M = Mk.addM M (Mk.addC M 4 ++ Mk.digI M.house) 2) := rfl
      generalize Mk.addC M 4 ++ Mk.digI M.house = S at *
      go_wp2
      go_loopw [3, 33] (fun x j wr => ∃ v : Nat, v ≤ 2 ∧ j = .int .i64 v ∧ x = .string (Mk.addM M S v) ∧ Below w.heap.size w wr) (fun _ j _ => 2 - (intOf j).toNat)
      case atStart => exact ⟨0, by omega, rfl, rfl, HB4.out⟩
      case round =>
        obtain ⟨v, hv, rfl, rfl, hb5⟩ := hrel
        have Hb5 : Hid (Below w.heap.size w wr) := hb5
        clear hb5
        have qm := Mk.addM_le HM.out S v hv
        by_cases hv2 : v < 2
        · have hv2' : (v : Int) < 2 := by omega
          obtain ⟨ba, bc, hbv⟩ := HP.out.book hv2
          have hix := HIV.out v hv2
          rw [hbv] at hix
          have ho := HP.out.bk v hv2
          rw [hbv] at ho
          have HO : Hid (w.ownsRow 0 152 5 (.slice ba (M.bk v).length bc) (M.bk v).length (standC (M.bk v))) := ho
          have qv : (Mk.voT M v).size ≤ 241 := by
            have h1 := Mk.addB_le HM.out hv2 (Mk.modeL (M.md v)) (M.bk v).length (Nat.le_refl _)
            have h2 := HM.out.len v hv2
            have h3 : (Mk.modeL (M.md v)).size = 1 := by unfold Mk.modeL; split <;> rfl
            unfold Mk.voT
            omega
          have HA : Hid (∀ ob, Below w.heap.size w (wr.alloc ob)) := fun ob => Hb5.out.alloc Hb5.out.size ob
          have HE : Hid (Mk.addM M S (v + 1) = Mk.addM M S v ++ ⟨#[59]⟩ ++ Mk.voT M v) := Mk.addM_succ M S v
          clear ho hbv
          go_wp2_with fail
          refine (voyage_show M v _ _ hv2 HM.out (HT.out.next (HA.out _)) (own_below HO.out (HA.out _) (fun j hj => (HO.out.lt j hj).2))).mono ?_
          rintro e w6 ⟨rfl, hb6⟩
          have HB6 : Hid (Below w.heap.size w w6) := (HA.out _).trans (hb6.mono (HA.out _).size)
          clear hb6
          go_wp2_with fail
          go_roundw
          case rel => exact ⟨v + 1, by omega, by go_num, by rw [HE.out], HB6.out⟩
          case measure => simp [intOf]; omega
        · obtain rfl : v = 2 := by omega
          go_wp2_with fail
          go_ret
          exact ⟨by rw [HS.out]; rfl, Hb5.out⟩

end Go.Proofs.YtmebcdpdpcpnmaaGreatDoor

namespace Go.Proofs.YtmebcdpdpcpnmaaGreatDoor
open Go.RowKit

/-- an order in a batch, as a value -/
abbrev eV (n who : Int) (sell : Bool) (p q : Int) : Value := .agg #[.int .i64 n, .int .i64 who, .bool sell, .int .i64 p, .int .i64 q]
/-- where what it needs is held -/
def potAt (v who : Nat) (sell : Bool) : Nat := if sell then who * 6 + 2 + v * 2 else who * 6
def needI (sell : Bool) (p q : Int) : Int := if sell then q else p * q
theorem needI_bd {sell : Bool} {p q : Int} (hp : 1 ≤ p ∧ p ≤ 99) (hq : 1 ≤ q ∧ q ≤ 20) : 0 ≤ needI sell p q ∧ needI sell p q ≤ 1980 := by
  unfold needI
  split
  · omega
  · have h1 : 0 ≤ p * q := Int.mul_nonneg (by omega) (by omega)
    have h2 : p * q ≤ 99 * 20 := Int.mul_le_mul hp.2 hq.2 (by omega) (by omega)
    omega

set_option maxRecDepth 100000 in
set_option maxHeartbeats 1000000 in
theorem needs_any (n who : Int) (sell : Bool) (p q : Int) (w : World) (hp : 1 ≤ p ∧ p ≤ 99) (hq : 1 ≤ q ∧ q ≤ 20) :
    Calls Tryz.prog 119 #[eV n who sell p q] w fun e w' => e = .returned (.int .i64 (needI sell p q)) ∧ Below w.heap.size w w' := by
  have h1 : 0 ≤ p * q := Int.mul_nonneg (by omega) (by omega)
  have h2 : p * q ≤ 99 * 20 := Int.mul_le_mul hp.2 hq.2 (by omega) (by omega)
  cases sell
  all_goals
    go_enter Tryz.func119, Tryz.ntmps119
    go_wp2
    go_ret
    exact ⟨rfl, (Below.refl _ _).alloc (Nat.le_refl _) _⟩

set_option maxRecDepth 100000 in
set_option maxHeartbeats 1000000 in
theorem potOf_any (p v who : Nat) (n : Int) (sell : Bool) (pr q : Int) (w : World) (hw : who < 4) (hv : v < 2) :
    Calls Tryz.prog 117 #[.pointer (some ⟨p, 0, none⟩), eV n who sell pr q, .int .i64 v] w fun e w' => e = .returned (.pointer (some ⟨p, potAt v who sell, none⟩)) ∧ Below w.heap.size w w' := by
  have hw' : (who : Int) < 4 := by omega
  have hv' : (v : Int) < 2 := by omega
  cases sell
  all_goals
    have HB : Hid (∀ ob n, Below w.heap.size w ((w.alloc ob).drewN n)) := fun ob n => below_drewN ((Below.refl _ _).alloc (Nat.le_refl _) _) n
    go_enter Tryz.func117, Tryz.ntmps117
    go_wp2_with fail
    go_quiet (fail)
    go_wp2_with fail
    go_ret
    exact ⟨rfl, HB.out _ _⟩

set_option maxRecDepth 100000 in
set_option maxHeartbeats 1000000 in
theorem hold_yes (p i : Nat) (f h n : Int) (w : World) (c0 : w.cell? ⟨p, i, none⟩ = some (.int .i64 f)) (c1 : w.cell? ⟨p, i + 1, none⟩ = some (.int .i64 h)) (z0 : w.frozen? ⟨p, i, none⟩ = false) (z1 : w.frozen? ⟨p, i + 1, none⟩ = false) (hf : 0 ≤ f ∧ f ≤ 9999) (hh : 0 ≤ h ∧ h ≤ 9999) (hn : 0 ≤ n ∧ n ≤ 9999) (hle : n ≤ f) :
    Calls Tryz.prog 118 #[.pointer (some ⟨p, i, none⟩), .int .i64 n] w fun e w' => e = .returned (.int .i64 0) ∧ w' = (w.setCell ⟨p, i, none⟩ (.int .i64 (f - n))).setCell ⟨p, i + 1, none⟩ (.int .i64 (h + n)) := by
  have HC := (show Hid _ from take_yes p i f n w c0 z0 hf hn hle)
  have d1 : (w.setCell ⟨p, i, none⟩ (.int .i64 (f - n))).cell? ⟨p, i + 1, none⟩ = some (.int .i64 h) := cell_set_ne (by omega) c1
  have y1 : (w.setCell ⟨p, i, none⟩ (.int .i64 (f - n))).frozen? ⟨p, i + 1, none⟩ = false := by simpa using z1
  clear c0 c1 z0 z1 hle
  go_enter Tryz.func118, Tryz.ntmps118
  go_wp2_with fail
  refine Calls.mono HC.out ?_
  rintro e w2 ⟨rfl, hw2⟩
  obtain rfl := hw2
  go_wp2
  go_ret
  exact ⟨rfl, rfl⟩
set_option maxRecDepth 100000 in
set_option maxHeartbeats 1000000 in
theorem hold_no (p i : Nat) (f n : Int) (w : World) (c0 : w.cell? ⟨p, i, none⟩ = some (.int .i64 f)) (hle : f < n) :
    Calls Tryz.prog 118 #[.pointer (some ⟨p, i, none⟩), .int .i64 n] w fun e w' => e = .returned (.int .i64 5) ∧ w' = w := by
  go_enter Tryz.func118, Tryz.ntmps118
  go_wp2_with fail
  refine (take_no p i f n w c0 hle).mono ?_
  rintro e w2 ⟨rfl, hw2⟩
  obtain rfl := hw2.symm
  go_wp2
  go_ret
  exact ⟨rfl, rfl⟩
set_option maxRecDepth 100000 in
set_option maxHeartbeats 1000000 in
theorem release_any (p i : Nat) (f h n : Int) (w : World) (c0 : w.cell? ⟨p, i, none⟩ = some (.int .i64 f)) (c1 : w.cell? ⟨p, i + 1, none⟩ = some (.int .i64 h)) (z0 : w.frozen? ⟨p, i, none⟩ = false) (z1 : w.frozen? ⟨p, i + 1, none⟩ = false) (hf : 0 ≤ f ∧ f ≤ 9999) (hh : 0 ≤ h ∧ h ≤ 9999) (hn : 0 ≤ n ∧ n ≤ 9999) :
    Calls Tryz.prog 121 #[.pointer (some ⟨p, i, none⟩), .int .i64 n] w fun e w' => e = .returned (.tuple #[]) ∧ w' = (w.setCell ⟨p, i + 1, none⟩ (.int .i64 (h - n))).setCell ⟨p, i, none⟩ (.int .i64 (f + n)) := by
  have hne : (⟨p, i, none⟩ : Addr) ≠ ⟨p, i + 1, none⟩ := by simp
  have d0 : (w.setCell ⟨p, i + 1, none⟩ (.int .i64 (h - n))).cell? ⟨p, i, none⟩ = some (.int .i64 f) := cell_set_ne (by omega) c0
  have y0 : (w.setCell ⟨p, i + 1, none⟩ (.int .i64 (h - n))).frozen? ⟨p, i, none⟩ = false := by simpa using z0
  go_enter Tryz.func121, Tryz.ntmps121
  go_wp2_with fail
  refine bodyPost_end (v := .tuple #[]) ?_ rfl ⟨rfl, rfl⟩
  simp [results, Tryz.results121, go_sem]

set_option maxRecDepth 100000 in
set_option maxHeartbeats 2000000 in
theorem hasOrderOf_any (p o who : Nat) (bv : Value) (l : List Mk.Stand) (w : World) (hc : w.cell? ⟨p, o + 1, none⟩ = some bv) (hl : l.length ≤ 12) (hown : w.ownsRow 0 152 5 bv l.length (standC l)) :
    Calls Tryz.prog 116 #[.pointer (some ⟨p, o, none⟩), .int .i64 who] w fun e w' => e = .returned (.bool (Mk.whoIn l who)) ∧ Below w.heap.size w w' := by
  have HO : Hid (w.ownsRow 0 152 5 bv l.length (standC l)) := hown
  obtain ⟨ba, bc, rfl⟩ := own_form hown
  clear hown
  go_enter Tryz.func116, Tryz.ntmps116
  go_wp2
  clear hc
  go_loopw [12] (fun j wr => ∃ k : Nat, k ≤ l.length ∧ j = .int .i64 k ∧ (∀ i, i < k → ((Mk.std l i).who == (who : Int)) = false) ∧ Below w.heap.size w wr) (fun j _ => l.length - (intOf j).toNat)
  case atStart => exact ⟨0, Nat.zero_le _, rfl, fun i hi => by omega, Below.refl _ _⟩
  case round =>
    obtain ⟨k, hk, rfl, hn, hb⟩ := hrel
    have HN : Hid (∀ i, i < k → ((Mk.std l i).who == (who : Int)) = false) := hn
    have Hb : Hid (Below w.heap.size w wr) := hb
    clear hn hb
    by_cases hlt : k < l.length
    · have hlt' : (k : Int) < (l.length : Int) := by omega
      obtain ⟨g, rfl⟩ := own_some HO.out (by omega)
      obtain ⟨e0, e1, e2, e3, e4⟩ := entry_cells (own_below HO.out Hb.out (fun j hj => (HO.out.lt j hj).2)) rfl hlt
      have HA : Hid (∀ ob, Below w.heap.size w (wr.alloc ob)) := fun ob => Hb.out.alloc Hb.out.size ob
      by_cases hh : ((Mk.std l k).who == (who : Int)) = true
      · have HY : Hid (Mk.whoIn l who = true) := by
          unfold Mk.whoIn
          rw [List.any_eq_true]
          exact ⟨l[k], List.getElem_mem hlt, by rw [← Mk.std_at hlt]; exact hh⟩
        go_wp2
        go_ret
        exact ⟨by rw [HY.out]; rfl, HA.out _⟩
      · have hh' : ((Mk.std l k).who == (who : Int)) = false := by simpa using hh
        have HN' : Hid (∀ i, i < k + 1 → ((Mk.std l i).who == (who : Int)) = false) := fun i hi => by
          by_cases e : i = k
          · subst e; exact hh'
          · exact HN.out i (by omega)
        clear hh
        go_wp2
        go_roundw
        case rel => exact ⟨k + 1, by omega, by go_num, HN'.out, HA.out _⟩
        case measure => simp [intOf]; omega
    · obtain rfl : k = l.length := by omega
      have HF : Hid (Mk.whoIn l who = false) := by
        unfold Mk.whoIn
        rw [List.any_eq_false]
        intro x hx
        obtain ⟨i, hi, rfl⟩ := List.mem_iff_getElem.1 hx
        rw [← Mk.std_at hi, HN.out i hi]
        simp
      go_wp2
      go_ret
      exact ⟨by rw [HF.out]; rfl, Hb.out⟩

end Go.Proofs.YtmebcdpdpcpnmaaGreatDoor
