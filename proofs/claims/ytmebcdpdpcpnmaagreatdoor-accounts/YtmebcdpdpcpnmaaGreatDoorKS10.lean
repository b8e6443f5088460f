import Derived.Test.YtmebcdpdpcpnmaaGreatDoorJ14
namespace Mk
theorem app_assoc (a b c : ByteArray) : a ++ (b ++ c) = a ++ b ++ c := (ByteArray.append_assoc).symm
theorem addV_app (M : Mkt) (c : Nat) (s x : ByteArray) : ∀ v, addV M c (s ++ x) v = s ++ addV M c x v
  | 0 => rfl
  | v + 1 => by simp only [addV, addV_app M c s x v, app_assoc]
/-- an account's text -/
def acT (M : Mkt) (c : Nat) : ByteArray := addV M c (purseI (M.cf c) (M.ch c)) 2
theorem addC_succ (M : Mkt) (c : Nat) : addC M (c + 1) = addC M c ++ acT M c ++ ⟨#[59]⟩ := by
  show addV M c (addC M c ++ purseI (M.cf c) (M.ch c)) 2 ++ ⟨#[59]⟩ = _
  rw [addV_app]
  rfl
def modeL (b : Bool) : ByteArray := if b then ⟨#[109]⟩ else ⟨#[117]⟩
theorem modeT_eq (b : Bool) : modeT b = ⟨#[59]⟩ ++ modeL b := by cases b <;> rfl
theorem addB_app (l : List Stand) (s x : ByteArray) : ∀ i, addB l (s ++ x) i = s ++ addB l x i
  | 0 => rfl
  | i + 1 => by
    simp only [addB, addB_app l s x i]
    by_cases h : 0 < i
    · simp only [comma, h, if_true, app_assoc]
    · simp only [comma, h, if_false, app_assoc]
/-- a voyage's text -/
def voT (M : Mkt) (v : Nat) : ByteArray := addB (M.bk v) (modeL (M.md v)) (M.bk v).length
theorem addM_succ (M : Mkt) (s : ByteArray) (v : Nat) : addM M s (v + 1) = addM M s v ++ ⟨#[59]⟩ ++ voT M v := by
  show addB (M.bk v) (addM M s v ++ modeT (M.md v)) (M.bk v).length = _
  rw [modeT_eq, app_assoc, addB_app]
  rfl
end Mk
namespace Go.Proofs.YtmebcdpdpcpnmaaGreatDoor
open Go.RowKit

set_option maxRecDepth 100000 in
set_option maxHeartbeats 1000000 in
theorem pot_nat (f h : Nat) (w : World) (hf : f ≤ 9999) (hh : h ≤ 9999) (ht : Tab w) :
    Calls Tryz.prog 84 #[.agg #[.int .i64 f, .int .i64 h]] w fun e w' => e = .returned (.string (Mk.purseT f h)) ∧ Below w.heap.size w w' := by
  have s1 := Mk.dig_le4 hf
  have s2 := Mk.dig_le4 hh
  have HB1 : Hid (∀ ob, Below w.heap.size w (w.alloc ob)) := fun ob => (Below.refl _ _).alloc (Nat.le_refl _) _
  have HT : Hid (Tab w) := ht
  clear ht
  go_enter Tryz.func84, Tryz.ntmps84
  go_wp2_with fail
  refine (itoa_any f hf _ (HT.out.next (HB1.out _))).mono ?_
  rintro e w2 ⟨rfl, hb2⟩
  have x1 : w2.cell? ⟨w.heap.size, 1, none⟩ = some (.int .i64 h) := by rw [hb2.cell (p := ⟨w.heap.size, 1, none⟩) (by simp)]; simp
  have HB2 : Hid (Below w.heap.size w w2) := (HB1.out _).trans (hb2.mono (by simp))
  clear hb2
  go_wp2_with fail
  refine (itoa_any h hh _ (HT.out.next HB2.out)).mono ?_
  rintro e w3 ⟨rfl, hb3⟩
  have HB3 : Hid (Below w.heap.size w w3) := HB2.out.trans (hb3.mono HB2.out.size)
  clear hb3
  go_wp2_with fail
  go_ret
  exact ⟨rfl, HB3.out⟩
theorem pot_any (f h : Int) (w : World) (bf : 0 ≤ f ∧ f ≤ 9999) (bh : 0 ≤ h ∧ h ≤ 9999) (ht : Tab w) :
    Calls Tryz.prog 84 #[.agg #[.int .i64 f, .int .i64 h]] w fun e w' => e = .returned (.string (Mk.purseI f h)) ∧ Below w.heap.size w w' := by
  obtain ⟨a, rfl⟩ := Int.eq_ofNat_of_zero_le bf.1
  obtain ⟨b, rfl⟩ := Int.eq_ofNat_of_zero_le bh.1
  exact pot_nat a b w (by omega) (by omega) ht

theorem idx_slots (f h : Nat → Int) (k : Nat) (hk : k < 2) (W : World) : (Instr.index 59 (.agg #[.int .i64 (f 0), .int .i64 (h 0), .int .i64 (f 1), .int .i64 (h 1)]) (.int .i64 (k : Int))).run Tryz.prog W = .ok (.agg #[.int .i64 (f k), .int .i64 (h k)]) W := by
  rcases (show k = 0 ∨ k = 1 by omega) with rfl | rfl
  all_goals simp [Instr.index, run_underlying Tryz.underlying59, asIntOf, Tryz.sizeOf58, go_sem]

set_option maxRecDepth 100000 in
set_option maxHeartbeats 2000000 in
theorem acct_show (M : Mk.Mkt) (k : Nat) (w : World) (hk : k < 4) (hM : M.Fine) (ht : Tab w) :
    Calls Tryz.prog 51 #[acV M k] w fun e w' => e = .returned (.string (Mk.acT M k)) ∧ Below w.heap.size w w' := by
  have HT : Hid (Tab w) := ht
  have HM : Hid M.Fine := hM
  have bf := hM.cf k hk
  have bh := hM.ch k hk
  have qp := Mk.purseI_le bf.2 bh.2
  have HB1 : Hid (∀ ob, Below w.heap.size w (w.alloc ob)) := fun ob => (Below.refl _ _).alloc (Nat.le_refl _) _
  have HI : Hid (∀ v, v < 2 → ∀ W, (Instr.index 59 (.agg #[.int .i64 (M.sf 0 k), .int .i64 (M.sh 0 k), .int .i64 (M.sf 1 k), .int .i64 (M.sh 1 k)]) (.int .i64 ((v : Nat) : Int))).run Tryz.prog W = .ok (.agg #[.int .i64 (M.sf v k), .int .i64 (M.sh v k)]) W) := fun v hv W => idx_slots (fun v => M.sf v k) (fun v => M.sh v k) v hv W
  clear ht hM
  go_enter Tryz.func51, Tryz.ntmps51
  go_wp2_with fail
  refine (pot_any _ _ _ bf bh (HT.out.next (HB1.out _))).mono ?_
  rintro e w2 ⟨rfl, hb2⟩
  have x2 : w2.cell? ⟨w.heap.size, 2, none⟩ = some (.int .i64 (M.sf 0 k)) := by rw [hb2.cell (p := ⟨w.heap.size, 2, none⟩) (by simp)]; simp
  have x3 : w2.cell? ⟨w.heap.size, 3, none⟩ = some (.int .i64 (M.sh 0 k)) := by rw [hb2.cell (p := ⟨w.heap.size, 3, none⟩) (by simp)]; simp
  have x4 : w2.cell? ⟨w.heap.size, 4, none⟩ = some (.int .i64 (M.sf 1 k)) := by rw [hb2.cell (p := ⟨w.heap.size, 4, none⟩) (by simp)]; simp
  have x5 : w2.cell? ⟨w.heap.size, 5, none⟩ = some (.int .i64 (M.sh 1 k)) := by rw [hb2.cell (p := ⟨w.heap.size, 5, none⟩) (by simp)]; simp
  have HB2 : Hid (Below w.heap.size w w2) := (HB1.out _).trans (hb2.mono (by simp))
  clear hb2
  go_wp2_with fail
  clear x2 x3 x4 x5
  go_loopw [3, 11] (fun x j wr => ∃ v : Nat, v ≤ 2 ∧ j = .int .i64 v ∧ x = .string (Mk.addV M k (Mk.purseI (M.cf k) (M.ch k)) v) ∧ Below w.heap.size w wr) (fun _ j _ => 2 - (intOf j).toNat)
  case atStart => exact ⟨0, by omega, rfl, rfl, HB2.out⟩
  case round =>
    obtain ⟨v, hv, rfl, rfl, hb⟩ := hrel
    have Hb : Hid (Below w.heap.size w wr) := hb
    clear hb
    have qv := Mk.addV_le HM.out hk (Mk.purseI (M.cf k) (M.ch k)) v hv
    by_cases hlt : v < 2
    · have hlt' : (v : Int) < 2 := by omega
      have cf := HM.out.sf v k hlt hk
      have ch := HM.out.sh v k hlt hk
      have qw := Mk.purseI_le cf.2 ch.2
      have hix := HI.out v hlt
      have HA : Hid (∀ ob, Below w.heap.size w (wr.alloc ob)) := fun ob => Hb.out.alloc Hb.out.size ob
      have HE : Hid (Mk.addV M k (Mk.purseI (M.cf k) (M.ch k)) (v + 1) = Mk.addV M k (Mk.purseI (M.cf k) (M.ch k)) v ++ ⟨#[32]⟩ ++ Mk.purseI (M.sf v k) (M.sh v k)) := rfl
      go_wp2_with fail
      refine (pot_any _ _ _ cf ch (HT.out.next (HA.out _))).mono ?_
      rintro e w3 ⟨rfl, hb3⟩
      have HB3 : Hid (Below w.heap.size w w3) := (HA.out _).trans (hb3.mono (HA.out _).size)
      clear hb3
      go_wp2_with fail
      go_roundw
      case rel => exact ⟨v + 1, by omega, by go_num, by rw [HE.out], HB3.out⟩
      case measure => simp [intOf]; omega
    · obtain rfl : v = 2 := by omega
      go_wp2_with fail
      go_ret
      exact ⟨rfl, Hb.out⟩

set_option maxRecDepth 100000 in
set_option maxHeartbeats 1000000 in
theorem mode_show (b : Bool) (w : World) :
    Calls Tryz.prog 86 #[.int .i64 (mdI b)] w fun e w' => e = .returned (.string (Mk.modeL b)) ∧ w' = w := by
  cases b
  · show Calls Tryz.prog 86 #[.int .i64 0] w _
    go_enter Tryz.func86, Tryz.ntmps86
    go_wp2
    go_ret
    exact ⟨rfl, rfl⟩
  · show Calls Tryz.prog 86 #[.int .i64 1] w _
    go_enter Tryz.func86, Tryz.ntmps86
    go_wp2
    go_ret
    exact ⟨rfl, rfl⟩

set_option maxRecDepth 100000 in
set_option maxHeartbeats 2000000 in
theorem entry_nat (n : Nat) (sell : Bool) (who p q : Nat) (w : World) (h1 : n ≤ 9999) (h2 : who ≤ 9999) (h3 : p ≤ 9999) (h4 : q ≤ 9999) (ht : Tab w) :
    Calls Tryz.prog 87 #[.agg #[.int .i64 n, .int .i64 who, .bool sell, .int .i64 p, .int .i64 q]] w fun e w' => e = .returned (.string (Mk.standT n sell who p q)) ∧ Below w.heap.size w w' := by
  have s1 := Mk.dig_le4 h1
  have s2 := Mk.dig_le4 h2
  have s3 := Mk.dig_le4 h3
  have s4 := Mk.dig_le4 h4
  have HB1 : Hid (∀ ob, Below w.heap.size w (w.alloc ob)) := fun ob => (Below.refl _ _).alloc (Nat.le_refl _) _
  have HT : Hid (Tab w) := ht
  clear ht
  cases sell
  all_goals
    go_enter Tryz.func87, Tryz.ntmps87
    go_wp2_with fail
    refine (itoa_any n h1 _ (HT.out.next (HB1.out _))).mono ?_
    rintro e w2 ⟨rfl, hb2⟩
    have x1 : w2.cell? ⟨w.heap.size, 1, none⟩ = some (.int .i64 who) := by rw [hb2.cell (p := ⟨w.heap.size, 1, none⟩) (by simp)]; simp
    have x2 := (show w2.cell? ⟨w.heap.size, 2, none⟩ = some (.bool _) from by rw [hb2.cell (p := ⟨w.heap.size, 2, none⟩) (by simp)]; simp; rfl)
    have x3 : w2.cell? ⟨w.heap.size, 3, none⟩ = some (.int .i64 p) := by rw [hb2.cell (p := ⟨w.heap.size, 3, none⟩) (by simp)]; simp
    have x4 : w2.cell? ⟨w.heap.size, 4, none⟩ = some (.int .i64 q) := by rw [hb2.cell (p := ⟨w.heap.size, 4, none⟩) (by simp)]; simp
    have hl2 : w.heap.size < w2.heap.size := Nat.lt_of_lt_of_le (by simp) hb2.size
    have HB2 : Hid (Below w.heap.size w w2) := (HB1.out _).trans (hb2.mono (by simp))
    clear hb2
    go_wp2_with fail
    refine (itoa_any who h2 _ (HT.out.next HB2.out)).mono ?_
    rintro e w3 ⟨rfl, hb3⟩
    have y3 : w3.cell? ⟨w.heap.size, 3, none⟩ = some (.int .i64 p) := (hb3.cell (p := ⟨w.heap.size, 3, none⟩) hl2).trans x3
    have y4 : w3.cell? ⟨w.heap.size, 4, none⟩ = some (.int .i64 q) := (hb3.cell (p := ⟨w.heap.size, 4, none⟩) hl2).trans x4
    have hl3 : w.heap.size < w3.heap.size := Nat.lt_of_lt_of_le hl2 hb3.size
    have HB3 : Hid (Below w.heap.size w w3) := HB2.out.trans (hb3.mono HB2.out.size)
    clear hb3 x1 x2 x3 x4
    go_wp2_with fail
    refine (itoa_any p h3 _ (HT.out.next HB3.out)).mono ?_
    rintro e w4 ⟨rfl, hb4⟩
    have z4 : w4.cell? ⟨w.heap.size, 4, none⟩ = some (.int .i64 q) := (hb4.cell (p := ⟨w.heap.size, 4, none⟩) hl3).trans y4
    have HB4 : Hid (Below w.heap.size w w4) := HB3.out.trans (hb4.mono HB3.out.size)
    clear hb4 y3 y4
    go_wp2_with fail
    refine (itoa_any q h4 _ (HT.out.next HB4.out)).mono ?_
    rintro e w5 ⟨rfl, hb5⟩
    have HB5 : Hid (Below w.heap.size w w5) := HB4.out.trans (hb5.mono HB4.out.size)
    clear hb5
    go_wp2_with fail
    go_ret
    exact ⟨rfl, HB5.out⟩
theorem entry_any (x : Mk.Stand) (w : World) (h1 : 0 ≤ x.n ∧ x.n ≤ 11) (h2 : 0 ≤ x.who ∧ x.who ≤ 3) (h3 : 1 ≤ x.o.price ∧ x.o.price ≤ 99 ∧ 1 ≤ x.o.qty ∧ x.o.qty ≤ 20) (ht : Tab w) :
    Calls Tryz.prog 87 #[.agg #[.int .i64 x.n, .int .i64 x.who, .bool x.o.sell, .int .i64 x.o.price, .int .i64 x.o.qty]] w fun e w' => e = .returned (.string (Mk.standI x)) ∧ Below w.heap.size w w' := by
  obtain ⟨n, who, sell, p, q⟩ := x
  obtain ⟨n, rfl⟩ := Int.eq_ofNat_of_zero_le h1.1
  obtain ⟨who, rfl⟩ := Int.eq_ofNat_of_zero_le h2.1
  obtain ⟨p, rfl⟩ := Int.eq_ofNat_of_zero_le (show (0 : Int) ≤ p by have := h3.1; simp at this; omega)
  obtain ⟨q, rfl⟩ := Int.eq_ofNat_of_zero_le (show (0 : Int) ≤ q by have := h3.2.2.1; simp at this; omega)
  have a1 := h1.2
  have a2 := h2.2
  have a3 := h3.2.1
  have a4 := h3.2.2.2
  simp only at a1 a2 a3 a4
  exact entry_nat n sell who p q w (by omega) (by omega) (by omega) (by omega) ht

end Go.Proofs.YtmebcdpdpcpnmaaGreatDoor
