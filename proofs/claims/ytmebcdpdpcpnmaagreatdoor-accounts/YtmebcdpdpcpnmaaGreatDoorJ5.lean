import Derived.Test.YtmebcdpdpcpnmaaGreatDoorJ2
import Derived.Test.YtmebcdpdpcpnmaaGreatDoorJ3
import Derived.Test.YtmebcdpdpcpnmaaGreatDoorJ4
import Derived.Test.YtmebcdpdpcpnmaaGreatDoorJ1
import Derived.Deep.QuietTactic
import Derived.BigQuiet
import Derived.Laws.IdiomStrings
import Derived.Laws.Concat
import Derived.Laws.CopyRow
import Derived.Laws.CopyOwn
import Derived.StillTactics
import Derived.OwnWalk
import Derived.Laws.Pointers
import Derived.Deep.RegionHeld3
import Derived.Deep.AppendLies
namespace Go.Proofs.YtmebcdpdpcpnmaaGreatDoor

/-- a batch is cleared: what each order gets, what a buyer pays, what a seller gets, how much is traded -/
structure Mk.Fill (l : List Mk.Ord) (f : Nat → Int) (pay get V : Int) : Prop where
  bd : ∀ i, i < l.length → 0 ≤ f i ∧ f i ≤ (l.getD i Mk.ozero).qty
  side : ∀ b, Mk.sideSum l b f = V
  buy : ∀ i, i < l.length → (l.getD i Mk.ozero).sell = false → f i ≠ 0 → pay ≤ (l.getD i Mk.ozero).price
  sell : ∀ i, i < l.length → (l.getD i Mk.ozero).sell = true → f i ≠ 0 → (l.getD i Mk.ozero).price ≤ get
  price : 0 ≤ get ∧ get ≤ pay ∧ pay ≤ 100

theorem Mk.getsf_qty {l : List Mk.Ord} {p : Int} (hv : Mk.validB 20 l = true) (hV : 1 ≤ Mk.vol l p) {i : Nat} (hi : i < l.length) (hw : Mk.willB l[i].sell l[i].price p = true) : Mk.getsf l (Mk.dem l p) (Mk.sup l p) p i ≤ l[i].qty := by
  obtain ⟨e, h0, h1⟩ := Mk.will_eq hV hi hw
  have hq := (Mk.ok_of_valid hv).2 l[i] (List.getElem_mem hi)
  have hle : Mk.vol l p ≤ Mk.sideT (Mk.dem l p) (Mk.sup l p) l[i].sell := by
    unfold Mk.vol Mk.less Mk.sideT
    split <;> split <;> omega
  have hT : 1 ≤ Mk.sideT (Mk.dem l p) (Mk.sup l p) l[i].sell := by omega
  have hm : Mk.vol l p * l[i].qty ≤ Mk.sideT (Mk.dem l p) (Mk.sup l p) l[i].sell * l[i].qty := Int.mul_le_mul_of_nonneg_right hle (by omega)
  rw [Mk.getsf_more]
  rcases Mk.more_01 (l := l) (p := p) i with hm0 | hm1
  · rw [hm0]
    by_cases hh : Mk.G0 l (Mk.dem l p) (Mk.sup l p) p i ≤ l[i].qty
    · omega
    · exfalso
      have : Mk.sideT (Mk.dem l p) (Mk.sup l p) l[i].sell * (l[i].qty + 1) ≤ Mk.sideT (Mk.dem l p) (Mk.sup l p) l[i].sell * Mk.G0 l (Mk.dem l p) (Mk.sup l p) p i := Int.mul_le_mul_of_nonneg_left (by omega) (by omega)
      rw [Int.mul_add] at this
      omega
  · rw [hm1]
    have hl : 0 < Mk.L0 l (Mk.dem l p) (Mk.sup l p) p i := by
      refine Mk.more_lost hV ?_
      unfold Mk.more at hm1
      split at hm1
      · assumption
      · omega
    by_cases hh : Mk.G0 l (Mk.dem l p) (Mk.sup l p) p i + 1 ≤ l[i].qty
    · exact hh
    · exfalso
      have : Mk.sideT (Mk.dem l p) (Mk.sup l p) l[i].sell * l[i].qty ≤ Mk.sideT (Mk.dem l p) (Mk.sup l p) l[i].sell * Mk.G0 l (Mk.dem l p) (Mk.sup l p) p i := Int.mul_le_mul_of_nonneg_left (by omega) (by omega)
      omega

theorem Mk.uni_fill {l : List Mk.Ord} (hv : Mk.validB 20 l = true) : Mk.Fill l (Mk.uni l) (Mk.price l) (Mk.price l) (Mk.vol l (Mk.best l 98)) := by
  have hbd := Mk.best_bd l 98
  have hb := Mk.less_bd (Mk.dem_bd hv (Mk.best l 98)) (Mk.sup_bd hv (Mk.best l 98))
  have h0 : 0 ≤ Mk.vol l (Mk.best l 98) := hb.1
  by_cases hz : Mk.vol l (Mk.best l 98) = 0
  · have e : ∀ i, Mk.uni l i = 0 := fun i => by simp [Mk.uni, hz]
    have e2 : Mk.price l = 0 := by simp [Mk.price, hz]
    refine ⟨fun i hi => ?_, fun b => ?_, fun i _ _ h => absurd (e i) h, fun i _ _ h => absurd (e i) h, ?_⟩
    · have hq := (Mk.ok_of_valid hv).2 l[i] (List.getElem_mem hi)
      rw [e, Mk.getD_at hi]; omega
    · rw [hz]; exact Mk.sumn_zero (fun i _ => by rw [e]; split <;> rfl)
    · rw [e2]; omega
  · have hV : 1 ≤ Mk.vol l (Mk.best l 98) := by omega
    have e : ∀ i, Mk.uni l i = Mk.getsf l (Mk.dem l (Mk.best l 98)) (Mk.sup l (Mk.best l 98)) (Mk.best l 98) i := fun i => by simp [Mk.uni, hz]
    have e2 : Mk.price l = Mk.best l 98 := by simp [Mk.price, hz]
    have hun : ∀ i (hi : i < l.length), Mk.uni l i ≠ 0 → Mk.willB l[i].sell l[i].price (Mk.best l 98) = true := fun i hi h => by
      cases hw : Mk.willB l[i].sell l[i].price (Mk.best l 98)
      · exact absurd ((e i).trans (Mk.unwilling hV hi hw)) h
      · rfl
    refine ⟨fun i hi => ?_, fun b => ?_, fun i hi hs h => ?_, fun i hi hs h => ?_, ?_⟩
    · have hq := (Mk.ok_of_valid hv).2 l[i] (List.getElem_mem hi)
      have hg := Mk.getsf_bd (p := (Mk.best l 98 : Int)) hv i
      rw [Mk.getD_at hi]
      cases hw : Mk.willB l[i].sell l[i].price (Mk.best l 98)
      · rw [e, Mk.unwilling hV hi hw]; omega
      · rw [e]; exact ⟨hg.1, Mk.getsf_qty hv hV hi hw⟩
    · rw [← Mk.side_total hV b]
      unfold Mk.sideSum
      exact Mk.sumn_congr (fun i _ => by rw [e])
    · rw [Mk.getD_at hi] at hs ⊢
      have hw := hun i hi h
      unfold Mk.willB at hw
      rw [hs] at hw
      simp at hw
      rw [e2]; exact hw
    · rw [Mk.getD_at hi] at hs ⊢
      have hw := hun i hi h
      unfold Mk.willB at hw
      rw [hs] at hw
      simp at hw
      rw [e2]; exact hw
    · rw [e2]; omega

theorem Mk.mc_fill {l : List Mk.Ord} (hv : Mk.validB 1 l = true) : Mk.Fill l (Mk.mcF l) (Mk.mcPay l) (Mk.mcGet l) (Mk.mcK l) := by
  have hp := Mk.okP_of hv
  have on : ∀ i, Mk.mcF l i ≠ 0 → Mk.rk l i < Mk.mcK l := fun i h => by
    unfold Mk.mcF at h
    split at h
    · assumption
    · exact absurd rfl h
  refine ⟨fun i hi => ?_, fun b => Mk.mc_side hp b, fun i hi hs h => Mk.pays hp hi hs (on i h), fun i hi hs h => Mk.gets hp hi hs (on i h), (Mk.mcGet_bd hp).1, Mk.mc_pays hp, (Mk.mcPay_bd hp).2⟩
  have hq := (Mk.ok_of_valid hv).2 l[i] (List.getElem_mem hi)
  have := Mk.mcF_bd l i
  rw [Mk.getD_at hi]
  omega

/-- by its mode -/
def Mk.clF (md : Bool) (l : List Mk.Ord) (i : Nat) : Int := if md then Mk.mcF l i else Mk.uni l i
def Mk.clPay (md : Bool) (l : List Mk.Ord) : Int := if md then Mk.mcPay l else Mk.price l
def Mk.clGet (md : Bool) (l : List Mk.Ord) : Int := if md then Mk.mcGet l else Mk.price l
def Mk.clV (md : Bool) (l : List Mk.Ord) : Int := if md then (Mk.mcK l : Int) else Mk.vol l (Mk.best l 98)
theorem Mk.cl_fill {md : Bool} {l : List Mk.Ord} (h20 : Mk.validB 20 l = true) (h1 : md = true → Mk.validB 1 l = true) : Mk.Fill l (Mk.clF md l) (Mk.clPay md l) (Mk.clGet md l) (Mk.clV md l) := by
  cases md
  · exact Mk.uni_fill h20
  · exact Mk.mc_fill (h1 rfl)

end Go.Proofs.YtmebcdpdpcpnmaaGreatDoor

/- Plain mathematics of the document's market: texts. -/
namespace Mk

/-- one digit -/
def dg (n : Nat) : ByteArray := ⟨#[UInt8.ofNat (48 + n % 10)]⟩
/-- a number in decimal -/
def dig (n : Nat) : ByteArray := if n < 10 then dg n else dig (n / 10) ++ dg n
termination_by n
decreasing_by omega

theorem dig_small {n : Nat} (h : n < 10) : dig n = dg n := by rw [dig, if_pos h]
theorem dig_great {n : Nat} (h : ¬ n < 10) : dig n = dig (n / 10) ++ dg n := by rw [dig, if_neg h]
theorem dg_size (n : Nat) : (dg n).size = 1 := rfl
theorem dig_size (k : Nat) : ∀ n, n < 10 ^ (k + 1) → (dig n).size ≤ k + 1 := by
  induction k with
  | zero => intro n h; rw [dig_small (by omega), dg_size]; omega
  | succ k ih =>
    intro n h
    by_cases h10 : n < 10
    · rw [dig_small h10, dg_size]; omega
    · rw [dig_great h10, ByteArray.size_append, dg_size]
      have := ih (n / 10) (by rw [Nat.pow_succ] at h; omega)
      omega

def chB : ByteArray := ⟨#[66]⟩
def chS : ByteArray := ⟨#[83]⟩
/-- a purse: what is free, what is held -/
def purseT (f h : Nat) : ByteArray := dig f ++ ⟨#[43]⟩ ++ dig h
/-- an order in a batch -/
def standT (n : Nat) (sell : Bool) (who p q : Nat) : ByteArray := dig n ++ (if sell then chS else chB) ++ dig who ++ ⟨#[64]⟩ ++ dig p ++ ⟨#[120]⟩ ++ dig q

end Mk

namespace Go.Proofs.YtmebcdpdpcpnmaaGreatDoor
open Go.RowKit

/-- string([]byte{d}), d a digit -/
theorem conv_digit (w : World) (n : Nat) : (convert 114 9 (.slice (some ⟨w.heap.size, 0, none⟩) 1 1)).run Tryz.prog (w.alloc (.cells #[.int .u8 (48 + (n : Int) % 10)] 5)) = .ok (.string (Mk.dg n)) (w.alloc (.cells #[.int .u8 (48 + (n : Int) % 10)] 5)) := by
  refine run_convert_bytes_back (w.alloc (.cells #[.int .u8 (48 + (n : Int) % 10)] 5)) 114 9 5 ⟨w.heap.size, 0, none⟩ 1 [UInt8.ofNat (48 + n % 10)] Tryz.underlying114 Tryz.underlying5 Tryz.underlying9 (fun j hj => ?_)
  obtain rfl : j = 0 := by simp at hj; omega
  have e : ((UInt8.ofNat (48 + n % 10)).toNat : Int) = 48 + (n : Int) % 10 := by
    rw [UInt8.toNat_ofNat']
    omega
  simp only [List.getElem_cons_zero, e]
  simp [Addr.add]

set_option maxRecDepth 100000 in
set_option maxHeartbeats 1000000 in
theorem digits_any (k : Nat) : ∀ (n : Nat) (w : World), n < 10 ^ (k + 1) → k ≤ 10 →
    Calls Tryz.prog 55 #[.int .i64 n] w fun e w' => e = .returned (.string (Mk.dig n)) ∧ Below w.heap.size w w' := by
  induction k with
  | zero =>
    intro n w hn _
    have hn' : (n : Int) < 10 := by omega
    have HD : Hid (Mk.dig n = Mk.dg n) := Mk.dig_small (by omega)
    have hcv := conv_digit w n
    go_enter Tryz.func55, Tryz.ntmps55
    go_wp2_with fail
    go_ret
    exact ⟨by rw [HD.out]; rfl, (Below.refl _ _).alloc (Nat.le_refl _) _⟩
  | succ k ih =>
    intro n w hn hk
    have hcv := conv_digit w n
    by_cases h : n < 10
    · have hn' : (n : Int) < 10 := by omega
      have HD : Hid (Mk.dig n = Mk.dg n) := Mk.dig_small h
      go_enter Tryz.func55, Tryz.ntmps55
      go_wp2_with fail
      go_ret
      exact ⟨by rw [HD.out]; rfl, (Below.refl _ _).alloc (Nat.le_refl _) _⟩
    · have hn' : ¬ (n : Int) < 10 := by omega
      have hs := Mk.dig_size k (n / 10) (by rw [Nat.pow_succ] at hn; omega)
      have hs2 := Mk.dg_size n
      have HS : Hid ((Mk.dig (n / 10)).size ≤ k + 1) := hs
      have HI : Hid (∀ w : World, Calls Tryz.prog 55 #[.int .i64 ((n : Int) / 10)] w fun e w' => e = .returned (.string (Mk.dig (n / 10))) ∧ Below w.heap.size w w') := fun w => by
        have := ih (n / 10) w (by rw [Nat.pow_succ] at hn; omega) (by omega)
        rw [Int.natCast_ediv] at this
        exact this
      have HD : Hid (Mk.dig n = Mk.dig (n / 10) ++ Mk.dg n) := Mk.dig_great h
      have hbig : (n : Int) ≤ 1000000000000 := by
        have : n < 10 ^ 12 := Nat.lt_of_lt_of_le hn (Nat.pow_le_pow_right (by omega) (by omega))
        omega
      clear ih hn h hs
      have hadd : ∀ w : World, (Op.stringOp .add (Mk.dig (n / 10)) (Mk.dg n)).run Tryz.prog w = .ok (.string (Mk.dig (n / 10) ++ Mk.dg n)) w := fun w => run_string_add_sum w _ _ (by have := HS.out; have := Mk.dg_size n; omega)
      clear hs2
      go_enter Tryz.func55, Tryz.ntmps55
      go_wp2_with fail
      refine (HI.out _).mono ?_
      rintro e w2 ⟨rfl, hb2⟩
      have HB2 : Hid (Below w.heap.size w w2) := ((Below.refl _ _).alloc (Nat.le_refl _) _).trans (hb2.mono (by simp))
      clear hb2 hcv
      go_wp2_with fail
      go_ret
      exact ⟨by rw [HD.out]; rfl, HB2.out⟩

/-- a number of the market in decimal -/
theorem dig_any (n : Nat) (w : World) (hn : n ≤ 99999) : Calls Tryz.prog 55 #[.int .i64 n] w fun e w' => e = .returned (.string (Mk.dig n)) ∧ Below w.heap.size w w' :=
  digits_any 4 n w (by omega) (by omega)
theorem dig_le (n : Nat) (hn : n ≤ 99999) : (Mk.dig n).size ≤ 5 := Mk.dig_size 4 n (by omega)

set_option maxRecDepth 100000 in
set_option maxHeartbeats 1000000 in
theorem purse_any (f h : Nat) (w : World) (hf : f ≤ 99999) (hh : h ≤ 99999) :
    Calls Tryz.prog 54 #[.agg #[.int .i64 f, .int .i64 h]] w fun e w' => e = .returned (.string (Mk.purseT f h)) ∧ Below w.heap.size w w' := by
  have s1 := dig_le f hf
  have s2 := dig_le h hh
  go_enter Tryz.func54, Tryz.ntmps54
  go_wp2_with fail
  refine (dig_any f _ hf).mono ?_
  rintro e w2 ⟨rfl, hb2⟩
  have x1 : w2.cell? ⟨w.heap.size, 1, none⟩ = some (.int .i64 h) := by rw [hb2.cell (p := ⟨w.heap.size, 1, none⟩) (by simp)]; simp
  have HB2 : Hid (Below w.heap.size w w2) := ((Below.refl _ _).alloc (Nat.le_refl _) _).trans (hb2.mono (by simp))
  clear hb2
  go_wp2_with fail
  refine (dig_any h _ hh).mono ?_
  rintro e w3 ⟨rfl, hb3⟩
  have HB3 : Hid (Below w.heap.size w w3) := HB2.out.trans (hb3.mono HB2.out.size)
  clear hb3
  go_wp2_with fail
  go_ret
  exact ⟨rfl, HB3.out⟩

end Go.Proofs.YtmebcdpdpcpnmaaGreatDoor

/- Plain mathematics of the document's market: commands, read. -/
namespace Mk

/-- byte k of a text -/
def bt (s : ByteArray) (k : Nat) : Nat := if h : k < s.size then s[k].toNat else 0
theorem bt_at {s : ByteArray} {k : Nat} (h : k < s.size) : s[k].toNat = bt s k := by unfold bt; rw [dif_pos h]
theorem bt_lt (s : ByteArray) (k : Nat) : bt s k < 256 := by
  unfold bt
  split
  · exact UInt8.toNat_lt _
  · omega

def isD (s : ByteArray) (j : Nat) : Bool := decide (48 ≤ bt s j) && decide (bt s j ≤ 57)
def digs (s : ByteArray) : Nat → Bool
  | 0 => true
  | k + 1 => digs s k && isD s k
/-- the number that the first k bytes tell -/
def numTo (s : ByteArray) : Nat → Nat
  | 0 => 0
  | k + 1 => numTo s k * 10 + (bt s k - 48)
theorem numTo_lt {s : ByteArray} : ∀ {k : Nat}, digs s k = true → numTo s k < 10 ^ k
  | 0, _ => by simp [numTo]
  | k + 1, h => by
    simp only [digs, isD, Bool.and_eq_true, decide_eq_true_eq] at h
    have := numTo_lt h.1
    simp only [numTo, Nat.pow_succ]
    omega
/-- is the text a number of at most four digits, without noughts ahead? -/
def numOk (s : ByteArray) : Bool := decide (1 ≤ s.size) && decide (s.size ≤ 4) && !(decide (bt s 0 = 48) && decide (1 < s.size)) && digs s s.size
def numV (s : ByteArray) : Nat := if numOk s then numTo s s.size else 0
def numB (s : ByteArray) (lo hi : Nat) : Bool := numOk s && decide (lo ≤ numV s) && decide (numV s ≤ hi)
theorem digs_no {s : ByteArray} {j : Nat} (h : isD s j = false) : ∀ {k : Nat}, j < k → digs s k = false
  | 0, hk => by omega
  | k + 1, hk => by
    simp only [digs]
    by_cases e : j = k
    · subst e; rw [h, Bool.and_false]
    · rw [digs_no h (by omega), Bool.false_and]
theorem numOk_no {s : ByteArray} (h : s.size = 0 ∨ 4 < s.size ∨ bt s 0 = 48 ∧ 1 < s.size ∨ digs s s.size = false) : numOk s = false := by
  unfold numOk
  rcases h with h | h | h | h
  · have : decide (1 ≤ s.size) = false := by rw [decide_eq_false_iff_not]; omega
    rw [this]; rfl
  · have : decide (s.size ≤ 4) = false := by rw [decide_eq_false_iff_not]; omega
    rw [this]; simp
  · simp [h.1, h.2]
  · rw [h, Bool.and_false]
theorem numOk_yes {s : ByteArray} (h1 : 1 ≤ s.size) (h2 : s.size ≤ 4) (h3 : ¬ (bt s 0 = 48 ∧ 1 < s.size)) (h4 : digs s s.size = true) : numOk s = true := by
  unfold numOk
  rw [h4]
  have : (decide (bt s 0 = 48) && decide (1 < s.size)) = false := by
    rw [← Bool.not_eq_true, Bool.and_eq_true, decide_eq_true_eq, decide_eq_true_eq]; exact h3
  rw [this]
  simp [h1, h2]
theorem numV_le (s : ByteArray) : numV s ≤ 9999 := by
  unfold numV
  split
  · rename_i h
    simp only [numOk, Bool.and_eq_true, decide_eq_true_eq] at h
    have h1 := numTo_lt h.2
    have h2 : 10 ^ s.size ≤ 10 ^ 4 := Nat.pow_le_pow_right (by omega) h.1.1.2
    omega
  · omega

/-- the words of a text, up to byte k: those that are whole, and where the next one begins -/
def cutTo (s : ByteArray) : Nat → List ByteArray × Nat
  | 0 => ([], 0)
  | k + 1 => if bt s k = 32 then ((cutTo s k).1 ++ [s.extract (cutTo s k).2 k], k + 1) else cutTo s k
def words (s : ByteArray) : List ByteArray := (cutTo s s.size).1 ++ [s.extract (cutTo s s.size).2 s.size]
theorem cutTo_le (s : ByteArray) : ∀ k, (cutTo s k).2 ≤ k ∧ (cutTo s k).1.length ≤ k
  | 0 => by simp [cutTo]
  | k + 1 => by
    have := cutTo_le s k
    simp only [cutTo]
    split
    · simp; omega
    · omega
theorem cutTo_yes {s : ByteArray} {k : Nat} (h : bt s k = 32) : cutTo s (k + 1) = ((cutTo s k).1 ++ [s.extract (cutTo s k).2 k], k + 1) := if_pos h
theorem cutTo_no {s : ByteArray} {k : Nat} (h : ¬ bt s k = 32) : cutTo s (k + 1) = cutTo s k := if_neg h

end Mk

namespace Go.Proofs.YtmebcdpdpcpnmaaGreatDoor
open Go.RowKit

set_option maxRecDepth 100000 in
set_option maxHeartbeats 2000000 in
theorem number_any (s : ByteArray) (lo hi : Nat) (w : World) (hs : s.size ≤ 1000000) :
    Calls Tryz.prog 48 #[.string s, .int .i64 lo, .int .i64 hi] w fun e w' => e = .returned (.tuple #[.int .i64 (Mk.numV s : Int), .bool (Mk.numB s lo hi)]) ∧ w' = w := by
  have HV : Hid (Mk.numOk s = false → Mk.numV s = 0 ∧ Mk.numB s lo hi = false) := fun h => by unfold Mk.numB Mk.numV; rw [h]; simp
  by_cases h0 : s.size = 0
  · have h0' : ((s.size : Int) == 0) = true := by rw [beq_iff_eq]; omega
    have HZ : Hid (Mk.numV s = 0 ∧ Mk.numB s lo hi = false) := HV.out (Mk.numOk_no (.inl h0))
    clear h0
    go_enter Tryz.func48, Tryz.ntmps48
    go_wp2
    go_ret2
    exact ⟨by rw [HZ.out.1, HZ.out.2]; rfl, rfl⟩
  · have h0' : ((s.size : Int) == 0) = false := by rw [beq_eq_false_iff_ne]; omega
    by_cases h4 : 4 < s.size
    · have h4' : (4 : Int) < (s.size : Int) := by omega
      have HZ : Hid (Mk.numV s = 0 ∧ Mk.numB s lo hi = false) := HV.out (Mk.numOk_no (.inr (.inl h4)))
      clear h0
      go_enter Tryz.func48, Tryz.ntmps48
      go_wp2
      go_ret2
      exact ⟨by rw [HZ.out.1, HZ.out.2]; rfl, rfl⟩
    · have h4' : ¬ (4 : Int) < (s.size : Int) := by omega
      have hpos : 0 < s.size := by omega
      have hpos' : (0 : Int) < (s.size : Int) := by omega
      have HB0 : Hid (s[0].toNat = Mk.bt s 0) := Mk.bt_at hpos
      by_cases hz : s[0].toNat = 48 ∧ 1 < s.size
      · have HZ : Hid (Mk.numV s = 0 ∧ Mk.numB s lo hi = false) := HV.out (Mk.numOk_no (.inr (.inr (.inl ⟨by rw [← HB0.out]; exact hz.1, hz.2⟩))))
        have hz1 : ((s[0].toNat : Int) == 48) = true := by simp; omega
        have hz2 : (1 : Int) < (s.size : Int) := by omega
        clear h0 hz
        go_enter Tryz.func48, Tryz.ntmps48
        go_wp2
        go_ret2
        exact ⟨by rw [HZ.out.1, HZ.out.2]; rfl, rfl⟩
      · have h3 : ¬ (Mk.bt s 0 = 48 ∧ 1 < s.size) := by rw [← HB0.out]; exact hz
        have HY : Hid (Mk.digs s s.size = true → Mk.numOk s = true) := fun h => Mk.numOk_yes (by omega) (by omega) h3 h
        have HN : Hid (Mk.digs s s.size = false → Mk.numOk s = false) := fun h => Mk.numOk_no (.inr (.inr (.inr h)))
        have hg : ((s[0].toNat : Int) == 48) = false ∨ ((s[0].toNat : Int) == 48) = true ∧ ¬ (1 : Int) < (s.size : Int) := by
          by_cases e : s[0].toNat = 48
          · right; exact ⟨by simp; omega, by omega⟩
          · left; simp; omega
        clear h0 hz h3
        rcases hg with hg | ⟨hg, hg2⟩
        all_goals
          go_enter Tryz.func48, Tryz.ntmps48
          go_wp2
          go_loop [8, 9] (fun x j => ∃ k : Nat, k ≤ s.size ∧ j = .int .i64 k ∧ x = .int .i64 (Mk.numTo s k : Int) ∧ Mk.digs s k = true) (fun _ j => s.size - (intOf j).toNat)
          case atStart => exact ⟨0, Nat.zero_le _, rfl, rfl, rfl⟩
          case round =>
            obtain ⟨k, hk, rfl, rfl, hd⟩ := hrel
            have hb := Mk.numTo_lt hd
            have hb2 : 10 ^ k ≤ 10 ^ 4 := Nat.pow_le_pow_right (by omega) (by omega)
            have hb3 : (Mk.numTo s k : Int) ≤ 9999 := by omega
            have HD : Hid (Mk.digs s k = true) := hd
            clear hd hb hb2
            by_cases hlt : k < s.size
            · have hlt' : (k : Int) < (s.size : Int) := by omega
              have HB : Hid (s[k].toNat = Mk.bt s k) := Mk.bt_at hlt
              have h256 : s[k].toNat < 256 := UInt8.toNat_lt _
              by_cases hdig : 48 ≤ s[k].toNat ∧ s[k].toNat ≤ 57
              · have d1 : ¬ (s[k].toNat : Int) < 48 := by omega
                have d2 : ¬ (57 : Int) < (s[k].toNat : Int) := by omega
                have HS : Hid (Mk.digs s (k + 1) = true) := by
                  show (Mk.digs s k && Mk.isD s k) = true
                  rw [HD.out, Bool.true_and]
                  unfold Mk.isD
                  rw [← HB.out]
                  simp [hdig]
                have HE : Hid ((Mk.numTo s (k + 1) : Int) = (Mk.numTo s k : Int) * 10 + ((s[k].toNat : Int) - 48)) := (by
                  show ((Mk.numTo s k * 10 + (Mk.bt s k - 48) : Nat) : Int) = _
                  rw [← HB.out]; omega : (Mk.numTo s (k + 1) : Int) = (Mk.numTo s k : Int) * 10 + ((s[k].toNat : Int) - 48))
                clear hdig
                go_wp2
                go_round
                case rel => exact ⟨k + 1, by omega, by go_num, by rw [HE.out], HS.out⟩
                case measure => simp [intOf]; omega
              · have HZ : Hid (Mk.numV s = 0 ∧ Mk.numB s lo hi = false) := HV.out (HN.out (Mk.digs_no (j := k) (by unfold Mk.isD; rw [← HB.out]; rw [← Bool.not_eq_true]; simpa using hdig) hlt))
                by_cases d1 : (s[k].toNat : Int) < 48
                · clear hdig
                  go_wp2
                  go_ret2
                  exact ⟨by rw [HZ.out.1, HZ.out.2]; rfl, rfl⟩
                · have d2 : (57 : Int) < (s[k].toNat : Int) := by omega
                  clear hdig
                  go_wp2
                  go_ret2
                  exact ⟨by rw [HZ.out.1, HZ.out.2]; rfl, rfl⟩
            · obtain rfl : k = s.size := by omega
              have HZ : Hid (Mk.numV s = Mk.numTo s s.size ∧ Mk.numB s lo hi = (decide (lo ≤ Mk.numTo s s.size) && decide (Mk.numTo s s.size ≤ hi))) := by
                have := HY.out HD.out
                unfold Mk.numB Mk.numV
                rw [this]
                exact ⟨rfl, rfl⟩
              rcases Bool.eq_false_or_eq_true (decide (lo ≤ Mk.numTo s s.size)) with l1 | l1
              · go_wp2
                go_ret2
                exact ⟨by rw [HZ.out.1, HZ.out.2, l1]; simp, rfl⟩
              · go_wp2
                go_ret2
                exact ⟨by rw [HZ.out.1, HZ.out.2, l1]; simp, rfl⟩

end Go.Proofs.YtmebcdpdpcpnmaaGreatDoor

namespace Go.Proofs.YtmebcdpdpcpnmaaGreatDoor
open Go.RowKit

/-- cell j of the orders l, laid one behind the other -/
def cellOf (l : List Mk.Ord) (j : Nat) : Value :=
  if j % 3 = 0 then .bool (l.getD (j / 3) Mk.ozero).sell else if j % 3 = 1 then .int .i64 (l.getD (j / 3) Mk.ozero).price else .int .i64 (l.getD (j / 3) Mk.ozero).qty

theorem cellOf_one (l : List Mk.Ord) (j : Nat) : (cellOf l j).oneCell' = true := by
  unfold cellOf; split
  · rfl
  · split <;> rfl
theorem cellOf_0 (l : List Mk.Ord) {i : Nat} (h : i < l.length) : cellOf l (i * 3) = .bool l[i].sell := by
  unfold cellOf
  rw [if_pos (by omega), show i * 3 / 3 = i by omega, Mk.getD_at h]
theorem cellOf_1 (l : List Mk.Ord) {i : Nat} (h : i < l.length) : cellOf l (i * 3 + 1) = .int .i64 l[i].price := by
  unfold cellOf
  rw [if_neg (by omega), if_pos (by omega), show (i * 3 + 1) / 3 = i by omega, Mk.getD_at h]
theorem cellOf_2 (l : List Mk.Ord) {i : Nat} (h : i < l.length) : cellOf l (i * 3 + 1 + 1) = .int .i64 l[i].qty := by
  unfold cellOf
  rw [if_neg (by omega), if_neg (by omega), show (i * 3 + 1 + 1) / 3 = i by omega, Mk.getD_at h]

theorem At.cell {w : World} {b off : Nat} {l : List Mk.Ord} (h : At w b off l) {j : Nat} (hj : j < l.length * 3) : w.cell? ⟨b, off + j, none⟩ = some (cellOf l j) := by
  have hi : j / 3 < l.length := by omega
  obtain ⟨c0, c1, c2⟩ := h (j / 3) hi
  obtain h3 | h3 | h3 : j = j / 3 * 3 ∨ j = j / 3 * 3 + 1 ∨ j = j / 3 * 3 + 1 + 1 := by omega
  · have e := cellOf_0 l hi
    rw [← h3] at e c0
    rw [e]; exact c0
  · have e := cellOf_1 l hi
    rw [← h3] at e
    rw [e]
    have : off + j = off + j / 3 * 3 + 1 := by omega
    rw [this]; exact c1
  · have e := cellOf_2 l hi
    rw [← h3] at e
    rw [e]
    have : off + j = off + j / 3 * 3 + 1 + 1 := by omega
    rw [this]; exact c2

/-- a row of cells whose head is the orders l -/
theorem at_of_row {w : World} {g m t : Nat} {f : Nat → Value} {l : List Mk.Ord} (h : w.rowIs g t m f) (hm : l.length * 3 ≤ m) (hf : ∀ j, j < l.length * 3 → f j = cellOf l j) : At w g 0 l := by
  intro i hi
  refine ⟨?_, ?_, ?_⟩
  · rw [Nat.zero_add, h.cell (by omega), hf _ (by omega), cellOf_0 l hi]
  · rw [Nat.zero_add, h.cell (by omega), hf _ (by omega), cellOf_1 l hi]
  · rw [Nat.zero_add, h.cell (by omega), hf _ (by omega), cellOf_2 l hi]

theorem Tryz.infoOrder : (Tryz.prog.info? 123).map (fun i => (i.zero, i.size, i.bytes)) = some (some (.agg #[.bool false, .int .i64 0, .int .i64 0]), 3, 24) := by kernel_rfl

/-- make([]api.Order, n): a new row of 3 n cells -/
theorem make_orders (w : World) (n : Nat) (hn : n ≤ 2000000) :
    ∃ W, (Instr.makeSlice 31 (.int .i64 (n : Int)) (.int .i64 (n : Int))).run Tryz.prog w = .ok (.slice (some ⟨w.heap.size, 0, none⟩) n n) W ∧
      Below w.heap.size w W ∧ w.heap.size < W.heap.size ∧ ∃ f, W.rowIs w.heap.size 123 (n * 3) f := by
  obtain ⟨i, hi, hzz⟩ := Option.map_eq_some_iff.1 Tryz.infoOrder
  simp only [Prod.mk.injEq] at hzz
  obtain ⟨hz, hs, hb⟩ := hzz
  have hr := run_make (P := Tryz.prog) w 31 123 i _ Tryz.underlying31 hi hz .i64 .i64 n n (by omega) (Int.le_refl _) (by rw [hb]; omega) (by omega)
  rw [hs] at hr
  simp only [Int.toNat_natCast] at hr
  refine ⟨_, hr, (Below.refl _ _).alloc (Nat.le_refl _) _, by simp, ?_⟩
  have hsz := size_madeCells (Value.agg #[.bool false, .int .i64 0, .int .i64 0]).cells (n * 3)
  have := World.rowIs_alloc w (madeCells (Value.agg #[.bool false, .int .i64 0, .int .i64 0]).cells (n * 3)) 123 (fun i => (madeCells (Value.agg #[.bool false, .int .i64 0, .int .i64 0]).cells (n * 3))[i]?.getD undef) (fun i hi => by rw [Array.getElem?_eq_getElem hi]; rfl)
  rw [hsz] at this
  exact ⟨_, this⟩

/-- copy(dst, src), both of orders: dst a row of the call's own with room for all -/
theorem copy_orders (w : World) (g m dLen dCap : Nat) (f : Nat → Value) (b off cap : Nat) (l : List Mk.Ord) (hg : w.rowIs g 123 m f) (hd : l.length ≤ dLen) (hm : l.length * 3 ≤ m) (hA : At w b off l) :
    ∃ W, (∀ ty, (Builtin.copy_ #[31, 31] ty #[.slice (some ⟨g, 0, none⟩) dLen dCap, .slice (some ⟨b, off, none⟩) l.length cap]).run Tryz.prog w = .ok (.int .i64 (l.length : Int)) W) ∧
      (∀ B, B ≤ g → Below B w W) ∧ W.rowIs g 123 m (fun j => if j < l.length * 3 then cellOf l j else f j) := by
  obtain ⟨cur, hcur, hsz, hc⟩ := hg
  let cs : List Value := (List.range (l.length * 3)).map (cellOf l)
  have hlen : cs.length = l.length * 3 := by simp [cs]
  have hcs : ∀ j v, cs[j]? = some v → j < l.length * 3 ∧ v = cellOf l j := by
    intro j v h
    have hj : j < cs.length := by
      apply Classical.byContradiction
      intro h'
      rw [List.getElem?_eq_none (by omega)] at h
      cases h
    rw [hlen] at hj
    refine ⟨hj, ?_⟩
    simp [cs, List.getElem?_map, List.getElem?_range hj] at h
    exact h.symm
  have hsrc : ∀ j v, cs[j]? = some v → w.cell? ((⟨b, off, none⟩ : Addr).add j) = some v := by
    intro j v h
    obtain ⟨hj, rfl⟩ := hcs j v h
    have : (⟨b, off, none⟩ : Addr).add j = ⟨b, off + j, none⟩ := by unfold Addr.add; split <;> simp_all
    rw [this]; exact hA.cell hj
  have h1 : ∀ v ∈ cs, v.oneCell' = true := by
    intro v hv
    simp only [cs, List.mem_map] at hv
    obtain ⟨j, _, rfl⟩ := hv
    exact cellOf_one l j
  have hl' := run_loadCells_list (P := Tryz.prog) w ⟨b, off, none⟩ cs hsrc
  have hst := run_storeCells_at Tryz.prog g 0 123 cs 0 cur w hcur (by rw [hlen, hsz]; omega) h1
  obtain ⟨i, hi, hzz⟩ := Option.map_eq_some_iff.1 Tryz.infoOrder
  simp only [Prod.mk.injEq] at hzz
  obtain ⟨hz, hs, hb⟩ := hzz
  refine ⟨w.setRow g (cur.toList.take (0 + 0) ++ cs ++ cur.toList.drop (0 + 0 + cs.length)).toArray, fun ty => ?_, fun B hB => below_setRow (Below.refl _ _) hB _, ?_⟩
  · have hmin : Nat.min l.length dLen = l.length := Nat.min_eq_left hd
    rw [hlen] at hl'
    simp [Builtin.copy_, run_underlying Tryz.underlying31, Builtin.lenOf, Builtin.firstCells, sizeOf, typeInfo, hi, hs, hmin, hl', hst, goInt]
  · refine ⟨_, setRow_heap w g cur _ _ _ hcur, by simp [hlen, hsz]; omega, fun j hj => ?_⟩
    simp only [Nat.add_zero, Nat.zero_add, List.take_zero, List.nil_append, List.getElem?_toArray]
    by_cases h : j < l.length * 3
    · rw [if_pos h, List.getElem?_append_left (by omega)]
      simp [cs, List.getElem?_map, List.getElem?_range h]
    · rw [if_neg h, List.getElem?_append_right (by omega), List.getElem?_drop, hlen]
      rw [show l.length * 3 + (j - l.length * 3) = j by omega]
      have := hc j hj
      simpa using this

end Go.Proofs.YtmebcdpdpcpnmaaGreatDoor

namespace Go.Proofs.YtmebcdpdpcpnmaaGreatDoor
open Go.RowKit

theorem Tryz.infoRef : (Tryz.prog.info? 120).map (fun i => (i.zero, i.size, i.bytes)) = some (some (.agg #[.bool false, .int .i64 0, .int .i64 0]), 3, 24) := by kernel_rfl

/-- the cells of the first k orders -/
def cellsTo (l : List Mk.Ord) (k : Nat) : List Value := (List.range (k * 3)).map (cellOf l)
theorem cellsTo_succ (l : List Mk.Ord) (k : Nat) (hk : k < l.length) : cellsTo l (k + 1) = cellsTo l k ++ [.bool l[k].sell, .int .i64 l[k].price, .int .i64 l[k].qty] := by
  unfold cellsTo
  rw [show (k + 1) * 3 = k * 3 + 1 + 1 + 1 by omega, List.range_succ, List.range_succ, List.range_succ]
  simp [cellOf_0 l hk, cellOf_1 l hk, cellOf_2 l hk]

theorem own_far {w : World} {base e size : Nat} {v : Value} {n : Nat} {xs : List Value} (h : w.ownsRow base e size v n xs) {b : Nat} (hb : b < base) : v.ownBlock ≠ some b := by
  rcases h.2 with ⟨rfl, _⟩ | ⟨g, cap, cur, rfl, hg, _⟩
  · simp [Value.ownBlock]
  · simp [Value.ownBlock]; omega
theorem own_ge {w : World} {base e size : Nat} {v : Value} {n : Nat} {xs : List Value} (h : w.ownsRow base e size v n xs) (k : Nat) (hk : v.ownBlock = some k) : base ≤ k := by
  apply Classical.byContradiction
  intro hlt
  exact own_far h (by omega) hk

set_option maxRecDepth 100000 in
set_option maxHeartbeats 3200000 in
theorem theirs_some (b off cap : Nat) (l : List Mk.Ord) (w : World) (hn : l.length ≤ 1048576) (hR : At w b off l) (hb0 : b < w.heap.size) :
    Calls Tryz.prog 41 #[.slice (some ⟨b, off, none⟩) l.length cap] w fun e w' => ∃ v, e = .returned v ∧ w'.ownsRow w.heap.size 120 3 v l.length (cellsTo l l.length) ∧ Below w.heap.size w w' := by
  obtain ⟨i0, hi0, hz0, hz1, hz2⟩ := info_parts Tryz.infoRef
  have HA : Hid (At w b off l) := hR
  clear hR
  go_enter Tryz.func41, Tryz.ntmps41
  go_wp2
  go_loopw [3, 4] (fun v i wr => ∃ k : Nat, k ≤ l.length ∧ i = .int .i64 k ∧ wr.ownsRow w.heap.size 120 3 v k (cellsTo l k) ∧ Below w.heap.size w wr) (fun _ i _ => l.length - (intOf i).toNat)
  case atStart => exact ⟨0, Nat.zero_le _, rfl, ⟨by simp [cellsTo], .inl ⟨rfl, rfl⟩⟩, Below.refl _ _⟩
  case round =>
    obtain ⟨k, hk, rfl, hown, hb⟩ := hrel
    have Hb : Hid (Below w.heap.size w wr) := hb
    clear hb
    by_cases hlt : k < l.length
    · obtain ⟨c0, c1, c2⟩ := At.below HA.out Hb.out k hlt
      have hob := own_far hown hb0
      have hsz := Hb.out.size
      have hbw : b < wr.heap.size := blk_lt c0
      have hlt0 : (0 : Int) ≤ (k : Int) := Int.natCast_nonneg _
      have hlt' : (k : Int) < (l.length : Int) := by omega
      go_wp2_with fail
      go_region_held3 (fun w' => w'.cell? ⟨b, off + k * 3, none⟩ = some (.bool l[k].sell) ∧ w'.cell? ⟨b, off + k * 3 + 1, none⟩ = some (.int .i64 l[k].price) ∧ w'.cell? ⟨b, off + k * 3 + 2, none⟩ = some (.int .i64 l[k].qty))
        (first
          | go_keep
          | (go_split_ands
             refine ⟨?_, ?_, ?_⟩
             · (rw [hgrow.cell_far _ (by simp; omega) (Ne.symm hob)]; assumption)
             · (rw [hgrow.cell_far _ (by simp; omega) (Ne.symm hob)]; assumption)
             · (rw [hgrow.cell_far _ (by simp; omega) (Ne.symm hob)]; assumption)))
        ((refine step_append_lies _ (by rfl) _ _ _ (by rfl) w.heap.size 120 i0 _ 3 24 Tryz.underlying96 hi0 hz0 hz1 hz2 rfl (by omega) _ k (cellsTo l k) (by rfl) ((hown.alloc _).drew)
            ⟨wr.heap.size, 0, none⟩ 1 1 [.bool l[k].sell, .int .i64 l[k].price, .int .i64 l[k].qty] (by rfl) (by rfl) (World.news_of_block (cs := #[.bool l[k].sell, .int .i64 l[k].price, .int .i64 l[k].qty]) (t := 120) (fr := (0, 0)) (heap_alloc_new wr _)) (by simp [Value.oneCell'])
            (by omega) (by unfold maxLen; omega) (by omega) (by simp; omega) (wr.heap.size + 1) (by simp) ?_; intro gg cap' w1 hown1 hgrow hat hlt1))
      go_wp2
      go_roundw
      case rel => exact ⟨k + 1, by omega, by go_num, by rw [cellsTo_succ l k hlt]; exact hown1, Below.grown ((Hb.out.alloc hsz _).drew) hgrow (by simp; omega) (fun j hj => own_ge hown j hj)⟩
      case measure => simp [intOf]; omega
    · obtain rfl : k = l.length := by omega
      go_wp2
      go_ret
      exact ⟨_, rfl, hown, Hb.out⟩

set_option maxHeartbeats 1000000 in
theorem theirs_nil (a : Option Addr) (cap : Nat) (w : World) :
    Calls Tryz.prog 41 #[.slice a 0 cap] w fun e w' => e = .returned (.slice none 0 0) ∧ Below w.heap.size w w' := by
  go_enter Tryz.func41, Tryz.ntmps41
  go_wp2
  go_loop [3, 4] (fun v i => i = .int .i64 0 ∧ v = .slice none 0 0) (fun _ i => 0)
  case atStart => exact ⟨rfl, rfl⟩
  case round =>
    obtain ⟨rfl, rfl⟩ := hrel
    go_wp2
    go_ret
    exact ⟨rfl, Below.refl _ _⟩

/-- an owned row of the orders' cells, as a slice that reads as the orders -/
theorem rd_of_own {w : World} {base e : Nat} {v : Value} {l : List Mk.Ord} (h : w.ownsRow base e 3 v l.length (cellsTo l l.length)) : ∃ a cap, v = .slice a l.length cap ∧ Rd w a l := by
  rcases h.2 with ⟨rfl, h0⟩ | ⟨g, cap, cur, rfl, hg, hh, hc1, hc2, hsz, htake⟩
  · rw [h0]
    exact ⟨none, 0, rfl, .inl (List.eq_nil_of_length_eq_zero h0)⟩
  · refine ⟨_, cap, rfl, .inr ⟨g, 0, rfl, ?_⟩⟩
    have hcell : ∀ j, j < l.length * 3 → w.cell? ⟨g, j, none⟩ = some (cellOf l j) := by
      intro j hj
      have h1 : w.cell? ⟨g, j, none⟩ = cur[j]? := by simp [World.cell?, hh]
      rw [h1]
      have h2 : (cur.toList.take (l.length * 3))[j]? = some (cellOf l j) := by
        rw [htake]; simp [cellsTo, List.getElem?_map, List.getElem?_range hj]
      rw [List.getElem?_take_of_lt hj] at h2
      simpa using h2
    intro i hi
    refine ⟨?_, ?_, ?_⟩
    · rw [Nat.zero_add, hcell _ (by omega), cellOf_0 l hi]
    · rw [Nat.zero_add, hcell _ (by omega), cellOf_1 l hi]
    · rw [Nat.zero_add, hcell _ (by omega), cellOf_2 l hi]

theorem theirs_any (a : Option Addr) (cap : Nat) (l : List Mk.Ord) (w : World) (hn : l.length ≤ 1048576) (hR : Rd w a l) :
    Calls Tryz.prog 41 #[.slice a l.length cap] w fun e w' => ∃ a' cap', e = .returned (.slice a' l.length cap') ∧ Rd w' a' l ∧ Below w.heap.size w w' := by
  rcases hR with rfl | ⟨b, off, rfl, hR⟩
  · refine (theirs_nil a cap w).mono ?_
    rintro e w' ⟨rfl, hb⟩
    exact ⟨none, 0, rfl, .inl rfl, hb⟩
  · by_cases hl : l = []
    · subst hl
      refine (theirs_nil _ cap w).mono ?_
      rintro e w' ⟨rfl, hb⟩
      exact ⟨none, 0, rfl, .inl rfl, hb⟩
    · have hpos : 0 < l.length := List.length_pos_iff.2 hl
      refine (theirs_some b off cap l w hn hR (blk_lt (hR 0 hpos).1)).mono ?_
      rintro e w' ⟨v, rfl, hown, hb⟩
      obtain ⟨a', cap', rfl, hR'⟩ := rd_of_own hown
      exact ⟨a', cap', rfl, hR', hb⟩

end Go.Proofs.YtmebcdpdpcpnmaaGreatDoor
