import Derived.Test.YtljeahgpkeohlaaGreatDoorJ5
import Derived.Test.YtljeahgpkeohlaaGreatDoorJ3
import Derived.Test.YtljeahgpkeohlaaGreatDoorJ1
import Derived.Deep.QuietTactic
import Derived.BigQuiet
import Derived.Laws.IdiomStrings
import Derived.Laws.Concat
/- Plain mathematics: one slot each; order i's bid turned. -/
namespace Mk

def one (o : Ord) : Ord := ⟨o.sell, o.price, 1⟩
/-- order i with another bid -/
def bid (l : List Ord) (i : Nat) (v : Int) : List Ord := l.set i ⟨(l.getD i ozero).sell, v, (l.getD i ozero).qty⟩

section
variable {l : List Ord} {i : Nat}

theorem bid_len (v : Int) : (bid l i v).length = l.length := by simp [bid]
theorem bid_at (hi : i < l.length) (v : Int) (j : Nat) : (bid l i v).getD j ozero = if j = i then ⟨(l.getD i ozero).sell, v, (l.getD i ozero).qty⟩ else l.getD j ozero := by
  unfold bid; exact getD_set l i _ hi j
theorem bid_sl (hi : i < l.length) (v : Int) (j : Nat) : sl (bid l i v) j = sl l j := by
  unfold sl; rw [bid_at hi]; split
  · rename_i h; rw [h]
  · rfl
theorem bid_pr (hi : i < l.length) (v : Int) (j : Nat) : pr (bid l i v) j = if j = i then v else pr l j := by
  unfold pr; rw [bid_at hi]; split <;> rfl
theorem bid_but (hi : i < l.length) (v b : Int) : But (bid l i v) (bid l i b) i :=
  ⟨by rw [bid_len, bid_len], fun j => by rw [bid_sl hi, bid_sl hi], fun j hne => by rw [bid_pr hi, bid_pr hi, if_neg hne, if_neg hne]⟩
theorem bid_bid (hi : i < l.length) (v b : Int) : bid (bid l i v) i b = bid l i b := by
  have h := bid_at hi v i
  rw [if_pos rfl] at h
  unfold bid at h ⊢
  rw [h]
  simp
theorem bid_valid {most : Int} (hv : validB most l = true) (hi : i < l.length) {v : Int} (h1 : 1 ≤ v) (h2 : v ≤ 99) : validB most (bid l i v) = true := by
  obtain ⟨h12, hok⟩ := ok_of_valid hv
  have hq := hok l[i] (List.getElem_mem hi)
  simp only [validB, Bool.and_eq_true, decide_eq_true_eq, List.all_eq_true]
  refine ⟨by rw [bid_len]; exact h12, fun o ho => ?_⟩
  unfold bid at ho
  rcases List.mem_or_eq_of_mem_set ho with h | rfl
  · have := hok o h
    simp only [okB, Bool.and_eq_true, decide_eq_true_eq]; omega
  · rw [getD_at hi]
    simp only [okB, Bool.and_eq_true, decide_eq_true_eq]; omega
theorem truthB (hv : validB 1 l = true) (hi : i < l.length) {v b : Int} (h1 : 1 ≤ v) (h2 : v ≤ 99) (h3 : 1 ≤ b) (h4 : b ≤ 99) (hs : l[i].sell = false) :
    mcF (bid l i b) i * (v - mcPay (bid l i b)) ≤ mcF (bid l i v) i * (v - mcPay (bid l i v)) ∧ 0 ≤ mcF (bid l i v) i * (v - mcPay (bid l i v)) := by
  have hp := okP_of (bid_valid hv hi h1 h2)
  have hp' := okP_of (bid_valid hv hi h3 h4)
  have := truth_buyer hp hp' (bid_but hi v b) (by rw [bid_len]; exact hi) (by rw [bid_sl hi, sl_at hi]; exact hs)
  rw [bid_pr hi, if_pos rfl] at this
  exact this
theorem truthS (hv : validB 1 l = true) (hi : i < l.length) {v b : Int} (h1 : 1 ≤ v) (h2 : v ≤ 99) (h3 : 1 ≤ b) (h4 : b ≤ 99) (hs : l[i].sell = true) :
    mcF (bid l i b) i * (mcGet (bid l i b) - v) ≤ mcF (bid l i v) i * (mcGet (bid l i v) - v) ∧ 0 ≤ mcF (bid l i v) i * (mcGet (bid l i v) - v) := by
  have hp := okP_of (bid_valid hv hi h1 h2)
  have hp' := okP_of (bid_valid hv hi h3 h4)
  have := truth_seller hp hp' (bid_but hi v b) (by rw [bid_len]; exact hi) (by rw [bid_sl hi, sl_at hi]; exact hs)
  rw [bid_pr hi, if_pos rfl] at this
  exact this
theorem mcF_bd (l : List Ord) (i : Nat) : 0 ≤ mcF l i ∧ mcF l i ≤ 1 := by unfold mcF; split <;> omega
theorem mcPay_bd (hp : okP l) : 0 ≤ mcPay l ∧ mcPay l ≤ 100 := by
  have h1 := mid_bd hp
  have h2 := pB_bd hp (kk l - 1)
  unfold mcPay; split
  · omega
  · split <;> omega
theorem mcGet_bd (hp : okP l) : 0 ≤ mcGet l ∧ mcGet l ≤ 100 := by
  have h1 := mid_bd hp
  have h2 := pS_bd hp (kk l - 1)
  unfold mcGet; split
  · omega
  · split <;> omega
theorem mc_gain_bd {f x : Int} (hf : 0 ≤ f ∧ f ≤ 1) (hx : -200 ≤ x ∧ x ≤ 200) : -200 ≤ f * x ∧ f * x ≤ 200 := by
  have : f = 0 ∨ f = 1 := by omega
  rcases this with rfl | rfl <;> omega
/-- the first k orders, one slot each, and the rest as they are -/
def oneTo (l : List Ord) (k : Nat) : List Ord := (l.take k).map one ++ l.drop k
theorem oneTo_len (k : Nat) : (oneTo l k).length = l.length := by simp [oneTo]; omega
theorem oneTo_zero : oneTo l 0 = l := by simp [oneTo]
theorem oneTo_all : oneTo l l.length = l.map one := by simp [oneTo]
theorem oneTo_succ {k : Nat} (hk : k < l.length) : oneTo l (k + 1) = (oneTo l k).set k (one l[k]) := by
  apply List.ext_getElem
  · simp [oneTo]; omega
  · intro j h1 h2
    simp only [oneTo, List.getElem_set, List.getElem_append, List.getElem_map, List.length_map, List.length_take, List.getElem_drop, List.getElem_take]
    by_cases e : k = j
    · subst e
      rw [dif_pos (by omega), if_pos rfl]
    · rw [if_neg e]
      by_cases hj : j < k
      · rw [dif_pos (by omega), dif_pos (by omega)]
      · rw [dif_neg (by omega), dif_neg (by omega)]
        congr 1; omega
theorem oneTo_get {k : Nat} (hk : k < l.length) (h : k < (oneTo l k).length) : (oneTo l k)[k] = l[k] := by
  simp only [oneTo]
  rw [List.getElem_append_right (by simp; omega)]
  simp [Nat.min_eq_left (Nat.le_of_lt hk)]
end
end Mk

namespace Go.Proofs.YtljeahgpkeohlaaGreatDoor

/-- a batch is cleared: what each order gets, what a buyer pays, what a seller gets, how much is traded -/
structure Mk.Fill (l : List Mk.Ord) (f : Nat → Int) (pay get V : Int) : Prop where
  bd : ∀ i, i < l.length → 0 ≤ f i ∧ f i ≤ (l.getD i Mk.ozero).qty
  side : ∀ b, Mk.sideSum l b f = V
  buy : ∀ i, i < l.length → (l.getD i Mk.ozero).sell = false → f i ≠ 0 → pay ≤ (l.getD i Mk.ozero).price
  sell : ∀ i, i < l.length → (l.getD i Mk.ozero).sell = true → f i ≠ 0 → (l.getD i Mk.ozero).price ≤ get
  price : 0 ≤ get ∧ get ≤ pay ∧ pay ≤ 100

theorem Mk.getsf_qty {l : List Mk.Ord} {p : Int} (hv : Mk.validB 20 l = true) (hV : 1 ≤ Mk.vol l p) {i : Nat} (hi : i < l.length) (hw : Mk.willB l[i].sell l[i].price p = true) : Mk.getsf l (Mk.dem l p) (Mk.sup l p) p i ≤ l[i].qty := by
  obtain ⟨e, h0, h1⟩ := Mk.will_eq hV hi hw
  have hq := (Mk.ok_of_valid hv).2 l[i] (List.getElem_mem hi)
  have hle : Mk.vol l p ≤ Mk.sideT (Mk.dem l p) (Mk.sup l p) l[i].sell := by
    unfold Mk.vol Mk.less Mk.sideT
    split <;> split <;> omega
  have hT : 1 ≤ Mk.sideT (Mk.dem l p) (Mk.sup l p) l[i].sell := by omega
  have hm : Mk.vol l p * l[i].qty ≤ Mk.sideT (Mk.dem l p) (Mk.sup l p) l[i].sell * l[i].qty := Int.mul_le_mul_of_nonneg_right hle (by omega)
  rw [Mk.getsf_more]
  rcases Mk.more_01 (l := l) (p := p) i with hm0 | hm1
  · rw [hm0]
    by_cases hh : Mk.G0 l (Mk.dem l p) (Mk.sup l p) p i ≤ l[i].qty
    · omega
    · exfalso
      have : Mk.sideT (Mk.dem l p) (Mk.sup l p) l[i].sell * (l[i].qty + 1) ≤ Mk.sideT (Mk.dem l p) (Mk.sup l p) l[i].sell * Mk.G0 l (Mk.dem l p) (Mk.sup l p) p i := Int.mul_le_mul_of_nonneg_left (by omega) (by omega)
      rw [Int.mul_add] at this
      omega
  · rw [hm1]
    have hl : 0 < Mk.L0 l (Mk.dem l p) (Mk.sup l p) p i := by
      refine Mk.more_lost hV ?_
      unfold Mk.more at hm1
      split at hm1
      · assumption
      · omega
    by_cases hh : Mk.G0 l (Mk.dem l p) (Mk.sup l p) p i + 1 ≤ l[i].qty
    · exact hh
    · exfalso
      have : Mk.sideT (Mk.dem l p) (Mk.sup l p) l[i].sell * l[i].qty ≤ Mk.sideT (Mk.dem l p) (Mk.sup l p) l[i].sell * Mk.G0 l (Mk.dem l p) (Mk.sup l p) p i := Int.mul_le_mul_of_nonneg_left (by omega) (by omega)
      omega

theorem Mk.uni_fill {l : List Mk.Ord} (hv : Mk.validB 20 l = true) : Mk.Fill l (Mk.uni l) (Mk.price l) (Mk.price l) (Mk.vol l (Mk.best l 98)) := by
  have hbd := Mk.best_bd l 98
  have hb := Mk.less_bd (Mk.dem_bd hv (Mk.best l 98)) (Mk.sup_bd hv (Mk.best l 98))
  have h0 : 0 ≤ Mk.vol l (Mk.best l 98) := hb.1
  by_cases hz : Mk.vol l (Mk.best l 98) = 0
  · have e : ∀ i, Mk.uni l i = 0 := fun i => by simp [Mk.uni, hz]
    have e2 : Mk.price l = 0 := by simp [Mk.price, hz]
    refine ⟨fun i hi => ?_, fun b => ?_, fun i _ _ h => absurd (e i) h, fun i _ _ h => absurd (e i) h, ?_⟩
    · have hq := (Mk.ok_of_valid hv).2 l[i] (List.getElem_mem hi)
      rw [e, Mk.getD_at hi]; omega
    · rw [hz]; exact Mk.sumn_zero (fun i _ => by rw [e]; split <;> rfl)
    · rw [e2]; omega
  · have hV : 1 ≤ Mk.vol l (Mk.best l 98) := by omega
    have e : ∀ i, Mk.uni l i = Mk.getsf l (Mk.dem l (Mk.best l 98)) (Mk.sup l (Mk.best l 98)) (Mk.best l 98) i := fun i => by simp [Mk.uni, hz]
    have e2 : Mk.price l = Mk.best l 98 := by simp [Mk.price, hz]
    have hun : ∀ i (hi : i < l.length), Mk.uni l i ≠ 0 → Mk.willB l[i].sell l[i].price (Mk.best l 98) = true := fun i hi h => by
      cases hw : Mk.willB l[i].sell l[i].price (Mk.best l 98)
      · exact absurd ((e i).trans (Mk.unwilling hV hi hw)) h
      · rfl
    refine ⟨fun i hi => ?_, fun b => ?_, fun i hi hs h => ?_, fun i hi hs h => ?_, ?_⟩
    · have hq := (Mk.ok_of_valid hv).2 l[i] (List.getElem_mem hi)
      have hg := Mk.getsf_bd (p := (Mk.best l 98 : Int)) hv i
      rw [Mk.getD_at hi]
      cases hw : Mk.willB l[i].sell l[i].price (Mk.best l 98)
      · rw [e, Mk.unwilling hV hi hw]; omega
      · rw [e]; exact ⟨hg.1, Mk.getsf_qty hv hV hi hw⟩
    · rw [← Mk.side_total hV b]
      unfold Mk.sideSum
      exact Mk.sumn_congr (fun i _ => by rw [e])
    · rw [Mk.getD_at hi] at hs ⊢
      have hw := hun i hi h
      unfold Mk.willB at hw
      rw [hs] at hw
      simp at hw
      rw [e2]; exact hw
    · rw [Mk.getD_at hi] at hs ⊢
      have hw := hun i hi h
      unfold Mk.willB at hw
      rw [hs] at hw
      simp at hw
      rw [e2]; exact hw
    · rw [e2]; omega

theorem Mk.mc_fill {l : List Mk.Ord} (hv : Mk.validB 1 l = true) : Mk.Fill l (Mk.mcF l) (Mk.mcPay l) (Mk.mcGet l) (Mk.mcK l) := by
  have hp := Mk.okP_of hv
  have on : ∀ i, Mk.mcF l i ≠ 0 → Mk.rk l i < Mk.mcK l := fun i h => by
    unfold Mk.mcF at h
    split at h
    · assumption
    · exact absurd rfl h
  refine ⟨fun i hi => ?_, fun b => Mk.mc_side hp b, fun i hi hs h => Mk.pays hp hi hs (on i h), fun i hi hs h => Mk.gets hp hi hs (on i h), (Mk.mcGet_bd hp).1, Mk.mc_pays hp, (Mk.mcPay_bd hp).2⟩
  have hq := (Mk.ok_of_valid hv).2 l[i] (List.getElem_mem hi)
  have := Mk.mcF_bd l i
  rw [Mk.getD_at hi]
  omega

/-- by its mode -/
def Mk.clF (md : Bool) (l : List Mk.Ord) (i : Nat) : Int := if md then Mk.mcF l i else Mk.uni l i
def Mk.clPay (md : Bool) (l : List Mk.Ord) : Int := if md then Mk.mcPay l else Mk.price l
def Mk.clGet (md : Bool) (l : List Mk.Ord) : Int := if md then Mk.mcGet l else Mk.price l
def Mk.clV (md : Bool) (l : List Mk.Ord) : Int := if md then (Mk.mcK l : Int) else Mk.vol l (Mk.best l 98)
theorem Mk.cl_fill {md : Bool} {l : List Mk.Ord} (h20 : Mk.validB 20 l = true) (h1 : md = true → Mk.validB 1 l = true) : Mk.Fill l (Mk.clF md l) (Mk.clPay md l) (Mk.clGet md l) (Mk.clV md l) := by
  cases md
  · exact Mk.uni_fill h20
  · exact Mk.mc_fill (h1 rfl)

end Go.Proofs.YtljeahgpkeohlaaGreatDoor

/- Plain mathematics of the document's market: texts. -/
namespace Mk

/-- one digit -/
def dg (n : Nat) : ByteArray := ⟨#[UInt8.ofNat (48 + n % 10)]⟩
/-- a number in decimal -/
def dig (n : Nat) : ByteArray := if n < 10 then dg n else dig (n / 10) ++ dg n
termination_by n
decreasing_by omega

theorem dig_small {n : Nat} (h : n < 10) : dig n = dg n := by rw [dig, if_pos h]
theorem dig_great {n : Nat} (h : ¬ n < 10) : dig n = dig (n / 10) ++ dg n := by rw [dig, if_neg h]
theorem dg_size (n : Nat) : (dg n).size = 1 := rfl
theorem dig_size (k : Nat) : ∀ n, n < 10 ^ (k + 1) → (dig n).size ≤ k + 1 := by
  induction k with
  | zero => intro n h; rw [dig_small (by omega), dg_size]; omega
  | succ k ih =>
    intro n h
    by_cases h10 : n < 10
    · rw [dig_small h10, dg_size]; omega
    · rw [dig_great h10, ByteArray.size_append, dg_size]
      have := ih (n / 10) (by rw [Nat.pow_succ] at h; omega)
      omega

def chB : ByteArray := ⟨#[66]⟩
def chS : ByteArray := ⟨#[83]⟩
/-- a purse: what is free, what is held -/
def purseT (f h : Nat) : ByteArray := dig f ++ ⟨#[43]⟩ ++ dig h
/-- an order in a batch -/
def standT (n : Nat) (sell : Bool) (who p q : Nat) : ByteArray := dig n ++ (if sell then chS else chB) ++ dig who ++ ⟨#[64]⟩ ++ dig p ++ ⟨#[120]⟩ ++ dig q

end Mk

namespace Go.Proofs.YtljeahgpkeohlaaGreatDoor
open Go.RowKit

/-- string([]byte{d}), d a digit -/
theorem conv_digit (w : World) (n : Nat) : (convert 107 9 (.slice (some ⟨w.heap.size, 0, none⟩) 1 1)).run Tryz.prog (w.alloc (.cells #[.int .u8 (48 + (n : Int) % 10)] 5)) = .ok (.string (Mk.dg n)) (w.alloc (.cells #[.int .u8 (48 + (n : Int) % 10)] 5)) := by
  refine run_convert_bytes_back (w.alloc (.cells #[.int .u8 (48 + (n : Int) % 10)] 5)) 107 9 5 ⟨w.heap.size, 0, none⟩ 1 [UInt8.ofNat (48 + n % 10)] Tryz.underlying107 Tryz.underlying5 Tryz.underlying9 (fun j hj => ?_)
  obtain rfl : j = 0 := by simp at hj; omega
  have e : ((UInt8.ofNat (48 + n % 10)).toNat : Int) = 48 + (n : Int) % 10 := by
    rw [UInt8.toNat_ofNat']
    omega
  simp only [List.getElem_cons_zero, e]
  simp [Addr.add]

set_option maxRecDepth 100000 in
set_option maxHeartbeats 1000000 in
theorem digits_any (k : Nat) : ∀ (n : Nat) (w : World), n < 10 ^ (k + 1) → k ≤ 10 →
    Calls Tryz.prog 51 #[.int .i64 n] w fun e w' => e = .returned (.string (Mk.dig n)) ∧ Below w.heap.size w w' := by
  induction k with
  | zero =>
    intro n w hn _
    have hn' : (n : Int) < 10 := by omega
    have HD : Hid (Mk.dig n = Mk.dg n) := Mk.dig_small (by omega)
    have hcv := conv_digit w n
    go_enter Tryz.func51, Tryz.ntmps51
    go_wp2_with fail
    go_ret
    exact ⟨by rw [HD.out]; rfl, (Below.refl _ _).alloc (Nat.le_refl _) _⟩
  | succ k ih =>
    intro n w hn hk
    have hcv := conv_digit w n
    by_cases h : n < 10
    · have hn' : (n : Int) < 10 := by omega
      have HD : Hid (Mk.dig n = Mk.dg n) := Mk.dig_small h
      go_enter Tryz.func51, Tryz.ntmps51
      go_wp2_with fail
      go_ret
      exact ⟨by rw [HD.out]; rfl, (Below.refl _ _).alloc (Nat.le_refl _) _⟩
    · have hn' : ¬ (n : Int) < 10 := by omega
      have hs := Mk.dig_size k (n / 10) (by rw [Nat.pow_succ] at hn; omega)
      have hs2 := Mk.dg_size n
      have HS : Hid ((Mk.dig (n / 10)).size ≤ k + 1) := hs
      have HI : Hid (∀ w : World, Calls Tryz.prog 51 #[.int .i64 ((n : Int) / 10)] w fun e w' => e = .returned (.string (Mk.dig (n / 10))) ∧ Below w.heap.size w w') := fun w => by
        have := ih (n / 10) w (by rw [Nat.pow_succ] at hn; omega) (by omega)
        rw [Int.natCast_ediv] at this
        exact this
      have HD : Hid (Mk.dig n = Mk.dig (n / 10) ++ Mk.dg n) := Mk.dig_great h
      have hbig : (n : Int) ≤ 1000000000000 := by
        have : n < 10 ^ 12 := Nat.lt_of_lt_of_le hn (Nat.pow_le_pow_right (by omega) (by omega))
        omega
      clear ih hn h hs
      have hadd : ∀ w : World, (Op.stringOp .add (Mk.dig (n / 10)) (Mk.dg n)).run Tryz.prog w = .ok (.string (Mk.dig (n / 10) ++ Mk.dg n)) w := fun w => run_string_add_sum w _ _ (by have := HS.out; have := Mk.dg_size n; omega)
      clear hs2
      go_enter Tryz.func51, Tryz.ntmps51
      go_wp2_with fail
      refine (HI.out _).mono ?_
      rintro e w2 ⟨rfl, hb2⟩
      have HB2 : Hid (Below w.heap.size w w2) := ((Below.refl _ _).alloc (Nat.le_refl _) _).trans (hb2.mono (by simp))
      clear hb2 hcv
      go_wp2_with fail
      go_ret
      exact ⟨by rw [HD.out]; rfl, HB2.out⟩

/-- a number of the market in decimal -/
theorem dig_any (n : Nat) (w : World) (hn : n ≤ 99999) : Calls Tryz.prog 51 #[.int .i64 n] w fun e w' => e = .returned (.string (Mk.dig n)) ∧ Below w.heap.size w w' :=
  digits_any 4 n w (by omega) (by omega)
theorem dig_le (n : Nat) (hn : n ≤ 99999) : (Mk.dig n).size ≤ 5 := Mk.dig_size 4 n (by omega)

set_option maxRecDepth 100000 in
set_option maxHeartbeats 1000000 in
theorem purse_any (f h : Nat) (w : World) (hf : f ≤ 99999) (hh : h ≤ 99999) :
    Calls Tryz.prog 50 #[.agg #[.int .i64 f, .int .i64 h]] w fun e w' => e = .returned (.string (Mk.purseT f h)) ∧ Below w.heap.size w w' := by
  have s1 := dig_le f hf
  have s2 := dig_le h hh
  go_enter Tryz.func50, Tryz.ntmps50
  go_wp2_with fail
  refine (dig_any f _ hf).mono ?_
  rintro e w2 ⟨rfl, hb2⟩
  have x1 : w2.cell? ⟨w.heap.size, 1, none⟩ = some (.int .i64 h) := by rw [hb2.cell (p := ⟨w.heap.size, 1, none⟩) (by simp)]; simp
  have HB2 : Hid (Below w.heap.size w w2) := ((Below.refl _ _).alloc (Nat.le_refl _) _).trans (hb2.mono (by simp))
  clear hb2
  go_wp2_with fail
  refine (dig_any h _ hh).mono ?_
  rintro e w3 ⟨rfl, hb3⟩
  have HB3 : Hid (Below w.heap.size w w3) := HB2.out.trans (hb3.mono HB2.out.size)
  clear hb3
  go_wp2_with fail
  go_ret
  exact ⟨rfl, HB3.out⟩

end Go.Proofs.YtljeahgpkeohlaaGreatDoor

/- Plain mathematics of the document's market: commands, read. -/
namespace Mk

/-- byte k of a text -/
def bt (s : ByteArray) (k : Nat) : Nat := if h : k < s.size then s[k].toNat else 0
theorem bt_at {s : ByteArray} {k : Nat} (h : k < s.size) : s[k].toNat = bt s k := by unfold bt; rw [dif_pos h]
theorem bt_lt (s : ByteArray) (k : Nat) : bt s k < 256 := by
  unfold bt
  split
  · exact UInt8.toNat_lt _
  · omega

def isD (s : ByteArray) (j : Nat) : Bool := decide (48 ≤ bt s j) && decide (bt s j ≤ 57)
def digs (s : ByteArray) : Nat → Bool
  | 0 => true
  | k + 1 => digs s k && isD s k
/-- the number that the first k bytes tell -/
def numTo (s : ByteArray) : Nat → Nat
  | 0 => 0
  | k + 1 => numTo s k * 10 + (bt s k - 48)
theorem numTo_lt {s : ByteArray} : ∀ {k : Nat}, digs s k = true → numTo s k < 10 ^ k
  | 0, _ => by simp [numTo]
  | k + 1, h => by
    simp only [digs, isD, Bool.and_eq_true, decide_eq_true_eq] at h
    have := numTo_lt h.1
    simp only [numTo, Nat.pow_succ]
    omega
/-- is the text a number of at most four digits, without noughts ahead? -/
def numOk (s : ByteArray) : Bool := decide (1 ≤ s.size) && decide (s.size ≤ 4) && !(decide (bt s 0 = 48) && decide (1 < s.size)) && digs s s.size
def numV (s : ByteArray) : Nat := if numOk s then numTo s s.size else 0
def numB (s : ByteArray) (lo hi : Nat) : Bool := numOk s && decide (lo ≤ numV s) && decide (numV s ≤ hi)
theorem digs_no {s : ByteArray} {j : Nat} (h : isD s j = false) : ∀ {k : Nat}, j < k → digs s k = false
  | 0, hk => by omega
  | k + 1, hk => by
    simp only [digs]
    by_cases e : j = k
    · subst e; rw [h, Bool.and_false]
    · rw [digs_no h (by omega), Bool.false_and]
theorem numOk_no {s : ByteArray} (h : s.size = 0 ∨ 4 < s.size ∨ bt s 0 = 48 ∧ 1 < s.size ∨ digs s s.size = false) : numOk s = false := by
  unfold numOk
  rcases h with h | h | h | h
  · have : decide (1 ≤ s.size) = false := by rw [decide_eq_false_iff_not]; omega
    rw [this]; rfl
  · have : decide (s.size ≤ 4) = false := by rw [decide_eq_false_iff_not]; omega
    rw [this]; simp
  · simp [h.1, h.2]
  · rw [h, Bool.and_false]
theorem numOk_yes {s : ByteArray} (h1 : 1 ≤ s.size) (h2 : s.size ≤ 4) (h3 : ¬ (bt s 0 = 48 ∧ 1 < s.size)) (h4 : digs s s.size = true) : numOk s = true := by
  unfold numOk
  rw [h4]
  have : (decide (bt s 0 = 48) && decide (1 < s.size)) = false := by
    rw [← Bool.not_eq_true, Bool.and_eq_true, decide_eq_true_eq, decide_eq_true_eq]; exact h3
  rw [this]
  simp [h1, h2]
theorem numV_le (s : ByteArray) : numV s ≤ 9999 := by
  unfold numV
  split
  · rename_i h
    simp only [numOk, Bool.and_eq_true, decide_eq_true_eq] at h
    have h1 := numTo_lt h.2
    have h2 : 10 ^ s.size ≤ 10 ^ 4 := Nat.pow_le_pow_right (by omega) h.1.1.2
    omega
  · omega

/-- the words of a text, up to byte k: those that are whole, and where the next one begins -/
def cutTo (s : ByteArray) : Nat → List ByteArray × Nat
  | 0 => ([], 0)
  | k + 1 => if bt s k = 32 then ((cutTo s k).1 ++ [s.extract (cutTo s k).2 k], k + 1) else cutTo s k
def words (s : ByteArray) : List ByteArray := (cutTo s s.size).1 ++ [s.extract (cutTo s s.size).2 s.size]
theorem cutTo_le (s : ByteArray) : ∀ k, (cutTo s k).2 ≤ k ∧ (cutTo s k).1.length ≤ k
  | 0 => by simp [cutTo]
  | k + 1 => by
    have := cutTo_le s k
    simp only [cutTo]
    split
    · simp; omega
    · omega
theorem cutTo_yes {s : ByteArray} {k : Nat} (h : bt s k = 32) : cutTo s (k + 1) = ((cutTo s k).1 ++ [s.extract (cutTo s k).2 k], k + 1) := if_pos h
theorem cutTo_no {s : ByteArray} {k : Nat} (h : ¬ bt s k = 32) : cutTo s (k + 1) = cutTo s k := if_neg h

end Mk

namespace Go.Proofs.YtljeahgpkeohlaaGreatDoor
open Go.RowKit

set_option maxRecDepth 100000 in
set_option maxHeartbeats 2000000 in
theorem number_any (s : ByteArray) (lo hi : Nat) (w : World) (hs : s.size ≤ 1000000) :
    Calls Tryz.prog 42 #[.string s, .int .i64 lo, .int .i64 hi] w fun e w' => e = .returned (.tuple #[.int .i64 (Mk.numV s : Int), .bool (Mk.numB s lo hi)]) ∧ w' = w := by
  have HV : Hid (Mk.numOk s = false → Mk.numV s = 0 ∧ Mk.numB s lo hi = false) := fun h => by unfold Mk.numB Mk.numV; rw [h]; simp
  by_cases h0 : s.size = 0
  · have h0' : ((s.size : Int) == 0) = true := by rw [beq_iff_eq]; omega
    have HZ : Hid (Mk.numV s = 0 ∧ Mk.numB s lo hi = false) := HV.out (Mk.numOk_no (.inl h0))
    clear h0
    go_enter Tryz.func42, Tryz.ntmps42
    go_wp2
    go_ret2
    exact ⟨by rw [HZ.out.1, HZ.out.2]; rfl, rfl⟩
  · have h0' : ((s.size : Int) == 0) = false := by rw [beq_eq_false_iff_ne]; omega
    by_cases h4 : 4 < s.size
    · have h4' : (4 : Int) < (s.size : Int) := by omega
      have HZ : Hid (Mk.numV s = 0 ∧ Mk.numB s lo hi = false) := HV.out (Mk.numOk_no (.inr (.inl h4)))
      clear h0
      go_enter Tryz.func42, Tryz.ntmps42
      go_wp2
      go_ret2
      exact ⟨by rw [HZ.out.1, HZ.out.2]; rfl, rfl⟩
    · have h4' : ¬ (4 : Int) < (s.size : Int) := by omega
      have hpos : 0 < s.size := by omega
      have hpos' : (0 : Int) < (s.size : Int) := by omega
      have HB0 : Hid (s[0].toNat = Mk.bt s 0) := Mk.bt_at hpos
      by_cases hz : s[0].toNat = 48 ∧ 1 < s.size
      · have HZ : Hid (Mk.numV s = 0 ∧ Mk.numB s lo hi = false) := HV.out (Mk.numOk_no (.inr (.inr (.inl ⟨by rw [← HB0.out]; exact hz.1, hz.2⟩))))
        have hz1 : ((s[0].toNat : Int) == 48) = true := by simp; omega
        have hz2 : (1 : Int) < (s.size : Int) := by omega
        clear h0 hz
        go_enter Tryz.func42, Tryz.ntmps42
        go_wp2
        go_ret2
        exact ⟨by rw [HZ.out.1, HZ.out.2]; rfl, rfl⟩
      · have h3 : ¬ (Mk.bt s 0 = 48 ∧ 1 < s.size) := by rw [← HB0.out]; exact hz
        have HY : Hid (Mk.digs s s.size = true → Mk.numOk s = true) := fun h => Mk.numOk_yes (by omega) (by omega) h3 h
        have HN : Hid (Mk.digs s s.size = false → Mk.numOk s = false) := fun h => Mk.numOk_no (.inr (.inr (.inr h)))
        have hg : ((s[0].toNat : Int) == 48) = false ∨ ((s[0].toNat : Int) == 48) = true ∧ ¬ (1 : Int) < (s.size : Int) := by
          by_cases e : s[0].toNat = 48
          · right; exact ⟨by simp; omega, by omega⟩
          · left; simp; omega
        clear h0 hz h3
        rcases hg with hg | ⟨hg, hg2⟩
        all_goals
          go_enter Tryz.func42, Tryz.ntmps42
          go_wp2
          go_loop [8, 9] (fun x j => ∃ k : Nat, k ≤ s.size ∧ j = .int .i64 k ∧ x = .int .i64 (Mk.numTo s k : Int) ∧ Mk.digs s k = true) (fun _ j => s.size - (intOf j).toNat)
          case atStart => exact ⟨0, Nat.zero_le _, rfl, rfl, rfl⟩
          case round =>
            obtain ⟨k, hk, rfl, rfl, hd⟩ := hrel
            have hb := Mk.numTo_lt hd
            have hb2 : 10 ^ k ≤ 10 ^ 4 := Nat.pow_le_pow_right (by omega) (by omega)
            have hb3 : (Mk.numTo s k : Int) ≤ 9999 := by omega
            have HD : Hid (Mk.digs s k = true) := hd
            clear hd hb hb2
            by_cases hlt : k < s.size
            · have hlt' : (k : Int) < (s.size : Int) := by omega
              have HB : Hid (s[k].toNat = Mk.bt s k) := Mk.bt_at hlt
              have h256 : s[k].toNat < 256 := UInt8.toNat_lt _
              by_cases hdig : 48 ≤ s[k].toNat ∧ s[k].toNat ≤ 57
              · have d1 : ¬ (s[k].toNat : Int) < 48 := by omega
                have d2 : ¬ (57 : Int) < (s[k].toNat : Int) := by omega
                have HS : Hid (Mk.digs s (k + 1) = true) := by
                  show (Mk.digs s k && Mk.isD s k) = true
                  rw [HD.out, Bool.true_and]
                  unfold Mk.isD
                  rw [← HB.out]
                  simp [hdig]
                have HE : Hid ((Mk.numTo s (k + 1) : Int) = (Mk.numTo s k : Int) * 10 + ((s[k].toNat : Int) - 48)) := (by
                  show ((Mk.numTo s k * 10 + (Mk.bt s k - 48) : Nat) : Int) = _
                  rw [← HB.out]; omega : (Mk.numTo s (k + 1) : Int) = (Mk.numTo s k : Int) * 10 + ((s[k].toNat : Int) - 48))
                clear hdig
                go_wp2
                go_round
                case rel => exact ⟨k + 1, by omega, by go_num, by rw [HE.out], HS.out⟩
                case measure => simp [intOf]; omega
              · have HZ : Hid (Mk.numV s = 0 ∧ Mk.numB s lo hi = false) := HV.out (HN.out (Mk.digs_no (j := k) (by unfold Mk.isD; rw [← HB.out]; rw [← Bool.not_eq_true]; simpa using hdig) hlt))
                by_cases d1 : (s[k].toNat : Int) < 48
                · clear hdig
                  go_wp2
                  go_ret2
                  exact ⟨by rw [HZ.out.1, HZ.out.2]; rfl, rfl⟩
                · have d2 : (57 : Int) < (s[k].toNat : Int) := by omega
                  clear hdig
                  go_wp2
                  go_ret2
                  exact ⟨by rw [HZ.out.1, HZ.out.2]; rfl, rfl⟩
            · obtain rfl : k = s.size := by omega
              have HZ : Hid (Mk.numV s = Mk.numTo s s.size ∧ Mk.numB s lo hi = (decide (lo ≤ Mk.numTo s s.size) && decide (Mk.numTo s s.size ≤ hi))) := by
                have := HY.out HD.out
                unfold Mk.numB Mk.numV
                rw [this]
                exact ⟨rfl, rfl⟩
              rcases Bool.eq_false_or_eq_true (decide (lo ≤ Mk.numTo s s.size)) with l1 | l1
              · go_wp2
                go_ret2
                exact ⟨by rw [HZ.out.1, HZ.out.2, l1]; simp, rfl⟩
              · go_wp2
                go_ret2
                exact ⟨by rw [HZ.out.1, HZ.out.2, l1]; simp, rfl⟩

end Go.Proofs.YtljeahgpkeohlaaGreatDoor
