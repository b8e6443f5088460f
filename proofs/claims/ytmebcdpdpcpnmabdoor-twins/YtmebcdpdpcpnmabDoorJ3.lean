import Derived.Test.YtmebcdpdpcpnmabDoorJ1
import Derived.Test.YtmebcdpdpcpnmabDoorJ2
import Derived.Deep.RegionWith
namespace Go.Proofs.YtmebcdpdpcpnmabDoor
open Go.RowKit

theorem At.drew {w : World} {b off : Nat} {l : List Mk.Ord} (h : At w b off l) : At w.drew b off l := h
theorem LvAt.next {W W' w' : World} {B : Nat} {p d s : Int} (h : LvAt W B p d s) (e : W'.heap = W.heap) (hb : Below W'.heap.size W' w') : w'.cell? ⟨B, 0, none⟩ = some (.int .i64 p) := by
  have hl := h.lt
  rw [hb.cell (p := ⟨B, 0, none⟩) (by rw [e]; exact hl)]
  have := h.c0
  simpa [World.cell?, e] using this

set_option maxHeartbeats 1000000 in
theorem uniform_bad (a : Option Addr) (cap : Nat) (l : List Mk.Ord) (w : World) (hv : Mk.validB 20 l = false) (hR : Rd w a l) :
    Calls Tryd.prog 81 #[.slice a l.length cap] w fun e w' => e = .returned (.tuple #[.slice none 0 0, .int .i64 0, .int .i64 1]) ∧ Below w.heap.size w w' := by
  have HR : Hid (Rd w a l) := hR
  clear hR
  go_enter Tryd.func81, Tryd.ntmps81
  go_wp2_with (go_at_call 84; refine (isBatch_any a cap l _ HR.out).mono ?_; rintro e w1 ⟨rfl, hb1⟩)
  go_ret3
  exact ⟨rfl, by assumption⟩

set_option maxHeartbeats 1000000 in
theorem uniform_zero (a : Option Addr) (cap : Nat) (l : List Mk.Ord) (w : World) (hv : Mk.validB 20 l = true) (hR : Rd w a l) (hz : Mk.vol l (Mk.best l 98) = 0) :
    Calls Tryd.prog 81 #[.slice a l.length cap] w fun e w' => ∃ g, e = .returned (.tuple #[.slice (some ⟨g, 0, none⟩) l.length l.length, .int .i64 0, .int .i64 0]) ∧ w.heap.size ≤ g ∧ Below w.heap.size w w' ∧ w'.rowIs g 3 l.length (fun _ => .int .i64 0) := by
  have HR : Hid (Rd w a l) := hR
  have HV : Hid (Mk.validB 20 l = true) := hv
  have h12 := (Mk.ok_of_valid hv).1
  have hz' : (Mk.less (Mk.dem l (Mk.best l 98)) (Mk.sup l (Mk.best l 98)) == 0) = true := by simpa [Mk.vol] using hz
  have hmk := run_make_row' (P := Tryd.prog) 27 3 (.int .i64 0) 8 Tryd.underlying27 Tryd.infoInt rfl .i64 .i64 l.length (by omega) (by omega)
  clear hR hz
  go_enter Tryd.func81, Tryd.ntmps81
  go_wp2_with fail
  refine (isBatch_any a cap l _ HR.out).mono ?_
  rintro e w1 ⟨rfl, hb1⟩
  have Hb1 : Hid (Below w.heap.size w w1) := hb1
  clear hb1
  go_wp2_with fail
  refine (bestLevel_any a cap l _ HV.out (HR.out.below Hb1.out)).mono ?_
  rintro e w2 ⟨rfl, hb2⟩
  have Hb2 : Hid (Below w.heap.size w w2) := Hb1.out.trans (hb2.mono Hb1.out.size)
  clear hb2
  go_wp2_with (go_at_call 91; refine (traded_any _ _ _ _).mono ?_; rintro e w' ⟨rfl, rfl⟩)
  go_ret3
  have hs := Hb2.out.size
  have hrow := World.rowIs_made ((w2.alloc (.cells #[.int .i64 (Mk.best l 98), .int .i64 (Mk.dem l (Mk.best l 98)), .int .i64 (Mk.sup l (Mk.best l 98))] 140)).alloc (.cells #[.int .i64 (Mk.best l 98), .int .i64 (Mk.dem l (Mk.best l 98)), .int .i64 (Mk.sup l (Mk.best l 98))] 140)) (.int .i64 0) l.length 3
  simp only [World.size_alloc] at hrow
  refine ⟨w2.heap.size + 1 + 1, rfl, ?_, ?_, hrow⟩
  · omega
  · exact ((Hb2.out.alloc hs _).alloc (by simp; omega) _).alloc (by simp; omega) _

set_option maxHeartbeats 1000000 in
theorem uniform_some (b off cap : Nat) (l : List Mk.Ord) (w : World) (hv : Mk.validB 20 l = true) (hR : At w b off l) (hz : Mk.vol l (Mk.best l 98) ≠ 0) :
    Calls Tryd.prog 81 #[.slice (some ⟨b, off, none⟩) l.length cap] w fun e w' => ∃ g, e = .returned (.tuple #[.slice (some ⟨g, 0, none⟩) l.length l.length, .int .i64 (Mk.best l 98), .int .i64 0]) ∧ w.heap.size ≤ g ∧ Below w.heap.size w w' ∧ w'.rowIs g 3 l.length (fun i => .int .i64 (Mk.getsf l (Mk.dem l (Mk.best l 98)) (Mk.sup l (Mk.best l 98)) (Mk.best l 98) i)) := by
  have HR : Hid (At w b off l) := hR
  have HV : Hid (Mk.validB 20 l = true) := hv
  have hz' : (Mk.less (Mk.dem l (Mk.best l 98)) (Mk.sup l (Mk.best l 98)) == 0) = false := by simpa [Mk.vol] using hz
  clear hR hz
  go_enter Tryd.func81, Tryd.ntmps81
  go_wp2_with fail
  refine (isBatch_any _ cap l _ (.inr ⟨b, off, rfl, HR.out⟩)).mono ?_
  rintro e w1 ⟨rfl, hb1⟩
  have Hb1 : Hid (Below w.heap.size w w1) := hb1
  clear hb1
  go_wp2_with fail
  refine (bestLevel_any _ cap l _ HV.out (.inr ⟨b, off, rfl, HR.out.below Hb1.out⟩)).mono ?_
  rintro e w2 ⟨rfl, hb2⟩
  have Hb2 : Hid (Below w.heap.size w w2) := Hb1.out.trans (hb2.mono Hb1.out.size)
  clear hb2
  go_wp2_with (go_at_call 91; refine (traded_any _ _ _ _).mono ?_; rintro e w' ⟨rfl, rfl⟩)
  have hs := Hb2.out.size
  have HBW : Hid (Below w.heap.size w _) := (Hb2.out.alloc hs (.cells #[.int .i64 (Mk.best l 98), .int .i64 (Mk.dem l (Mk.best l 98)), .int .i64 (Mk.sup l (Mk.best l 98))] 140)).alloc (by simp; omega) (.cells #[.int .i64 (Mk.best l 98), .int .i64 (Mk.dem l (Mk.best l 98)), .int .i64 (Mk.sup l (Mk.best l 98))] 140)
  have HLV : Hid (LvAt _ w2.heap.size _ _ _) := (LvAt.born w2 (Mk.best l 98) (Mk.dem l (Mk.best l 98)) (Mk.sup l (Mk.best l 98)) 140).alloc (.cells #[.int .i64 (Mk.best l 98), .int .i64 (Mk.dem l (Mk.best l 98)), .int .i64 (Mk.sup l (Mk.best l 98))] 140)
  have HAt : Hid (At _ b off l) := HR.out.below HBW.out
  generalize (w2.alloc (.cells #[.int .i64 (Mk.best l 98), .int .i64 (Mk.dem l (Mk.best l 98)), .int .i64 (Mk.sup l (Mk.best l 98))] 140)).alloc (.cells #[.int .i64 (Mk.best l 98), .int .i64 (Mk.dem l (Mk.best l 98)), .int .i64 (Mk.sup l (Mk.best l 98))] 140) = W at *
  obtain ⟨l0, l1, l2, _, _, _⟩ := HLV.out
  go_region_with (go_at_call 92; (refine (shares_some b off cap l _ _ _ _ HV.out (Mk.dem_bd HV.out _) (Mk.sup_bd HV.out _) ?_).mono ?_; exact HAt.out.drew; rintro e w' ⟨rfl, hb', hrow⟩; have q0 := LvAt.next (W' := W.drew) HLV.out rfl hb'))
  all_goals
    go_wp2
    go_ret3
    refine ⟨W.heap.size + 1, rfl, ?_, HBW.out.drew.trans (Below.mono hb' HBW.out.size), hrow⟩
    have := HBW.out.size
    omega

theorem Mk.vol_nil (p : Int) : Mk.vol [] p = 0 := by simp [Mk.vol, Mk.dem, Mk.sup, Mk.sumf, Mk.less]

/-- market.Uniform of a batch: its price, what each order gets -/
def Mk.price (l : List Mk.Ord) : Int := if Mk.vol l (Mk.best l 98) = 0 then 0 else Mk.best l 98
def Mk.uni (l : List Mk.Ord) (i : Nat) : Int := if Mk.vol l (Mk.best l 98) = 0 then 0 else Mk.getsf l (Mk.dem l (Mk.best l 98)) (Mk.sup l (Mk.best l 98)) (Mk.best l 98) i

theorem uniform_any (a : Option Addr) (cap : Nat) (l : List Mk.Ord) (w : World) (hv : Mk.validB 20 l = true) (hR : Rd w a l) :
    Calls Tryd.prog 81 #[.slice a l.length cap] w fun e w' => ∃ g, e = .returned (.tuple #[.slice (some ⟨g, 0, none⟩) l.length l.length, .int .i64 (Mk.price l), .int .i64 0]) ∧ w.heap.size ≤ g ∧ Below w.heap.size w w' ∧ w'.rowIs g 3 l.length (fun i => .int .i64 (Mk.uni l i)) := by
  by_cases hz : Mk.vol l (Mk.best l 98) = 0
  · unfold Mk.price Mk.uni
    simp only [hz, if_true]
    exact uniform_zero a cap l w hv hR hz
  · rcases hR with rfl | ⟨b, off, rfl, hR⟩
    · exact absurd (Mk.vol_nil _) hz
    · unfold Mk.price Mk.uni
      simp only [hz, if_false]
      exact uniform_some b off cap l w hv hR hz

end Go.Proofs.YtmebcdpdpcpnmabDoor

/- Plain mathematics: counting; both sides get as much; who gets one more. -/
namespace Mk

theorem sumn_congr {f g : Nat → Int} {n : Nat} (h : ∀ i, i < n → f i = g i) : sumn f n = sumn g n := by
  induction n with
  | zero => rfl
  | succ k ih => simp only [sumn]; rw [ih (fun i hi => h i (by omega)), h k (by omega)]
theorem sumn_add (f g : Nat → Int) (n : Nat) : sumn (fun i => f i + g i) n = sumn f n + sumn g n := by
  induction n with
  | zero => rfl
  | succ k ih => simp only [sumn, ih]; omega
theorem sumn_mul (c : Int) (f : Nat → Int) (n : Nat) : sumn (fun i => c * f i) n = c * sumn f n := by
  induction n with
  | zero => simp [sumn]
  | succ k ih => simp only [sumn, ih]; rw [Int.mul_add]
theorem sumn_zero {f : Nat → Int} {n : Nat} (h : ∀ i, i < n → f i = 0) : sumn f n = 0 := by
  induction n with
  | zero => rfl
  | succ k ih => simp only [sumn]; rw [ih (fun i hi => h i (by omega)), h k (by omega)]; rfl
theorem sumn_nonneg {f : Nat → Int} {n : Nat} (h : ∀ i, i < n → 0 ≤ f i) : 0 ≤ sumn f n := by
  induction n with
  | zero => simp [sumn]
  | succ k ih => simp only [sumn]; have := ih (fun i hi => h i (by omega)); have := h k (by omega); omega
theorem sumn_cnt (P : Nat → Bool) (n : Nat) : sumn (fun i => if P i then 1 else 0) n = cnt P n := by
  induction n with
  | zero => rfl
  | succ k ih => simp only [sumn, cnt, ih]; split <;> simp

theorem cnt_congr {P Q : Nat → Bool} {n : Nat} (h : ∀ i, i < n → P i = Q i) : cnt P n = cnt Q n := by
  induction n with
  | zero => rfl
  | succ k ih => simp only [cnt]; rw [ih (fun i hi => h i (by omega)), h k (by omega)]
theorem cnt_mono {P Q : Nat → Bool} {n : Nat} (h : ∀ i, i < n → P i = true → Q i = true) : cnt P n ≤ cnt Q n := by
  induction n with
  | zero => simp [cnt]
  | succ k ih =>
    have h1 := ih (fun i hi => h i (by omega))
    have h2 := h k (by omega)
    simp only [cnt]
    cases hp : P k with
    | false => simp; omega
    | true => simp [h2 hp]; omega
theorem cnt_lt {P Q : Nat → Bool} {n j : Nat} (h : ∀ i, i < n → P i = true → Q i = true) (hj : j < n) (hQ : Q j = true) (hP : P j = false) : cnt P n < cnt Q n := by
  induction n with
  | zero => omega
  | succ k ih =>
    simp only [cnt]
    by_cases e : j = k
    · subst e
      have := cnt_mono (n := j) (fun i hi => h i (by omega))
      simp [hQ, hP]; omega
    · have h1 := ih (fun i hi => h i (by omega)) (by omega)
      have h2 := h k (by omega)
      cases hp : P k with
      | false => simp; omega
      | true => simp [h2 hp]; omega
theorem cnt_false {P : Nat → Bool} {n : Nat} (h : ∀ i, i < n → P i = false) : cnt P n = 0 := by
  induction n with
  | zero => rfl
  | succ k ih => simp only [cnt]; rw [ih (fun i hi => h i (by omega)), h k (by omega)]; rfl
theorem cnt_true {P : Nat → Bool} {n : Nat} (h : ∀ i, i < n → P i = true) : cnt P n = n := by
  induction n with
  | zero => rfl
  | succ k ih => simp only [cnt]; rw [ih (fun i hi => h i (by omega)), h k (by omega)]; rfl
theorem cnt_one {P : Nat → Bool} {n : Nat} (h : ∀ i j, i < n → j < n → P i = true → P j = true → i = j) : cnt P n ≤ 1 := by
  induction n with
  | zero => simp [cnt]
  | succ k ih =>
    simp only [cnt]
    cases hp : P k with
    | false => simp; exact ih (fun i j hi hj => h i j (by omega) (by omega))
    | true =>
      have : cnt P k = 0 := cnt_false (fun i hi => by
        cases hi' : P i with
        | false => rfl
        | true => have := h i k (by omega) (by omega) hi' hp; omega)
      simp [this]
theorem cnt_or {P Q R : Nat → Bool} {n : Nat} (h : ∀ i, i < n → R i = true → P i = true ∨ Q i = true) : cnt R n ≤ cnt P n + cnt Q n := by
  induction n with
  | zero => simp [cnt]
  | succ k ih =>
    have h1 := ih (fun i hi => h i (by omega))
    have h2 := h k (by omega)
    simp only [cnt]
    cases hr : R k with
    | false => simp; omega
    | true => rcases h2 hr with h3 | h3 <;> simp [h3] <;> omega

/- the places are 0 .. n - 1, each once -/
theorem place_lt {Z : Nat → Int} {n i j : Nat} (hj : j < n) (h : aheadB Z i j = true) : place Z n j < place Z n i := by
  unfold place
  rw [ahead_iff] at h
  refine cnt_lt (j := j) (fun x _ hx => ?_) hj ((ahead_iff Z i j).2 h) ?_
  · rw [ahead_iff] at hx ⊢; omega
  · rw [← Bool.not_eq_true, ahead_iff]; omega
theorem ahead_total {Z : Nat → Int} {i j : Nat} (h : i ≠ j) : aheadB Z i j = true ∨ aheadB Z j i = true := by
  rw [ahead_iff, ahead_iff]; omega
theorem place_inj {Z : Nat → Int} {n i j : Nat} (hi : i < n) (hj : j < n) (h : place Z n i = place Z n j) : i = j := by
  apply Classical.byContradiction
  intro hne
  rcases ahead_total (Z := Z) hne with h1 | h1
  · have := place_lt hj h1; omega
  · have := place_lt hi h1; omega
theorem place_bd {Z : Nat → Int} {n i : Nat} (hi : i < n) : place Z n i < n := by
  have h := cnt_lt (P := aheadB Z i) (Q := fun _ => true) (n := n) (j := i) (fun _ _ _ => rfl) hi rfl (by rw [← Bool.not_eq_true, ahead_iff]; omega)
  rw [cnt_true (fun _ _ => rfl)] at h
  exact h
theorem cnt_step (Z : Nat → Int) (n m : Nat) : cnt (fun i => decide (place Z n i < m + 1)) n ≤ cnt (fun i => decide (place Z n i < m)) n + 1 := by
  have h1 := cnt_or (n := n) (R := fun i => decide (place Z n i < m + 1)) (P := fun i => decide (place Z n i < m)) (Q := fun i => decide (place Z n i = m)) (fun i _ h => by simp at h ⊢; omega)
  have h2 : cnt (fun i => decide (place Z n i = m)) n ≤ 1 := cnt_one (fun i j hi hj h3 h4 => place_inj (Z := Z) hi hj (by simp at h3 h4; omega))
  omega
theorem cnt_place_le (Z : Nat → Int) (n m : Nat) : cnt (fun i => decide (place Z n i < m)) n ≤ m := by
  induction m with
  | zero => rw [cnt_false (fun i _ => by simp)]; omega
  | succ k ih => have := cnt_step Z n k; omega
theorem cnt_place_ge (Z : Nat → Int) (n j : Nat) : ∀ m, m + j = n → m ≤ cnt (fun i => decide (place Z n i < m)) n := by
  induction j with
  | zero =>
    intro m hm
    rw [cnt_true (fun i hi => by have := place_bd (Z := Z) hi; simp; omega)]; omega
  | succ j ih =>
    intro m hm
    have h1 := ih (m + 1) (by omega)
    have h2 := cnt_step Z n m
    omega
theorem cnt_place (Z : Nat → Int) {n m : Nat} (h : m ≤ n) : cnt (fun i => decide (place Z n i < m)) n = m :=
  Nat.le_antisymm (cnt_place_le Z n m) (cnt_place_ge Z n (n - m) m (by omega))

/- sums over the list, and over its indices -/
theorem getD_at {l : List Ord} {k : Nat} (h : k < l.length) : l.getD k ozero = l[k] := by simp [List.getD, List.getElem?_eq_getElem h]
theorem sumf_take_n (f : Ord → Int) (l : List Ord) (k : Nat) (h : k ≤ l.length) : sumf f (l.take k) = sumn (fun i => f (l.getD i ozero)) k := by
  induction k with
  | zero => simp [sumf, sumn]
  | succ k ih => rw [sumf_take_succ f l k (by omega), ih (by omega)]; simp only [sumn]; rw [getD_at (by omega)]
theorem sumf_n (f : Ord → Int) (l : List Ord) : sumf f l = sumn (fun i => f (l.getD i ozero)) l.length := by
  have := sumf_take_n f l l.length (Nat.le_refl _); rwa [List.take_length] at this

/-- the sum over one side -/
def sideSum (l : List Ord) (b : Bool) (f : Nat → Int) : Int := sumn (fun i => if (l.getD i ozero).sell = b then f i else 0) l.length
def sideT (d s : Int) (b : Bool) : Int := if b then s else d
def side (l : List Ord) (b : Bool) (p : Int) : Int := sumf (sideq b p) l

theorem sides_add (l : List Ord) (f : Nat → Int) : sumn f l.length = sideSum l false f + sideSum l true f := by
  unfold sideSum
  rw [← sumn_add]
  refine sumn_congr (fun i _ => ?_)
  cases (l.getD i ozero).sell <;> simp

/-- an order's equation: its slots times V are what it gets times its side's sum, and what it lost -/
theorem order_eq {d s p : Int} (h1 : 1 ≤ d) (h2 : 1 ≤ s) (o : Ord) (b : Bool) :
    less d s * sideq b p o = sideT d s b * (if o.sell = b then shareo d s p o else 0) + (if o.sell = b then losto d s p o else 0) := by
  obtain ⟨sl, pr, q⟩ := o
  by_cases hb : sl = b
  · subst hb
    have ht : tot d s ⟨sl, pr, q⟩ = sideT d s sl := rfl
    have h3 : 1 ≤ sideT d s sl := by unfold sideT; split <;> assumption
    rw [sideq_mk]
    rcases Bool.eq_false_or_eq_true (willB sl pr p) with hw | hw
    · obtain ⟨e1, e2⟩ := share_yes (d := d) (s := s) (p := p) (o := ⟨sl, pr, q⟩) (by rw [ht]; exact h3) hw
      rw [e1, e2, ht, hw]
      simp only [beq_self_eq_true, Bool.and_self, if_true]
      rw [Int.mul_ediv_add_emod]
    · obtain ⟨e1, e2⟩ := share_no (d := d) (s := s) (p := p) (o := ⟨sl, pr, q⟩) (.inr hw)
      rw [e1, e2, hw]; simp
  · rw [sideq_mk]; simp [hb]

theorem side_eq {l : List Ord} {d s p : Int} (h1 : 1 ≤ d) (h2 : 1 ≤ s) (b : Bool) :
    less d s * side l b p = sideT d s b * sideSum l b (G0 l d s p) + sideSum l b (L0 l d s p) := by
  unfold side sideSum
  rw [sumf_n, ← sumn_mul, ← sumn_mul, ← sumn_add]
  exact sumn_congr (fun i _ => order_eq h1 h2 _ b)

/-- what is lost lies below its side's sum; nothing is lost by the unwilling, nor where V is the side's sum -/
theorem losto_bd {d s p : Int} (h1 : 1 ≤ d) (h2 : 1 ≤ s) (o : Ord) : 0 ≤ losto d s p o ∧ losto d s p o < tot d s o := by
  have ht : 1 ≤ tot d s o := by unfold tot; split <;> assumption
  unfold losto
  split
  · omega
  · exact ⟨Int.emod_nonneg _ (by omega), Int.emod_lt_of_pos _ (by omega)⟩
theorem losto_short {d s p : Int} (o : Ord) (h : tot d s o = less d s) : losto d s p o = 0 := by
  unfold losto
  split
  · rfl
  · rw [h]; exact Int.mul_emod_right _ _

end Mk

/- Plain mathematics: both sides get V; who gets one more. -/
namespace Mk

theorem side_is (l : List Ord) (p : Int) (b : Bool) : side l b p = sideT (dem l p) (sup l p) b := by cases b <;> rfl

section
variable {l : List Ord} {p : Int}

/-- the side whose sum is the greater -/
def long (l : List Ord) (p : Int) : Bool := decide (dem l p < sup l p)

theorem one_le (hV : 1 ≤ vol l p) : 1 ≤ dem l p ∧ 1 ≤ sup l p := by
  unfold vol less at hV; split at hV <;> omega
theorem short_T : sideT (dem l p) (sup l p) (!long l p) = vol l p := by
  unfold long vol less sideT
  by_cases h : dem l p < sup l p <;> simp [h]

theorem tot_of (o : Ord) : tot (dem l p) (sup l p) o = sideT (dem l p) (sup l p) o.sell := rfl

theorem L0_short (i : Nat) (h : (l.getD i ozero).sell = !long l p) : L0 l (dem l p) (sup l p) p i = 0 := by
  unfold L0
  refine losto_short _ ?_
  rw [tot_of, h, short_T]; rfl
theorem L0_bd (hV : 1 ≤ vol l p) (i : Nat) : 0 ≤ L0 l (dem l p) (sup l p) p i ∧ L0 l (dem l p) (sup l p) p i < sideT (dem l p) (sup l p) (long l p) := by
  obtain ⟨h1, h2⟩ := one_le hV
  by_cases h : (l.getD i ozero).sell = long l p
  · have := losto_bd (p := p) h1 h2 (l.getD i ozero)
    rw [tot_of, h] at this
    exact this
  · have h' : (l.getD i ozero).sell = !long l p := by
      revert h; cases (l.getD i ozero).sell <;> cases long l p <;> simp
    rw [L0_short i h']
    have : 1 ≤ sideT (dem l p) (sup l p) (long l p) := by unfold sideT; split <;> assumption
    omega

theorem short_sum (hV : 1 ≤ vol l p) : sideSum l (!long l p) (G0 l (dem l p) (sup l p) p) = vol l p := by
  obtain ⟨h1, h2⟩ := one_le hV
  have e := side_eq (l := l) (p := p) h1 h2 (!long l p)
  rw [side_is, short_T] at e
  have hB : sideSum l (!long l p) (L0 l (dem l p) (sup l p) p) = 0 := by
    unfold sideSum
    refine sumn_zero (fun i _ => ?_)
    by_cases h : (l.getD i ozero).sell = !long l p
    · rw [if_pos h, L0_short i h]
    · rw [if_neg h]
  rw [hB, Int.add_zero] at e
  have hv : vol l p ≠ 0 := by omega
  exact (Int.eq_of_mul_eq_mul_left hv (show vol l p * vol l p = _ from e)).symm

theorem long_eq (hV : 1 ≤ vol l p) : sideT (dem l p) (sup l p) (long l p) * (vol l p - sideSum l (long l p) (G0 l (dem l p) (sup l p) p)) = sumn (L0 l (dem l p) (sup l p) p) l.length := by
  obtain ⟨h1, h2⟩ := one_le hV
  have e := side_eq (l := l) (p := p) h1 h2 (long l p)
  rw [side_is] at e
  have hS := sides_add l (L0 l (dem l p) (sup l p) p)
  have hB : sideSum l (!long l p) (L0 l (dem l p) (sup l p) p) = 0 := by
    unfold sideSum
    refine sumn_zero (fun i _ => ?_)
    by_cases h : (l.getD i ozero).sell = !long l p
    · rw [if_pos h, L0_short i h]
    · rw [if_neg h]
  have hS' : sumn (L0 l (dem l p) (sup l p) p) l.length = sideSum l (long l p) (L0 l (dem l p) (sup l p) p) := by
    rw [hS]; revert hB; cases long l p <;> simp <;> omega
  rw [hS', Int.mul_sub]
  have e' : vol l p * sideT (dem l p) (sup l p) (long l p) = sideT (dem l p) (sup l p) (long l p) * sideSum l (long l p) (G0 l (dem l p) (sup l p) p) + sideSum l (long l p) (L0 l (dem l p) (sup l p) p) := e
  rw [Int.mul_comm (sideT _ _ _) (vol l p)]
  omega

theorem left_is (hV : 1 ≤ vol l p) : left0 l (dem l p) (sup l p) p = vol l p - sideSum l (long l p) (G0 l (dem l p) (sup l p) p) := by
  have h1 := sides_add l (G0 l (dem l p) (sup l p) p)
  have h2 := short_sum hV
  unfold left0
  rw [h1]
  show 2 * vol l p - _ = _
  revert h2; cases long l p <;> simp <;> omega

/-- how many lost something -/
def losers (l : List Ord) (p : Int) : Nat := cnt (fun i => decide (0 < L0 l (dem l p) (sup l p) p i)) l.length

theorem lost_le {Z : Nat → Int} {T : Int} {n : Nat} (h : ∀ i, i < n → 0 ≤ Z i ∧ Z i < T) : sumn Z n ≤ (T - 1) * (cnt (fun i => decide (0 < Z i)) n : Int) := by
  induction n with
  | zero => simp [sumn, cnt]
  | succ k ih =>
    have h1 := ih (fun i hi => h i (by omega))
    have h2 := h k (by omega)
    simp only [sumn, cnt]
    by_cases hz : 0 < Z k
    · simp only [hz, decide_true, if_true]
      rw [Int.natCast_add, Int.mul_add]; simp; omega
    · simp only [hz, decide_false]
      simp; omega

theorem left_bd (hV : 1 ≤ vol l p) : 0 ≤ left0 l (dem l p) (sup l p) p ∧ left0 l (dem l p) (sup l p) p ≤ losers l p := by
  obtain ⟨h1, h2⟩ := one_le hV
  have hT : 1 ≤ sideT (dem l p) (sup l p) (long l p) := by unfold sideT; split <;> assumption
  have e := long_eq hV
  rw [← left_is hV] at e
  have hs := sumn_nonneg (n := l.length) (fun i _ => (L0_bd hV i).1)
  have hl := lost_le (n := l.length) (fun i _ => L0_bd hV i)
  rw [← e] at hs hl
  unfold losers
  generalize sideT (dem l p) (sup l p) (long l p) = T at *
  generalize left0 l (dem l p) (sup l p) p = x at *
  generalize hc : cnt (fun i => decide (0 < L0 l (dem l p) (sup l p) p i)) l.length = c at *
  constructor
  · apply Classical.byContradiction
    intro hx
    have h3 : T * x ≤ T * (-1) := Int.mul_le_mul_of_nonneg_left (by omega) (by omega)
    omega
  · apply Classical.byContradiction
    intro hx
    have h3 : T * ((c : Int) + 1) ≤ T * x := Int.mul_le_mul_of_nonneg_left (by omega) (by omega)
    rw [Int.mul_add] at h3
    rw [Int.sub_mul] at hl
    omega

/-- who lost nothing gets none more -/
theorem more_lost (hV : 1 ≤ vol l p) {i : Nat} (h : (place (L0 l (dem l p) (sup l p) p) l.length i : Int) < left0 l (dem l p) (sup l p) p) : 0 < L0 l (dem l p) (sup l p) p i := by
  apply Classical.byContradiction
  intro hz
  have hb := L0_bd hV i
  have h1 : losers l p ≤ place (L0 l (dem l p) (sup l p) p) l.length i := by
    unfold losers place
    refine cnt_mono (fun j _ hj => ?_)
    rw [ahead_iff]
    simp at hj
    omega
  have h2 := (left_bd hV).2
  omega

/-- what is handed out besides -/
def more (l : List Ord) (p : Int) (i : Nat) : Int := if (place (L0 l (dem l p) (sup l p) p) l.length i : Int) < left0 l (dem l p) (sup l p) p then 1 else 0

theorem more_all (hV : 1 ≤ vol l p) : sumn (more l p) l.length = left0 l (dem l p) (sup l p) p := by
  obtain ⟨h1, h2⟩ := left_bd hV
  obtain ⟨m, hm⟩ := Int.eq_ofNat_of_zero_le h1
  have h3 : losers l p ≤ l.length := cnt_le _ _
  have hc := cnt_place (L0 l (dem l p) (sup l p) p) (n := l.length) (m := m) (by omega)
  have e : sumn (more l p) l.length = sumn (fun i => if (fun i => decide (place (L0 l (dem l p) (sup l p) p) l.length i < m)) i then 1 else 0) l.length := by
    refine sumn_congr (fun i _ => ?_)
    unfold more
    rw [hm]
    by_cases h : place (L0 l (dem l p) (sup l p) p) l.length i < m
    · rw [if_pos (by omega), if_pos (by simpa using h)]
    · rw [if_neg (by omega), if_neg (by simpa using h)]
  rw [e, sumn_cnt, hc, hm]

theorem more_side (hV : 1 ≤ vol l p) {i : Nat} (h : (l.getD i ozero).sell ≠ long l p) : more l p i = 0 := by
  unfold more
  rw [if_neg]
  intro h1
  have h2 := more_lost hV h1
  rw [L0_short i (by revert h; cases (l.getD i ozero).sell <;> cases long l p <;> simp)] at h2
  omega

/-- BOTH SIDES GET V TOGETHER -/
theorem side_total (hV : 1 ≤ vol l p) (b : Bool) : sideSum l b (getsf l (dem l p) (sup l p) p) = vol l p := by
  have e : sideSum l b (getsf l (dem l p) (sup l p) p) = sideSum l b (G0 l (dem l p) (sup l p) p) + sideSum l b (more l p) := by
    unfold sideSum
    rw [← sumn_add]
    refine sumn_congr (fun i _ => ?_)
    by_cases h : (l.getD i ozero).sell = b
    · rw [if_pos h, if_pos h, if_pos h]; rfl
    · rw [if_neg h, if_neg h, if_neg h]; rfl
  rw [e]
  have hm := more_all hV
  have hl := left_is hV
  by_cases hb : b = long l p
  · subst hb
    have : sideSum l (long l p) (more l p) = sumn (more l p) l.length := by
      unfold sideSum
      refine sumn_congr (fun i _ => ?_)
      by_cases h : (l.getD i ozero).sell = long l p
      · rw [if_pos h]
      · rw [if_neg h, more_side hV h]
    rw [this, hm, hl]; omega
  · have hb' : b = !long l p := by revert hb; cases b <;> cases long l p <;> simp
    subst hb'
    have : sideSum l (!long l p) (more l p) = 0 := by
      unfold sideSum
      refine sumn_zero (fun i _ => ?_)
      by_cases h : (l.getD i ozero).sell = !long l p
      · rw [if_pos h, more_side hV (by rw [h]; cases long l p <;> simp)]
      · rw [if_neg h]
    rw [this, short_sum hV]; omega

end
end Mk

/- Plain mathematics: nobody is wronged. -/
namespace Mk

section
variable {l : List Ord} {p : Int}

theorem more_01 (i : Nat) : more l p i = 0 ∨ more l p i = 1 := by unfold more; split <;> simp
theorem getsf_more (i : Nat) : getsf l (dem l p) (sup l p) p i = G0 l (dem l p) (sup l p) p i + more l p i := rfl

theorem getsf_bd (hv : validB 20 l = true) (i : Nat) : 0 ≤ getsf l (dem l p) (sup l p) p i ∧ getsf l (dem l p) (sup l p) p i ≤ 4801 := by
  have h1 := G0_bd (p := p) hv (dem_bd hv p) (sup_bd hv p) i
  have h2 := more_01 (l := l) (p := p) i
  rw [getsf_more]; omega

/-- a willing order's equation -/
theorem will_eq (hV : 1 ≤ vol l p) {i : Nat} (hi : i < l.length) (hw : willB l[i].sell l[i].price p = true) :
    vol l p * l[i].qty = sideT (dem l p) (sup l p) l[i].sell * G0 l (dem l p) (sup l p) p i + L0 l (dem l p) (sup l p) p i ∧
    0 ≤ L0 l (dem l p) (sup l p) p i ∧ L0 l (dem l p) (sup l p) p i < sideT (dem l p) (sup l p) l[i].sell := by
  obtain ⟨h1, h2⟩ := one_le hV
  have e := order_eq (p := p) h1 h2 l[i] l[i].sell
  simp only [if_true, sideq, hw, beq_self_eq_true, Bool.and_self] at e
  have hb := losto_bd (p := p) h1 h2 l[i]
  rw [← L0_at hi, tot_of] at hb
  rw [← L0_at hi, ← G0_at hi] at e
  exact ⟨e, hb⟩

/-- who is not willing gets nothing -/
theorem unwilling (hV : 1 ≤ vol l p) {i : Nat} (hi : i < l.length) (hw : willB l[i].sell l[i].price p = false) : getsf l (dem l p) (sup l p) p i = 0 := by
  obtain ⟨e1, e2⟩ := share_no (d := dem l p) (s := sup l p) (p := p) (o := l[i]) (.inr hw)
  rw [← G0_at hi] at e1
  rw [← L0_at hi] at e2
  rw [getsf_more, e1]
  have : more l p i = 0 := by
    unfold more
    rw [if_neg]
    intro h
    have := more_lost hV h
    omega
  omega

theorem fair_fact (hV : 1 ≤ vol l p) {i k : Nat} (hi : i < l.length) (hk : k < l.length) (hwi : willB l[i].sell l[i].price p = true) (hwk : willB l[k].sell l[k].price p = true)
    {t fi fk : Int} (ht : t = sideT (dem l p) (sup l p) l[i].sell) (hfi : fi = getsf l (dem l p) (sup l p) p i) (hfk : fk = getsf l (dem l p) (sup l p) p k) :
    vol l p * l[i].qty - fi * t < t ∧ -t < vol l p * l[i].qty - fi * t ∧
    (l[i].sell ≠ l[k].sell ∨ vol l p * l[i].qty < fi * t ∨ vol l p * l[i].qty - fi * t = 0 ∨ fk * t ≤ vol l p * l[k].qty ∨ vol l p * l[i].qty - fi * t < vol l p * l[k].qty - fk * t + t ∨ (vol l p * l[k].qty - fk * t + t = vol l p * l[i].qty - fi * t ∧ k < i)) := by
  obtain ⟨ei, bi1, bi2⟩ := will_eq hV hi hwi
  obtain ⟨ek, bk1, bk2⟩ := will_eq hV hk hwk
  rw [← ht] at ei bi2
  have fi_eq : fi * t = t * G0 l (dem l p) (sup l p) p i + more l p i * t := by rw [hfi, getsf_more, Int.add_mul, Int.mul_comm t]
  have hmi : more l p i = 0 ∨ more l p i = 1 ∧ 0 < L0 l (dem l p) (sup l p) p i := by
    by_cases h : (place (L0 l (dem l p) (sup l p) p) l.length i : Int) < left0 l (dem l p) (sup l p) p
    · exact .inr ⟨by unfold more; rw [if_pos h], more_lost hV h⟩
    · exact .inl (by unfold more; rw [if_neg h])
  rcases hmi with hmi | ⟨hmi, hz⟩
  · rw [hmi, Int.zero_mul, Int.add_zero] at fi_eq
    rw [fi_eq, ei]
    generalize hX : t * G0 l (dem l p) (sup l p) p i = X at *
    refine ⟨by omega, by omega, ?_⟩
    by_cases hs : l[i].sell = l[k].sell
    · by_cases hz : L0 l (dem l p) (sup l p) p i = 0
      · exact .inr (.inr (.inl (by omega)))
      · rw [← hs, ← ht] at ek
        have fk_eq : fk * t = t * G0 l (dem l p) (sup l p) p k + more l p k * t := by rw [hfk, getsf_more, Int.add_mul, Int.mul_comm t]
        rw [fk_eq, ek]
        generalize hY : t * G0 l (dem l p) (sup l p) p k = Y at *
        rcases more_01 (l := l) (p := p) k with hmk | hmk
        · rw [hmk, Int.zero_mul]
          exact .inr (.inr (.inr (.inl (by omega))))
        · rw [hmk, Int.one_mul]
          have h1 : (place (L0 l (dem l p) (sup l p) p) l.length k : Int) < left0 l (dem l p) (sup l p) p := by
            apply Classical.byContradiction
            intro h
            unfold more at hmk
            rw [if_neg h] at hmk
            omega
          have h2 : ¬ (place (L0 l (dem l p) (sup l p) p) l.length i : Int) < left0 l (dem l p) (sup l p) p := by
            intro h
            unfold more at hmi
            rw [if_pos h] at hmi
            omega
          have hne : i ≠ k := by intro h; subst h; omega
          rcases ahead_total (Z := L0 l (dem l p) (sup l p) p) hne with h3 | h3
          · rw [ahead_iff] at h3
            rcases h3 with h3 | ⟨h3, h4⟩
            · exact .inr (.inr (.inr (.inr (.inl (by omega)))))
            · exact .inr (.inr (.inr (.inr (.inr ⟨by omega, h4⟩))))
          · have := place_lt hi h3
            omega
    · exact .inl hs
  · rw [hmi, Int.one_mul] at fi_eq
    rw [fi_eq, ei]
    generalize hX : t * G0 l (dem l p) (sup l p) p i = X at *
    exact ⟨by omega, by omega, .inr (.inl (by omega))⟩

end
end Mk
