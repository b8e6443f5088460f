import Derived.Test.YtmebcdpdpcpnmaaGreatDoorJ1
import Derived.Deep.RegionWith
/- Plain mathematics: what each order gets. -/
namespace Mk

def tot (d s : Int) (o : Ord) : Int := if o.sell then s else d
def offB (d s p : Int) (o : Ord) : Bool := decide (tot d s o < 1) || !willB o.sell o.price p
def shareo (d s p : Int) (o : Ord) : Int := if offB d s p o then 0 else less d s * o.qty / tot d s o
def losto (d s p : Int) (o : Ord) : Int := if offB d s p o then 0 else less d s * o.qty % tot d s o
def ozero : Ord := ⟨false, 0, 0⟩
def G0 (l : List Ord) (d s p : Int) (i : Nat) : Int := shareo d s p (l.getD i ozero)
def L0 (l : List Ord) (d s p : Int) (i : Nat) : Int := losto d s p (l.getD i ozero)
def left0 (l : List Ord) (d s p : Int) : Int := 2 * less d s - sumn (G0 l d s p) l.length
def getsf (l : List Ord) (d s p : Int) (i : Nat) : Int := G0 l d s p i + if (place (L0 l d s p) l.length i : Int) < left0 l d s p then 1 else 0

theorem less_bd {d s : Int} (h1 : 0 ≤ d ∧ d ≤ 240) (h2 : 0 ≤ s ∧ s ≤ 240) : 0 ≤ less d s ∧ less d s ≤ 240 := by unfold less; split <;> omega
theorem mul_bd {v q : Int} (h1 : 0 ≤ v ∧ v ≤ 240) (h2 : 0 ≤ q ∧ q ≤ 20) : 0 ≤ v * q ∧ v * q ≤ 4800 := by
  refine ⟨Int.mul_nonneg h1.1 h2.1, ?_⟩
  calc v * q ≤ 240 * q := Int.mul_le_mul_of_nonneg_right h1.2 h2.1
    _ ≤ 240 * 20 := Int.mul_le_mul_of_nonneg_left h2.2 (by omega)
    _ = 4800 := by omega
theorem div_bd {a t : Int} (h1 : 0 ≤ a ∧ a ≤ 4800) (h : 1 ≤ t) : 0 ≤ a / t ∧ a / t ≤ 4800 := by
  refine ⟨Int.ediv_nonneg h1.1 (by omega), ?_⟩
  exact Int.le_trans (Int.ediv_le_self t h1.1) h1.2
theorem shareo_bd {d s p : Int} {o : Ord} (h1 : 0 ≤ d ∧ d ≤ 240) (h2 : 0 ≤ s ∧ s ≤ 240) (hq : 0 ≤ o.qty ∧ o.qty ≤ 20) : 0 ≤ shareo d s p o ∧ shareo d s p o ≤ 4800 := by
  unfold shareo
  split
  · omega
  · rename_i h
    have : 1 ≤ tot d s o := by
      simp only [offB, Bool.or_eq_true, decide_eq_true_eq, not_or] at h; omega
    exact div_bd (mul_bd (less_bd h1 h2) hq) this
theorem G0_bd {l : List Ord} {d s p : Int} (hv : validB 20 l = true) (h1 : 0 ≤ d ∧ d ≤ 240) (h2 : 0 ≤ s ∧ s ≤ 240) (i : Nat) : 0 ≤ G0 l d s p i ∧ G0 l d s p i ≤ 4800 := by
  unfold G0
  refine shareo_bd h1 h2 ?_
  by_cases h : i < l.length
  · have := (ok_of_valid hv).2 l[i] (List.getElem_mem h)
    simp [List.getD, List.getElem?_eq_getElem h]; omega
  · simp [List.getD, List.getElem?_eq_none (Nat.le_of_not_lt h), ozero]
theorem sumn_bd (f : Nat → Int) (B : Int) (h : ∀ i, 0 ≤ f i ∧ f i ≤ B) (n : Nat) : 0 ≤ sumn f n ∧ sumn f n ≤ B * n := by
  induction n with
  | zero => simp [sumn]
  | succ k ih =>
    have := h k
    have e : B * ((k + 1 : Nat) : Int) = B * (k : Int) + B := by rw [Int.natCast_add, Int.mul_add]; simp
    simp only [sumn]
    omega
theorem G0_at {l : List Ord} {d s p : Int} {k : Nat} (h : k < l.length) : G0 l d s p k = shareo d s p l[k] := by simp [G0, List.getD, List.getElem?_eq_getElem h]
theorem L0_at {l : List Ord} {d s p : Int} {k : Nat} (h : k < l.length) : L0 l d s p k = losto d s p l[k] := by simp [L0, List.getD, List.getElem?_eq_getElem h]

theorem share_no {d s p : Int} {o : Ord} (h : tot d s o < 1 ∨ willB o.sell o.price p = false) : shareo d s p o = 0 ∧ losto d s p o = 0 := by
  have : offB d s p o = true := by simp only [offB, Bool.or_eq_true, decide_eq_true_eq, Bool.not_eq_true']; exact h
  simp [shareo, losto, this]
theorem share_yes {d s p : Int} {o : Ord} (h1 : 1 ≤ tot d s o) (h2 : willB o.sell o.price p = true) : shareo d s p o = less d s * o.qty / tot d s o ∧ losto d s p o = less d s * o.qty % tot d s o := by
  have : offB d s p o = false := by simp only [offB, Bool.or_eq_false_iff, decide_eq_false_iff_not, h2]; exact ⟨by omega, rfl⟩
  simp [shareo, losto, this]
theorem step_off {G : Nat → Int} {k : Nat} (h : G k = 0) (i : Nat) : (if i < k then G i else 0) = if i < k + 1 then G i else 0 := by
  by_cases e : i = k
  · subst e; simp [h]
  · by_cases h1 : i < k
    · rw [if_pos h1, if_pos (by omega)]
    · rw [if_neg h1, if_neg (by omega)]
theorem step_on {G : Nat → Int} {k : Nat} {v : Int} (h : G k = v) (i : Nat) : (if i = k then v else if i < k then G i else 0) = if i < k + 1 then G i else 0 := by
  by_cases e : i = k
  · subst e; simp [h]
  · rw [if_neg e]
    by_cases h1 : i < k
    · rw [if_pos h1, if_pos (by omega)]
    · rw [if_neg h1, if_neg (by omega)]
theorem tot_bd {d s : Int} {o : Ord} (h1 : 0 ≤ d ∧ d ≤ 240) (h2 : 0 ≤ s ∧ s ≤ 240) : 0 ≤ tot d s o ∧ tot d s o ≤ 240 := by unfold tot; split <;> assumption

theorem getsf_yes {l : List Ord} {d s p : Int} {k : Nat} (h : (place (L0 l d s p) l.length k : Int) < 2 * less d s - sumn (G0 l d s p) l.length) : getsf l d s p k = G0 l d s p k + 1 := by
  unfold getsf left0; rw [if_pos h]
theorem getsf_no {l : List Ord} {d s p : Int} {k : Nat} (h : ¬ (place (L0 l d s p) l.length k : Int) < 2 * less d s - sumn (G0 l d s p) l.length) : getsf l d s p k = G0 l d s p k := by
  unfold getsf left0; rw [if_neg h]; omega
theorem step2_off {G F : Nat → Int} {k : Nat} (h : F k = G k) (i : Nat) : (if i < k then F i else G i) = if i < k + 1 then F i else G i := by
  by_cases e : i = k
  · subst e; simp [h]
  · by_cases h1 : i < k
    · rw [if_pos h1, if_pos (by omega)]
    · rw [if_neg h1, if_neg (by omega)]
theorem step2_on {G F : Nat → Int} {k : Nat} {v : Int} (h : F k = v) (i : Nat) : (if i = k then v else if i < k then F i else G i) = if i < k + 1 then F i else G i := by
  by_cases e : i = k
  · subst e; simp [h]
  · rw [if_neg e]
    by_cases h1 : i < k
    · rw [if_pos h1, if_pos (by omega)]
    · rw [if_neg h1, if_neg (by omega)]

end Mk

namespace Go.Proofs.YtmebcdpdpcpnmaaGreatDoor
open Go.RowKit

theorem row_below {w w' : World} {b n m : Nat} {t : TypeId} {f : Nat → Value} (h : w.rowIs b t n f) (hb : Below m w w') (hm : b < m) : w'.rowIs b t n f := h.of_block (hb.block b hm)

/-- the memory of 'shares': the level's box, the row 'gets', the row 'lost' -/
structure Sh (w wr : World) (n : Nat) (p d s : Int) (G L : Nat → Int) : Prop where
  below : Below w.heap.size w wr
  lv : LvAt wr w.heap.size p d s
  gets : wr.rowIs (w.heap.size + 1) 3 n (fun i => .int .i64 (G i))
  lost : wr.rowIs (w.heap.size + 1 + 1) 3 n (fun i => .int .i64 (L i))

theorem Sh.next {w wr w' : World} {n : Nat} {p d s : Int} {G L : Nat → Int} (h : Sh w wr n p d s G L) (hb : Below wr.heap.size wr w') : Sh w w' n p d s G L :=
  ⟨h.below.trans (hb.mono h.below.size), h.lv.below hb h.lv.lt, row_below h.gets hb h.gets.lt, row_below h.lost hb h.lost.lt⟩
theorem Sh.alloc {w wr : World} {n : Nat} {p d s : Int} {G L : Nat → Int} (h : Sh w wr n p d s G L) (o : Obj) : Sh w (wr.alloc o) n p d s G L :=
  h.next ((Below.refl _ _).alloc (Nat.le_refl _) o)
theorem Sh.setG {w wr : World} {n : Nat} {p d s : Int} {G L : Nat → Int} (h : Sh w wr n p d s G L) (i : Nat) (v : Int) : Sh w (wr.setCell ⟨w.heap.size + 1, i, none⟩ (.int .i64 v)) n p d s (fun j => if j = i then v else G j) L :=
  ⟨h.below.setCell (by simp) _, h.lv.setOther _ (by omega), (h.gets.set i (.int .i64 v)).congr (fun j _ => by by_cases e : j = i <;> simp [e]), h.lost.setOther (by simp) _⟩
theorem Sh.setL {w wr : World} {n : Nat} {p d s : Int} {G L : Nat → Int} (h : Sh w wr n p d s G L) (i : Nat) (v : Int) : Sh w (wr.setCell ⟨w.heap.size + 1 + 1, i, none⟩ (.int .i64 v)) n p d s G (fun j => if j = i then v else L j) :=
  ⟨h.below.setCell (by show w.heap.size ≤ w.heap.size + 1 + 1; omega) _, h.lv.setOther _ (by omega), h.gets.setOther (by simp) _, (h.lost.set i (.int .i64 v)).congr (fun j _ => by by_cases e : j = i <;> simp [e])⟩
theorem Sh.congr {w wr : World} {n : Nat} {p d s : Int} {G L G' L' : Nat → Int} (h : Sh w wr n p d s G L) (hG : ∀ i, i < n → G i = G' i) (hL : ∀ i, i < n → L i = L' i) : Sh w wr n p d s G' L' :=
  ⟨h.below, h.lv, h.gets.congr (fun i hi => by rw [hG i hi]), h.lost.congr (fun i hi => by rw [hL i hi])⟩

theorem Tryz.infoInt : (Tryz.prog.info? 3).map (fun i => (i.zero, i.size, i.bytes)) = some (some (.int .i64 0), 1, 8) := by kernel_rfl

theorem sideTotal_tot (p d s : Int) (b : Bool) (pr q : Int) (w : World) :
    Calls Tryz.prog 90 #[.agg #[.int .i64 p, .int .i64 d, .int .i64 s], .agg #[.bool b, .int .i64 pr, .int .i64 q]] w fun e w' =>
      e = .returned (.int .i64 (Mk.tot d s ⟨b, pr, q⟩)) ∧ w' = (w.alloc (.cells #[.int .i64 p, .int .i64 d, .int .i64 s] 126)).alloc (.cells #[.bool b, .int .i64 pr, .int .i64 q] 123) :=
  sideTotal_any p d s b pr q w

set_option maxHeartbeats 1000000 in
theorem shares_some (b off cap : Nat) (l : List Mk.Ord) (p d s : Int) (w : World) (hv : Mk.validB 20 l = true) (bd : 0 ≤ d ∧ d ≤ 240) (bs : 0 ≤ s ∧ s ≤ 240) (hR : At w b off l) :
    Calls Tryz.prog 60 #[.agg #[.int .i64 p, .int .i64 d, .int .i64 s], .slice (some ⟨b, off, none⟩) l.length cap] w fun e w' =>
      e = .returned (.slice (some ⟨w.heap.size + 1, 0, none⟩) l.length l.length) ∧ Below w.heap.size w w' ∧ w'.rowIs (w.heap.size + 1) 3 l.length (fun i => .int .i64 (Mk.getsf l d s p i)) := by
  obtain ⟨h12, hok⟩ := Mk.ok_of_valid hv
  have HV : Hid (Mk.validB 20 l = true) := hv
  have HO : Hid (∀ o ∈ l, 1 ≤ o.price ∧ o.price ≤ 99 ∧ 1 ≤ o.qty ∧ o.qty ≤ 20) := hok
  have HR : Hid (At w b off l) := hR
  clear hv hok hR
  have bV := Mk.less_bd bd bs
  have hmk := run_make_row' (P := Tryz.prog) 53 3 (.int .i64 0) 8 Tryz.underlying53 Tryz.infoInt rfl .i64 .i64 l.length (by omega) (by omega)
  go_enter Tryz.func60, Tryz.ntmps60
  go_wp2_with (go_at_call 59; refine (traded_any _ _ _ _).mono ?_; rintro e w' ⟨rfl, rfl⟩)
  go_loopw [8, 25] (fun lf i wr => ∃ k : Nat, k ≤ l.length ∧ i = .int .i64 k ∧ lf = .int .i64 (2 * Mk.less d s - Mk.sumn (Mk.G0 l d s p) k) ∧ Sh w wr l.length p d s (fun i => if i < k then Mk.G0 l d s p i else 0) (fun i => if i < k then Mk.L0 l d s p i else 0)) (fun _ i _ => l.length - (intOf i).toNat)
  case atStart =>
    refine ⟨0, Nat.zero_le _, rfl, by simp [Mk.sumn], ?_⟩
    have h1 := (((LvAt.born w p d s 126).alloc (.cells (madeCells #[.int .i64 0] l.length) 3)).alloc (.cells (madeCells #[.int .i64 0] l.length) 3)).alloc (.cells #[.int .i64 p, .int .i64 d, .int .i64 s] 126)
    have h2 := ((World.rowIs_made (w.alloc (.cells #[.int .i64 p, .int .i64 d, .int .i64 s] 126)) (.int .i64 0) l.length 3).alloc (.cells (madeCells #[.int .i64 0] l.length) 3)).alloc (.cells #[.int .i64 p, .int .i64 d, .int .i64 s] 126)
    have h3 := (World.rowIs_made ((w.alloc (.cells #[.int .i64 p, .int .i64 d, .int .i64 s] 126)).alloc (.cells (madeCells #[.int .i64 0] l.length) 3)) (.int .i64 0) l.length 3).alloc (.cells #[.int .i64 p, .int .i64 d, .int .i64 s] 126)
    simp only [World.size_alloc] at h2 h3
    exact ⟨((((Below.refl _ _).alloc (Nat.le_refl _) _).alloc (by simp) _).alloc (by simp; omega) _).alloc (by simp; omega) _, h1, h2.congr (fun i _ => by simp), h3.congr (fun i _ => by simp)⟩
  case round =>
    obtain ⟨k, hk, rfl, rfl, hb⟩ := hrel
    have Hb : Hid (Sh w wr l.length p d s (fun i => if i < k then Mk.G0 l d s p i else 0) (fun i => if i < k then Mk.L0 l d s p i else 0)) := hb
    obtain ⟨_, ⟨v0, v1, v2, _, _, _⟩, _, _⟩ := hb
    have z2 : w.heap.size + 1 + 1 < wr.heap.size := Hb.out.lost.lt
    have y1 : w.heap.size < wr.heap.size + 1 := by omega
    have y2 : w.heap.size < wr.heap.size + 1 + 1 := by omega
    have y3 : w.heap.size < wr.heap.size + 1 + 1 + 1 := by omega
    have x1 : w.heap.size + 1 < wr.heap.size + 1 := by omega
    have x2 : w.heap.size + 1 < wr.heap.size + 1 + 1 := by omega
    have x3 : w.heap.size + 1 < wr.heap.size + 1 + 1 + 1 := by omega
    have t1 : w.heap.size + 1 + 1 < wr.heap.size + 1 := by omega
    have t2 : w.heap.size + 1 + 1 < wr.heap.size + 1 + 1 := by omega
    have t3 : w.heap.size + 1 + 1 < wr.heap.size + 1 + 1 + 1 := by omega
    have z1 : w.heap.size + 1 < wr.heap.size := by omega
    have z0 : w.heap.size < wr.heap.size := by omega
    have z0' : w.heap.size ≤ wr.heap.size := by omega
    have sb := Mk.sumn_bd (Mk.G0 l d s p) 4800 (fun i => Mk.G0_bd HV.out bd bs i) k
    have sb1 : 0 ≤ Mk.sumn (Mk.G0 l d s p) k := sb.1
    have sb2 : Mk.sumn (Mk.G0 l d s p) k ≤ 57600 := by omega
    clear sb
    by_cases hlt : k < l.length
    · obtain ⟨c0, c1, c2⟩ := At.below HR.out Hb.out.below k hlt
      have hbl := blk_lt c0
      have gc := Hb.out.gets.cell hlt
      have lc := Hb.out.lost.cell hlt
      have gf := Hb.out.gets.frozen k
      have lf := Hb.out.lost.frozen k
      simp only [Nat.lt_irrefl, if_false] at gc lc
      have hq := HO.out _ (List.getElem_mem hlt)
      have hlt' : (k : Int) < (l.length : Int) := by omega
      have HG : Hid (Mk.G0 l d s p k = Mk.shareo d s p l[k]) := Mk.G0_at hlt
      have HL : Hid (Mk.L0 l d s p k = Mk.losto d s p l[k]) := Mk.L0_at hlt
      revert c0 c1 c2 hq HG HL
      generalize l[k] = o
      obtain ⟨sl, pr, q⟩ := o
      intro c0 c1 c2 hq HG HL
      simp only at c0 c1 c2 hq
      obtain ⟨q1, q2⟩ : 0 ≤ q ∧ q ≤ 20 := by omega
      clear hq
      have mb := Mk.mul_bd bV ⟨q1, q2⟩
      have tb := Mk.tot_bd (o := ⟨sl, pr, q⟩) bd bs
      by_cases ht : Mk.tot d s ⟨sl, pr, q⟩ < 1
      · have HN : Hid (Mk.G0 l d s p k = 0 ∧ Mk.L0 l d s p k = 0) := by
          have := Mk.share_no (p := p) (o := ⟨sl, pr, q⟩) (.inl ht)
          exact ⟨HG.out.trans this.1, HL.out.trans this.2⟩
        go_wp2_with (first | (go_at_call 90; refine (sideTotal_tot _ _ _ _ _ _ _).mono ?_; rintro e w' ⟨rfl, rfl⟩) | (go_at_call 91; refine (mwilling_any _ _ _ _ _).mono ?_; rintro e w' ⟨rfl, rfl⟩))
        go_roundw
        case rel => exact ⟨k + 1, by omega, by go_num, by simp [Mk.sumn, HN.out.1], (((Hb.out.alloc _).alloc _).alloc _).congr (fun i _ => Mk.step_off HN.out.1 i) (fun i _ => Mk.step_off HN.out.2 i)⟩
        case measure => simp [intOf]; omega
      · have ht' : 1 ≤ Mk.tot d s ⟨sl, pr, q⟩ := by omega
        have db := Mk.div_bd mb ht'
        rcases Bool.eq_false_or_eq_true (Mk.willB sl pr p) with hw | hw
        · have HN : Hid (Mk.G0 l d s p k = Mk.less d s * q / Mk.tot d s ⟨sl, pr, q⟩ ∧ Mk.L0 l d s p k = Mk.less d s * q % Mk.tot d s ⟨sl, pr, q⟩) := by
            have := Mk.share_yes (p := p) (o := ⟨sl, pr, q⟩) ht' hw
            exact ⟨HG.out.trans this.1, HL.out.trans this.2⟩
          go_wp2_with (first | (go_at_call 90; refine (sideTotal_tot _ _ _ _ _ _ _).mono ?_; rintro e w' ⟨rfl, rfl⟩) | (go_at_call 91; refine (mwilling_any _ _ _ _ _).mono ?_; rintro e w' ⟨rfl, rfl⟩))
          go_roundw
          case rel => exact ⟨k + 1, by omega, by go_num, by simp only [Mk.sumn, HN.out.1]; go_num, ((((((Hb.out.setG k _).setL k _).alloc _).alloc _).alloc _).alloc _).congr (fun i _ => Mk.step_on HN.out.1 i) (fun i _ => Mk.step_on HN.out.2 i)⟩
          case measure => simp [intOf]; omega
        · have HN : Hid (Mk.G0 l d s p k = 0 ∧ Mk.L0 l d s p k = 0) := by
            have := Mk.share_no (d := d) (s := s) (p := p) (o := ⟨sl, pr, q⟩) (.inr hw)
            exact ⟨HG.out.trans this.1, HL.out.trans this.2⟩
          go_wp2_with (first | (go_at_call 90; refine (sideTotal_tot _ _ _ _ _ _ _).mono ?_; rintro e w' ⟨rfl, rfl⟩) | (go_at_call 91; refine (mwilling_any _ _ _ _ _).mono ?_; rintro e w' ⟨rfl, rfl⟩))
          go_roundw
          case rel => exact ⟨k + 1, by omega, by go_num, by simp [Mk.sumn, HN.out.1], ((((Hb.out.alloc _).alloc _).alloc _).alloc _).congr (fun i _ => Mk.step_off HN.out.1 i) (fun i _ => Mk.step_off HN.out.2 i)⟩
          case measure => simp [intOf]; omega
    · obtain rfl : k = l.length := by omega
      have H1 : Hid (Sh w wr l.length p d s (Mk.G0 l d s p) (Mk.L0 l d s p)) := Hb.out.congr (fun i hi => by simp [hi]) (fun i hi => by simp [hi])
      clear Hb
      obtain ⟨wo, rfl⟩ : ∃ wo : World, wo = wr := ⟨_, rfl⟩
      go_wp2
      go_loopw [69] (fun i wr => ∃ k : Nat, k ≤ l.length ∧ i = .int .i64 k ∧ Sh w wr l.length p d s (fun i => if i < k then Mk.getsf l d s p i else Mk.G0 l d s p i) (Mk.L0 l d s p)) (fun i _ => l.length - (intOf i).toNat)
      case atStart => exact ⟨0, Nat.zero_le _, rfl, H1.out.congr (fun i _ => by simp) (fun i _ => rfl)⟩
      case round =>
        clear H1 v0 v1 v2
        obtain ⟨k, hk2, rfl, hb⟩ := hrel
        have Hb : Hid (Sh w wr l.length p d s (fun i => if i < k then Mk.getsf l d s p i else Mk.G0 l d s p i) (Mk.L0 l d s p)) := hb
        clear hb
        by_cases hlt : k < l.length
        · have gc := Hb.out.gets.cell hlt
          have gf := Hb.out.gets.frozen k
          simp only [Nat.lt_irrefl, if_false] at gc
          have hlt' : (k : Int) < (l.length : Int) := by omega
          have gb := Mk.G0_bd (p := p) HV.out bd bs k
          by_cases hp : (Mk.place (Mk.L0 l d s p) l.length k : Int) < 2 * Mk.less d s - Mk.sumn (Mk.G0 l d s p) l.length
          · have HG := (show Hid _ from Mk.getsf_yes hp)
            go_wp2_with (go_at_call 92; refine (placeOf_any _ _ (Mk.L0 l d s p) k _ hlt h12 Hb.out.lost).mono ?_; rintro e w' ⟨rfl, rfl⟩)
            go_roundw
            case rel => exact ⟨k + 1, by omega, by go_num, (Hb.out.setG k _).congr (fun i _ => Mk.step2_on HG.out i) (fun i _ => rfl)⟩
            case measure => simp [intOf]; omega
          · have HG := (show Hid _ from Mk.getsf_no hp)
            go_wp2_with (go_at_call 92; refine (placeOf_any _ _ (Mk.L0 l d s p) k _ hlt h12 Hb.out.lost).mono ?_; rintro e w' ⟨rfl, rfl⟩)
            go_roundw
            case rel => exact ⟨k + 1, by omega, by go_num, Hb.out.congr (fun i _ => Mk.step2_off HG.out i) (fun i _ => rfl)⟩
            case measure => simp [intOf]; omega
        · obtain rfl : k = l.length := by omega
          go_wp2
          go_ret
          exact ⟨rfl, Hb.out.below, Hb.out.gets.congr (fun i hi => by simp [hi])⟩

end Go.Proofs.YtmebcdpdpcpnmaaGreatDoor

namespace Go.Proofs.YtmebcdpdpcpnmaaGreatDoor
open Go.RowKit

theorem At.drew {w : World} {b off : Nat} {l : List Mk.Ord} (h : At w b off l) : At w.drew b off l := h
theorem LvAt.next {W W' w' : World} {B : Nat} {p d s : Int} (h : LvAt W B p d s) (e : W'.heap = W.heap) (hb : Below W'.heap.size W' w') : w'.cell? ⟨B, 0, none⟩ = some (.int .i64 p) := by
  have hl := h.lt
  rw [hb.cell (p := ⟨B, 0, none⟩) (by rw [e]; exact hl)]
  have := h.c0
  simpa [World.cell?, e] using this

set_option maxHeartbeats 1000000 in
theorem uniform_bad (a : Option Addr) (cap : Nat) (l : List Mk.Ord) (w : World) (hv : Mk.validB 20 l = false) (hR : Rd w a l) :
    Calls Tryz.prog 39 #[.slice a l.length cap] w fun e w' => e = .returned (.tuple #[.slice none 0 0, .int .i64 0, .int .i64 1]) ∧ Below w.heap.size w w' := by
  have HR : Hid (Rd w a l) := hR
  clear hR
  go_enter Tryz.func39, Tryz.ntmps39
  go_wp2_with (go_at_call 57; refine (isBatch_any a cap l _ HR.out).mono ?_; rintro e w1 ⟨rfl, hb1⟩)
  go_ret3
  exact ⟨rfl, by assumption⟩

set_option maxHeartbeats 1000000 in
theorem uniform_zero (a : Option Addr) (cap : Nat) (l : List Mk.Ord) (w : World) (hv : Mk.validB 20 l = true) (hR : Rd w a l) (hz : Mk.vol l (Mk.best l 98) = 0) :
    Calls Tryz.prog 39 #[.slice a l.length cap] w fun e w' => ∃ g, e = .returned (.tuple #[.slice (some ⟨g, 0, none⟩) l.length l.length, .int .i64 0, .int .i64 0]) ∧ w.heap.size ≤ g ∧ Below w.heap.size w w' ∧ w'.rowIs g 3 l.length (fun _ => .int .i64 0) := by
  have HR : Hid (Rd w a l) := hR
  have HV : Hid (Mk.validB 20 l = true) := hv
  have h12 := (Mk.ok_of_valid hv).1
  have hz' : (Mk.less (Mk.dem l (Mk.best l 98)) (Mk.sup l (Mk.best l 98)) == 0) = true := by simpa [Mk.vol] using hz
  have hmk := run_make_row' (P := Tryz.prog) 53 3 (.int .i64 0) 8 Tryz.underlying53 Tryz.infoInt rfl .i64 .i64 l.length (by omega) (by omega)
  clear hR hz
  go_enter Tryz.func39, Tryz.ntmps39
  go_wp2_with fail
  refine (isBatch_any a cap l _ HR.out).mono ?_
  rintro e w1 ⟨rfl, hb1⟩
  have Hb1 : Hid (Below w.heap.size w w1) := hb1
  clear hb1
  go_wp2_with fail
  refine (bestLevel_any a cap l _ HV.out (HR.out.below Hb1.out)).mono ?_
  rintro e w2 ⟨rfl, hb2⟩
  have Hb2 : Hid (Below w.heap.size w w2) := Hb1.out.trans (hb2.mono Hb1.out.size)
  clear hb2
  go_wp2_with (go_at_call 59; refine (traded_any _ _ _ _).mono ?_; rintro e w' ⟨rfl, rfl⟩)
  go_ret3
  have hs := Hb2.out.size
  have hrow := World.rowIs_made ((w2.alloc (.cells #[.int .i64 (Mk.best l 98), .int .i64 (Mk.dem l (Mk.best l 98)), .int .i64 (Mk.sup l (Mk.best l 98))] 126)).alloc (.cells #[.int .i64 (Mk.best l 98), .int .i64 (Mk.dem l (Mk.best l 98)), .int .i64 (Mk.sup l (Mk.best l 98))] 126)) (.int .i64 0) l.length 3
  simp only [World.size_alloc] at hrow
  refine ⟨w2.heap.size + 1 + 1, rfl, ?_, ?_, hrow⟩
  · omega
  · exact ((Hb2.out.alloc hs _).alloc (by simp; omega) _).alloc (by simp; omega) _

set_option maxHeartbeats 1000000 in
theorem uniform_some (b off cap : Nat) (l : List Mk.Ord) (w : World) (hv : Mk.validB 20 l = true) (hR : At w b off l) (hz : Mk.vol l (Mk.best l 98) ≠ 0) :
    Calls Tryz.prog 39 #[.slice (some ⟨b, off, none⟩) l.length cap] w fun e w' => ∃ g, e = .returned (.tuple #[.slice (some ⟨g, 0, none⟩) l.length l.length, .int .i64 (Mk.best l 98), .int .i64 0]) ∧ w.heap.size ≤ g ∧ Below w.heap.size w w' ∧ w'.rowIs g 3 l.length (fun i => .int .i64 (Mk.getsf l (Mk.dem l (Mk.best l 98)) (Mk.sup l (Mk.best l 98)) (Mk.best l 98) i)) := by
  have HR : Hid (At w b off l) := hR
  have HV : Hid (Mk.validB 20 l = true) := hv
  have hz' : (Mk.less (Mk.dem l (Mk.best l 98)) (Mk.sup l (Mk.best l 98)) == 0) = false := by simpa [Mk.vol] using hz
  clear hR hz
  go_enter Tryz.func39, Tryz.ntmps39
  go_wp2_with fail
  refine (isBatch_any _ cap l _ (.inr ⟨b, off, rfl, HR.out⟩)).mono ?_
  rintro e w1 ⟨rfl, hb1⟩
  have Hb1 : Hid (Below w.heap.size w w1) := hb1
  clear hb1
  go_wp2_with fail
  refine (bestLevel_any _ cap l _ HV.out (.inr ⟨b, off, rfl, HR.out.below Hb1.out⟩)).mono ?_
  rintro e w2 ⟨rfl, hb2⟩
  have Hb2 : Hid (Below w.heap.size w w2) := Hb1.out.trans (hb2.mono Hb1.out.size)
  clear hb2
  go_wp2_with (go_at_call 59; refine (traded_any _ _ _ _).mono ?_; rintro e w' ⟨rfl, rfl⟩)
  have hs := Hb2.out.size
  have HBW : Hid (Below w.heap.size w _) := (Hb2.out.alloc hs (.cells #[.int .i64 (Mk.best l 98), .int .i64 (Mk.dem l (Mk.best l 98)), .int .i64 (Mk.sup l (Mk.best l 98))] 126)).alloc (by simp; omega) (.cells #[.int .i64 (Mk.best l 98), .int .i64 (Mk.dem l (Mk.best l 98)), .int .i64 (Mk.sup l (Mk.best l 98))] 126)
  have HLV : Hid (LvAt _ w2.heap.size _ _ _) := (LvAt.born w2 (Mk.best l 98) (Mk.dem l (Mk.best l 98)) (Mk.sup l (Mk.best l 98)) 126).alloc (.cells #[.int .i64 (Mk.best l 98), .int .i64 (Mk.dem l (Mk.best l 98)), .int .i64 (Mk.sup l (Mk.best l 98))] 126)
  have HAt : Hid (At _ b off l) := HR.out.below HBW.out
  generalize (w2.alloc (.cells #[.int .i64 (Mk.best l 98), .int .i64 (Mk.dem l (Mk.best l 98)), .int .i64 (Mk.sup l (Mk.best l 98))] 126)).alloc (.cells #[.int .i64 (Mk.best l 98), .int .i64 (Mk.dem l (Mk.best l 98)), .int .i64 (Mk.sup l (Mk.best l 98))] 126) = W at *
  obtain ⟨l0, l1, l2, _, _, _⟩ := HLV.out
  go_region_with (go_at_call 60; (refine (shares_some b off cap l _ _ _ _ HV.out (Mk.dem_bd HV.out _) (Mk.sup_bd HV.out _) ?_).mono ?_; exact HAt.out.drew; rintro e w' ⟨rfl, hb', hrow⟩; have q0 := LvAt.next (W' := W.drew) HLV.out rfl hb'))
  all_goals
    go_wp2
    go_ret3
    refine ⟨W.heap.size + 1, rfl, ?_, HBW.out.drew.trans (Below.mono hb' HBW.out.size), hrow⟩
    have := HBW.out.size
    omega

theorem Mk.vol_nil (p : Int) : Mk.vol [] p = 0 := by simp [Mk.vol, Mk.dem, Mk.sup, Mk.sumf, Mk.less]

/-- market.Uniform of a batch: its price, what each order gets -/
def Mk.price (l : List Mk.Ord) : Int := if Mk.vol l (Mk.best l 98) = 0 then 0 else Mk.best l 98
def Mk.uni (l : List Mk.Ord) (i : Nat) : Int := if Mk.vol l (Mk.best l 98) = 0 then 0 else Mk.getsf l (Mk.dem l (Mk.best l 98)) (Mk.sup l (Mk.best l 98)) (Mk.best l 98) i

theorem uniform_any (a : Option Addr) (cap : Nat) (l : List Mk.Ord) (w : World) (hv : Mk.validB 20 l = true) (hR : Rd w a l) :
    Calls Tryz.prog 39 #[.slice a l.length cap] w fun e w' => ∃ g, e = .returned (.tuple #[.slice (some ⟨g, 0, none⟩) l.length l.length, .int .i64 (Mk.price l), .int .i64 0]) ∧ w.heap.size ≤ g ∧ Below w.heap.size w w' ∧ w'.rowIs g 3 l.length (fun i => .int .i64 (Mk.uni l i)) := by
  by_cases hz : Mk.vol l (Mk.best l 98) = 0
  · unfold Mk.price Mk.uni
    simp only [hz, if_true]
    exact uniform_zero a cap l w hv hR hz
  · rcases hR with rfl | ⟨b, off, rfl, hR⟩
    · exact absurd (Mk.vol_nil _) hz
    · unfold Mk.price Mk.uni
      simp only [hz, if_false]
      exact uniform_some b off cap l w hv hR hz

end Go.Proofs.YtmebcdpdpcpnmaaGreatDoor

/- Plain mathematics: counting; both sides get as much; who gets one more. -/
namespace Mk

theorem sumn_congr {f g : Nat → Int} {n : Nat} (h : ∀ i, i < n → f i = g i) : sumn f n = sumn g n := by
  induction n with
  | zero => rfl
  | succ k ih => simp only [sumn]; rw [ih (fun i hi => h i (by omega)), h k (by omega)]
theorem sumn_add (f g : Nat → Int) (n : Nat) : sumn (fun i => f i + g i) n = sumn f n + sumn g n := by
  induction n with
  | zero => rfl
  | succ k ih => simp only [sumn, ih]; omega
theorem sumn_mul (c : Int) (f : Nat → Int) (n : Nat) : sumn (fun i => c * f i) n = c * sumn f n := by
  induction n with
  | zero => simp [sumn]
  | succ k ih => simp only [sumn, ih]; rw [Int.mul_add]
theorem sumn_zero {f : Nat → Int} {n : Nat} (h : ∀ i, i < n → f i = 0) : sumn f n = 0 := by
  induction n with
  | zero => rfl
  | succ k ih => simp only [sumn]; rw [ih (fun i hi => h i (by omega)), h k (by omega)]; rfl
theorem sumn_nonneg {f : Nat → Int} {n : Nat} (h : ∀ i, i < n → 0 ≤ f i) : 0 ≤ sumn f n := by
  induction n with
  | zero => simp [sumn]
  | succ k ih => simp only [sumn]; have := ih (fun i hi => h i (by omega)); have := h k (by omega); omega
theorem sumn_cnt (P : Nat → Bool) (n : Nat) : sumn (fun i => if P i then 1 else 0) n = cnt P n := by
  induction n with
  | zero => rfl
  | succ k ih => simp only [sumn, cnt, ih]; split <;> simp

theorem cnt_congr {P Q : Nat → Bool} {n : Nat} (h : ∀ i, i < n → P i = Q i) : cnt P n = cnt Q n := by
  induction n with
  | zero => rfl
  | succ k ih => simp only [cnt]; rw [ih (fun i hi => h i (by omega)), h k (by omega)]
theorem cnt_mono {P Q : Nat → Bool} {n : Nat} (h : ∀ i, i < n → P i = true → Q i = true) : cnt P n ≤ cnt Q n := by
  induction n with
  | zero => simp [cnt]
  | succ k ih =>
    have h1 := ih (fun i hi => h i (by omega))
    have h2 := h k (by omega)
    simp only [cnt]
    cases hp : P k with
    | false => simp; omega
    | true => simp [h2 hp]; omega
theorem cnt_lt {P Q : Nat → Bool} {n j : Nat} (h : ∀ i, i < n → P i = true → Q i = true) (hj : j < n) (hQ : Q j = true) (hP : P j = false) : cnt P n < cnt Q n := by
  induction n with
  | zero => omega
  | succ k ih =>
    simp only [cnt]
    by_cases e : j = k
    · subst e
      have := cnt_mono (n := j) (fun i hi => h i (by omega))
      simp [hQ, hP]; omega
    · have h1 := ih (fun i hi => h i (by omega)) (by omega)
      have h2 := h k (by omega)
      cases hp : P k with
      | false => simp; omega
      | true => simp [h2 hp]; omega
theorem cnt_false {P : Nat → Bool} {n : Nat} (h : ∀ i, i < n → P i = false) : cnt P n = 0 := by
  induction n with
  | zero => rfl
  | succ k ih => simp only [cnt]; rw [ih (fun i hi => h i (by omega)), h k (by omega)]; rfl
theorem cnt_true {P : Nat → Bool} {n : Nat} (h : ∀ i, i < n → P i = true) : cnt P n = n := by
  induction n with
  | zero => rfl
  | succ k ih => simp only [cnt]; rw [ih (fun i hi => h i (by omega)), h k (by omega)]; rfl
theorem cnt_one {P : Nat → Bool} {n : Nat} (h : ∀ i j, i < n → j < n → P i = true → P j = true → i = j) : cnt P n ≤ 1 := by
  induction n with
  | zero => simp [cnt]
  | succ k ih =>
    simp only [cnt]
    cases hp : P k with
    | false => simp; exact ih (fun i j hi hj => h i j (by omega) (by omega))
    | true =>
      have : cnt P k = 0 := cnt_false (fun i hi => by
        cases hi' : P i with
        | false => rfl
        | true => have := h i k (by omega) (by omega) hi' hp; omega)
      simp [this]
theorem cnt_or {P Q R : Nat → Bool} {n : Nat} (h : ∀ i, i < n → R i = true → P i = true ∨ Q i = true) : cnt R n ≤ cnt P n + cnt Q n := by
  induction n with
  | zero => simp [cnt]
  | succ k ih =>
    have h1 := ih (fun i hi => h i (by omega))
    have h2 := h k (by omega)
    simp only [cnt]
    cases hr : R k with
    | false => simp; omega
    | true => rcases h2 hr with h3 | h3 <;> simp [h3] <;> omega

/- the places are 0 .. n - 1, each once -/
theorem place_lt {Z : Nat → Int} {n i j : Nat} (hj : j < n) (h : aheadB Z i j = true) : place Z n j < place Z n i := by
  unfold place
  rw [ahead_iff] at h
  refine cnt_lt (j := j) (fun x _ hx => ?_) hj ((ahead_iff Z i j).2 h) ?_
  · rw [ahead_iff] at hx ⊢; omega
  · rw [← Bool.not_eq_true, ahead_iff]; omega
theorem ahead_total {Z : Nat → Int} {i j : Nat} (h : i ≠ j) : aheadB Z i j = true ∨ aheadB Z j i = true := by
  rw [ahead_iff, ahead_iff]; omega
theorem place_inj {Z : Nat → Int} {n i j : Nat} (hi : i < n) (hj : j < n) (h : place Z n i = place Z n j) : i = j := by
  apply Classical.byContradiction
  intro hne
  rcases ahead_total (Z := Z) hne with h1 | h1
  · have := place_lt hj h1; omega
  · have := place_lt hi h1; omega
theorem place_bd {Z : Nat → Int} {n i : Nat} (hi : i < n) : place Z n i < n := by
  have h := cnt_lt (P := aheadB Z i) (Q := fun _ => true) (n := n) (j := i) (fun _ _ _ => rfl) hi rfl (by rw [← Bool.not_eq_true, ahead_iff]; omega)
  rw [cnt_true (fun _ _ => rfl)] at h
  exact h
theorem cnt_step (Z : Nat → Int) (n m : Nat) : cnt (fun i => decide (place Z n i < m + 1)) n ≤ cnt (fun i => decide (place Z n i < m)) n + 1 := by
  have h1 := cnt_or (n := n) (R := fun i => decide (place Z n i < m + 1)) (P := fun i => decide (place Z n i < m)) (Q := fun i => decide (place Z n i = m)) (fun i _ h => by simp at h ⊢; omega)
  have h2 : cnt (fun i => decide (place Z n i = m)) n ≤ 1 := cnt_one (fun i j hi hj h3 h4 => place_inj (Z := Z) hi hj (by simp at h3 h4; omega))
  omega
theorem cnt_place_le (Z : Nat → Int) (n m : Nat) : cnt (fun i => decide (place Z n i < m)) n ≤ m := by
  induction m with
  | zero => rw [cnt_false (fun i _ => by simp)]; omega
  | succ k ih => have := cnt_step Z n k; omega
theorem cnt_place_ge (Z : Nat → Int) (n j : Nat) : ∀ m, m + j = n → m ≤ cnt (fun i => decide (place Z n i < m)) n := by
  induction j with
  | zero =>
    intro m hm
    rw [cnt_true (fun i hi => by have := place_bd (Z := Z) hi; simp; omega)]; omega
  | succ j ih =>
    intro m hm
    have h1 := ih (m + 1) (by omega)
    have h2 := cnt_step Z n m
    omega
theorem cnt_place (Z : Nat → Int) {n m : Nat} (h : m ≤ n) : cnt (fun i => decide (place Z n i < m)) n = m :=
  Nat.le_antisymm (cnt_place_le Z n m) (cnt_place_ge Z n (n - m) m (by omega))

/- sums over the list, and over its indices -/
theorem getD_at {l : List Ord} {k : Nat} (h : k < l.length) : l.getD k ozero = l[k] := by simp [List.getD, List.getElem?_eq_getElem h]
theorem sumf_take_n (f : Ord → Int) (l : List Ord) (k : Nat) (h : k ≤ l.length) : sumf f (l.take k) = sumn (fun i => f (l.getD i ozero)) k := by
  induction k with
  | zero => simp [sumf, sumn]
  | succ k ih => rw [sumf_take_succ f l k (by omega), ih (by omega)]; simp only [sumn]; rw [getD_at (by omega)]
theorem sumf_n (f : Ord → Int) (l : List Ord) : sumf f l = sumn (fun i => f (l.getD i ozero)) l.length := by
  have := sumf_take_n f l l.length (Nat.le_refl _); rwa [List.take_length] at this

/-- the sum over one side -/
def sideSum (l : List Ord) (b : Bool) (f : Nat → Int) : Int := sumn (fun i => if (l.getD i ozero).sell = b then f i else 0) l.length
def sideT (d s : Int) (b : Bool) : Int := if b then s else d
def side (l : List Ord) (b : Bool) (p : Int) : Int := sumf (sideq b p) l

theorem sides_add (l : List Ord) (f : Nat → Int) : sumn f l.length = sideSum l false f + sideSum l true f := by
  unfold sideSum
  rw [← sumn_add]
  refine sumn_congr (fun i _ => ?_)
  cases (l.getD i ozero).sell <;> simp

/-- an order's equation: its slots times V are what it gets times its side's sum, and what it lost -/
theorem order_eq {d s p : Int} (h1 : 1 ≤ d) (h2 : 1 ≤ s) (o : Ord) (b : Bool) :
    less d s * sideq b p o = sideT d s b * (if o.sell = b then shareo d s p o else 0) + (if o.sell = b then losto d s p o else 0) := by
  obtain ⟨sl, pr, q⟩ := o
  by_cases hb : sl = b
  · subst hb
    have ht : tot d s ⟨sl, pr, q⟩ = sideT d s sl := rfl
    have h3 : 1 ≤ sideT d s sl := by unfold sideT; split <;> assumption
    rw [sideq_mk]
    rcases Bool.eq_false_or_eq_true (willB sl pr p) with hw | hw
    · obtain ⟨e1, e2⟩ := share_yes (d := d) (s := s) (p := p) (o := ⟨sl, pr, q⟩) (by rw [ht]; exact h3) hw
      rw [e1, e2, ht, hw]
      simp only [beq_self_eq_true, Bool.and_self, if_true]
      rw [Int.mul_ediv_add_emod]
    · obtain ⟨e1, e2⟩ := share_no (d := d) (s := s) (p := p) (o := ⟨sl, pr, q⟩) (.inr hw)
      rw [e1, e2, hw]; simp
  · rw [sideq_mk]; simp [hb]

theorem side_eq {l : List Ord} {d s p : Int} (h1 : 1 ≤ d) (h2 : 1 ≤ s) (b : Bool) :
    less d s * side l b p = sideT d s b * sideSum l b (G0 l d s p) + sideSum l b (L0 l d s p) := by
  unfold side sideSum
  rw [sumf_n, ← sumn_mul, ← sumn_mul, ← sumn_add]
  exact sumn_congr (fun i _ => order_eq h1 h2 _ b)

/-- what is lost lies below its side's sum; nothing is lost by the unwilling, nor where V is the side's sum -/
theorem losto_bd {d s p : Int} (h1 : 1 ≤ d) (h2 : 1 ≤ s) (o : Ord) : 0 ≤ losto d s p o ∧ losto d s p o < tot d s o := by
  have ht : 1 ≤ tot d s o := by unfold tot; split <;> assumption
  unfold losto
  split
  · omega
  · exact ⟨Int.emod_nonneg _ (by omega), Int.emod_lt_of_pos _ (by omega)⟩
theorem losto_short {d s p : Int} (o : Ord) (h : tot d s o = less d s) : losto d s p o = 0 := by
  unfold losto
  split
  · rfl
  · rw [h]; exact Int.mul_emod_right _ _

end Mk
