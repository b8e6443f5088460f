import Derived.Test.YtmebcdpdpcpnmabDoorJ11
import Derived.Deep.RegionHeld3
import Derived.Deep.CutRange
import Derived.Test.YtmebcdpdpcpnmabDoorJ3
import Derived.Test.YtmebcdpdpcpnmabDoorJ7
import Derived.Test.YtmebcdpdpcpnmabDoorJ1
import Derived.Test.YtmebcdpdpcpnmabDoorJ9
import Derived.Test.YtmebcdpdpcpnmabDoorJ4
import Derived.Laws.Strings
import Derived.Test.YtmebcdpdpcpnmabDoorJ10
import Derived.Test.YtmebcdpdpcpnmabDoorJ5
import Derived.Test.YtmebcdpdpcpnmabDoorJ2
namespace Go.Proofs.YtmebcdpdpcpnmabDoor
open Go.RowKit

set_option maxRecDepth 100000 in
set_option maxHeartbeats 1000000 in
theorem command_any (d : Mk.Dd) (r : Nat) (h : d.Ok) (hr : r ≤ 9999) (w : World) : Calls Tryd.prog 22 #[ddV d, .int .i64 r] w fun e w' => e = .returned (.string (d.cmd r)) ∧ Below w.heap.size w w' := by
  have HOk : Hid d.Ok := h
  obtain ⟨dw, who, v, a, b⟩ := d
  have hwho : who < 4 := h.who
  have t1 := Mk.dig_size 3 who (by omega)
  have t2 := Mk.dig_size 3 r (by omega)
  have t3 := Mk.text_size h
  have HT : Hid (Mk.Dd.cmd ⟨dw, who, v, a, b⟩ r = Mk.dig who ++ ⟨#[32]⟩ ++ Mk.dig r ++ ⟨#[32]⟩ ++ Mk.Dd.text ⟨dw, who, v, a, b⟩) := rfl
  have HB : Hid (Below w.heap.size w (w.alloc (.cells #[.int .i64 (dw : Int), .int .i64 (who : Int), .int .i64 (v : Int), .int .i64 (a : Int), .int .i64 (b : Int)] 29))) := (Below.refl _ _).alloc (Nat.le_refl _) _
  have HC : Hid (∀ i u, (#[.int .i64 (dw : Int), .int .i64 (who : Int), .int .i64 (v : Int), .int .i64 (a : Int), .int .i64 (b : Int)] : Array Value)[i]? = some u → (w.alloc (.cells #[.int .i64 (dw : Int), .int .i64 (who : Int), .int .i64 (v : Int), .int .i64 (a : Int), .int .i64 (b : Int)] 29)).cell? ⟨w.heap.size, i, none⟩ = some u) := fun i u h => by simpa using h
  have hlt : w.heap.size < (w.alloc (.cells #[.int .i64 (dw : Int), .int .i64 (who : Int), .int .i64 (v : Int), .int .i64 (a : Int), .int .i64 (b : Int)] 29)).heap.size := by simp
  unfold ddV
  clear h
  go_enter Tryd.func22, Tryd.ntmps22
  go_upto_region 1 with fail
  generalize w.alloc (.cells #[.int .i64 (dw : Int), .int .i64 (who : Int), .int .i64 (v : Int), .int .i64 (a : Int), .int .i64 (b : Int)] 29) = W1 at *
  have x1 := HC.out 1 _ rfl
  go_wp2_with fail
  refine (decimal_any who _ (by omega)).mono ?_
  rintro e w2 ⟨rfl, hb2⟩
  have HB2 : Hid (Below W1.heap.size W1 w2) := hb2
  clear x1 hb2
  go_wp2_with fail
  refine (decimal_any r _ (by omega)).mono ?_
  rintro e w3 ⟨rfl, hb3⟩
  have HB3 : Hid (Below W1.heap.size W1 w3) := HB2.out.trans (hb3.mono HB2.out.size)
  have z0 : w3.cell? ⟨w.heap.size, 0, none⟩ = some (.int .i64 (dw : Int)) := (HB3.out.cell (p := ⟨w.heap.size, 0, none⟩) hlt).trans (HC.out 0 _ rfl)
  have z1 : w3.cell? ⟨w.heap.size, 1, none⟩ = some (.int .i64 (who : Int)) := (HB3.out.cell (p := ⟨w.heap.size, 1, none⟩) hlt).trans (HC.out 1 _ rfl)
  have z2 : w3.cell? ⟨w.heap.size, 2, none⟩ = some (.int .i64 (v : Int)) := (HB3.out.cell (p := ⟨w.heap.size, 2, none⟩) hlt).trans (HC.out 2 _ rfl)
  have z3 : w3.cell? ⟨w.heap.size, 3, none⟩ = some (.int .i64 (a : Int)) := (HB3.out.cell (p := ⟨w.heap.size, 3, none⟩) hlt).trans (HC.out 3 _ rfl)
  have z4 : w3.cell? ⟨w.heap.size, 4, none⟩ = some (.int .i64 (b : Int)) := (HB3.out.cell (p := ⟨w.heap.size, 4, none⟩) hlt).trans (HC.out 4 _ rfl)
  clear hb3
  go_wp2_with fail
  refine (wording_any ⟨dw, who, v, a, b⟩ HOk.out _).mono ?_
  rintro e w4 ⟨rfl, hb4⟩
  have HF : Hid (Below w.heap.size w w4) := HB.out.trans ((HB3.out.trans (hb4.mono HB3.out.size)).mono HB.out.size)
  clear z0 z1 z2 z3 z4 hb4
  go_wp2_with fail
  go_ret
  exact ⟨by rw [HT.out]; rfl, HF.out⟩

/-- a deed that came in, as a value -/
def rawV (x : Nat → Int) : Value := .agg #[.int .i64 (x 0), .int .i64 (x 1), .int .i64 (x 2), .int .i64 (x 3), .int .i64 (x 4)]
def Fits64 (x : Nat → Int) : Prop := ∀ i, -9223372036854775808 ≤ x i ∧ x i ≤ 9223372036854775807

set_option maxRecDepth 100000 in
set_option maxHeartbeats 4000000 in
theorem plain_fix (x : Nat → Int) (hx : Fits64 x) : ∃ d : Mk.Dd, d.Ok ∧ ∀ w, Calls Tryd.prog 12 #[rawV x] w fun e w' => e = .returned (ddV d) ∧ Below w.heap.size w w' := by
  obtain ⟨i0, h0, c0⟩ := pick_fix (x 0) 9 (hx 0).1 (hx 0).2 (by omega) (by omega)
  obtain ⟨i1, h1, c1⟩ := pick_fix (x 1) 4 (hx 1).1 (hx 1).2 (by omega) (by omega)
  obtain ⟨i2, h2, c2⟩ := pick_fix (x 2) 2 (hx 2).1 (hx 2).2 (by omega) (by omega)
  obtain ⟨j0, k0, e0⟩ := pick_fix (x 3) 9999 (hx 3).1 (hx 3).2 (by omega) (by omega)
  obtain ⟨j1, k1, e1⟩ := pick_fix (x 3) 999 (hx 3).1 (hx 3).2 (by omega) (by omega)
  obtain ⟨j2, k2, e2⟩ := pick_fix (x 3) 99 (hx 3).1 (hx 3).2 (by omega) (by omega)
  obtain ⟨j3, k3, e3⟩ := pick_fix (x 4) 20 (hx 4).1 (hx 4).2 (by omega) (by omega)
  obtain ⟨j4, k4, e4⟩ := pick_fix (x 3) 12 (hx 3).1 (hx 3).2 (by omega) (by omega)
  obtain ⟨j5, k5, e5⟩ := pick_fix (x 3) 2 (hx 3).1 (hx 3).2 (by omega) (by omega)
  refine ⟨⟨i0, i1, i2, match i0 with | 0 => 1 + j0 | 1 => 1 + j0 | 2 => 1 + j1 | 3 => 1 + j1 | 4 => 1 + j2 | 5 => 1 + j2 | 6 => j4 | 7 => j5 | _ => 0, match i0 with | 4 => 1 + j3 | 5 => 1 + j3 | _ => 0⟩, ?_, fun w => ?_⟩
  · have h9 : i0 = 0 ∨ i0 = 1 ∨ i0 = 2 ∨ i0 = 3 ∨ i0 = 4 ∨ i0 = 5 ∨ i0 = 6 ∨ i0 = 7 ∨ i0 = 8 := by omega
    rcases h9 with rfl | rfl | rfl | rfl | rfl | rfl | rfl | rfl | rfl
    all_goals
      refine ⟨by omega, h1, h2, by simp only []; omega, by simp only []; omega, rfl, fun i hi => ?_⟩
      simp only [Mk.Dd.nums, Mk.wdOf, List.length_cons, List.length_nil] at hi
      match i, hi with
      | 0, _ => simp [Mk.Dd.nums, Mk.wdOf, Mk.Wd.lo, Mk.Wd.hi, Mk.nth] <;> omega
      | 1, _ => simp [Mk.Dd.nums, Mk.wdOf, Mk.Wd.lo, Mk.Wd.hi, Mk.nth] <;> omega
      | 2, _ => simp [Mk.Dd.nums, Mk.wdOf, Mk.Wd.lo, Mk.Wd.hi, Mk.nth] <;> omega
  · unfold rawV ddV
    go_enter Tryd.func12, Tryd.ntmps12
    go_upto_region 1 with fail
    go_cut [3] from 4 to 13 (fun s wx => s = .pointer (some ⟨w.heap.size + 2, 0, none⟩) ∧ wx = (((w.alloc (.cells #[.int .i64 (x 0), .int .i64 (x 1), .int .i64 (x 2), .int .i64 (x 3), .int .i64 (x 4)] 29)).alloc (.cells #[.int .i64 0, .int .i64 0, .int .i64 0, .int .i64 0, .int .i64 0] 29)).alloc (.cells #[.int .i64 (i0 : Int), .int .i64 (i1 : Int), .int .i64 (i2 : Int), .int .i64 0, .int .i64 0] 29)).drew)
    case first =>
      go_region_held3 (fun w' => w'.cell? ⟨w.heap.size, 0, none⟩ = some (.int .i64 (x 0)) ∧ w'.cell? ⟨w.heap.size, 1, none⟩ = some (.int .i64 (x 1)) ∧ w'.cell? ⟨w.heap.size, 2, none⟩ = some (.int .i64 (x 2)))
        (go_keep)
        (first | (go_at_call_of 18 (x 0); refine (c0 _).mono ?_; rintro e w9 ⟨rfl, rfl⟩) | (go_at_call_of 18 (x 1); refine (c1 _).mono ?_; rintro e w9 ⟨rfl, rfl⟩) | (go_at_call_of 18 (x 2); refine (c2 _).mono ?_; rintro e w9 ⟨rfl, rfl⟩))
      all_goals (go_wp2_with fail; go_meet; exact ⟨rfl, rfl⟩)
    case rest =>
      obtain ⟨rfl, rfl⟩ := hcut
      have h9 : i0 = 0 ∨ i0 = 1 ∨ i0 = 2 ∨ i0 = 3 ∨ i0 = 4 ∨ i0 = 5 ∨ i0 = 6 ∨ i0 = 7 ∨ i0 = 8 := by omega
      rcases h9 with rfl | rfl | rfl | rfl | rfl | rfl | rfl | rfl | rfl
      · go_wp2_with fail
        refine (e0 _).mono ?_
        rintro e w9 ⟨rfl, rfl⟩
        go_wp2_with fail
        refine bodyPost_ret (v := .agg #[.int .i64 0, .int .i64 (i1 : Int), .int .i64 (i2 : Int), .int .i64 (1 + (j0 : Int)), .int .i64 (0)]) ?_ rfl ⟨rfl, ((((Below.refl _ _).alloc (Nat.le_refl _) _).alloc (by simp) _).alloc (by simp; omega) _).drew⟩
        simp [results, Tryd.results12, go_sem]
      · go_wp2_with fail
        refine (e0 _).mono ?_
        rintro e w9 ⟨rfl, rfl⟩
        go_wp2_with fail
        refine bodyPost_ret (v := .agg #[.int .i64 1, .int .i64 (i1 : Int), .int .i64 (i2 : Int), .int .i64 (1 + (j0 : Int)), .int .i64 (0)]) ?_ rfl ⟨rfl, ((((Below.refl _ _).alloc (Nat.le_refl _) _).alloc (by simp) _).alloc (by simp; omega) _).drew⟩
        simp [results, Tryd.results12, go_sem]
      · go_wp2_with fail
        refine (e1 _).mono ?_
        rintro e w9 ⟨rfl, rfl⟩
        go_wp2_with fail
        refine bodyPost_ret (v := .agg #[.int .i64 2, .int .i64 (i1 : Int), .int .i64 (i2 : Int), .int .i64 (1 + (j1 : Int)), .int .i64 (0)]) ?_ rfl ⟨rfl, ((((Below.refl _ _).alloc (Nat.le_refl _) _).alloc (by simp) _).alloc (by simp; omega) _).drew⟩
        simp [results, Tryd.results12, go_sem]
      · go_wp2_with fail
        refine (e1 _).mono ?_
        rintro e w9 ⟨rfl, rfl⟩
        go_wp2_with fail
        refine bodyPost_ret (v := .agg #[.int .i64 3, .int .i64 (i1 : Int), .int .i64 (i2 : Int), .int .i64 (1 + (j1 : Int)), .int .i64 (0)]) ?_ rfl ⟨rfl, ((((Below.refl _ _).alloc (Nat.le_refl _) _).alloc (by simp) _).alloc (by simp; omega) _).drew⟩
        simp [results, Tryd.results12, go_sem]
      · go_wp2_with fail
        refine (e2 _).mono ?_
        rintro e w9 ⟨rfl, rfl⟩
        go_wp2_with fail
        refine (e3 _).mono ?_
        rintro e w9 ⟨rfl, rfl⟩
        go_wp2_with fail
        refine bodyPost_ret (v := .agg #[.int .i64 4, .int .i64 (i1 : Int), .int .i64 (i2 : Int), .int .i64 (1 + (j2 : Int)), .int .i64 (1 + (j3 : Int))]) ?_ rfl ⟨rfl, ((((Below.refl _ _).alloc (Nat.le_refl _) _).alloc (by simp) _).alloc (by simp; omega) _).drew⟩
        simp [results, Tryd.results12, go_sem]
      · go_wp2_with fail
        refine (e2 _).mono ?_
        rintro e w9 ⟨rfl, rfl⟩
        go_wp2_with fail
        refine (e3 _).mono ?_
        rintro e w9 ⟨rfl, rfl⟩
        go_wp2_with fail
        refine bodyPost_ret (v := .agg #[.int .i64 5, .int .i64 (i1 : Int), .int .i64 (i2 : Int), .int .i64 (1 + (j2 : Int)), .int .i64 (1 + (j3 : Int))]) ?_ rfl ⟨rfl, ((((Below.refl _ _).alloc (Nat.le_refl _) _).alloc (by simp) _).alloc (by simp; omega) _).drew⟩
        simp [results, Tryd.results12, go_sem]
      · go_wp2_with fail
        refine (e4 _).mono ?_
        rintro e w9 ⟨rfl, rfl⟩
        go_wp2_with fail
        refine bodyPost_ret (v := .agg #[.int .i64 6, .int .i64 (i1 : Int), .int .i64 (i2 : Int), .int .i64 ((j4 : Int)), .int .i64 (0)]) ?_ rfl ⟨rfl, ((((Below.refl _ _).alloc (Nat.le_refl _) _).alloc (by simp) _).alloc (by simp; omega) _).drew⟩
        simp [results, Tryd.results12, go_sem]
      · go_wp2_with fail
        refine (e5 _).mono ?_
        rintro e w9 ⟨rfl, rfl⟩
        go_wp2_with fail
        refine bodyPost_ret (v := .agg #[.int .i64 7, .int .i64 (i1 : Int), .int .i64 (i2 : Int), .int .i64 ((j5 : Int)), .int .i64 (0)]) ?_ rfl ⟨rfl, ((((Below.refl _ _).alloc (Nat.le_refl _) _).alloc (by simp) _).alloc (by simp; omega) _).drew⟩
        simp [results, Tryd.results12, go_sem]
      · go_wp2_with fail
        refine bodyPost_ret (v := .agg #[.int .i64 8, .int .i64 (i1 : Int), .int .i64 (i2 : Int), .int .i64 (0), .int .i64 (0)]) ?_ rfl ⟨rfl, ((((Below.refl _ _).alloc (Nat.le_refl _) _).alloc (by simp) _).alloc (by simp; omega) _).drew⟩
        simp [results, Tryd.results12, go_sem]

end Go.Proofs.YtmebcdpdpcpnmabDoor

namespace Go.Proofs.YtmebcdpdpcpnmabDoor

/-- a batch is cleared: what each order gets, what a buyer pays, what a seller gets, how much is traded -/
structure Mk.Fill (l : List Mk.Ord) (f : Nat → Int) (pay get V : Int) : Prop where
  bd : ∀ i, i < l.length → 0 ≤ f i ∧ f i ≤ (l.getD i Mk.ozero).qty
  side : ∀ b, Mk.sideSum l b f = V
  buy : ∀ i, i < l.length → (l.getD i Mk.ozero).sell = false → f i ≠ 0 → pay ≤ (l.getD i Mk.ozero).price
  sell : ∀ i, i < l.length → (l.getD i Mk.ozero).sell = true → f i ≠ 0 → (l.getD i Mk.ozero).price ≤ get
  price : 0 ≤ get ∧ get ≤ pay ∧ pay ≤ 100

theorem Mk.getsf_qty {l : List Mk.Ord} {p : Int} (hv : Mk.validB 20 l = true) (hV : 1 ≤ Mk.vol l p) {i : Nat} (hi : i < l.length) (hw : Mk.willB l[i].sell l[i].price p = true) : Mk.getsf l (Mk.dem l p) (Mk.sup l p) p i ≤ l[i].qty := by
  obtain ⟨e, h0, h1⟩ := Mk.will_eq hV hi hw
  have hq := (Mk.ok_of_valid hv).2 l[i] (List.getElem_mem hi)
  have hle : Mk.vol l p ≤ Mk.sideT (Mk.dem l p) (Mk.sup l p) l[i].sell := by
    unfold Mk.vol Mk.less Mk.sideT
    split <;> split <;> omega
  have hT : 1 ≤ Mk.sideT (Mk.dem l p) (Mk.sup l p) l[i].sell := by omega
  have hm : Mk.vol l p * l[i].qty ≤ Mk.sideT (Mk.dem l p) (Mk.sup l p) l[i].sell * l[i].qty := Int.mul_le_mul_of_nonneg_right hle (by omega)
  rw [Mk.getsf_more]
  rcases Mk.more_01 (l := l) (p := p) i with hm0 | hm1
  · rw [hm0]
    by_cases hh : Mk.G0 l (Mk.dem l p) (Mk.sup l p) p i ≤ l[i].qty
    · omega
    · exfalso
      have : Mk.sideT (Mk.dem l p) (Mk.sup l p) l[i].sell * (l[i].qty + 1) ≤ Mk.sideT (Mk.dem l p) (Mk.sup l p) l[i].sell * Mk.G0 l (Mk.dem l p) (Mk.sup l p) p i := Int.mul_le_mul_of_nonneg_left (by omega) (by omega)
      rw [Int.mul_add] at this
      omega
  · rw [hm1]
    have hl : 0 < Mk.L0 l (Mk.dem l p) (Mk.sup l p) p i := by
      refine Mk.more_lost hV ?_
      unfold Mk.more at hm1
      split at hm1
      · assumption
      · omega
    by_cases hh : Mk.G0 l (Mk.dem l p) (Mk.sup l p) p i + 1 ≤ l[i].qty
    · exact hh
    · exfalso
      have : Mk.sideT (Mk.dem l p) (Mk.sup l p) l[i].sell * l[i].qty ≤ Mk.sideT (Mk.dem l p) (Mk.sup l p) l[i].sell * Mk.G0 l (Mk.dem l p) (Mk.sup l p) p i := Int.mul_le_mul_of_nonneg_left (by omega) (by omega)
      omega

theorem Mk.uni_fill {l : List Mk.Ord} (hv : Mk.validB 20 l = true) : Mk.Fill l (Mk.uni l) (Mk.price l) (Mk.price l) (Mk.vol l (Mk.best l 98)) := by
  have hbd := Mk.best_bd l 98
  have hb := Mk.less_bd (Mk.dem_bd hv (Mk.best l 98)) (Mk.sup_bd hv (Mk.best l 98))
  have h0 : 0 ≤ Mk.vol l (Mk.best l 98) := hb.1
  by_cases hz : Mk.vol l (Mk.best l 98) = 0
  · have e : ∀ i, Mk.uni l i = 0 := fun i => by simp [Mk.uni, hz]
    have e2 : Mk.price l = 0 := by simp [Mk.price, hz]
    refine ⟨fun i hi => ?_, fun b => ?_, fun i _ _ h => absurd (e i) h, fun i _ _ h => absurd (e i) h, ?_⟩
    · have hq := (Mk.ok_of_valid hv).2 l[i] (List.getElem_mem hi)
      rw [e, Mk.getD_at hi]; omega
    · rw [hz]; exact Mk.sumn_zero (fun i _ => by rw [e]; split <;> rfl)
    · rw [e2]; omega
  · have hV : 1 ≤ Mk.vol l (Mk.best l 98) := by omega
    have e : ∀ i, Mk.uni l i = Mk.getsf l (Mk.dem l (Mk.best l 98)) (Mk.sup l (Mk.best l 98)) (Mk.best l 98) i := fun i => by simp [Mk.uni, hz]
    have e2 : Mk.price l = Mk.best l 98 := by simp [Mk.price, hz]
    have hun : ∀ i (hi : i < l.length), Mk.uni l i ≠ 0 → Mk.willB l[i].sell l[i].price (Mk.best l 98) = true := fun i hi h => by
      cases hw : Mk.willB l[i].sell l[i].price (Mk.best l 98)
      · exact absurd ((e i).trans (Mk.unwilling hV hi hw)) h
      · rfl
    refine ⟨fun i hi => ?_, fun b => ?_, fun i hi hs h => ?_, fun i hi hs h => ?_, ?_⟩
    · have hq := (Mk.ok_of_valid hv).2 l[i] (List.getElem_mem hi)
      have hg := Mk.getsf_bd (p := (Mk.best l 98 : Int)) hv i
      rw [Mk.getD_at hi]
      cases hw : Mk.willB l[i].sell l[i].price (Mk.best l 98)
      · rw [e, Mk.unwilling hV hi hw]; omega
      · rw [e]; exact ⟨hg.1, Mk.getsf_qty hv hV hi hw⟩
    · rw [← Mk.side_total hV b]
      unfold Mk.sideSum
      exact Mk.sumn_congr (fun i _ => by rw [e])
    · rw [Mk.getD_at hi] at hs ⊢
      have hw := hun i hi h
      unfold Mk.willB at hw
      rw [hs] at hw
      simp at hw
      rw [e2]; exact hw
    · rw [Mk.getD_at hi] at hs ⊢
      have hw := hun i hi h
      unfold Mk.willB at hw
      rw [hs] at hw
      simp at hw
      rw [e2]; exact hw
    · rw [e2]; omega

theorem Mk.mc_fill {l : List Mk.Ord} (hv : Mk.validB 1 l = true) : Mk.Fill l (Mk.mcF l) (Mk.mcPay l) (Mk.mcGet l) (Mk.mcK l) := by
  have hp := Mk.okP_of hv
  have on : ∀ i, Mk.mcF l i ≠ 0 → Mk.rk l i < Mk.mcK l := fun i h => by
    unfold Mk.mcF at h
    split at h
    · assumption
    · exact absurd rfl h
  refine ⟨fun i hi => ?_, fun b => Mk.mc_side hp b, fun i hi hs h => Mk.pays hp hi hs (on i h), fun i hi hs h => Mk.gets hp hi hs (on i h), (Mk.mcGet_bd hp).1, Mk.mc_pays hp, (Mk.mcPay_bd hp).2⟩
  have hq := (Mk.ok_of_valid hv).2 l[i] (List.getElem_mem hi)
  have := Mk.mcF_bd l i
  rw [Mk.getD_at hi]
  omega

/-- by its mode -/
def Mk.clF (md : Bool) (l : List Mk.Ord) (i : Nat) : Int := if md then Mk.mcF l i else Mk.uni l i
def Mk.clPay (md : Bool) (l : List Mk.Ord) : Int := if md then Mk.mcPay l else Mk.price l
def Mk.clGet (md : Bool) (l : List Mk.Ord) : Int := if md then Mk.mcGet l else Mk.price l
def Mk.clV (md : Bool) (l : List Mk.Ord) : Int := if md then (Mk.mcK l : Int) else Mk.vol l (Mk.best l 98)
theorem Mk.cl_fill {md : Bool} {l : List Mk.Ord} (h20 : Mk.validB 20 l = true) (h1 : md = true → Mk.validB 1 l = true) : Mk.Fill l (Mk.clF md l) (Mk.clPay md l) (Mk.clGet md l) (Mk.clV md l) := by
  cases md
  · exact Mk.uni_fill h20
  · exact Mk.mc_fill (h1 rfl)

end Go.Proofs.YtmebcdpdpcpnmabDoor

namespace Go.Proofs.YtmebcdpdpcpnmabDoor
open Go.RowKit

end Go.Proofs.YtmebcdpdpcpnmabDoor

namespace Go.Proofs.YtmebcdpdpcpnmabDoor
open Go.RowKit

theorem Tryd.infoStr : (Tryd.prog.info? 9).map (fun i => (i.zero, i.size, i.bytes)) = some (some (.string ⟨#[]⟩), 1, 16) := by kernel_rfl

end Go.Proofs.YtmebcdpdpcpnmabDoor

namespace Go.Proofs.YtmebcdpdpcpnmabDoor
open Go.RowKit

theorem Mk.isW_text {s : ByteArray} {d : Mk.Wd} (h : Mk.isW s d = true) : s = d.text := by
  unfold Mk.isW at h
  have := eq_of_beq h
  rw [ByteArray.toList_eq, ByteArray.toList_eq] at this
  exact Mk.bytes_eq this
theorem Mk.wd_text {s : ByteArray} {d : Mk.Wd} (h : Mk.wd s = some d) : s = d.text := by
  unfold Mk.wd at h
  by_cases hpay : Mk.isW s .pay = true
  · rw [if_pos hpay] at h; injection h with h; subst h; exact Mk.isW_text hpay
  rw [if_neg hpay] at h
  by_cases hdraw : Mk.isW s .draw = true
  · rw [if_pos hdraw] at h; injection h with h; subst h; exact Mk.isW_text hdraw
  rw [if_neg hdraw] at h
  by_cases hbring : Mk.isW s .bring = true
  · rw [if_pos hbring] at h; injection h with h; subst h; exact Mk.isW_text hbring
  rw [if_neg hbring] at h
  by_cases hfetch : Mk.isW s .fetch = true
  · rw [if_pos hfetch] at h; injection h with h; subst h; exact Mk.isW_text hfetch
  rw [if_neg hfetch] at h
  by_cases hbuy : Mk.isW s .buy = true
  · rw [if_pos hbuy] at h; injection h with h; subst h; exact Mk.isW_text hbuy
  rw [if_neg hbuy] at h
  by_cases hsell : Mk.isW s .sell = true
  · rw [if_pos hsell] at h; injection h with h; subst h; exact Mk.isW_text hsell
  rw [if_neg hsell] at h
  by_cases hdrop : Mk.isW s .drop = true
  · rw [if_pos hdrop] at h; injection h with h; subst h; exact Mk.isW_text hdrop
  rw [if_neg hdrop] at h
  by_cases hmode : Mk.isW s .mode = true
  · rw [if_pos hmode] at h; injection h with h; subst h; exact Mk.isW_text hmode
  rw [if_neg hmode] at h
  by_cases hclose : Mk.isW s .close = true
  · rw [if_pos hclose] at h; injection h with h; subst h; exact Mk.isW_text hclose
  rw [if_neg hclose] at h
  cases h

/-- numbers that lie at block g -/
def Nums (w : World) (g : Nat) (l : List Nat) : Prop := ∀ (i : Nat) (h : i < l.length), w.cell? ⟨g, i, none⟩ = some (.int .i64 (l[i] : Int))
theorem Nums.below {w w' : World} {g n : Nat} {l : List Nat} (h : Nums w g l) (hb : Below n w w') (hn : g < n) : Nums w' g l := fun i hi => (hb.cell (p := ⟨g, i, none⟩) hn).trans (h i hi)

/-- what 'bounds' answers at a word -/
def BoundsIs (d : Mk.Wd) (w : World) (e : Ending) (w' : World) : Prop :=
  ∃ g h, e = .returned (.tuple #[.slice (some ⟨g, 0, none⟩) d.lo.length d.lo.length, .slice (some ⟨h, 0, none⟩) d.lo.length d.lo.length, .bool true]) ∧ Nums w' g d.lo ∧ Nums w' h d.hi ∧ g < w'.heap.size ∧ h < w'.heap.size ∧ w.heap.size ≤ g ∧ w.heap.size ≤ h ∧ Below w.heap.size w w'

end Go.Proofs.YtmebcdpdpcpnmabDoor

namespace Go.Proofs.YtmebcdpdpcpnmabDoor
open Go.RowKit

/-- a command in a box -/
structure Cb (w : World) (B : Nat) (who r : Int) (word : ByteArray) (v : Value) (mc : Bool) : Prop where
  c0 : w.cell? ⟨B, 0, none⟩ = some (.int .i64 who)
  c1 : w.cell? ⟨B, 1, none⟩ = some (.int .i64 r)
  c2 : w.cell? ⟨B, 2, none⟩ = some (.string word)
  c3 : w.cell? ⟨B, 3, none⟩ = some v
  c4 : w.cell? ⟨B, 4, none⟩ = some (.bool mc)
  f0 : w.frozen? ⟨B, 0, none⟩ = false
  f1 : w.frozen? ⟨B, 1, none⟩ = false
  f2 : w.frozen? ⟨B, 2, none⟩ = false
  f3 : w.frozen? ⟨B, 3, none⟩ = false
  f4 : w.frozen? ⟨B, 4, none⟩ = false

section
variable {w w' : World} {B n : Nat} {who r : Int} {word : ByteArray} {v : Value} {mc : Bool}
theorem Cb.lt (h : Cb w B who r word v mc) : B < w.heap.size := blk_lt h.c0
theorem Cb.below (h : Cb w B who r word v mc) (hb : Below n w w') (hn : B < n) : Cb w' B who r word v mc :=
  ⟨(hb.cell (p := ⟨B, 0, none⟩) hn).trans h.c0, (hb.cell (p := ⟨B, 1, none⟩) hn).trans h.c1, (hb.cell (p := ⟨B, 2, none⟩) hn).trans h.c2, (hb.cell (p := ⟨B, 3, none⟩) hn).trans h.c3, (hb.cell (p := ⟨B, 4, none⟩) hn).trans h.c4,
    (hb.frozen (p := ⟨B, 0, none⟩) hn).trans h.f0, (hb.frozen (p := ⟨B, 1, none⟩) hn).trans h.f1, (hb.frozen (p := ⟨B, 2, none⟩) hn).trans h.f2, (hb.frozen (p := ⟨B, 3, none⟩) hn).trans h.f3, (hb.frozen (p := ⟨B, 4, none⟩) hn).trans h.f4⟩
theorem Cb.grown (h : Cb w B who r word v mc) {row : Option Nat} (hg : w.grownBy w' row) (hne : some B ≠ row) : Cb w' B who r word v mc :=
  ⟨(hg.cell_far ⟨B, 0, none⟩ h.lt hne).trans h.c0, (hg.cell_far ⟨B, 1, none⟩ h.lt hne).trans h.c1, (hg.cell_far ⟨B, 2, none⟩ h.lt hne).trans h.c2, (hg.cell_far ⟨B, 3, none⟩ h.lt hne).trans h.c3, (hg.cell_far ⟨B, 4, none⟩ h.lt hne).trans h.c4,
    (hg.frozen_far ⟨B, 0, none⟩ h.lt hne).trans h.f0, (hg.frozen_far ⟨B, 1, none⟩ h.lt hne).trans h.f1, (hg.frozen_far ⟨B, 2, none⟩ h.lt hne).trans h.f2, (hg.frozen_far ⟨B, 3, none⟩ h.lt hne).trans h.f3, (hg.frozen_far ⟨B, 4, none⟩ h.lt hne).trans h.f4⟩
theorem Cb.other (h : Cb w B who r word v mc) {b i : Nat} (u : Value) (hne : B ≠ b) : Cb (w.setCell ⟨b, i, none⟩ u) B who r word v mc :=
  ⟨cell_set_ne (by omega) h.c0, cell_set_ne (by omega) h.c1, cell_set_ne (by omega) h.c2, cell_set_ne (by omega) h.c3, cell_set_ne (by omega) h.c4, by simpa using h.f0, by simpa using h.f1, by simpa using h.f2, by simpa using h.f3, by simpa using h.f4⟩
theorem Cb.setWho (h : Cb w B who r word v mc) (x : Int) : Cb (w.setCell ⟨B, 0, none⟩ (.int .i64 x)) B x r word v mc :=
  ⟨cell_set_same h.c0, cell_set_ne (by omega) h.c1, cell_set_ne (by omega) h.c2, cell_set_ne (by omega) h.c3, cell_set_ne (by omega) h.c4, by simpa using h.f0, by simpa using h.f1, by simpa using h.f2, by simpa using h.f3, by simpa using h.f4⟩
theorem Cb.setR (h : Cb w B who r word v mc) (x : Int) : Cb (w.setCell ⟨B, 1, none⟩ (.int .i64 x)) B who x word v mc :=
  ⟨cell_set_ne (by omega) h.c0, cell_set_same h.c1, cell_set_ne (by omega) h.c2, cell_set_ne (by omega) h.c3, cell_set_ne (by omega) h.c4, by simpa using h.f0, by simpa using h.f1, by simpa using h.f2, by simpa using h.f3, by simpa using h.f4⟩
theorem Cb.setWord (h : Cb w B who r word v mc) (x : ByteArray) : Cb (w.setCell ⟨B, 2, none⟩ (.string x)) B who r x v mc :=
  ⟨cell_set_ne (by omega) h.c0, cell_set_ne (by omega) h.c1, cell_set_same h.c2, cell_set_ne (by omega) h.c3, cell_set_ne (by omega) h.c4, by simpa using h.f0, by simpa using h.f1, by simpa using h.f2, by simpa using h.f3, by simpa using h.f4⟩
theorem Cb.setN (h : Cb w B who r word v mc) (x : Value) : Cb (w.setCell ⟨B, 3, none⟩ x) B who r word x mc :=
  ⟨cell_set_ne (by omega) h.c0, cell_set_ne (by omega) h.c1, cell_set_ne (by omega) h.c2, cell_set_same h.c3, cell_set_ne (by omega) h.c4, by simpa using h.f0, by simpa using h.f1, by simpa using h.f2, by simpa using h.f3, by simpa using h.f4⟩
theorem Cb.setMc (h : Cb w B who r word v mc) (x : Bool) : Cb (w.setCell ⟨B, 4, none⟩ (.bool x)) B who r word v x :=
  ⟨cell_set_ne (by omega) h.c0, cell_set_ne (by omega) h.c1, cell_set_ne (by omega) h.c2, cell_set_ne (by omega) h.c3, cell_set_same h.c4, by simpa using h.f0, by simpa using h.f1, by simpa using h.f2, by simpa using h.f3, by simpa using h.f4⟩
theorem Cb.born (w : World) (t : TypeId) : Cb (w.alloc (.cells #[.int .i64 0, .int .i64 0, .string ⟨#[]⟩, .slice none 0 0, .bool false] t)) w.heap.size 0 0 ⟨#[]⟩ (.slice none 0 0) false :=
  ⟨by simp, by simp, by simp, by simp, by simp, by simp [go_sem], by simp [go_sem], by simp [go_sem], by simp [go_sem], by simp [go_sem]⟩
/-- the five cells of a box, stored one behind the other -/
theorem Cb.store (h : Cb w B who r word v mc) (a0 a1 a2 a3 a4 : Value) :
    (((((w.setCell ⟨B, 0, none⟩ a0).setCell ⟨B, 1, none⟩ a1).setCell ⟨B, 2, none⟩ a2).setCell ⟨B, 3, none⟩ a3).setCell ⟨B, 4, none⟩ a4).cell? ⟨B, 0, none⟩ = some a0 ∧
    (((((w.setCell ⟨B, 0, none⟩ a0).setCell ⟨B, 1, none⟩ a1).setCell ⟨B, 2, none⟩ a2).setCell ⟨B, 3, none⟩ a3).setCell ⟨B, 4, none⟩ a4).cell? ⟨B, 1, none⟩ = some a1 ∧
    (((((w.setCell ⟨B, 0, none⟩ a0).setCell ⟨B, 1, none⟩ a1).setCell ⟨B, 2, none⟩ a2).setCell ⟨B, 3, none⟩ a3).setCell ⟨B, 4, none⟩ a4).cell? ⟨B, 2, none⟩ = some a2 ∧
    (((((w.setCell ⟨B, 0, none⟩ a0).setCell ⟨B, 1, none⟩ a1).setCell ⟨B, 2, none⟩ a2).setCell ⟨B, 3, none⟩ a3).setCell ⟨B, 4, none⟩ a4).cell? ⟨B, 3, none⟩ = some a3 ∧
    (((((w.setCell ⟨B, 0, none⟩ a0).setCell ⟨B, 1, none⟩ a1).setCell ⟨B, 2, none⟩ a2).setCell ⟨B, 3, none⟩ a3).setCell ⟨B, 4, none⟩ a4).cell? ⟨B, 4, none⟩ = some a4 := by
  refine ⟨?_, ?_, ?_, ?_, ?_⟩
  · exact cell_set_ne (by omega) (cell_set_ne (by omega) (cell_set_ne (by omega) (cell_set_ne (by omega) (cell_set_same h.c0))))
  · exact cell_set_ne (by omega) (cell_set_ne (by omega) (cell_set_ne (by omega) (cell_set_same (cell_set_ne (by omega) h.c1))))
  · exact cell_set_ne (by omega) (cell_set_ne (by omega) (cell_set_same (cell_set_ne (by omega) (cell_set_ne (by omega) h.c2))))
  · exact cell_set_ne (by omega) (cell_set_same (cell_set_ne (by omega) (cell_set_ne (by omega) (cell_set_ne (by omega) h.c3))))
  · exact cell_set_same (cell_set_ne (by omega) (cell_set_ne (by omega) (cell_set_ne (by omega) (cell_set_ne (by omega) h.c4))))
end

/-- what 'Read' answers -/
def ReadIs (s : ByteArray) (w : World) (e : Ending) (w' : World) : Prop :=
  Below w.heap.size w w' ∧ match Mk.readP s with
    | none => ∃ i j t a l c m, e = .returned (.tuple #[.agg #[.int .i64 i, .int .i64 j, .string t, .slice a l c, .bool m], .bool false])
    | some c => ∃ v, e = .returned (.tuple #[.agg #[.int .i64 c.who, .int .i64 c.r, .string c.d.text, v, .bool c.mc], .bool true]) ∧ w'.ownsRow w.heap.size 3 1 v c.n.length (c.n.map fun (x : Nat) => .int .i64 (x : Int))
theorem ReadIs.no {s : ByteArray} {w w' : World} {e : Ending} {i j : Int} {t : ByteArray} {a : Option Addr} {l c : Nat} {m : Bool} (h : Mk.readP s = none) (hb : Below w.heap.size w w') (he : e = .returned (.tuple #[.agg #[.int .i64 i, .int .i64 j, .string t, .slice a l c, .bool m], .bool false])) : ReadIs s w e w' := by
  unfold ReadIs; rw [h]; exact ⟨hb, i, j, t, a, l, c, m, he⟩

theorem own_base {w : World} {base base' e size n : Nat} {v : Value} {xs : List Value} (h : w.ownsRow base e size v n xs) (hb : base' ≤ base) : w.ownsRow base' e size v n xs := by
  refine ⟨h.1, ?_⟩
  rcases h.2 with h0 | ⟨g, cap, cur, h1, h2, h3⟩
  · exact .inl h0
  · exact .inr ⟨g, cap, cur, h1, Nat.le_trans hb h2, h3⟩
theorem isU_is (x : ByteArray) : Mk.isU x = (x.toList == [117]) := by unfold Mk.isU Mk.bu; rw [show (ByteArray.mk #[117]).toList = [117] from ByteArray.toList_mk _]
theorem isM_is (x : ByteArray) : Mk.isM x = (x.toList == [109]) := by unfold Mk.isM Mk.bm; rw [show (ByteArray.mk #[109]).toList = [109] from ByteArray.toList_mk _]
theorem mode_text (d : Mk.Wd) : (d.text.toList == [109, 111, 100, 101]) = d.isMode := by cases d <;> simp [Mk.Wd.text, Mk.Wd.isMode]
theorem words_pos (s : ByteArray) : 0 < (Mk.words s).length := by unfold Mk.words; simp
/-- the words lie at block g -/
def Strs (w : World) (g off : Nat) (l : List ByteArray) : Prop := ∀ (i : Nat), i < l.length → w.cell? ⟨g, off + i, none⟩ = some (.string (Mk.wrd l i))
theorem Strs.below {w w' : World} {g off n : Nat} {l : List ByteArray} (h : Strs w g off l) (hb : Below n w w') (hn : g < n) : Strs w' g off l := fun i hi => (hb.cell (p := ⟨g, off + i, none⟩) hn).trans (h i hi)

end Go.Proofs.YtmebcdpdpcpnmabDoor
