import Derived.Test.YtmebcdpdpcpnmabDoorJ7
namespace Go.Proofs.YtmebcdpdpcpnmabDoor
open Go.RowKit

/-- an order in a box -/
structure Bx (w : World) (B : Nat) (o : Mk.Ord) : Prop where
  c0 : w.cell? ⟨B, 0, none⟩ = some (.bool o.sell)
  c1 : w.cell? ⟨B, 1, none⟩ = some (.int .i64 o.price)
  c2 : w.cell? ⟨B, 2, none⟩ = some (.int .i64 o.qty)

theorem Bx.lt {w : World} {B : Nat} {o : Mk.Ord} (h : Bx w B o) : B < w.heap.size := blk_lt h.c0
theorem Bx.below {w w' : World} {B n : Nat} {o : Mk.Ord} (h : Bx w B o) (hb : Below n w w') (hn : B < n) : Bx w' B o :=
  ⟨(hb.cell (p := ⟨B, 0, none⟩) hn).trans h.c0, (hb.cell (p := ⟨B, 1, none⟩) hn).trans h.c1, (hb.cell (p := ⟨B, 2, none⟩) hn).trans h.c2⟩
theorem Bx.alloc {w : World} {B : Nat} {o : Mk.Ord} (h : Bx w B o) (x : Obj) : Bx (w.alloc x) B o :=
  h.below ((Below.refl w.heap.size w).alloc (Nat.le_refl _) x) h.lt
theorem Bx.set {w : World} {B b i : Nat} {o : Mk.Ord} (h : Bx w B o) (v : Value) (hne : B ≠ b) : Bx (w.setCell ⟨b, i, none⟩ v) B o :=
  ⟨cell_set_ne (by omega) h.c0, cell_set_ne (by omega) h.c1, cell_set_ne (by omega) h.c2⟩
theorem Bx.born (w : World) (o : Mk.Ord) (t : TypeId) : Bx (w.alloc (.cells #[.bool o.sell, .int .i64 o.price, .int .i64 o.qty] t)) w.heap.size o :=
  ⟨by simp, by simp, by simp⟩

/-- a row of the call's own, at its first block -/
structure Pl (w wr : World) (n : Nat) (R : Nat → Int) : Prop where
  below : Below w.heap.size w wr
  row : wr.rowIs w.heap.size 3 n (fun j => .int .i64 (R j))
theorem Pl.next {w wr w' : World} {n : Nat} {R : Nat → Int} (h : Pl w wr n R) (hb : Below wr.heap.size wr w') : Pl w w' n R :=
  ⟨h.below.trans (hb.mono h.below.size), row_below h.row hb h.row.lt⟩
theorem Pl.alloc {w wr : World} {n : Nat} {R : Nat → Int} (h : Pl w wr n R) (o : Obj) : Pl w (wr.alloc o) n R :=
  h.next ((Below.refl _ _).alloc (Nat.le_refl _) o)
theorem Pl.set {w wr : World} {n : Nat} {R : Nat → Int} (h : Pl w wr n R) (i : Nat) (v : Int) : Pl w (wr.setCell ⟨w.heap.size, i, none⟩ (.int .i64 v)) n (fun j => if j = i then v else R j) :=
  ⟨h.below.setCell (Nat.le_refl _) _, (h.row.set i (.int .i64 v)).congr (fun j _ => by by_cases e : j = i <;> simp [e])⟩
theorem Pl.congr {w wr : World} {n : Nat} {R R' : Nat → Int} (h : Pl w wr n R) (hR : ∀ i, i < n → R i = R' i) : Pl w wr n R' :=
  ⟨h.below, h.row.congr (fun i hi => by rw [hR i hi])⟩

/-- the places, behind i orders and k of the next one's -/
def rkTo (l : List Mk.Ord) (i k : Nat) (j : Nat) : Int := if j < i then Mk.rk l j else if j = i then Mk.cnt (Mk.ahdL l i) k else 0
theorem rkTo_yes {l : List Mk.Ord} {i k : Nat} (h : Mk.ahdL l i k = true) (j : Nat) : (if j = i then ((Mk.cnt (Mk.ahdL l i) k : Nat) : Int) + 1 else rkTo l i k j) = rkTo l i (k + 1) j := by
  unfold rkTo
  by_cases e : j = i
  · subst e; rw [if_pos rfl, if_neg (by omega), if_pos rfl, Mk.cnt_yes h]
  · rw [if_neg e]
    by_cases h2 : j < i
    · rw [if_pos h2, if_pos h2]
    · rw [if_neg h2, if_neg h2, if_neg e, if_neg e]
theorem rkTo_no {l : List Mk.Ord} {i k : Nat} (h : Mk.ahdL l i k = false) (j : Nat) : rkTo l i k j = rkTo l i (k + 1) j := by
  unfold rkTo; rw [Mk.cnt_no h]
theorem rkTo_end {l : List Mk.Ord} {i : Nat} (j : Nat) : rkTo l i l.length j = rkTo l (i + 1) 0 j := by
  unfold rkTo
  by_cases e : j = i
  · subst e; rw [if_neg (by omega), if_pos rfl, if_pos (by omega)]; rfl
  · by_cases h2 : j < i
    · rw [if_pos h2, if_pos (by omega)]
    · rw [if_neg h2, if_neg e, if_neg (by omega)]
      split
      · rfl
      · rfl
theorem rkTo_self {l : List Mk.Ord} {i k : Nat} : rkTo l i k i = Mk.cnt (Mk.ahdL l i) k := by unfold rkTo; rw [if_neg (by omega), if_pos rfl]

set_option maxRecDepth 100000 in
set_option maxHeartbeats 2000000 in
theorem rowPlaces_some (b off cap : Nat) (l : List Mk.Ord) (w : World) (h12 : l.length ≤ 12) (hR : At w b off l) :
    Calls Tryd.prog 86 #[.slice (some ⟨b, off, none⟩) l.length cap] w fun e w' => e = .returned (.slice (some ⟨w.heap.size, 0, none⟩) l.length l.length) ∧ Pl w w' l.length (fun j => (Mk.rk l j : Int)) := by
  have HR : Hid (At w b off l) := hR
  clear hR
  have hmk := run_make_row' (P := Tryd.prog) 27 3 (.int .i64 0) 8 Tryd.underlying27 Tryd.infoInt rfl .i64 .i64 l.length (by omega) (by omega)
  go_enter Tryd.func86, Tryd.ntmps86
  go_wp2
  go_loopw [13] (fun i wr => ∃ k : Nat, k ≤ l.length ∧ i = .int .i64 k ∧ Pl w wr l.length (rkTo l k 0)) (fun i _ => l.length - (intOf i).toNat)
  case atStart =>
    refine ⟨0, Nat.zero_le _, rfl, ⟨(Below.refl _ _).alloc (Nat.le_refl _) _, ?_⟩⟩
    exact (World.rowIs_made w (.int .i64 0) l.length 3).congr (fun j _ => by unfold rkTo; simp [Mk.cnt])
  case round =>
    obtain ⟨i, hi, rfl, hb⟩ := hrel
    have Hb : Hid (Pl w wr l.length (rkTo l i 0)) := hb
    clear hb hmk
    have z0 : w.heap.size < wr.heap.size := Hb.out.row.lt
    by_cases hlt : i < l.length
    · obtain ⟨c0, c1, c2⟩ := At.below HR.out Hb.out.below i hlt
      have hbl := blk_lt c0
      have hlt' : (i : Int) < (l.length : Int) := by omega
      obtain ⟨wo, hwo⟩ : ∃ wo : World, wo = wr := ⟨_, rfl⟩
      subst hwo
      go_wp2
      go_loopw [20] (fun j wr => ∃ k : Nat, k ≤ l.length ∧ j = .int .i64 k ∧ Pl w wr l.length (rkTo l i k) ∧ Bx wr wo.heap.size l[i]) (fun j _ => l.length - (intOf j).toNat)
      case atStart => exact ⟨0, Nat.zero_le _, rfl, Hb.out.alloc _, Bx.born _ _ _⟩
      case round =>
        clear Hb c0 c1 c2 hbl
        obtain ⟨k, hk, rfl, hb, hx⟩ := hrel
        have Hb : Hid (Pl w wr l.length (rkTo l i k)) := hb
        have HX : Hid (Bx wr wo.heap.size l[i]) := hx
        clear hb
        obtain ⟨x0, x1, x2⟩ := hx
        have zx : wo.heap.size < wr.heap.size := HX.out.lt
        have zw : w.heap.size < wr.heap.size := Hb.out.row.lt
        have y1 : wo.heap.size < wr.heap.size + 1 := by omega
        have y2 : wo.heap.size < wr.heap.size + 1 + 1 := by omega
        have y3 : wo.heap.size < wr.heap.size + 1 + 1 + 1 := by omega
        have t1 : w.heap.size < wr.heap.size + 1 := by omega
        have t2 : w.heap.size < wr.heap.size + 1 + 1 := by omega
        have t3 : w.heap.size < wr.heap.size + 1 + 1 + 1 := by omega
        by_cases hkl : k < l.length
        · obtain ⟨c0, c1, c2⟩ := At.below HR.out Hb.out.below k hkl
          have hbl := blk_lt c0
          have hkl' : (k : Int) < (l.length : Int) := by omega
          have rc := Hb.out.row.cell hlt
          have rf := Hb.out.row.frozen i
          have cb := Mk.cnt_le (Mk.ahdL l i) k
          rw [rkTo_self] at rc
          by_cases hs : l[k].sell = l[i].sell
          · have hs' : (l[k].sell == l[i].sell) = true := by simp [hs]
            have HS : Hid (l[k].sell = l[i].sell) := hs
            clear hs
            rcases Bool.eq_false_or_eq_true (Mk.lessB l[k].sell l[k].price l[i].price) with hl | hl
            · have HA : Hid (Mk.ahdL l i k = true) := Mk.ahdL_yes hlt hkl HS.out (.inl hl)
              go_wp2_with (go_at_call 93; refine (asksLess_any _ _ _ _ _ _ _).mono ?_; rintro e w' ⟨rfl, rfl⟩)
              go_roundw
              case rel =>
                refine ⟨k + 1, by omega, by go_num, ?_, ?_⟩
                · exact ((((Hb.out.set i _).alloc _).alloc _).alloc _).congr (fun j _ => rkTo_yes HA.out j)
                · exact (((HX.out.set _ (by omega)).alloc _).alloc _).alloc _
              case measure => simp [intOf]; omega
            · by_cases hp : l[k].price = l[i].price
              · have hp' : (l[k].price == l[i].price) = true := by simp [hp]
                have HP : Hid (l[k].price = l[i].price) := hp
                clear hp
                by_cases hki : k < i
                · have hki' : (k : Int) < (i : Int) := by omega
                  have HA : Hid (Mk.ahdL l i k = true) := Mk.ahdL_yes hlt hkl HS.out (.inr ⟨HP.out, hki⟩)
                  go_wp2_with (go_at_call 93; refine (asksLess_any _ _ _ _ _ _ _).mono ?_; rintro e w' ⟨rfl, rfl⟩)
                  go_roundw
                  case rel =>
                    refine ⟨k + 1, by omega, by go_num, ?_, ?_⟩
                    · exact ((((Hb.out.set i _).alloc _).alloc _).alloc _).congr (fun j _ => rkTo_yes HA.out j)
                    · exact (((HX.out.set _ (by omega)).alloc _).alloc _).alloc _
                  case measure => simp [intOf]; omega
                · have hki' : ¬ (k : Int) < (i : Int) := by omega
                  have HA : Hid (Mk.ahdL l i k = false) := Mk.ahdL_nope hlt hkl HS.out hl (fun h => hki h.2)
                  go_wp2_with (go_at_call 93; refine (asksLess_any _ _ _ _ _ _ _).mono ?_; rintro e w' ⟨rfl, rfl⟩)
                  go_roundw
                  case rel =>
                    refine ⟨k + 1, by omega, by go_num, ?_, ?_⟩
                    · exact (((Hb.out.alloc _).alloc _).alloc _).congr (fun j _ => rkTo_no HA.out j)
                    · exact ((HX.out.alloc _).alloc _).alloc _
                  case measure => simp [intOf]; omega
              · have hp' : (l[k].price == l[i].price) = false := by simp [hp]
                have HA : Hid (Mk.ahdL l i k = false) := Mk.ahdL_nope hlt hkl HS.out hl (fun h => hp h.1)
                clear hp
                go_wp2_with (go_at_call 93; refine (asksLess_any _ _ _ _ _ _ _).mono ?_; rintro e w' ⟨rfl, rfl⟩)
                go_roundw
                case rel =>
                  refine ⟨k + 1, by omega, by go_num, ?_, ?_⟩
                  · exact (((Hb.out.alloc _).alloc _).alloc _).congr (fun j _ => rkTo_no HA.out j)
                  · exact ((HX.out.alloc _).alloc _).alloc _
                case measure => simp [intOf]; omega
          · have hs' : (l[k].sell == l[i].sell) = false := by simp [hs]
            have HA : Hid (Mk.ahdL l i k = false) := Mk.ahdL_off hlt hkl hs
            clear hs
            go_wp2
            go_roundw
            case rel =>
              refine ⟨k + 1, by omega, by go_num, ?_, ?_⟩
              · exact (Hb.out.alloc _).congr (fun j _ => rkTo_no HA.out j)
              · exact HX.out.alloc _
            case measure => simp [intOf]; omega
        · obtain rfl : k = l.length := by omega
          go_wp2
          go_roundw
          case rel => exact ⟨i + 1, by omega, by go_num, Hb.out.congr (fun j _ => rkTo_end j)⟩
          case measure => simp [intOf]; omega
    · obtain rfl : i = l.length := by omega
      go_wp2
      go_ret
      exact ⟨rfl, Hb.out.congr (fun j hj => by unfold rkTo; rw [if_pos hj])⟩

set_option maxRecDepth 100000 in
set_option maxHeartbeats 1000000 in
theorem rowPlaces_nil (a : Option Addr) (n cap : Nat) (hn : ¬ (0 : Int) < (n : Int)) (w : World) :
    Calls Tryd.prog 86 #[.slice a n cap] w fun e w' => e = .returned (.slice (some ⟨w.heap.size, 0, none⟩) n n) ∧ Pl w w' n (fun _ => 0) := by
  have hmk := run_make_row' (P := Tryd.prog) 27 3 (.int .i64 0) 8 Tryd.underlying27 Tryd.infoInt rfl .i64 .i64 n (by omega) (by omega)
  go_enter Tryd.func86, Tryd.ntmps86
  go_wp2
  go_loopw [13] (fun i wr => i = .int .i64 0 ∧ Pl w wr n (fun _ => 0)) (fun i _ => 0)
  case atStart => exact ⟨rfl, (Below.refl _ _).alloc (Nat.le_refl _) _, World.rowIs_made w (.int .i64 0) n 3⟩
  case round =>
    obtain ⟨rfl, hb⟩ := hrel
    have Hb : Hid (Pl w wr n (fun _ => 0)) := hb
    clear hb hmk
    go_wp2
    go_ret
    exact ⟨rfl, Hb.out⟩

theorem rowPlaces_any (a : Option Addr) (cap : Nat) (l : List Mk.Ord) (w : World) (h12 : l.length ≤ 12) (hR : Rd w a l) :
    Calls Tryd.prog 86 #[.slice a l.length cap] w fun e w' => e = .returned (.slice (some ⟨w.heap.size, 0, none⟩) l.length l.length) ∧ Pl w w' l.length (fun j => (Mk.rk l j : Int)) := by
  rcases hR with rfl | ⟨b, off, rfl, hR⟩
  · refine (rowPlaces_nil a 0 cap (by simp) w).mono ?_
    rintro e w' ⟨rfl, h⟩
    exact ⟨rfl, h.congr (fun j hj => by omega)⟩
  · exact rowPlaces_some b off cap l w h12 hR

end Go.Proofs.YtmebcdpdpcpnmabDoor

namespace Go.Proofs.YtmebcdpdpcpnmabDoor
open Go.RowKit

/-- pairAt's memory at a round's head: its result's block, its pair's block -/
structure Pa (w wr : World) (x y : Int) : Prop where
  below : Below w.heap.size w wr
  size : w.heap.size + 1 < wr.heap.size
  c0 : wr.cell? ⟨w.heap.size + 1, 0, none⟩ = some (.int .i64 x)
  c1 : wr.cell? ⟨w.heap.size + 1, 1, none⟩ = some (.int .i64 y)
  f0 : wr.frozen? ⟨w.heap.size + 1, 0, none⟩ = false
  f1 : wr.frozen? ⟨w.heap.size + 1, 1, none⟩ = false
  r0 : wr.cell? ⟨w.heap.size, 0, none⟩ = some (.int .i64 0)
  r1 : wr.cell? ⟨w.heap.size, 1, none⟩ = some (.int .i64 0)
  g0 : wr.frozen? ⟨w.heap.size, 0, none⟩ = false
  g1 : wr.frozen? ⟨w.heap.size, 1, none⟩ = false

theorem Pa.alloc {w wr : World} {x y : Int} (h : Pa w wr x y) (o : Obj) : Pa w (wr.alloc o) x y := by
  have hs := h.size
  exact ⟨h.below.alloc (by omega) o, by simp; omega, cell_al h.c0, cell_al h.c1, froz_al hs h.f0, froz_al hs h.f1, cell_al h.r0, cell_al h.r1, froz_al (by omega) h.g0, froz_al (by omega) h.g1⟩
theorem Pa.setX {w wr : World} {x y : Int} (h : Pa w wr x y) (v : Int) : Pa w (wr.setCell ⟨w.heap.size + 1, 0, none⟩ (.int .i64 v)) v y :=
  ⟨h.below.setCell (by simp) _, by simpa using h.size, cell_set_same h.c0, cell_set_ne (by omega) h.c1, by simpa using h.f0, by simpa using h.f1, cell_set_ne (by omega) h.r0, cell_set_ne (by omega) h.r1, by simpa using h.g0, by simpa using h.g1⟩
theorem Pa.setY {w wr : World} {x y : Int} (h : Pa w wr x y) (v : Int) : Pa w (wr.setCell ⟨w.heap.size + 1, 1, none⟩ (.int .i64 v)) x v :=
  ⟨h.below.setCell (by simp) _, by simpa using h.size, cell_set_ne (by omega) h.c0, cell_set_same h.c1, by simpa using h.f0, by simpa using h.f1, cell_set_ne (by omega) h.r0, cell_set_ne (by omega) h.r1, by simpa using h.g0, by simpa using h.g1⟩

set_option maxRecDepth 100000 in
set_option maxHeartbeats 2000000 in
theorem pairAt_some (b off cap g : Nat) (l : List Mk.Ord) (m : Int) (w : World) (h12 : l.length ≤ 12) (hR : At w b off l) (hrow : w.rowIs g 3 l.length (fun j => .int .i64 (Mk.rk l j : Int))) :
    Calls Tryd.prog 88 #[.slice (some ⟨b, off, none⟩) l.length cap, .slice (some ⟨g, 0, none⟩) l.length l.length, .int .i64 m] w fun e w' =>
      e = .returned (.agg #[.int .i64 (Mk.lastTo l false m 0 l.length), .int .i64 (Mk.lastTo l true m 100 l.length)]) ∧ Below w.heap.size w w' := by
  have HR : Hid (At w b off l) := hR
  have HRow : Hid (w.rowIs g 3 l.length (fun j => .int .i64 (Mk.rk l j : Int))) := hrow
  clear hR hrow
  go_enter Tryd.func88, Tryd.ntmps88
  go_wp2
  go_loopw [13] (fun i wr => ∃ k : Nat, k ≤ l.length ∧ i = .int .i64 k ∧ Pa w wr (Mk.lastTo l false m 0 k) (Mk.lastTo l true m 100 k)) (fun i _ => l.length - (intOf i).toNat)
  case atStart =>
    refine ⟨0, Nat.zero_le _, rfl, ?_⟩
    exact ⟨((Below.refl _ _).alloc (Nat.le_refl _) _).alloc (by simp) _, by simp, by simp [Mk.lastTo], by simp [Mk.lastTo], by simp [go_sem], by simp [go_sem], by simp, by simp, by simp [go_sem], by simp [go_sem]⟩
  case round =>
    obtain ⟨k, hk, rfl, hb⟩ := hrel
    have Hb : Hid (Pa w wr (Mk.lastTo l false m 0 k) (Mk.lastTo l true m 100 k)) := hb
    obtain ⟨_, hsz, e0, e1, f0, f1, r0, r1, g0, g1⟩ := hb
    have hsz' : w.heap.size < wr.heap.size := by omega
    have hgw : g < w.heap.size := World.rowIs.lt HRow.out
    have hgr : g < wr.heap.size := by omega
    by_cases hlt : k < l.length
    · obtain ⟨c0, c1, c2⟩ := At.below HR.out Hb.out.below k hlt
      have hbl := blk_lt c0
      have rc := World.rowIs.cell (row_below HRow.out Hb.out.below hgw) hlt
      have hlt' : (k : Int) < (l.length : Int) := by omega
      have hd : decide (l.length ≤ k) = false := by simp; omega
      have hd2 : ¬ l.length ≤ k := by omega
      have HSl : Hid (Mk.sl l k = l[k].sell) := Mk.sl_at hlt
      have HPr : Hid (Mk.pr l k = l[k].price) := Mk.pr_at hlt
      by_cases hm : (Mk.rk l k : Int) = m
      · have hm' : ((Mk.rk l k : Int) == m) = true := by simp [hm]
        have HM : Hid ((Mk.rk l k : Int) = m) := hm
        clear hm
        rcases Bool.eq_false_or_eq_true l[k].sell with hs | hs
        · have HY : Hid (Mk.lastTo l true m 100 (k + 1) = l[k].price) := (Mk.lastTo_yes (HSl.out.trans hs) HM.out).trans HPr.out
          have HX : Hid (Mk.lastTo l false m 0 (k + 1) = Mk.lastTo l false m 0 k) := Mk.lastTo_no (.inl (by rw [HSl.out, hs]; simp))
          rw [hs] at c0
          clear hs
          go_wp2
          go_roundw
          case rel => exact ⟨k + 1, by omega, by go_num, by rw [HX.out, HY.out]; exact (Hb.out.setY _).alloc _⟩
          case measure => simp [intOf]; omega
        · have HX : Hid (Mk.lastTo l false m 0 (k + 1) = l[k].price) := (Mk.lastTo_yes (HSl.out.trans hs) HM.out).trans HPr.out
          have HY : Hid (Mk.lastTo l true m 100 (k + 1) = Mk.lastTo l true m 100 k) := Mk.lastTo_no (.inl (by rw [HSl.out, hs]; simp))
          rw [hs] at c0
          clear hs
          go_wp2
          go_roundw
          case rel => exact ⟨k + 1, by omega, by go_num, by rw [HX.out, HY.out]; exact (Hb.out.setX _).alloc _⟩
          case measure => simp [intOf]; omega
      · have hm' : ((Mk.rk l k : Int) == m) = false := by simp [hm]
        have HX : Hid (Mk.lastTo l false m 0 (k + 1) = Mk.lastTo l false m 0 k) := Mk.lastTo_no (.inr hm)
        have HY : Hid (Mk.lastTo l true m 100 (k + 1) = Mk.lastTo l true m 100 k) := Mk.lastTo_no (.inr hm)
        clear hm
        go_wp2
        go_roundw
        case rel => exact ⟨k + 1, by omega, by go_num, by rw [HX.out, HY.out]; exact Hb.out.alloc _⟩
        case measure => simp [intOf]; omega
    · obtain rfl : k = l.length := by omega
      go_wp2
      refine bodyPost_ret (v := .agg #[.int .i64 (Mk.lastTo l false m 0 l.length), .int .i64 (Mk.lastTo l true m 100 l.length)]) ?_ rfl ⟨rfl, (Hb.out.below.setCell (by simp) _).setCell (by simp) _⟩
      have q1 := fun a b => cell_set_same (u := b) (cell_set_ne (b' := w.heap.size) (o' := 0) (u := a) (by omega) r1)
      have q0 := fun a b => cell_set_ne (b' := w.heap.size) (o' := 1) (u := b) (by omega) (cell_set_same (u := a) r0)
      simp [results, Tryd.results88, go_sem, q0, q1]
      try exact ⟨rfl, rfl⟩

set_option maxRecDepth 100000 in
set_option maxHeartbeats 1000000 in
theorem pairAt_nil (a : Option Addr) (cap : Nat) (a' : Option Addr) (n c : Nat) (m : Int) (w : World) :
    Calls Tryd.prog 88 #[.slice a 0 cap, .slice a' n c, .int .i64 m] w fun e w' => e = .returned (.agg #[.int .i64 0, .int .i64 100]) ∧ Below w.heap.size w w' := by
  go_enter Tryd.func88, Tryd.ntmps88
  go_wp2
  go_loop [13] (fun i => i = .int .i64 0) (fun i => 0)
  case atStart => rfl
  case round =>
    subst hrel
    go_wp2
    refine bodyPost_ret (v := .agg #[.int .i64 0, .int .i64 100]) ?_ rfl ⟨rfl, ?_⟩
    · simp [results, Tryd.results88, go_sem]
    · repeat (first | exact Below.refl _ _ | refine Below.alloc ?_ (by simp <;> omega) _ | refine Below.setCell ?_ (by simp) _)

theorem pairAt_any (a : Option Addr) (cap g : Nat) (l : List Mk.Ord) (m : Int) (w : World) (h12 : l.length ≤ 12) (hR : Rd w a l) (hrow : w.rowIs g 3 l.length (fun j => .int .i64 (Mk.rk l j : Int))) :
    Calls Tryd.prog 88 #[.slice a l.length cap, .slice (some ⟨g, 0, none⟩) l.length l.length, .int .i64 m] w fun e w' =>
      e = .returned (.agg #[.int .i64 (Mk.lastTo l false m 0 l.length), .int .i64 (Mk.lastTo l true m 100 l.length)]) ∧ Below w.heap.size w w' := by
  rcases hR with rfl | ⟨b, off, rfl, hR⟩
  · exact pairAt_nil a cap _ _ _ m w
  · exact pairAt_some b off cap g l m w h12 hR hrow
theorem pairAt_nat (a : Option Addr) (cap g : Nat) (l : List Mk.Ord) (m : Nat) (w : World) (h12 : l.length ≤ 12) (hR : Rd w a l) (hrow : w.rowIs g 3 l.length (fun j => .int .i64 (Mk.rk l j : Int))) :
    Calls Tryd.prog 88 #[.slice a l.length cap, .slice (some ⟨g, 0, none⟩) l.length l.length, .int .i64 m] w fun e w' =>
      e = .returned (.agg #[.int .i64 (Mk.pB l m), .int .i64 (Mk.pS l m)]) ∧ Below w.heap.size w w' := by
  have h := pairAt_any a cap g l m w h12 hR hrow
  rw [Mk.lastTo_all, Mk.lastTo_all, Mk.prAt_B, Mk.prAt_S] at h
  exact h

set_option maxRecDepth 100000 in
set_option maxHeartbeats 2000000 in
theorem countPairs_any (a : Option Addr) (cap g : Nat) (l : List Mk.Ord) (w : World) (hv : Mk.validB 20 l = true) (hR : Rd w a l) (hrow : w.rowIs g 3 l.length (fun j => .int .i64 (Mk.rk l j : Int))) :
    Calls Tryd.prog 87 #[.slice a l.length cap, .slice (some ⟨g, 0, none⟩) l.length l.length] w fun e w' =>
      e = .returned (.int .i64 (Mk.kk l : Int)) ∧ Below w.heap.size w w' := by
  have h12 := (Mk.ok_of_valid hv).1
  have HP : Hid (Mk.okP l) := Mk.okP_of hv
  have HR : Hid (Rd w a l) := hR
  have HRow : Hid (w.rowIs g 3 l.length (fun j => .int .i64 (Mk.rk l j : Int))) := hrow
  clear hR hrow hv
  go_enter Tryd.func87, Tryd.ntmps87
  go_wp2
  go_loopw [9] (fun i wr => ∃ k : Nat, k ≤ l.length ∧ i = .int .i64 k ∧ (∀ j, j < k → Mk.pS l j ≤ Mk.pB l j) ∧ Below w.heap.size w wr) (fun i _ => l.length - (intOf i).toNat)
  case atStart => exact ⟨0, Nat.zero_le _, rfl, fun j hj => by omega, Below.refl _ _⟩
  case round =>
    obtain ⟨k, hk, rfl, hall, hb⟩ := hrel
    have Hall : Hid (∀ j, j < k → Mk.pS l j ≤ Mk.pB l j) := hall
    have Hb : Hid (Below w.heap.size w wr) := hb
    clear hb hall
    by_cases hlt : k < l.length
    · have hlt' : (k : Int) < (l.length : Int) := by omega
      by_cases hc : Mk.pB l k < Mk.pS l k
      · have HK : Hid (Mk.kk l = k) := Mk.kk_first HP.out Hall.out (fun _ => hc) hk
        go_wp2_with fail
        refine (pairAt_nat a cap g l k _ h12 (HR.out.below Hb.out) (row_below HRow.out Hb.out (World.rowIs.lt HRow.out))).mono ?_
        rintro e w2 ⟨rfl, hb2⟩
        have Hb2 : Hid (Below w.heap.size w w2) := Hb.out.trans (hb2.mono Hb.out.size)
        clear hb2
        go_wp2
        go_ret
        exact ⟨by rw [HK.out]; rfl, Hb2.out.alloc Hb2.out.size _⟩
      · have HN : Hid (∀ j, j < k + 1 → Mk.pS l j ≤ Mk.pB l j) := fun j hj => by
          by_cases e : j = k
          · subst e; omega
          · exact Hall.out j (by omega)
        go_wp2_with fail
        refine (pairAt_nat a cap g l k _ h12 (HR.out.below Hb.out) (row_below HRow.out Hb.out (World.rowIs.lt HRow.out))).mono ?_
        rintro e w2 ⟨rfl, hb2⟩
        have Hb2 : Hid (Below w.heap.size w w2) := Hb.out.trans (hb2.mono Hb.out.size)
        clear hb2
        go_wp2
        go_roundw
        case rel => exact ⟨k + 1, by omega, by go_num, HN.out, Hb2.out.alloc Hb2.out.size _⟩
        case measure => simp [intOf]; omega
    · obtain rfl : k = l.length := by omega
      have HK : Hid (Mk.kk l = l.length) := Mk.kk_first HP.out Hall.out (fun h => by omega) hk
      go_wp2
      go_ret
      exact ⟨by rw [HK.out]; rfl, Hb.out⟩

set_option maxRecDepth 100000 in
set_option maxHeartbeats 2000000 in
theorem firstGet_any (g : Nat) (l : List Mk.Ord) (m : Int) (w : World) (h12 : l.length ≤ 12) (hrow : w.rowIs g 3 l.length (fun j => .int .i64 (Mk.rk l j : Int))) :
    Calls Tryd.prog 89 #[.slice (some ⟨g, 0, none⟩) l.length l.length, .int .i64 m] w fun e w' => e = .returned (.slice (some ⟨w.heap.size, 0, none⟩) l.length l.length) ∧ Pl w w' l.length (fun j => if (Mk.rk l j : Int) < m then 1 else 0) := by
  have HRow : Hid (w.rowIs g 3 l.length (fun j => .int .i64 (Mk.rk l j : Int))) := hrow
  clear hrow
  have hmk := run_make_row' (P := Tryd.prog) 27 3 (.int .i64 0) 8 Tryd.underlying27 Tryd.infoInt rfl .i64 .i64 l.length (by omega) (by omega)
  go_enter Tryd.func89, Tryd.ntmps89
  go_wp2
  go_loopw [13] (fun i wr => ∃ k : Nat, k ≤ l.length ∧ i = .int .i64 k ∧ Pl w wr l.length (fun j => if j < k then (if (Mk.rk l j : Int) < m then 1 else 0) else 0)) (fun i _ => l.length - (intOf i).toNat)
  case atStart =>
    refine ⟨0, Nat.zero_le _, rfl, ⟨(Below.refl _ _).alloc (Nat.le_refl _) _, ?_⟩⟩
    exact (World.rowIs_made w (.int .i64 0) l.length 3).congr (fun j _ => by simp)
  case round =>
    obtain ⟨k, hk, rfl, hb⟩ := hrel
    have Hb : Hid (Pl w wr l.length (fun j => if j < k then (if (Mk.rk l j : Int) < m then 1 else 0) else 0)) := hb
    clear hb hmk
    have hgw : g < w.heap.size := World.rowIs.lt HRow.out
    by_cases hlt : k < l.length
    · have rc := World.rowIs.cell (row_below HRow.out Hb.out.below hgw) hlt
      have gc := Hb.out.row.cell hlt
      have gf := Hb.out.row.frozen k
      simp only [Nat.lt_irrefl, if_false] at gc
      have hlt' : (k : Int) < (l.length : Int) := by omega
      by_cases hm : (Mk.rk l k : Int) < m
      · have HM : Hid ((if (Mk.rk l k : Int) < m then (1 : Int) else 0) = 1) := if_pos hm
        go_wp2
        go_roundw
        case rel =>
          refine ⟨k + 1, by omega, by go_num, (Hb.out.set k _).congr (fun j _ => ?_)⟩
          exact Mk.step_on (G := fun j => if (Mk.rk l j : Int) < m then (1 : Int) else 0) (k := k) HM.out j
        case measure => simp [intOf]; omega
      · have HM : Hid ((if (Mk.rk l k : Int) < m then (1 : Int) else 0) = 0) := if_neg hm
        go_wp2
        go_roundw
        case rel =>
          refine ⟨k + 1, by omega, by go_num, Hb.out.congr (fun j _ => ?_)⟩
          exact Mk.step_off (G := fun j => if (Mk.rk l j : Int) < m then (1 : Int) else 0) (k := k) HM.out j
        case measure => simp [intOf]; omega
    · obtain rfl : k = l.length := by omega
      go_wp2
      go_ret
      exact ⟨rfl, Hb.out.congr (fun j hj => by rw [if_pos hj])⟩

end Go.Proofs.YtmebcdpdpcpnmabDoor
