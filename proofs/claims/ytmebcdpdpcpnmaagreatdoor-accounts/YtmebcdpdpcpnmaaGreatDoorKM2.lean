import Derived.Test.YtmebcdpdpcpnmaaGreatDoorKM1
namespace Go.Proofs.YtmebcdpdpcpnmaaGreatDoor
open Go.RowKit

/-- an order in a box -/
structure Bx (w : World) (B : Nat) (o : Mk.Ord) : Prop where
  c0 : w.cell? ⟨B, 0, none⟩ = some (.bool o.sell)
  c1 : w.cell? ⟨B, 1, none⟩ = some (.int .i64 o.price)
  c2 : w.cell? ⟨B, 2, none⟩ = some (.int .i64 o.qty)

theorem Bx.lt {w : World} {B : Nat} {o : Mk.Ord} (h : Bx w B o) : B < w.heap.size := blk_lt h.c0
theorem Bx.below {w w' : World} {B n : Nat} {o : Mk.Ord} (h : Bx w B o) (hb : Below n w w') (hn : B < n) : Bx w' B o :=
  ⟨(hb.cell (p := ⟨B, 0, none⟩) hn).trans h.c0, (hb.cell (p := ⟨B, 1, none⟩) hn).trans h.c1, (hb.cell (p := ⟨B, 2, none⟩) hn).trans h.c2⟩
theorem Bx.alloc {w : World} {B : Nat} {o : Mk.Ord} (h : Bx w B o) (x : Obj) : Bx (w.alloc x) B o :=
  h.below ((Below.refl w.heap.size w).alloc (Nat.le_refl _) x) h.lt
theorem Bx.set {w : World} {B b i : Nat} {o : Mk.Ord} (h : Bx w B o) (v : Value) (hne : B ≠ b) : Bx (w.setCell ⟨b, i, none⟩ v) B o :=
  ⟨cell_set_ne (by omega) h.c0, cell_set_ne (by omega) h.c1, cell_set_ne (by omega) h.c2⟩
theorem Bx.born (w : World) (o : Mk.Ord) (t : TypeId) : Bx (w.alloc (.cells #[.bool o.sell, .int .i64 o.price, .int .i64 o.qty] t)) w.heap.size o :=
  ⟨by simp, by simp, by simp⟩

/-- a row of the call's own, at its first block -/
structure Pl (w wr : World) (n : Nat) (R : Nat → Int) : Prop where
  below : Below w.heap.size w wr
  row : wr.rowIs w.heap.size 3 n (fun j => .int .i64 (R j))
theorem Pl.next {w wr w' : World} {n : Nat} {R : Nat → Int} (h : Pl w wr n R) (hb : Below wr.heap.size wr w') : Pl w w' n R :=
  ⟨h.below.trans (hb.mono h.below.size), row_below h.row hb h.row.lt⟩
theorem Pl.alloc {w wr : World} {n : Nat} {R : Nat → Int} (h : Pl w wr n R) (o : Obj) : Pl w (wr.alloc o) n R :=
  h.next ((Below.refl _ _).alloc (Nat.le_refl _) o)
theorem Pl.set {w wr : World} {n : Nat} {R : Nat → Int} (h : Pl w wr n R) (i : Nat) (v : Int) : Pl w (wr.setCell ⟨w.heap.size, i, none⟩ (.int .i64 v)) n (fun j => if j = i then v else R j) :=
  ⟨h.below.setCell (Nat.le_refl _) _, (h.row.set i (.int .i64 v)).congr (fun j _ => by by_cases e : j = i <;> simp [e])⟩
theorem Pl.congr {w wr : World} {n : Nat} {R R' : Nat → Int} (h : Pl w wr n R) (hR : ∀ i, i < n → R i = R' i) : Pl w wr n R' :=
  ⟨h.below, h.row.congr (fun i hi => by rw [hR i hi])⟩

/-- the places, behind i orders and k of the next one's -/
def rkTo (l : List Mk.Ord) (i k : Nat) (j : Nat) : Int := if j < i then Mk.rk l j else if j = i then Mk.cnt (Mk.ahdL l i) k else 0
theorem rkTo_yes {l : List Mk.Ord} {i k : Nat} (h : Mk.ahdL l i k = true) (j : Nat) : (if j = i then ((Mk.cnt (Mk.ahdL l i) k : Nat) : Int) + 1 else rkTo l i k j) = rkTo l i (k + 1) j := by
  unfold rkTo
  by_cases e : j = i
  · subst e; rw [if_pos rfl, if_neg (by omega), if_pos rfl, Mk.cnt_yes h]
  · rw [if_neg e]
    by_cases h2 : j < i
    · rw [if_pos h2, if_pos h2]
    · rw [if_neg h2, if_neg h2, if_neg e, if_neg e]
theorem rkTo_no {l : List Mk.Ord} {i k : Nat} (h : Mk.ahdL l i k = false) (j : Nat) : rkTo l i k j = rkTo l i (k + 1) j := by
  unfold rkTo; rw [Mk.cnt_no h]
theorem rkTo_end {l : List Mk.Ord} {i : Nat} (j : Nat) : rkTo l i l.length j = rkTo l (i + 1) 0 j := by
  unfold rkTo
  by_cases e : j = i
  · subst e; rw [if_neg (by omega), if_pos rfl, if_pos (by omega)]; rfl
  · by_cases h2 : j < i
    · rw [if_pos h2, if_pos (by omega)]
    · rw [if_neg h2, if_neg e, if_neg (by omega)]
      split
      · rfl
      · rfl
theorem rkTo_self {l : List Mk.Ord} {i k : Nat} : rkTo l i k i = Mk.cnt (Mk.ahdL l i) k := by unfold rkTo; rw [if_neg (by omega), if_pos rfl]

set_option maxRecDepth 100000 in
set_option maxHeartbeats 2000000 in
theorem rowPlaces_some (b off cap : Nat) (l : List Mk.Ord) (w : World) (h12 : l.length ≤ 12) (hR : At w b off l) :
    Calls Tryz.prog 67 #[.slice (some ⟨b, off, none⟩) l.length cap] w fun e w' => e = .returned (.slice (some ⟨w.heap.size, 0, none⟩) l.length l.length) ∧ Pl w w' l.length (fun j => (Mk.rk l j : Int)) := by
  have HR : Hid (At w b off l) := hR
  clear hR
  have hmk := run_make_row' (P := Tryz.prog) 53 3 (.int .i64 0) 8 Tryz.underlying53 Tryz.infoInt rfl .i64 .i64 l.length (by omega) (by omega)
  go_enter Tryz.func67, Tryz.ntmps67
  go_wp2
  go_loopw [13] (fun i wr => ∃ k : Nat, k ≤ l.length ∧ i = .int .i64 k ∧ Pl w wr l.length (rkTo l k 0)) (fun i _ => l.length - (intOf i).toNat)
  case atStart =>
    refine ⟨0, Nat.zero_le _, rfl, ⟨(Below.refl _ _).alloc (Nat.le_refl _) _, ?_⟩⟩
    exact (World.rowIs_made w (.int .i64 0) l.length 3).congr (fun j _ => by unfold rkTo; simp [Mk.cnt])
  case round =>
    obtain ⟨i, hi, rfl, hb⟩ := hrel
    have Hb : Hid (Pl w wr l.length (rkTo l i 0)) := hb
    clear hb hmk
    have z0 : w.heap.size < wr.heap.size := Hb.out.row.lt
    by_cases hlt : i < l.length
    · obtain ⟨c0, c1, c2⟩ := At.below HR.out Hb.out.below i hlt
      have hbl := blk_lt c0
      have hlt' : (i : Int) < (l.length : Int) := by omega
      obtain ⟨wo, hwo⟩ : ∃ wo : World, wo = wr := ⟨_, rfl⟩
      subst hwo
      go_wp2
      go_loopw [20] (fun j wr => ∃ k : Nat, k ≤ l.length ∧ j = .int .i64 k ∧ Pl w wr l.length (rkTo l i k) ∧ Bx wr wo.heap.size l[i]) (fun j _ => l.length - (intOf j).toNat)
      case atStart => exact ⟨0, Nat.zero_le _, rfl, Hb.out.alloc _, Bx.born _ _ _⟩
      case round =>
        clear Hb c0 c1 c2 hbl
        obtain ⟨k, hk, rfl, hb, hx⟩ := hrel
        have Hb : Hid (Pl w wr l.length (rkTo l i k)) := hb
        have HX : Hid (Bx wr wo.heap.size l[i]) := hx
        clear hb
        obtain ⟨x0, x1, x2⟩ := hx
        have zx : wo.heap.size < wr.heap.size := HX.out.lt
        have zw : w.heap.size < wr.heap.size := Hb.out.row.lt
        have y1 : wo.heap.size < wr.heap.size + 1 := by omega
        have y2 : wo.heap.size < wr.heap.size + 1 + 1 := by omega
        have y3 : wo.heap.size < wr.heap.size + 1 + 1 + 1 := by omega
        have t1 : w.heap.size < wr.heap.size + 1 := by omega
        have t2 : w.heap.size < wr.heap.size + 1 + 1 := by omega
        have t3 : w.heap.size < wr.heap.size + 1 + 1 + 1 := by omega
        by_cases hkl : k < l.length
        · obtain ⟨c0, c1, c2⟩ := At.below HR.out Hb.out.below k hkl
          have hbl := blk_lt c0
          have hkl' : (k : Int) < (l.length : Int) := by omega
          have rc := Hb.out.row.cell hlt
          have rf := Hb.out.row.frozen i
          have cb := Mk.cnt_le (Mk.ahdL l i) k
          rw [rkTo_self] at rc
          by_cases hs : l[k].sell = l[i].sell
          · have hs' : (l[k].sell == l[i].sell) = true := by simp [hs]
            have HS : Hid (l[k].sell = l[i].sell) := hs
            clear hs
            rcases Bool.eq_false_or_eq_true (Mk.lessB l[k].sell l[k].price l[i].price) with hl | hl
            · have HA : Hid (Mk.ahdL l i k = true) := Mk.ahdL_yes hlt hkl HS.out (.inl hl)
              go_wp2_with (go_at_call 95; refine (asksLess_any _ _ _ _ _ _ _).mono ?_; rintro e w' ⟨rfl, rfl⟩)
              go_roundw
              case rel =>
                refine ⟨k + 1, by omega, by go_num, ?_, ?_⟩
                · exact ((((Hb.out.set i _).alloc _).alloc _).alloc _).congr (fun j _ => rkTo_yes HA.out j)
                · exact (((HX.out.set _ (by omega)).alloc _).alloc _).alloc _
              case measure => simp [intOf]; omega
            · by_cases hp : l[k].price = l[i].price
              · have hp' : (l[k].price == l[i].price) = true := by simp [hp]
                have HP : Hid (l[k].price = l[i].price) := hp
                clear hp
                by_cases hki : k < i
                · have hki' : (k : Int) < (i : Int) := by omega
                  have HA : Hid (Mk.ahdL l i k = true) := Mk.ahdL_yes hlt hkl HS.out (.inr ⟨HP.out, hki⟩)
                  go_wp2_with (go_at_call 95; refine (asksLess_any _ _ _ _ _ _ _).mono ?_; rintro e w' ⟨rfl, rfl⟩)
                  go_roundw
                  case rel =>
                    refine ⟨k + 1, by omega, by go_num, ?_, ?_⟩
                    · exact ((((Hb.out.set i _).alloc _).alloc _).alloc _).congr (fun j _ => rkTo_yes HA.out j)
                    · exact (((HX.out.set _ (by omega)).alloc _).alloc _).alloc _
                  case measure => simp [intOf]; omega
                · have hki' : ¬ (k : Int) < (i : Int) := by omega
                  have HA : Hid (Mk.ahdL l i k = false) := Mk.ahdL_nope hlt hkl HS.out hl (fun h => hki h.2)
                  go_wp2_with (go_at_call 95; refine (asksLess_any _ _ _ _ _ _ _).mono ?_; rintro e w' ⟨rfl, rfl⟩)
                  go_roundw
                  case rel =>
                    refine ⟨k + 1, by omega, by go_num, ?_, ?_⟩
                    · exact (((Hb.out.alloc _).alloc _).alloc _).congr (fun j _ => rkTo_no HA.out j)
                    · exact ((HX.out.alloc _).alloc _).alloc _
                  case measure => simp [intOf]; omega
              · have hp' : (l[k].price == l[i].price) = false := by simp [hp]
                have HA : Hid (Mk.ahdL l i k = false) := Mk.ahdL_nope hlt hkl HS.out hl (fun h => hp h.1)
                clear hp
                go_wp2_with (go_at_call 95; refine (asksLess_any _ _ _ _ _ _ _).mono ?_; rintro e w' ⟨rfl, rfl⟩)
                go_roundw
                case rel =>
                  refine ⟨k + 1, by omega, by go_num, ?_, ?_⟩
                  · exact (((Hb.out.alloc _).alloc _).alloc _).congr (fun j _ => rkTo_no HA.out j)
                  · exact ((HX.out.alloc _).alloc _).alloc _
                case measure => simp [intOf]; omega
          · have hs' : (l[k].sell == l[i].sell) = false := by simp [hs]
            have HA : Hid (Mk.ahdL l i k = false) := Mk.ahdL_off hlt hkl hs
            clear hs
            go_wp2
            go_roundw
            case rel =>
              refine ⟨k + 1, by omega, by go_num, ?_, ?_⟩
              · exact (Hb.out.alloc _).congr (fun j _ => rkTo_no HA.out j)
              · exact HX.out.alloc _
            case measure => simp [intOf]; omega
        · obtain rfl : k = l.length := by omega
          go_wp2
          go_roundw
          case rel => exact ⟨i + 1, by omega, by go_num, Hb.out.congr (fun j _ => rkTo_end j)⟩
          case measure => simp [intOf]; omega
    · obtain rfl : i = l.length := by omega
      go_wp2
      go_ret
      exact ⟨rfl, Hb.out.congr (fun j hj => by unfold rkTo; rw [if_pos hj])⟩

set_option maxRecDepth 100000 in
set_option maxHeartbeats 1000000 in
theorem rowPlaces_nil (a : Option Addr) (n cap : Nat) (hn : ¬ (0 : Int) < (n : Int)) (w : World) :
    Calls Tryz.prog 67 #[.slice a n cap] w fun e w' => e = .returned (.slice (some ⟨w.heap.size, 0, none⟩) n n) ∧ Pl w w' n (fun _ => 0) := by
  have hmk := run_make_row' (P := Tryz.prog) 53 3 (.int .i64 0) 8 Tryz.underlying53 Tryz.infoInt rfl .i64 .i64 n (by omega) (by omega)
  go_enter Tryz.func67, Tryz.ntmps67
  go_wp2
  go_loopw [13] (fun i wr => i = .int .i64 0 ∧ Pl w wr n (fun _ => 0)) (fun i _ => 0)
  case atStart => exact ⟨rfl, (Below.refl _ _).alloc (Nat.le_refl _) _, World.rowIs_made w (.int .i64 0) n 3⟩
  case round =>
    obtain ⟨rfl, hb⟩ := hrel
    have Hb : Hid (Pl w wr n (fun _ => 0)) := hb
    clear hb hmk
    go_wp2
    go_ret
    exact ⟨rfl, Hb.out⟩

theorem rowPlaces_any (a : Option Addr) (cap : Nat) (l : List Mk.Ord) (w : World) (h12 : l.length ≤ 12) (hR : Rd w a l) :
    Calls Tryz.prog 67 #[.slice a l.length cap] w fun e w' => e = .returned (.slice (some ⟨w.heap.size, 0, none⟩) l.length l.length) ∧ Pl w w' l.length (fun j => (Mk.rk l j : Int)) := by
  rcases hR with rfl | ⟨b, off, rfl, hR⟩
  · refine (rowPlaces_nil a 0 cap (by simp) w).mono ?_
    rintro e w' ⟨rfl, h⟩
    exact ⟨rfl, h.congr (fun j hj => by omega)⟩
  · exact rowPlaces_some b off cap l w h12 hR

end Go.Proofs.YtmebcdpdpcpnmaaGreatDoor
