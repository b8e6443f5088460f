import Derived.Test.YtmebcdpdpcpnmaaGreatDoorA6
import Derived.Test.YtmebcdpdpcpnmaaGreatDoorB2
import Derived.Test.YtmebcdpdpcpnmaaGreatDoorPlain4
namespace Go.Proofs.YtmebcdpdpcpnmaaGreatDoor
open Go.RowKit

theorem row_below {w w' : World} {b n m : Nat} {t : TypeId} {f : Nat → Value} (h : w.rowIs b t n f) (hb : Below m w w') (hm : b < m) : w'.rowIs b t n f := h.of_block (hb.block b hm)

/-- the memory of 'shares': the level's box, the row 'gets', the row 'lost' -/
structure Sh (w wr : World) (n : Nat) (p d s : Int) (G L : Nat → Int) : Prop where
  below : Below w.heap.size w wr
  lv : LvAt wr w.heap.size p d s
  gets : wr.rowIs (w.heap.size + 1) 3 n (fun i => .int .i64 (G i))
  lost : wr.rowIs (w.heap.size + 1 + 1) 3 n (fun i => .int .i64 (L i))

theorem Sh.next {w wr w' : World} {n : Nat} {p d s : Int} {G L : Nat → Int} (h : Sh w wr n p d s G L) (hb : Below wr.heap.size wr w') : Sh w w' n p d s G L :=
  ⟨h.below.trans (hb.mono h.below.size), h.lv.below hb h.lv.lt, row_below h.gets hb h.gets.lt, row_below h.lost hb h.lost.lt⟩
theorem Sh.alloc {w wr : World} {n : Nat} {p d s : Int} {G L : Nat → Int} (h : Sh w wr n p d s G L) (o : Obj) : Sh w (wr.alloc o) n p d s G L :=
  h.next ((Below.refl _ _).alloc (Nat.le_refl _) o)
theorem Sh.setG {w wr : World} {n : Nat} {p d s : Int} {G L : Nat → Int} (h : Sh w wr n p d s G L) (i : Nat) (v : Int) : Sh w (wr.setCell ⟨w.heap.size + 1, i, none⟩ (.int .i64 v)) n p d s (fun j => if j = i then v else G j) L :=
  ⟨h.below.setCell (by simp) _, h.lv.setOther _ (by omega), (h.gets.set i (.int .i64 v)).congr (fun j _ => by by_cases e : j = i <;> simp [e]), h.lost.setOther (by simp) _⟩
theorem Sh.setL {w wr : World} {n : Nat} {p d s : Int} {G L : Nat → Int} (h : Sh w wr n p d s G L) (i : Nat) (v : Int) : Sh w (wr.setCell ⟨w.heap.size + 1 + 1, i, none⟩ (.int .i64 v)) n p d s G (fun j => if j = i then v else L j) :=
  ⟨h.below.setCell (by show w.heap.size ≤ w.heap.size + 1 + 1; omega) _, h.lv.setOther _ (by omega), h.gets.setOther (by simp) _, (h.lost.set i (.int .i64 v)).congr (fun j _ => by by_cases e : j = i <;> simp [e])⟩
theorem Sh.congr {w wr : World} {n : Nat} {p d s : Int} {G L G' L' : Nat → Int} (h : Sh w wr n p d s G L) (hG : ∀ i, i < n → G i = G' i) (hL : ∀ i, i < n → L i = L' i) : Sh w wr n p d s G' L' :=
  ⟨h.below, h.lv, h.gets.congr (fun i hi => by rw [hG i hi]), h.lost.congr (fun i hi => by rw [hL i hi])⟩

theorem Tryz.infoInt : (Tryz.prog.info? 3).map (fun i => (i.zero, i.size, i.bytes)) = some (some (.int .i64 0), 1, 8) := by kernel_rfl

theorem sideTotal_tot (p d s : Int) (b : Bool) (pr q : Int) (w : World) :
    Calls Tryz.prog 90 #[.agg #[.int .i64 p, .int .i64 d, .int .i64 s], .agg #[.bool b, .int .i64 pr, .int .i64 q]] w fun e w' =>
      e = .returned (.int .i64 (Mk.tot d s ⟨b, pr, q⟩)) ∧ w' = (w.alloc (.cells #[.int .i64 p, .int .i64 d, .int .i64 s] 126)).alloc (.cells #[.bool b, .int .i64 pr, .int .i64 q] 123) :=
  sideTotal_any p d s b pr q w

set_option maxHeartbeats 1000000 in
theorem shares_some (b off cap : Nat) (l : List Mk.Ord) (p d s : Int) (w : World) (hv : Mk.validB 20 l = true) (bd : 0 ≤ d ∧ d ≤ 240) (bs : 0 ≤ s ∧ s ≤ 240) (hR : At w b off l) :
    Calls Tryz.prog 60 #[.agg #[.int .i64 p, .int .i64 d, .int .i64 s], .slice (some ⟨b, off, none⟩) l.length cap] w fun e w' =>
      e = .returned (.slice (some ⟨w.heap.size + 1, 0, none⟩) l.length l.length) ∧ Below w.heap.size w w' ∧ w'.rowIs (w.heap.size + 1) 3 l.length (fun i => .int .i64 (Mk.getsf l d s p i)) := by
  obtain ⟨h12, hok⟩ := Mk.ok_of_valid hv
  have HV : Hid (Mk.validB 20 l = true) := hv
  have HO : Hid (∀ o ∈ l, 1 ≤ o.price ∧ o.price ≤ 99 ∧ 1 ≤ o.qty ∧ o.qty ≤ 20) := hok
  have HR : Hid (At w b off l) := hR
  clear hv hok hR
  have bV := Mk.less_bd bd bs
  have hmk := run_make_row' (P := Tryz.prog) 53 3 (.int .i64 0) 8 Tryz.underlying53 Tryz.infoInt rfl .i64 .i64 l.length (by omega) (by omega)
  go_enter Tryz.func60, Tryz.ntmps60
  go_wp2_with (go_at_call 59; refine (traded_any _ _ _ _).mono ?_; rintro e w' ⟨rfl, rfl⟩)
  go_loopw [8, 25] (fun lf i wr => ∃ k : Nat, k ≤ l.length ∧ i = .int .i64 k ∧ lf = .int .i64 (2 * Mk.less d s - Mk.sumn (Mk.G0 l d s p) k) ∧ Sh w wr l.length p d s (fun i => if i < k then Mk.G0 l d s p i else 0) (fun i => if i < k then Mk.L0 l d s p i else 0)) (fun _ i _ => l.length - (intOf i).toNat)
  case atStart =>
    refine ⟨0, Nat.zero_le _, rfl, by simp [Mk.sumn], ?_⟩
    have h1 := (((LvAt.born w p d s 126).alloc (.cells (madeCells #[.int .i64 0] l.length) 3)).alloc (.cells (madeCells #[.int .i64 0] l.length) 3)).alloc (.cells #[.int .i64 p, .int .i64 d, .int .i64 s] 126)
    have h2 := ((World.rowIs_made (w.alloc (.cells #[.int .i64 p, .int .i64 d, .int .i64 s] 126)) (.int .i64 0) l.length 3).alloc (.cells (madeCells #[.int .i64 0] l.length) 3)).alloc (.cells #[.int .i64 p, .int .i64 d, .int .i64 s] 126)
    have h3 := (World.rowIs_made ((w.alloc (.cells #[.int .i64 p, .int .i64 d, .int .i64 s] 126)).alloc (.cells (madeCells #[.int .i64 0] l.length) 3)) (.int .i64 0) l.length 3).alloc (.cells #[.int .i64 p, .int .i64 d, .int .i64 s] 126)
    simp only [World.size_alloc] at h2 h3
    exact ⟨((((Below.refl _ _).alloc (Nat.le_refl _) _).alloc (by simp) _).alloc (by simp; omega) _).alloc (by simp; omega) _, h1, h2.congr (fun i _ => by simp), h3.congr (fun i _ => by simp)⟩
  case round =>
    obtain ⟨k, hk, rfl, rfl, hb⟩ := hrel
    have Hb : Hid (Sh w wr l.length p d s (fun i => if i < k then Mk.G0 l d s p i else 0) (fun i => if i < k then Mk.L0 l d s p i else 0)) := hb
    obtain ⟨_, ⟨v0, v1, v2, _, _, _⟩, _, _⟩ := hb
    have z2 : w.heap.size + 1 + 1 < wr.heap.size := Hb.out.lost.lt
    have y1 : w.heap.size < wr.heap.size + 1 := by omega
    have y2 : w.heap.size < wr.heap.size + 1 + 1 := by omega
    have y3 : w.heap.size < wr.heap.size + 1 + 1 + 1 := by omega
    have x1 : w.heap.size + 1 < wr.heap.size + 1 := by omega
    have x2 : w.heap.size + 1 < wr.heap.size + 1 + 1 := by omega
    have x3 : w.heap.size + 1 < wr.heap.size + 1 + 1 + 1 := by omega
    have t1 : w.heap.size + 1 + 1 < wr.heap.size + 1 := by omega
    have t2 : w.heap.size + 1 + 1 < wr.heap.size + 1 + 1 := by omega
    have t3 : w.heap.size + 1 + 1 < wr.heap.size + 1 + 1 + 1 := by omega
    have z1 : w.heap.size + 1 < wr.heap.size := by omega
    have z0 : w.heap.size < wr.heap.size := by omega
    have z0' : w.heap.size ≤ wr.heap.size := by omega
    have sb := Mk.sumn_bd (Mk.G0 l d s p) 4800 (fun i => Mk.G0_bd HV.out bd bs i) k
    have sb1 : 0 ≤ Mk.sumn (Mk.G0 l d s p) k := sb.1
    have sb2 : Mk.sumn (Mk.G0 l d s p) k ≤ 57600 := by omega
    clear sb
    by_cases hlt : k < l.length
    · obtain ⟨c0, c1, c2⟩ := At.below HR.out Hb.out.below k hlt
      have hbl := blk_lt c0
      have gc := Hb.out.gets.cell hlt
      have lc := Hb.out.lost.cell hlt
      have gf := Hb.out.gets.frozen k
      have lf := Hb.out.lost.frozen k
      simp only [Nat.lt_irrefl, if_false] at gc lc
      have hq := HO.out _ (List.getElem_mem hlt)
      have hlt' : (k : Int) < (l.length : Int) := by omega
      have HG : Hid (Mk.G0 l d s p k = Mk.shareo d s p l[k]) := Mk.G0_at hlt
      have HL : Hid (Mk.L0 l d s p k = Mk.losto d s p l[k]) := Mk.L0_at hlt
      revert c0 c1 c2 hq HG HL
      generalize l[k] = o
      obtain ⟨sl, pr, q⟩ := o
      intro c0 c1 c2 hq HG HL
      simp only at c0 c1 c2 hq
      obtain ⟨q1, q2⟩ : 0 ≤ q ∧ q ≤ 20 := by omega
      clear hq
      have mb := Mk.mul_bd bV ⟨q1, q2⟩
      have tb := Mk.tot_bd (o := ⟨sl, pr, q⟩) bd bs
      by_cases ht : Mk.tot d s ⟨sl, pr, q⟩ < 1
      · have HN : Hid (Mk.G0 l d s p k = 0 ∧ Mk.L0 l d s p k = 0) := by
          have := Mk.share_no (p := p) (o := ⟨sl, pr, q⟩) (.inl ht)
          exact ⟨HG.out.trans this.1, HL.out.trans this.2⟩
        go_wp2_with (first | (go_at_call 90; refine (sideTotal_tot _ _ _ _ _ _ _).mono ?_; rintro e w' ⟨rfl, rfl⟩) | (go_at_call 91; refine (mwilling_any _ _ _ _ _).mono ?_; rintro e w' ⟨rfl, rfl⟩))
        go_roundw
        case rel => exact ⟨k + 1, by omega, by go_num, by simp [Mk.sumn, HN.out.1], (((Hb.out.alloc _).alloc _).alloc _).congr (fun i _ => Mk.step_off HN.out.1 i) (fun i _ => Mk.step_off HN.out.2 i)⟩
        case measure => simp [intOf]; omega
      · have ht' : 1 ≤ Mk.tot d s ⟨sl, pr, q⟩ := by omega
        have db := Mk.div_bd mb ht'
        rcases Bool.eq_false_or_eq_true (Mk.willB sl pr p) with hw | hw
        · have HN : Hid (Mk.G0 l d s p k = Mk.less d s * q / Mk.tot d s ⟨sl, pr, q⟩ ∧ Mk.L0 l d s p k = Mk.less d s * q % Mk.tot d s ⟨sl, pr, q⟩) := by
            have := Mk.share_yes (p := p) (o := ⟨sl, pr, q⟩) ht' hw
            exact ⟨HG.out.trans this.1, HL.out.trans this.2⟩
          go_wp2_with (first | (go_at_call 90; refine (sideTotal_tot _ _ _ _ _ _ _).mono ?_; rintro e w' ⟨rfl, rfl⟩) | (go_at_call 91; refine (mwilling_any _ _ _ _ _).mono ?_; rintro e w' ⟨rfl, rfl⟩))
          go_roundw
          case rel => exact ⟨k + 1, by omega, by go_num, by simp only [Mk.sumn, HN.out.1]; go_num, ((((((Hb.out.setG k _).setL k _).alloc _).alloc _).alloc _).alloc _).congr (fun i _ => Mk.step_on HN.out.1 i) (fun i _ => Mk.step_on HN.out.2 i)⟩
          case measure => simp [intOf]; omega
        · have HN : Hid (Mk.G0 l d s p k = 0 ∧ Mk.L0 l d s p k = 0) := by
            have := Mk.share_no (d := d) (s := s) (p := p) (o := ⟨sl, pr, q⟩) (.inr hw)
            exact ⟨HG.out.trans this.1, HL.out.trans this.2⟩
          go_wp2_with (first | (go_at_call 90; refine (sideTotal_tot _ _ _ _ _ _ _).mono ?_; rintro e w' ⟨rfl, rfl⟩) | (go_at_call 91; refine (mwilling_any _ _ _ _ _).mono ?_; rintro e w' ⟨rfl, rfl⟩))
          go_roundw
          case rel => exact ⟨k + 1, by omega, by go_num, by simp [Mk.sumn, HN.out.1], ((((Hb.out.alloc _).alloc _).alloc _).alloc _).congr (fun i _ => Mk.step_off HN.out.1 i) (fun i _ => Mk.step_off HN.out.2 i)⟩
          case measure => simp [intOf]; omega
    · obtain rfl : k = l.length := by omega
      have H1 : Hid (Sh w wr l.length p d s (Mk.G0 l d s p) (Mk.L0 l d s p)) := Hb.out.congr (fun i hi => by simp [hi]) (fun i hi => by simp [hi])
      clear Hb
      obtain ⟨wo, rfl⟩ : ∃ wo : World, wo = wr := ⟨_, rfl⟩
      go_wp2
      go_loopw [69] (fun i wr => ∃ k : Nat, k ≤ l.length ∧ i = .int .i64 k ∧ Sh w wr l.length p d s (fun i => if i < k then Mk.getsf l d s p i else Mk.G0 l d s p i) (Mk.L0 l d s p)) (fun i _ => l.length - (intOf i).toNat)
      case atStart => exact ⟨0, Nat.zero_le _, rfl, H1.out.congr (fun i _ => by simp) (fun i _ => rfl)⟩
      case round =>
        clear H1 v0 v1 v2
        obtain ⟨k, hk2, rfl, hb⟩ := hrel
        have Hb : Hid (Sh w wr l.length p d s (fun i => if i < k then Mk.getsf l d s p i else Mk.G0 l d s p i) (Mk.L0 l d s p)) := hb
        clear hb
        by_cases hlt : k < l.length
        · have gc := Hb.out.gets.cell hlt
          have gf := Hb.out.gets.frozen k
          simp only [Nat.lt_irrefl, if_false] at gc
          have hlt' : (k : Int) < (l.length : Int) := by omega
          have gb := Mk.G0_bd (p := p) HV.out bd bs k
          by_cases hp : (Mk.place (Mk.L0 l d s p) l.length k : Int) < 2 * Mk.less d s - Mk.sumn (Mk.G0 l d s p) l.length
          · have HG := (show Hid _ from Mk.getsf_yes hp)
            go_wp2_with (go_at_call 92; refine (placeOf_any _ _ (Mk.L0 l d s p) k _ hlt h12 Hb.out.lost).mono ?_; rintro e w' ⟨rfl, rfl⟩)
            go_roundw
            case rel => exact ⟨k + 1, by omega, by go_num, (Hb.out.setG k _).congr (fun i _ => Mk.step2_on HG.out i) (fun i _ => rfl)⟩
            case measure => simp [intOf]; omega
          · have HG := (show Hid _ from Mk.getsf_no hp)
            go_wp2_with (go_at_call 92; refine (placeOf_any _ _ (Mk.L0 l d s p) k _ hlt h12 Hb.out.lost).mono ?_; rintro e w' ⟨rfl, rfl⟩)
            go_roundw
            case rel => exact ⟨k + 1, by omega, by go_num, Hb.out.congr (fun i _ => Mk.step2_off HG.out i) (fun i _ => rfl)⟩
            case measure => simp [intOf]; omega
        · obtain rfl : k = l.length := by omega
          go_wp2
          go_ret
          exact ⟨rfl, Hb.out.below, Hb.out.gets.congr (fun i hi => by simp [hi])⟩

end Go.Proofs.YtmebcdpdpcpnmaaGreatDoor
