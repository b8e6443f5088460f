import Derived.Test.YtmebcdpdpcpnmaaE3
namespace Go.Proofs.Ytmebcdpdpcpnmaa
open Go.RowKit

theorem uniform_p (b off cap : Nat) (l : List Mk.Ord) (p : Int) (hp : p = Mk.best l 98) (w : World) (hv : Mk.validB 20 l = true) (hR : At w b off l) (hz : 1 ≤ Mk.vol l p) :
    Calls Try.prog 13 #[.slice (some ⟨b, off, none⟩) l.length cap] w fun e w' => ∃ g, e = .returned (.tuple #[.slice (some ⟨g, 0, none⟩) l.length l.length, .int .i64 p, .int .i64 0]) ∧ w.heap.size ≤ g ∧ Below w.heap.size w w' ∧ w'.rowIs g 3 l.length (fun i => .int .i64 (Mk.getsf l (Mk.dem l p) (Mk.sup l p) p i)) := by
  subst hp
  exact uniform_some b off cap l w hv hR (by omega)

theorem mul_bd2 {f t : Int} (h1 : 0 ≤ f ∧ f ≤ 4801) (h2 : 0 ≤ t ∧ t ≤ 240) : 0 ≤ f * t ∧ f * t ≤ 2000000 := by
  refine ⟨Int.mul_nonneg h1.1 h2.1, ?_⟩
  have e1 : f * t ≤ 4801 * t := Int.mul_le_mul_of_nonneg_right h1.2 h2.1
  omega

theorem mk_fair {W : World} {b off g : Nat} {l : List Mk.Ord} {p : Int} (hA : At W b off l) (hrow : W.rowIs g 3 l.length (fun i => .int .i64 (Mk.getsf l (Mk.dem l p) (Mk.sup l p) p i))) (hv : Mk.validB 20 l = true) (hV : 1 ≤ Mk.vol l p)
    {i k : Nat} (hi : i < l.length) (hk : k < l.length) (hwi : Mk.willB l[i].sell l[i].price p = true) (hwk : Mk.willB l[k].sell l[k].price p = true) :
    FairIn W b off l.length g i k l[i].sell l[k].sell l[i].price l[i].qty (Mk.getsf l (Mk.dem l p) (Mk.sup l p) p i) l[k].price l[k].qty (Mk.getsf l (Mk.dem l p) (Mk.sup l p) p k) (Mk.vol l p) (Mk.sideT (Mk.dem l p) (Mk.sup l p) l[i].sell) := by
  obtain ⟨h12, hok⟩ := Mk.ok_of_valid hv
  obtain ⟨c0, c1, c2⟩ := hA i hi
  obtain ⟨d0, d1, d2⟩ := hA k hk
  have o1 := hok _ (List.getElem_mem hi)
  have o2 := hok _ (List.getElem_mem hk)
  have bv := vol_bd hv p
  have bd := Mk.dem_bd hv p
  have bs := Mk.sup_bd hv p
  have one := Mk.one_le hV
  have bt : 1 ≤ Mk.sideT (Mk.dem l p) (Mk.sup l p) l[i].sell ∧ Mk.sideT (Mk.dem l p) (Mk.sup l p) l[i].sell ≤ 240 := by unfold Mk.sideT; split <;> omega
  have m1 := Mk.mul_bd bv (show 0 ≤ l[i].qty ∧ l[i].qty ≤ 20 by omega)
  have m2 := Mk.mul_bd bv (show 0 ≤ l[k].qty ∧ l[k].qty ≤ 20 by omega)
  have n1 := mul_bd2 (Mk.getsf_bd (p := p) hv i) (show 0 ≤ Mk.sideT (Mk.dem l p) (Mk.sup l p) l[i].sell ∧ Mk.sideT (Mk.dem l p) (Mk.sup l p) l[i].sell ≤ 240 by omega)
  have n2 := mul_bd2 (Mk.getsf_bd (p := p) hv k) (show 0 ≤ Mk.sideT (Mk.dem l p) (Mk.sup l p) l[i].sell ∧ Mk.sideT (Mk.dem l p) (Mk.sup l p) l[i].sell ≤ 240 by omega)
  obtain ⟨x1, x2, _⟩ := Mk.fair_fact hV hi hk hwi hwk rfl rfl rfl
  exact ⟨hi, hk, h12, bv.1, bv.2, bt.1, bt.2, m1.1, m1.2, n1.1, n1.2, m2.1, m2.2, n2.1, n2.2, c0, c1, c2, d0, d1, d2, hrow.cell hi, hrow.cell hk, x1, x2⟩

/-- 'fair' at two willing orders -/
theorem fair_ok {W : World} {b off g : Nat} (cap : Nat) {l : List Mk.Ord} {p : Int} (hA : At W b off l) (hrow : W.rowIs g 3 l.length (fun i => .int .i64 (Mk.getsf l (Mk.dem l p) (Mk.sup l p) p i))) (hv : Mk.validB 20 l = true) (hV : 1 ≤ Mk.vol l p)
    {i k : Nat} (hi : i < l.length) (hk : k < l.length) (hwi : Mk.willB l[i].sell l[i].price p = true) (hwk : Mk.willB l[k].sell l[k].price p = true) {t : Int} (ht : t = Mk.sideT (Mk.dem l p) (Mk.sup l p) l[i].sell) :
    Calls Try.prog 18 #[.slice (some ⟨b, off, none⟩) l.length cap, .slice (some ⟨g, 0, none⟩) l.length l.length, .int .i64 i, .int .i64 k, .int .i64 (Mk.vol l p), .int .i64 t] W fun e w' => e = .returned (.bool true) ∧ Below W.heap.size W w' := by
  subst ht
  exact fair_any b off cap l.length g i k _ _ _ _ _ _ _ _ _ _ W (mk_fair hA hrow hv hV hi hk hwi hwk) (Mk.fair_fact hV hi hk hwi hwk rfl rfl rfl).2.2

set_option maxRecDepth 100000 in
set_option maxHeartbeats 2000000 in
theorem shares_law_some (b off cap : Nat) (l : List Mk.Ord) (p : Int) (hp : p = Mk.best l 98) (w : World) (hv : Mk.validB 20 l = true) (hR : At w b off l) (hz : 1 ≤ Mk.vol l p) :
    Calls Try.prog 6 #[.slice (some ⟨b, off, none⟩) l.length cap] w fun e w' => e = .returned (.bool true) ∧ Below w.heap.size w w' := by
  have HA : Hid (At w b off l) := hR
  have HR : Hid (Rd w (some ⟨b, off, none⟩) l) := .inr ⟨b, off, rfl, hR⟩
  have HV : Hid (Mk.validB 20 l = true) := hv
  have h12 := (Mk.ok_of_valid hv).1
  have HZ : Hid (1 ≤ Mk.vol l p) := hz
  have HP : Hid (p = Mk.best l 98) := hp
  have hp1 : 1 ≤ p := by have := Mk.best_bd l 98; omega
  have hp2 : (p == 0) = false := by simp; omega
  have hs0 := Mk.side_total hz false
  have hs1 := Mk.side_total hz true
  clear hR hz hp
  go_enter Try.func6, Try.ntmps6
  go_wp2_with fail
  refine (valid_any _ cap l _ _ HR.out).mono ?_
  rintro e w1 ⟨rfl, hw1⟩
  obtain rfl := hw1.symm
  go_wp2_with fail
  refine (uniform_p b off cap l p HP.out _ HV.out HA.out HZ.out).mono ?_
  rintro e w1 ⟨g, rfl, hg, hb1, hrow⟩
  have Hb1 : Hid (Below w.heap.size w w1) := hb1
  have HRow : Hid (w1.rowIs g 3 l.length (fun i => .int .i64 (Mk.getsf l (Mk.dem l p) (Mk.sup l p) p i))) := hrow
  clear hb1 hrow
  go_wp2_with fail
  refine (sums_any _ cap l _ _ HV.out (HR.out.below Hb1.out)).mono ?_
  rintro e w2 ⟨rfl, hb2⟩
  have Hb2 : Hid (Below w1.heap.size w1 w2) := hb2
  clear hb2
  go_wp2_with fail
  refine (worth_any _ cap l _ _ HV.out (HR.out.below (Hb1.out.trans (Hb2.out.mono Hb1.out.size)))).mono ?_
  rintro e w3 ⟨rfl, hb3⟩
  have Hb3 : Hid (Below w1.heap.size w1 w3) := Hb2.out.trans (hb3.mono Hb2.out.size)
  clear hb3
  have HA3 : Hid (At w3 b off l) := HA.out.below (Hb1.out.trans (Hb3.out.mono Hb1.out.size))
  have HRow3 : Hid (w3.rowIs g 3 l.length (fun i => .int .i64 (Mk.getsf l (Mk.dem l p) (Mk.sup l p) p i))) := row_below HRow.out Hb3.out (World.rowIs.lt HRow.out)
  go_wp2_with (go_at_call 16; refine (got_some b off cap l g (Mk.getsf l (Mk.dem l p) (Mk.sup l p) p) _ _ h12 (fun i => by have := Mk.getsf_bd (p := p) HV.out i; omega) HA3.out HRow3.out).mono ?_; rintro e w4 ⟨rfl, hw4⟩; obtain rfl := hw4.symm)
  go_loopw [13] (fun i wr => ∃ k : Nat, k ≤ l.length ∧ i = .int .i64 k ∧ Below w1.heap.size w1 wr) (fun i _ => l.length - (intOf i).toNat)
  case atStart => exact ⟨0, Nat.zero_le _, rfl, Hb3.out⟩
  case round =>
    clear hs0 hs1
    obtain ⟨k, hk, rfl, hb⟩ := hrel
    have Hb : Hid (Below w1.heap.size w1 wr) := hb
    clear hb
    by_cases hlt : k < l.length
    · obtain ⟨c0, c1, c2⟩ := At.below HA.out (Hb1.out.trans (Hb.out.mono Hb1.out.size)) k hlt
      have hbl := blk_lt c0
      have fk := World.rowIs.cell (row_below HRow.out Hb.out (World.rowIs.lt HRow.out)) hlt
      have hgl := blk_lt fk
      have hlt' : (k : Int) < (l.length : Int) := by omega
      rcases Bool.eq_false_or_eq_true (Mk.willB l[k].sell l[k].price p) with hw | hw
      · have HW : Hid (Mk.willB l[k].sell l[k].price p = true) := hw
        rcases Bool.eq_false_or_eq_true l[k].sell with hsel | hsel
        · have HT : Hid (Mk.sup l p = Mk.sideT (Mk.dem l p) (Mk.sup l p) l[k].sell) := (by rw [hsel]; rfl : Mk.sup l p = Mk.sideT (Mk.dem l p) (Mk.sup l p) l[k].sell)
          rw [hsel] at hw
          go_wp2_with (go_at_call 17; refine (lwilling_any _ _ _ _ _).mono ?_; rintro e w' ⟨rfl, rfl⟩)
          clear hsel c0 c1 c2 fk hw hbl hgl
          go_loopw [16] (fun j wr => ∃ m : Nat, m ≤ l.length ∧ j = .int .i64 m ∧ Below w1.heap.size w1 wr) (fun j _ => l.length - (intOf j).toNat)
          case atStart => exact ⟨0, Nat.zero_le _, rfl, Hb.out.alloc Hb.out.size _⟩
          case round =>
            clear Hb
            obtain ⟨m, hm, rfl, hb2⟩ := hrel
            have Hb : Hid (Below w1.heap.size w1 wr) := hb2
            clear hb2
            by_cases hlt2 : m < l.length
            · have HAr : Hid (At wr b off l) := HA.out.below (Hb1.out.trans (Hb.out.mono Hb1.out.size))
              have HRr : Hid (wr.rowIs g 3 l.length (fun i => .int .i64 (Mk.getsf l (Mk.dem l p) (Mk.sup l p) p i))) := row_below HRow.out Hb.out (World.rowIs.lt HRow.out)
              obtain ⟨c0, c1, c2⟩ := HAr.out m hlt2
              have hbl := blk_lt c0
              have hlt2' : (m : Int) < (l.length : Int) := by omega
              have HAo : Hid (∀ o, At (wr.alloc o) b off l) := fun o => HAr.out.below ((Below.refl _ _).alloc (Nat.le_refl _) o)
              have HRo : Hid (∀ o, (wr.alloc o).rowIs g 3 l.length (fun i => .int .i64 (Mk.getsf l (Mk.dem l p) (Mk.sup l p) p i))) := fun o => World.rowIs.alloc HRr.out o
              rcases Bool.eq_false_or_eq_true (Mk.willB l[m].sell l[m].price p) with hw | hw
              · have HW2 : Hid (Mk.willB l[m].sell l[m].price p = true) := hw
                go_wp2_with (first | (go_at_call 17; refine (lwilling_any _ _ _ _ _).mono ?_; rintro e w' ⟨rfl, rfl⟩) | (go_at_call 18; refine (fair_ok cap (HAo.out _) (HRo.out _) HV.out HZ.out hlt hlt2 HW.out HW2.out HT.out).mono ?_; rintro e w5 ⟨rfl, hb5⟩))
                go_roundw
                case rel => exact ⟨m + 1, by omega, by go_num, (Hb.out.alloc Hb.out.size _).trans (Below.mono (by assumption) (by have := Hb.out.size; simp; omega))⟩
                case measure => simp [intOf]; omega
              · go_wp2_with (go_at_call 17; refine (lwilling_any _ _ _ _ _).mono ?_; rintro e w' ⟨rfl, rfl⟩)
                go_roundw
                case rel => exact ⟨m + 1, by omega, by go_num, Hb.out.alloc Hb.out.size _⟩
                case measure => simp [intOf]; omega
            · go_wp2
              go_roundw
              case rel => exact ⟨k + 1, by omega, by go_num, Hb.out⟩
              case measure => simp [intOf]; omega
        · have HT : Hid (Mk.dem l p = Mk.sideT (Mk.dem l p) (Mk.sup l p) l[k].sell) := (by rw [hsel]; rfl : Mk.dem l p = Mk.sideT (Mk.dem l p) (Mk.sup l p) l[k].sell)
          rw [hsel] at hw
          go_wp2_with (go_at_call 17; refine (lwilling_any _ _ _ _ _).mono ?_; rintro e w' ⟨rfl, rfl⟩)
          clear hsel c0 c1 c2 fk hw hbl hgl
          go_loopw [16] (fun j wr => ∃ m : Nat, m ≤ l.length ∧ j = .int .i64 m ∧ Below w1.heap.size w1 wr) (fun j _ => l.length - (intOf j).toNat)
          case atStart => exact ⟨0, Nat.zero_le _, rfl, Hb.out.alloc Hb.out.size _⟩
          case round =>
            clear Hb
            obtain ⟨m, hm, rfl, hb2⟩ := hrel
            have Hb : Hid (Below w1.heap.size w1 wr) := hb2
            clear hb2
            by_cases hlt2 : m < l.length
            · have HAr : Hid (At wr b off l) := HA.out.below (Hb1.out.trans (Hb.out.mono Hb1.out.size))
              have HRr : Hid (wr.rowIs g 3 l.length (fun i => .int .i64 (Mk.getsf l (Mk.dem l p) (Mk.sup l p) p i))) := row_below HRow.out Hb.out (World.rowIs.lt HRow.out)
              obtain ⟨c0, c1, c2⟩ := HAr.out m hlt2
              have hbl := blk_lt c0
              have hlt2' : (m : Int) < (l.length : Int) := by omega
              have HAo : Hid (∀ o, At (wr.alloc o) b off l) := fun o => HAr.out.below ((Below.refl _ _).alloc (Nat.le_refl _) o)
              have HRo : Hid (∀ o, (wr.alloc o).rowIs g 3 l.length (fun i => .int .i64 (Mk.getsf l (Mk.dem l p) (Mk.sup l p) p i))) := fun o => World.rowIs.alloc HRr.out o
              rcases Bool.eq_false_or_eq_true (Mk.willB l[m].sell l[m].price p) with hw | hw
              · have HW2 : Hid (Mk.willB l[m].sell l[m].price p = true) := hw
                go_wp2_with (first | (go_at_call 17; refine (lwilling_any _ _ _ _ _).mono ?_; rintro e w' ⟨rfl, rfl⟩) | (go_at_call 18; refine (fair_ok cap (HAo.out _) (HRo.out _) HV.out HZ.out hlt hlt2 HW.out HW2.out HT.out).mono ?_; rintro e w5 ⟨rfl, hb5⟩))
                go_roundw
                case rel => exact ⟨m + 1, by omega, by go_num, (Hb.out.alloc Hb.out.size _).trans (Below.mono (by assumption) (by have := Hb.out.size; simp; omega))⟩
                case measure => simp [intOf]; omega
              · go_wp2_with (go_at_call 17; refine (lwilling_any _ _ _ _ _).mono ?_; rintro e w' ⟨rfl, rfl⟩)
                go_roundw
                case rel => exact ⟨m + 1, by omega, by go_num, Hb.out.alloc Hb.out.size _⟩
                case measure => simp [intOf]; omega
            · go_wp2
              go_roundw
              case rel => exact ⟨k + 1, by omega, by go_num, Hb.out⟩
              case measure => simp [intOf]; omega
      · have hf0 := Mk.unwilling HZ.out hlt hw
        go_wp2_with (go_at_call 17; refine (lwilling_any _ _ _ _ _).mono ?_; rintro e w' ⟨rfl, rfl⟩)
        go_roundw
        case rel => exact ⟨k + 1, by omega, by go_num, Hb.out.alloc Hb.out.size _⟩
        case measure => simp [intOf]; omega
    · go_wp2
      go_ret
      exact ⟨rfl, Hb1.out.trans (Hb.out.mono Hb1.out.size)⟩

theorem shares_law (a : Option Addr) (cap : Nat) (l : List Mk.Ord) (w : World) (hR : Rd w a l) :
    Calls Try.prog 6 #[.slice a l.length cap] w fun e w' => e = .returned (.bool true) ∧ Below w.heap.size w w' := by
  rcases Bool.eq_false_or_eq_true (Mk.validB 20 l) with hv | hv
  · rcases hR with rfl | ⟨b, off, rfl, hR⟩
    · exact shares_law_nil a cap w
    · by_cases hz : Mk.vol l (Mk.best l 98) = 0
      · exact shares_law_zero b off cap l w hv hR hz
      · exact shares_law_some b off cap l _ rfl w hv hR (by have := vol_bd hv (Mk.best l 98); omega)
  · exact shares_law_bad a cap l w hv hR

end Go.Proofs.Ytmebcdpdpcpnmaa
