import Derived.Test.YtmebcdpdpcpnmaaO1
namespace Go.Proofs.Ytmebcdpdpcpnmaa
open Go.RowKit

theorem Mk.truth {l : List Mk.Ord} {i : Nat} (hv : Mk.validB 1 l = true) (hi : i < l.length) {v b : Int} (h1 : 1 ≤ v) (h2 : v ≤ 99) (h3 : 1 ≤ b) (h4 : b ≤ 99) :
    Mk.gainOf (Mk.bid l i b) i v ≤ Mk.gainOf (Mk.bid l i v) i v ∧ 0 ≤ Mk.gainOf (Mk.bid l i v) i v := by
  unfold Mk.gainOf
  rw [Mk.bid_sl hi, Mk.bid_sl hi, Mk.sl_at hi]
  rcases Bool.eq_false_or_eq_true l[i].sell with hs | hs
  · rw [hs]; exact Mk.truthS hv hi h1 h2 h3 h4 hs
  · rw [hs]; exact Mk.truthB hv hi h1 h2 h3 h4 hs

theorem valid_n (a : Option Addr) (n cap : Nat) (l : List Mk.Ord) (hn : l.length = n) (most : Int) (w : World) (hR : Rd w a l) :
    Calls Try.prog 12 #[.slice a n cap, .int .i64 most] w fun e w' => e = .returned (.bool (Mk.validB most l)) ∧ w' = w := by
  subst hn; exact valid_any a cap l most w hR

set_option maxRecDepth 100000 in
set_option maxHeartbeats 2000000 in
theorem truthful_law (a : Option Addr) (cap : Nat) (l0 : List Mk.Ord) (x y z : Int) (w : World) (hn : 24 * l0.length ≤ 140737488355328) (hR : Rd w a l0)
    (hx1 : -9223372036854775808 ≤ x) (hx2 : x ≤ 9223372036854775807) (hy1 : -9223372036854775808 ≤ y) (hy2 : y ≤ 9223372036854775807) (hz1 : -9223372036854775808 ≤ z) (hz2 : z ≤ 9223372036854775807) :
    Calls Try.prog 8 #[.slice a l0.length cap, .int .i64 x, .int .i64 y, .int .i64 z] w fun e w' => e = .returned (.bool true) ∧ Below w.heap.size w w' := by
  have HR : Hid (Rd w a l0) := hR
  obtain ⟨l, hl⟩ : ∃ l, l = l0.map Mk.one := ⟨_, rfl⟩
  obtain ⟨n, hnn⟩ : ∃ n, n = l0.length := ⟨_, rfl⟩
  have HL : Hid (l = l0.map Mk.one) := hl
  have hlen : l.length = n := by rw [hl, hnn]; simp
  have hsing := single_any a cap l0 w hn hR
  rw [← hl, ← hnn] at hsing
  rw [← hnn]
  have HS : Hid (Calls Try.prog 20 #[.slice a n cap] w fun e w' => e = .returned (.slice (some ⟨w.heap.size, 0, none⟩) n n) ∧ Below w.heap.size w w' ∧ Own w' w.heap.size l) := hsing
  clear hl hsing hR
  have hn63 : n ≤ 5864062014805333 := by omega
  clear hn hnn
  rcases Bool.eq_false_or_eq_true (Mk.validB 1 l) with hv | hv
  · have h12 := (Mk.ok_of_valid hv).1
    rw [hlen] at h12
    have HV : Hid (Mk.validB 1 l = true) := hv
    by_cases h0 : n = 0
    · have h0' : ((n : Int) == 0) = true := by simp; omega
      clear h0
      go_enter Try.func8, Try.ntmps8
      go_wp2_with fail
      refine (HS.out).mono ?_
      rintro e w1 ⟨rfl, hb1, hO⟩
      have HO : Hid (Own w1 w.heap.size l) := hO
      have HB : Hid (Below w.heap.size w w1) := hb1
      clear hO hb1
      go_wp2_with (go_at_call 12; refine (valid_n _ _ _ l hlen _ _ (.inr ⟨_, _, rfl, HO.out.at⟩)).mono ?_; rintro e w2 ⟨rfl, hw2⟩; obtain rfl := hw2.symm)
      go_ret
      exact ⟨rfl, HB.out⟩
    · have h0' : ((n : Int) == 0) = false := by simp; omega
      clear hv
      go_enter Try.func8, Try.ntmps8
      go_wp2_with fail
      refine (HS.out).mono ?_
      rintro e w1 ⟨rfl, hb1, hO⟩
      have HO : Hid (Own w1 w.heap.size l) := hO
      have HB : Hid (Below w.heap.size w w1) := hb1
      clear hO hb1
      go_wp2_with fail
      refine (valid_n _ _ _ l hlen _ _ (.inr ⟨_, _, rfl, HO.out.at⟩)).mono ?_
      rw [HV.out]
      rintro e w2 ⟨rfl, hw2⟩
      obtain rfl := hw2.symm
      go_wp2_with fail
      refine (pick_any x _ _ hx1 hx2 (by omega) (by omega)).mono ?_
      rintro e w2 ⟨i, hi, rfl, hw2⟩
      obtain rfl := hw2.symm
      go_wp2_with fail
      refine (pick_99 y _ hy1 hy2).mono ?_
      rintro e w2 ⟨iv, hiv, rfl, hw2⟩
      obtain rfl := hw2.symm
      go_wp2_with fail
      refine (pick_99 z _ hz1 hz2).mono ?_
      rintro e w2 ⟨ib, hib, rfl, hw2⟩
      obtain rfl := hw2.symm
      clear hx1 hx2 hy1 hy2 hz1 hz2
      have hil : i < l.length := by omega
      have hi' : (i : Int) < (n : Int) := by omega
      obtain ⟨ht1, ht2⟩ := Mk.truth HV.out hil (v := 1 + (iv : Int)) (b := 1 + (ib : Int)) (by omega) (by omega) (by omega) (by omega)
      have o1 := World.rowIs.cell HO.out (i := i * 3 + 1) (by omega)
      have z1 := HO.out.frozen (i * 3 + 1)
      have HO2 : Hid (Own (w1.setCell ⟨w.heap.size, i * 3 + 1, none⟩ (.int .i64 (1 + (iv : Int)))) w.heap.size (Mk.bid l i (1 + (iv : Int)))) := HO.out.setP hil _
      have HB2 : Hid (Below w.heap.size w (w1.setCell ⟨w.heap.size, i * 3 + 1, none⟩ (.int .i64 (1 + (iv : Int))))) := HB.out.setCell (Nat.le_refl _) _
      go_wp2_with fail
      refine (gain_some w.heap.size 0 n n (Mk.bid l i (1 + (iv : Int))) (by rw [Mk.bid_len]; exact hlen) i (1 + (iv : Int)) _ hi (by omega) (by omega) (Mk.bid_valid HV.out hil (by omega) (by omega)) HO2.out.at).mono ?_
      rintro e w3 ⟨rfl, hb3⟩
      have HB3 : Hid (Below w.heap.size w w3) := HB2.out.trans (hb3.mono HB2.out.size)
      have HO3 : Hid (Own w3 w.heap.size (Mk.bid l i (1 + (iv : Int)))) := HO2.out.below hb3 HO2.out.lt
      clear hb3 o1 z1
      have o1 := World.rowIs.cell HO3.out (i := i * 3 + 1) (by rw [Mk.bid_len]; omega)
      have z1 := HO3.out.frozen (i * 3 + 1)
      have HO4 : Hid (Own (w3.setCell ⟨w.heap.size, i * 3 + 1, none⟩ (.int .i64 (1 + (ib : Int)))) w.heap.size (Mk.bid l i (1 + (ib : Int)))) := (HO3.out.setP (by rw [Mk.bid_len]; exact hil) _).congr (Mk.bid_bid hil _ _)
      have HB4 : Hid (Below w.heap.size w (w3.setCell ⟨w.heap.size, i * 3 + 1, none⟩ (.int .i64 (1 + (ib : Int))))) := HB3.out.setCell (Nat.le_refl _) _
      go_wp2_with fail
      refine (gain_some w.heap.size 0 n n (Mk.bid l i (1 + (ib : Int))) (by rw [Mk.bid_len]; exact hlen) i (1 + (iv : Int)) _ hi (by omega) (by omega) (Mk.bid_valid HV.out hil (by omega) (by omega)) HO4.out.at).mono ?_
      rintro e w5 ⟨rfl, hb5⟩
      have HB5 : Hid (Below w.heap.size w w5) := HB4.out.trans (hb5.mono HB4.out.size)
      clear hb5 o1 z1
      go_wp2
      go_ret
      exact ⟨rfl, HB5.out⟩
  · have HV : Hid (Mk.validB 1 l = false) := hv
    clear hv
    go_enter Try.func8, Try.ntmps8
    go_wp2_with fail
    refine (HS.out).mono ?_
    rintro e w1 ⟨rfl, hb1, hO⟩
    have HO : Hid (Own w1 w.heap.size l) := hO
    have HB : Hid (Below w.heap.size w w1) := hb1
    clear hO hb1
    go_wp2_with fail
    refine (valid_n _ _ _ l hlen _ _ (.inr ⟨_, _, rfl, HO.out.at⟩)).mono ?_
    rw [HV.out]
    rintro e w2 ⟨rfl, hw2⟩
    obtain rfl := hw2.symm
    go_wp2
    go_ret
    exact ⟨rfl, HB.out⟩

end Go.Proofs.Ytmebcdpdpcpnmaa
