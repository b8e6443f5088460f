import Derived.Test.YtmebcdpdpcpnmaaGreatDoorKH1
import Derived.Test.YtmebcdpdpcpnmaaGreatDoorKPlain9
import Derived.Deep.QuietTactic
import Derived.BigQuiet
namespace Go.Proofs.YtmebcdpdpcpnmaaGreatDoor
open Go.RowKit

theorem aheadN_lt {a b : Int} {i k : Nat} (h : b < a) : Mk.aheadN a b i k = true := by simp [Mk.aheadN, h]
theorem aheadN_eq {a b : Int} {i k : Nat} (h : a = b) : Mk.aheadN a b i k = decide (i < k) := by simp [Mk.aheadN, h]
theorem aheadN_ne {a b : Int} {i k : Nat} (h : ¬ a = b) : decide (b < a) = Mk.aheadN a b i k := by simp [Mk.aheadN, h]

set_option maxHeartbeats 1000000 in
theorem ahead_any (b off cap n i k : Nat) (qi qk v t : Int) (w : World) (hi : i < n) (hk : k < n) (bt : 1 ≤ t) (m1 : 0 ≤ v * qi ∧ v * qi ≤ 4800) (m2 : 0 ≤ v * qk ∧ v * qk ≤ 4800)
    (ci : w.cell? ⟨b, off + i * 3 + 1 + 1, none⟩ = some (.int .i64 qi)) (ck : w.cell? ⟨b, off + k * 3 + 1 + 1, none⟩ = some (.int .i64 qk)) :
    Calls Tryz.prog 94 #[.slice (some ⟨b, off, none⟩) n cap, .int .i64 i, .int .i64 k, .int .i64 v, .int .i64 t] w fun e w' => e = .returned (.bool (Mk.aheadN (v * qi % t) (v * qk % t) i k)) ∧ w' = w := by
  have hi' : (i : Int) < (n : Int) := by omega
  have hk' : (k : Int) < (n : Int) := by omega
  go_enter Tryz.func94, Tryz.ntmps94
  go_wp2
  all_goals
    go_ret
    refine ⟨ret_bool ?_, rfl⟩
    first
      | exact (aheadN_lt (by assumption)).symm
      | exact (aheadN_eq (by assumption)).symm
      | exact aheadN_ne (by assumption)

theorem share_yes_i {l : List Mk.Ord} {k : Nat} (hk : k < l.length) (p v t : Int) (b : Bool) (hw : Mk.willB l[k].sell l[k].price p = true) (hs : l[k].sell = b) : Mk.rpart l p v t b k = v * l[k].qty / t ∧ Mk.inSide l p b k = true := by
  have : Mk.inSide l p b k = true := by unfold Mk.inSide; rw [Mk.getD_at hk, hw, hs]; simp
  exact ⟨by unfold Mk.rpart; rw [this, Mk.getD_at hk]; rfl, this⟩
theorem share_no_i {l : List Mk.Ord} {k : Nat} (hk : k < l.length) (p v t : Int) (b : Bool) (h : Mk.willB l[k].sell l[k].price p = false ∨ l[k].sell ≠ b) : Mk.rpart l p v t b k = 0 ∧ Mk.inSide l p b k = false := by
  have : Mk.inSide l p b k = false := by
    unfold Mk.inSide; rw [Mk.getD_at hk]
    rcases h with h | h
    · rw [h]; rfl
    · have : (l[k].sell == b) = false := by simpa using h
      rw [this, Bool.and_false]
  exact ⟨by unfold Mk.rpart; rw [this]; rfl, this⟩
theorem rpart_bd {l : List Mk.Ord} (hv : Mk.validB 20 l = true) {v t : Int} (bv : 0 ≤ v ∧ v ≤ 240) (bt : 1 ≤ t) (p : Int) (b : Bool) (j : Nat) : 0 ≤ Mk.rpart l p v t b j ∧ Mk.rpart l p v t b j ≤ 4800 := by
  unfold Mk.rpart
  split
  · refine Mk.div_bd (Mk.mul_bd bv ?_) bt
    by_cases h : j < l.length
    · have := (Mk.ok_of_valid hv).2 l[j] (List.getElem_mem h)
      rw [Mk.getD_at h]; omega
    · simp [List.getD, List.getElem?_eq_none (Nat.le_of_not_lt h), Mk.ozero]
  · omega

set_option maxRecDepth 100000 in
set_option maxHeartbeats 2000000 in
theorem rshare_some (b off cap : Nat) (l : List Mk.Ord) (i : Nat) (p v t : Int) (w : World) (hi : i < l.length) (hv : Mk.validB 20 l = true) (bv : 0 ≤ v ∧ v ≤ 240) (bt : 1 ≤ t) (hR : At w b off l) :
    Calls Tryz.prog 65 #[.slice (some ⟨b, off, none⟩) l.length cap, .int .i64 i, .int .i64 p, .int .i64 v, .int .i64 t] w fun e w' => e = .returned (.int .i64 (Mk.rshare l p v t i)) ∧ Below w.heap.size w w' := by
  obtain ⟨h12, hok⟩ := Mk.ok_of_valid hv
  have HV : Hid (Mk.validB 20 l = true) := hv
  have HO : Hid (∀ o ∈ l, 1 ≤ o.price ∧ o.price ≤ 99 ∧ 1 ≤ o.qty ∧ o.qty ≤ 20) := hok
  have HR : Hid (At w b off l) := hR
  have hqi := hok _ (List.getElem_mem hi)
  have mi := Mk.mul_bd bv (show 0 ≤ l[i].qty ∧ l[i].qty ≤ 20 by omega)
  have di := Mk.div_bd mi bt
  have hi' : (i : Int) < (l.length : Int) := by omega
  clear hv hok hR hqi
  go_enter Tryz.func65, Tryz.ntmps65
  go_wp2
  go_loopw [11, 12, 13] (fun lf rk j wr => ∃ k : Nat, k ≤ l.length ∧ j = .int .i64 k ∧ lf = .int .i64 (v - Mk.sumn (Mk.rpart l p v t l[i].sell) k) ∧ rk = .int .i64 (Mk.cnt (Mk.rahead l p v t i) k) ∧ Below w.heap.size w wr) (fun _ _ j _ => l.length - (intOf j).toNat)
  case atStart => exact ⟨0, Nat.zero_le _, rfl, by simp [Mk.sumn], rfl, Below.refl _ _⟩
  case round =>
    obtain ⟨k, hk, rfl, rfl, rfl, hb⟩ := hrel
    have Hb : Hid (Below w.heap.size w wr) := hb
    clear hb
    have sb := Mk.sumn_bd (Mk.rpart l p v t l[i].sell) 4800 (fun j => rpart_bd HV.out bv bt p _ j) k
    have cb := Mk.cnt_le (Mk.rahead l p v t i) k
    obtain ⟨sb1, sb2⟩ : 0 ≤ Mk.sumn (Mk.rpart l p v t l[i].sell) k ∧ Mk.sumn (Mk.rpart l p v t l[i].sell) k ≤ 57600 := by omega
    clear sb
    have HAr : Hid (At wr b off l) := HR.out.below Hb.out
    obtain ⟨ci0, ci1, ci2⟩ := HAr.out i hi
    have hbl := blk_lt ci0
    by_cases hlt : k < l.length
    · obtain ⟨c0, c1, c2⟩ := HAr.out k hlt
      have hq := HO.out _ (List.getElem_mem hlt)
      have mk := Mk.mul_bd bv (show 0 ≤ l[k].qty ∧ l[k].qty ≤ 20 by omega)
      have dk := Mk.div_bd mk bt
      clear hq
      have hlt' : (k : Int) < (l.length : Int) := by omega
      have HS : Hid (Mk.sumn (Mk.rpart l p v t l[i].sell) (k + 1) = Mk.sumn (Mk.rpart l p v t l[i].sell) k + Mk.rpart l p v t l[i].sell k) := rfl
      rcases Bool.eq_false_or_eq_true (Mk.willB l[k].sell l[k].price p) with hw | hw
      · by_cases hs : l[k].sell = l[i].sell
        · obtain ⟨e1, e2⟩ := share_yes_i hlt p v t l[i].sell hw hs
          have HE1 : Hid (Mk.rpart l p v t l[i].sell k = v * l[k].qty / t) := e1
          have er : Mk.rahead l p v t i k = Mk.aheadN (v * l[k].qty % t) (v * l[i].qty % t) k i := by unfold Mk.rahead; rw [Mk.getD_at hi, Mk.getD_at hlt, e2]; rfl
          have hs' : (l[k].sell == l[i].sell) = true := by simpa using hs
          have HAo : Hid (∀ o m, At ((wr.alloc o).drewN m) b off l) := fun o m => HAr.out.below (below_drewN ((Below.refl _ _).alloc (Nat.le_refl _) o) m)
          clear e1 e2 hs
          rcases Bool.eq_false_or_eq_true (Mk.aheadN (v * l[k].qty % t) (v * l[i].qty % t) k i) with hah | hah
          ·
            have HE2 : Hid (Mk.rahead l p v t i k = true) := er.trans hah
            clear er
            go_wp2_with (go_at_call 63; refine (rwilling_any _ _ _ _ _).mono ?_; rintro e w' ⟨rfl, rfl⟩)
            go_quiet (fail)
            go_wp2_with (go_at_call 94; refine (ahead_any b off cap l.length k i l[k].qty l[i].qty v t _ hlt hi bt mk mi (HAo.out _ _ k hlt).2.2 (HAo.out _ _ i hi).2.2).mono ?_; rintro e w' ⟨rfl, rfl⟩)
            go_roundw
            case rel => exact ⟨k + 1, by omega, by go_num, by rw [HS.out, HE1.out]; go_num, by rw [Mk.cnt_yes HE2.out], below_drewN (Hb.out.alloc Hb.out.size _) _⟩
            case measure => simp [intOf]; omega
          ·
            have HE2 : Hid (Mk.rahead l p v t i k = false) := er.trans hah
            clear er
            go_wp2_with (go_at_call 63; refine (rwilling_any _ _ _ _ _).mono ?_; rintro e w' ⟨rfl, rfl⟩)
            go_quiet (fail)
            go_wp2_with (go_at_call 94; refine (ahead_any b off cap l.length k i l[k].qty l[i].qty v t _ hlt hi bt mk mi (HAo.out _ _ k hlt).2.2 (HAo.out _ _ i hi).2.2).mono ?_; rintro e w' ⟨rfl, rfl⟩)
            go_roundw
            case rel => exact ⟨k + 1, by omega, by go_num, by rw [HS.out, HE1.out]; go_num, by rw [Mk.cnt_no HE2.out], below_drewN (Hb.out.alloc Hb.out.size _) _⟩
            case measure => simp [intOf]; omega
        · obtain ⟨e1, e2⟩ := share_no_i hlt p v t l[i].sell (.inr hs)
          have HE1 : Hid (Mk.rpart l p v t l[i].sell k = 0) := e1
          have HE2 : Hid (Mk.rahead l p v t i k = false) := (by unfold Mk.rahead; rw [Mk.getD_at hi, e2]; rfl : Mk.rahead l p v t i k = false)
          have hs' : (l[k].sell == l[i].sell) = false := by simpa using hs
          clear e1 e2 hs
          go_wp2_with (go_at_call 63; refine (rwilling_any _ _ _ _ _).mono ?_; rintro e w' ⟨rfl, rfl⟩)
          go_quiet (fail)
          go_wp2
          go_roundw
          case rel => exact ⟨k + 1, by omega, by go_num, by rw [HS.out, HE1.out, Int.add_zero], by rw [Mk.cnt_no HE2.out], below_drewN (Hb.out.alloc Hb.out.size _) _⟩
          case measure => simp [intOf]; omega
      · obtain ⟨e1, e2⟩ := share_no_i hlt p v t l[i].sell (.inl hw)
        have HE1 : Hid (Mk.rpart l p v t l[i].sell k = 0) := e1
        have HE2 : Hid (Mk.rahead l p v t i k = false) := (by unfold Mk.rahead; rw [Mk.getD_at hi, e2]; rfl : Mk.rahead l p v t i k = false)
        clear e1 e2
        go_wp2_with (go_at_call 63; refine (rwilling_any _ _ _ _ _).mono ?_; rintro e w' ⟨rfl, rfl⟩)
        go_quiet (fail)
        go_wp2
        go_roundw
        case rel => exact ⟨k + 1, by omega, by go_num, by rw [HS.out, HE1.out, Int.add_zero], by rw [Mk.cnt_no HE2.out], below_drewN (Hb.out.alloc Hb.out.size _) _⟩
        case measure => simp [intOf]; omega
    · obtain rfl : k = l.length := by omega
      by_cases hc : (Mk.cnt (Mk.rahead l p v t i) l.length : Int) < v - Mk.sumn (Mk.rpart l p v t l[i].sell) l.length
      · have HX : Hid (v * l[i].qty / t + 1 = Mk.rshare l p v t i) := (by unfold Mk.rshare; rw [Mk.getD_at hi, if_pos hc] : v * l[i].qty / t + 1 = Mk.rshare l p v t i)
        go_wp2
        go_ret
        exact ⟨ret_int HX.out, Hb.out⟩
      · have HX : Hid (v * l[i].qty / t = Mk.rshare l p v t i) := (by unfold Mk.rshare; rw [Mk.getD_at hi, if_neg hc]; omega : v * l[i].qty / t = Mk.rshare l p v t i)
        go_wp2
        go_ret
        exact ⟨ret_int HX.out, Hb.out⟩

end Go.Proofs.YtmebcdpdpcpnmaaGreatDoor
