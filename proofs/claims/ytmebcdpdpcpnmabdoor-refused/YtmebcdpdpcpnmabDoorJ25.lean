import Derived.Test.YtmebcdpdpcpnmabDoorJ24
import Derived.Shelf.LaysM
import Derived.Shelf.Strconv.Itoa3
import Derived.Test.YtmebcdpdpcpnmabDoorProg
namespace Go.Proofs.YtmebcdpdpcpnmabDoor
open Go.RowKit

theorem own_zero {w : World} {base e size n : Nat} {v : Value} {xs : List Value} (h : w.ownsRow base e size v n xs) : w.ownsRow 0 e size v n xs := by
  refine ⟨h.1, ?_⟩
  rcases h.2 with h0 | ⟨g, cap, cur, hv, _, hr⟩
  · exact .inl h0
  · exact .inr ⟨g, cap, cur, hv, Nat.zero_le _, hr⟩

section
variable {w w1 : World} {p : Nat} {vb : Nat → Value} {M : Mk.Mkt}
/-- the pot's cells -/
def potF (M : Mk.Mkt) (v who : Nat) (sell : Bool) : Int := if sell then M.sf v who else M.cf who
def potH (M : Mk.Mkt) (v who : Nat) (sell : Bool) : Int := if sell then M.sh v who else M.ch who
theorem PM.potF (h : PM w p vb M) {v who : Nat} (hv : v < 2) (hw : who < 4) (sell : Bool) : w.cell? ⟨p, potAt v who sell, none⟩ = some (.int .i64 (Go.Proofs.YtmebcdpdpcpnmabDoor.potF M v who sell)) ∧ w.cell? ⟨p, potAt v who sell + 1, none⟩ = some (.int .i64 (potH M v who sell)) := by
  cases sell
  · exact ⟨h.ac hw (k := 0) (by omega), h.ac hw (k := 1) (by omega)⟩
  · refine ⟨h.slot hv hw, ?_⟩
    rcases (show v = 0 ∨ v = 1 by omega) with rfl | rfl
    · exact h.ac hw (k := 3) (by omega)
    · exact h.ac hw (k := 5) (by omega)
theorem pot_bd (hM : M.Fine) {v who : Nat} (hv : v < 2) (hw : who < 4) (sell : Bool) : (0 ≤ potF M v who sell ∧ potF M v who sell ≤ 9999) ∧ (0 ≤ potH M v who sell ∧ potH M v who sell ≤ 9999) := by
  cases sell
  · exact ⟨hM.cf who hw, hM.ch who hw⟩
  · exact ⟨hM.sf v who hv hw, hM.sh v who hv hw⟩
theorem PM.hold (h : PM w p vb M) {v who : Nat} (hv : v < 2) (hw : who < 4) (sell : Bool) (pr q : Int) :
    PM ((w.setCell ⟨p, potAt v who sell, none⟩ (.int .i64 (Go.Proofs.YtmebcdpdpcpnmabDoor.potF M v who sell - needI sell pr q))).setCell ⟨p, potAt v who sell + 1, none⟩ (.int .i64 (potH M v who sell + needI sell pr q))) p vb (Mk.holdM M v who ⟨sell, pr, q⟩ 1) := by
  cases sell
  · have e : Mk.holdM M v who ⟨false, pr, q⟩ 1 = { M with cf := upd M.cf who (M.cf who - pr * q), ch := upd M.ch who (M.ch who + pr * q) } := by simp [Mk.holdM]
    rw [e]
    exact (h.setCf hw _).setCh hw _
  · have e : Mk.holdM M v who ⟨true, pr, q⟩ 1 = { M with sf := upd M.sf v (upd (M.sf v) who (M.sf v who - q)), sh := upd M.sh v (upd (M.sh v) who (M.sh v who + q)) } := by simp [Mk.holdM]
    rw [e]
    exact (h.setSf hv hw _).setSh hv hw _
theorem PM.letGo (h : PM w p vb M) {v who : Nat} (hv : v < 2) (hw : who < 4) (sell : Bool) (pr q : Int) :
    PM ((w.setCell ⟨p, potAt v who sell + 1, none⟩ (.int .i64 (potH M v who sell - needI sell pr q))).setCell ⟨p, potAt v who sell, none⟩ (.int .i64 (Go.Proofs.YtmebcdpdpcpnmabDoor.potF M v who sell + needI sell pr q))) p vb (Mk.holdM M v who ⟨sell, pr, q⟩ (-1)) := by
  have e1 : ∀ a b : Int, a - -1 * b = a + b := fun a b => by omega
  have e2 : ∀ a b : Int, a + -1 * b = a - b := fun a b => by omega
  have e3 : (-1 : Int) * pr * q = -1 * (pr * q) := by rw [Int.mul_assoc]
  cases sell
  · have e : Mk.holdM M v who ⟨false, pr, q⟩ (-1) = { M with ch := upd M.ch who (M.ch who - pr * q), cf := upd M.cf who (M.cf who + pr * q) } := by
      show { M with cf := upd M.cf who (M.cf who - -1 * pr * q), ch := upd M.ch who (M.ch who + -1 * pr * q) } = _
      rw [e3, e1, e2]
    rw [e]
    exact (h.setCh hw _).setCf hw _
  · have e : Mk.holdM M v who ⟨true, pr, q⟩ (-1) = { M with sh := upd M.sh v (upd (M.sh v) who (M.sh v who - q)), sf := upd M.sf v (upd (M.sf v) who (M.sf v who + q)) } := by
      show { M with sf := upd M.sf v (upd (M.sf v) who (M.sf v who - -1 * q)), sh := upd M.sh v (upd (M.sh v) who (M.sh v who + -1 * q)) } = _
      rw [e1, e2]
    rw [e]
    exact (h.setSh hv hw _).setSf hv hw _
/-- another row of orders -/
theorem PM.setBk (h : PM w p vb M) {v : Nat} (hv : v < 2) {v' : Value} {r : List Mk.Stand} (hb : ∀ k, PHas p vb k → k = p ∨ (vb v).ownBlock = some k ∨ w1.heap[k]? = w.heap[k]?) (hp : w1.heap[p]? = w.heap[p]?)
    (ho : w1.ownsRow 0 86 5 v' r.length (standC r)) (hn : ∀ k, v'.ownBlock = some k → (vb v).ownBlock = some k ∨ w.heap.size ≤ k) :
    PM (w1.setCell ⟨p, 25 + v * 3 + 1, none⟩ v') p (upd vb v v') { M with bk := upd M.bk v r } := by
  have hbox : w1.rowIs p 70 44 (pmF vb M) := h.box.of_block hp
  have hother : ∀ u, u < 2 → u ≠ v → w1.ownsRow 0 86 5 (vb u) (M.bk u).length (standC (M.bk u)) := fun u hu huv => by
    refine own_block (h.bk u hu) (fun k hk => ?_)
    rcases hb k (.inr ⟨u, hu, hk⟩) with e | e | e
    · subst e
      have k1 : Kind w k 86 := own_kind' (h.bk u hu) hk
      exact absurd rfl (k1.ne (row_kind h.box) (by decide))
    · exfalso
      rcases (show u = 0 ∧ v = 1 ∨ u = 1 ∧ v = 0 by omega) with ⟨rfl, rfl⟩ | ⟨rfl, rfl⟩
      · exact h.vv k hk e
      · exact h.vv k e hk
    · exact e
  refine ⟨(hbox.set _ _).congr (pm_ext (fun d k hd hk => ?_) ?_ (fun u k hu hk => ?_) (fun d k hd hk => ?_) ?_), fun u hu => ?_, fun k h0 h1 => ?_⟩
  · rw [if_neg (by omega), pm_ac hd hk]; rfl
  · rw [if_neg (by omega)]; rfl
  · rw [pm_vo hu hk]
    by_cases e : 25 + u * 3 + k = 25 + v * 3 + 1
    · rw [if_pos e]
      have e1 : u = v := by omega
      have e2 : k = 1 := by omega
      subst e1 e2
      show _ = upd vb u v' u
      rw [upd_self]
    · rw [if_neg e]
      match k, hk with
      | 0, _ => rfl
      | 1, _ => show _ = upd vb v v' u
                rw [upd_ne _ _ (by omega)]; rfl
      | 2, _ => rfl
  · rw [if_neg (by omega), pm_re hd hk]; rfl
  · rw [if_neg (by omega)]; rfl
  · by_cases e : u = v
    · subst e
      show World.ownsRow _ 0 86 5 (upd vb u v' u) (upd M.bk u r u).length (standC (upd M.bk u r u))
      rw [upd_self, upd_self]
      exact Go.Proofs.YtmebcdpdpcpnmabDoor.own_set ho (row_kind hbox) (by decide)
    · show World.ownsRow _ 0 86 5 (upd vb v v' u) (upd M.bk v r u).length (standC (upd M.bk v r u))
      rw [upd_ne _ _ e, upd_ne _ _ e]
      exact Go.Proofs.YtmebcdpdpcpnmabDoor.own_set (hother u hu e) (row_kind hbox) (by decide)
  · rcases (show v = 0 ∨ v = 1 by omega) with rfl | rfl
    · rw [upd_self] at h0
      rw [upd_ne _ _ (by omega)] at h1
      rcases hn k h0 with e | e
      · exact h.vv k e h1
      · have := ((h.bk 1 (by omega)).lt k h1).2; omega
    · rw [upd_ne _ _ (by omega)] at h0
      rw [upd_self] at h1
      rcases hn k h1 with e | e
      · exact h.vv k h0 e
      · have := ((h.bk 0 (by omega)).lt k h0).2; omega
end

set_option maxRecDepth 100000 in
set_option maxHeartbeats 4000000 in
theorem pdrop_any (p : Nat) (vb : Nat → Value) (M : Mk.Mkt) (who : Nat) (r : Int) (t : ByteArray) (v : Nat) (a pr q n : Int) (m : Bool) (w : World) (hM : M.Fine) (hP : PM w p vb M) (hw : who < 4) (hv : v < 2)
    (hU : ∀ x, (M.bk v).find? (Mk.hit n who) = some x → (M.bk v).filter (fun y => !(y.n == n)) = (M.bk v).filter (fun y => !Mk.hit n who y)) :
    Calls Tryd.prog 54 #[.pointer (some ⟨p, 0, none⟩), rqA who r t v a pr q n m] w fun e w' => e = .returned (.int .i64 (Mk.dropM M v who n).1) ∧ ∃ vb', PM w' p vb' (Mk.dropM M v who n).2 ∧ Only (PHas p vb) w w' ∧ ∀ k, PHas p vb' k → PHas p vb k ∨ w.heap.size ≤ k := by
  have HM : Hid M.Fine := hM
  have HU := (show Hid _ from hU)
  have HB1 : Hid (Below w.heap.size w (w.alloc (rqO who r t v a pr q n m))) := (Below.refl _ _).alloc (Nat.le_refl _) _
  have HP1 : Hid (PM (w.alloc (rqO who r t v a pr q n m)) p vb M) := hP.below HB1.out
  have x0 : (w.alloc (rqO who r t v a pr q n m)).cell? ⟨w.heap.size, 0, none⟩ = some (.int .i64 (who : Int)) := by simp
  have x3 : (w.alloc (rqO who r t v a pr q n m)).cell? ⟨w.heap.size, 3, none⟩ = some (.int .i64 (v : Int)) := by simp
  have x7 : (w.alloc (rqO who r t v a pr q n m)).cell? ⟨w.heap.size, 7, none⟩ = some (.int .i64 n) := by simp
  have hwl : w.heap.size < (w.alloc (rqO who r t v a pr q n m)).heap.size := by simp
  have hv' : (v : Int) < 2 := by omega
  have hlen := hM.len v hv
  have HPl : Hid (∀ k, PHas p vb k → k < w.heap.size) := fun k hk => hP.lt hk
  clear hM hP hU
  go_enter Tryd.func54, Tryd.ntmps54
  go_upto_region 1 with fail
  generalize w.alloc (rqO who r t v a pr q n m) = W1 at *
  go_quiet (fail)
  have hbq : Below W1.heap.size W1 (W1.drewN nq) := below_drewN (Below.refl _ _) nq
  have HB2 : Hid (Below w.heap.size w (W1.drewN nq)) := HB1.out.trans (hbq.mono HB1.out.size)
  have HP2 : Hid (PM (W1.drewN nq) p vb M) := HP1.out.below hbq
  have y0 : (W1.drewN nq).cell? ⟨w.heap.size, 0, none⟩ = some (.int .i64 (who : Int)) := by simpa using x0
  have y3 : (W1.drewN nq).cell? ⟨w.heap.size, 3, none⟩ = some (.int .i64 (v : Int)) := by simpa using x3
  have y7 : (W1.drewN nq).cell? ⟨w.heap.size, 7, none⟩ = some (.int .i64 n) := by simpa using x7
  have hwl2 : w.heap.size < (W1.drewN nq).heap.size := hwl
  clear x0 x3 x7 hwl hbq
  generalize W1.drewN nq = W2 at *
  have c1 := HP2.out.vo hv (k := 1) (by omega)
  simp only [voF] at c1
  go_wp2_with fail
  refine (find_any p (25 + v * 3) who n (vb v) (M.bk v) W2 c1 hlen (HP2.out.bk v hv)).mono ?_
  rintro e w3 ⟨hm, hb3⟩
  have HB3 : Hid (Below w.heap.size w w3) := HB2.out.trans (hb3.mono HB2.out.size)
  have HP3 : Hid (PM w3 p vb M) := HP2.out.below hb3
  have u3 : w3.cell? ⟨w.heap.size, 3, none⟩ = some (.int .i64 (v : Int)) := (hb3.cell (p := ⟨w.heap.size, 3, none⟩) hwl2).trans y3
  have hwl3 : w.heap.size < w3.heap.size := Nat.lt_of_lt_of_le hwl2 hb3.size
  clear hb3 y0 y3 y7 c1
  cases hfd : (M.bk v).find? (Mk.hit n who) with
  | none =>
    rw [hfd] at hm
    obtain rfl := hm
    have HX : Hid (Mk.dropM M v who n = (10, M)) := (by unfold Mk.dropM; rw [hfd] : Mk.dropM M v who n = (10, M))
    have HB4 : Hid (∀ ob, Below w.heap.size w (w3.alloc ob)) := fun ob => HB3.out.alloc HB3.out.size ob
    clear hfd
    go_wp2_with fail
    go_ret
    rw [HX.out]
    exact ⟨rfl, vb, HP3.out.below ((Below.refl _ _).alloc (Nat.le_refl _) _), Only.of_below (HB4.out _), fun _ h => .inl h⟩
  | some x =>
    rw [hfd] at hm
    obtain rfl := hm
    have hx : x ∈ M.bk v := List.mem_of_find?_eq_some hfd
    have hhit := List.find?_some hfd
    unfold Mk.hit at hhit
    rw [Bool.and_eq_true, beq_iff_eq, beq_iff_eq] at hhit
    have bo := HM.out.ord v hv x hx
    have HX : Hid (Mk.dropM M v who n = (0, Mk.outM M v who n x)) := (by unfold Mk.dropM; rw [hfd] : Mk.dropM M v who n = (0, Mk.outM M v who n x))
    have HFl : Hid ((M.bk v).filter (fun y => !(y.n == n)) = (M.bk v).filter (fun y => !Mk.hit n who y)) := HU.out x hfd
    obtain ⟨xn, xw, xs, xp, xq⟩ := x
    obtain ⟨rfl, rfl⟩ : xn = n ∧ xw = (who : Int) := hhit
    have bp : 1 ≤ xp ∧ xp ≤ 99 := ⟨bo.1, bo.2.1⟩
    have bq : 1 ≤ xq ∧ xq ≤ 20 := ⟨bo.2.2.1, bo.2.2.2⟩
    clear hfd hx bo
    have HB4 : Hid (Below w.heap.size w (w3.alloc (.cells #[.int .i64 xn, .int .i64 (who : Int), .bool xs, .int .i64 xp, .int .i64 xq] 86))) := HB3.out.alloc HB3.out.size _
    have HP4 : Hid (PM (w3.alloc (.cells #[.int .i64 xn, .int .i64 (who : Int), .bool xs, .int .i64 xp, .int .i64 xq] 86)) p vb M) := HP3.out.below ((Below.refl _ _).alloc (Nat.le_refl _) _)
    have HE4 : Hid (∀ i u, (#[.int .i64 xn, .int .i64 (who : Int), .bool xs, .int .i64 xp, .int .i64 xq] : Array Value)[i]? = some u → (w3.alloc (.cells #[.int .i64 xn, .int .i64 (who : Int), .bool xs, .int .i64 xp, .int .i64 xq] 86)).cell? ⟨w3.heap.size, i, none⟩ = some u) := fun i u h => by simpa using h
    have HE4l : Hid (w3.heap.size < (w3.alloc (.cells #[.int .i64 xn, .int .i64 (who : Int), .bool xs, .int .i64 xp, .int .i64 xq] 86)).heap.size) := (by simp : w3.heap.size < (w3.alloc (.cells #[.int .i64 xn, .int .i64 (who : Int), .bool xs, .int .i64 xp, .int .i64 xq] 86)).heap.size)
    have hE : w.heap.size ≤ w3.heap.size := HB3.out.size
    go_wp2_with fail
    generalize w3.alloc (.cells #[.int .i64 xn, .int .i64 (who : Int), .bool xs, .int .i64 xp, .int .i64 xq] 86) = W4 at *
    generalize w3.heap.size = E at *
    refine (potOf_any p v who xn xs xp xq W4 hw hv).mono ?_
    rintro e w5 ⟨rfl, hb5⟩
    have HB5 : Hid (Below w.heap.size w w5) := HB4.out.trans (hb5.mono HB4.out.size)
    have HP5 : Hid (PM w5 p vb M) := HP4.out.below hb5
    have HE5 : Hid (∀ i u, (#[.int .i64 xn, .int .i64 (who : Int), .bool xs, .int .i64 xp, .int .i64 xq] : Array Value)[i]? = some u → w5.cell? ⟨E, i, none⟩ = some u) := fun i u h => (hb5.cell (p := ⟨E, i, none⟩) HE4l.out).trans (HE4.out i u h)
    have HE5l : Hid (E < w5.heap.size) := Nat.lt_of_lt_of_le HE4l.out hb5.size
    clear hb5
    have a0 := HE5.out 0 _ rfl
    have a1 := HE5.out 1 _ rfl
    have a2 := HE5.out 2 _ rfl
    have a3 := HE5.out 3 _ rfl
    have a4 := HE5.out 4 _ rfl
    go_wp2_with fail
    refine (needs_any xn who xs xp xq w5 bp bq).mono ?_
    rintro e w6 ⟨rfl, hb6⟩
    have HB6 : Hid (Below w.heap.size w w6) := HB5.out.trans (hb6.mono HB5.out.size)
    have HP6 : Hid (PM w6 p vb M) := HP5.out.below hb6
    have g0 : w6.cell? ⟨E, 0, none⟩ = some (.int .i64 xn) := (hb6.cell (p := ⟨E, 0, none⟩) HE5l.out).trans a0
    have HE6l : Hid (E < w6.heap.size) := Nat.lt_of_lt_of_le HE5l.out hb6.size
    clear hb6 a0 a1 a2 a3 a4
    obtain ⟨f0, f1⟩ := HP6.out.potF hv hw xs
    obtain ⟨bf, bh⟩ := pot_bd HM.out hv hw xs
    have bn := needI_bd (sell := xs) bp bq
    have z0 := HP6.out.box.frozen (potAt v who xs)
    have z1 := HP6.out.box.frozen (potAt v who xs + 1)
    have HRl := (show Hid _ from release_any p (potAt v who xs) (potF M v who xs) (potH M v who xs) (needI xs xp xq) w6 f0 f1 z0 z1 bf bh ⟨bn.1, by omega⟩)
    have HP7 := (show Hid _ from HP6.out.letGo hv hw xs xp xq)
    have HO7 : Hid (Only (PHas p vb) w ((w6.setCell ⟨p, potAt v who xs + 1, none⟩ (.int .i64 (potH M v who xs - needI xs xp xq))).setCell ⟨p, potAt v who xs, none⟩ (.int .i64 (potF M v who xs + needI xs xp xq)))) := ((Only.of_below HB6.out).set (show PHas p vb p from .inl rfl) _).set (show PHas p vb p from .inl rfl) _
    clear f0 f1 z0 z1
    go_wp2_with fail
    refine Calls.mono HRl.out ?_
    rintro e w7 ⟨rfl, hw7⟩
    rw [← hw7] at HP7 HO7
    have k0 : w7.cell? ⟨E, 0, none⟩ = some (.int .i64 xn) := by
      rw [hw7]
      have hne : E ≠ p := fun e => by have := HPl.out p (.inl rfl); omega
      exact cell_set_ne (.inl hne) (cell_set_ne (.inl hne) g0)
    clear hw7 g0
    have HP7' : Hid (PM w7 p vb (Mk.holdM M v who ⟨xs, xp, xq⟩ (-1))) := HP7.out
    have hbk : (Mk.holdM M v who ⟨xs, xp, xq⟩ (-1)).bk = M.bk := by unfold Mk.holdM; split <;> rfl
    have d1 := HP7'.out.vo hv (k := 1) (by omega)
    simp only [voF] at d1
    have z1 := HP7'.out.box.frozen (25 + v * 3 + 1)
    have hown7 : w7.ownsRow 0 86 5 (vb v) (M.bk v).length (standC (M.bk v)) := by have := HP7'.out.bk v hv; rw [hbk] at this; exact this
    have HRm := (show Hid _ from remove_any p (25 + v * 3) xn (vb v) (M.bk v) w7 d1 z1 hlen hown7)
    have HBk : Hid ((Mk.holdM M v who ⟨xs, xp, xq⟩ (-1)).bk = M.bk) := hbk
    clear d1 z1 hown7 hbk HRl
    go_wp2_with fail
    refine Calls.mono HRm.out ?_
    rintro e w9 ⟨rfl, w8, v', hb8, hown8, hw9⟩
    have hP9 : PM w9 p (upd vb v v') { Mk.holdM M v who ⟨xs, xp, xq⟩ (-1) with bk := upd (Mk.holdM M v who ⟨xs, xp, xq⟩ (-1)).bk v ((M.bk v).filter (fun y => !(y.n == xn))) } := by
      rw [hw9]
      exact HP7'.out.setBk hv (fun k hk => .inr (.inr (hb8.block k (HP7'.out.lt hk)))) (hb8.block p HP7'.out.box.lt) (own_zero hown8) (fun k hk => .inr (own_ge hown8 k hk))
    have HP9 : Hid (PM w9 p (upd vb v v') (Mk.outM M v who xn ⟨xn, (who : Int), ⟨xs, xp, xq⟩⟩)) := (by
      unfold Mk.outM
      rw [← HFl.out]
      rw [HBk.out] at hP9
      exact hP9 : PM w9 p (upd vb v v') (Mk.outM M v who xn ⟨xn, (who : Int), ⟨xs, xp, xq⟩⟩))
    have HO9 : Hid (Only (PHas p vb) w w9) := (by rw [hw9]; exact (HO7.out.next hb8).set (show PHas p vb p from .inl rfl) _ : Only (PHas p vb) w w9)
    have HNew : Hid (∀ k, PHas p (upd vb v v') k → PHas p vb k ∨ w.heap.size ≤ k) := by
      rintro k (rfl | ⟨u, hu, hk⟩)
      · exact .inl (.inl rfl)
      · by_cases e : u = v
        · subst e
          rw [upd_self] at hk
          have := own_ge hown8 k hk
          exact .inr (Nat.le_trans HO7.out.size this)
        · rw [upd_ne _ _ e] at hk
          exact .inl (.inr ⟨u, hu, hk⟩)
    clear hP9 hb8 hown8 hw9 HRm
    go_wp2_with fail
    go_ret
    rw [HX.out]
    exact ⟨rfl, _, HP9.out, HO9.out, HNew.out⟩

end Go.Proofs.YtmebcdpdpcpnmabDoor

/- strconv.Itoa of small numbers at this dump: laid by program. -/
namespace Go.Proofs
open Go.Shelf
def Tryd.lays171_ren : Go.Shelf.Ren := ⟨fun | 171 => 28 | 243 => 37 | 246 => 45 | 283 => 57 | 284 => 58 | 285 => 59 | 286 => 60 | 129 => 75 | 317 => 74 | 318 => 76 | 319 => 77 | 320 => 78 | 337 => 82 | 338 => 83 | n => n, fun | 3 => 3 | 9 => 9 | 2 => 2 | 4 => 4 | 171 => 100 | 0 => 0 | 53 => 101 | 37 => 87 | 5 => 5 | 173 => 104 | 212 => 120 | 51 => 121 | 20 => 20 | 213 => 122 | 46 => 123 | 232 => 142 | 233 => 143 | n => n, fun | 17 => 0 | 18 => 1 | 19 => 2 | n => n⟩
theorem Tryd.lays171 : Go.Proofs.Lays.n171 Tryd.prog Tryd.lays171_ren := {
  mixed := by kernel_rfl
  f129 := Tryd.func75.trans (congrArg some (by kernel_rfl))
  f171 := Tryd.func28.trans (congrArg some (by kernel_rfl))
  f243 := Tryd.func37.trans (congrArg some (by kernel_rfl))
  f246 := Tryd.func45.trans (congrArg some (by kernel_rfl))
  f283 := Tryd.func57.trans (congrArg some (by kernel_rfl))
  f284 := Tryd.func58.trans (congrArg some (by kernel_rfl))
  f285 := Tryd.func59.trans (congrArg some (by kernel_rfl))
  f286 := Tryd.func60.trans (congrArg some (by kernel_rfl))
  f317 := Tryd.func74.trans (congrArg some (by kernel_rfl))
  f318 := Tryd.func76.trans (congrArg some (by kernel_rfl))
  f319 := Tryd.func77.trans (congrArg some (by kernel_rfl))
  f320 := Tryd.func78.trans (congrArg some (by kernel_rfl))
  f337 := Tryd.func82.trans (congrArg some (by kernel_rfl))
  f338 := Tryd.func83.trans (congrArg some (by kernel_rfl))
  t0 := Tryd.underlying0
  a0 := Tryd.isAgg0
  z0 := Tryd.sizeOf0
  v0 := Tryd.zeroValue0
  t2 := Tryd.underlying2
  a2 := Tryd.isAgg2
  z2 := Tryd.sizeOf2
  v2 := Tryd.zeroValue2
  t3 := Tryd.underlying3
  a3 := Tryd.isAgg3
  z3 := Tryd.sizeOf3
  v3 := Tryd.zeroValue3
  t4 := Tryd.underlying4
  a4 := Tryd.isAgg4
  z4 := Tryd.sizeOf4
  v4 := Tryd.zeroValue4
  t5 := Tryd.underlying5
  a5 := Tryd.isAgg5
  z5 := Tryd.sizeOf5
  v5 := Tryd.zeroValue5
  t9 := Tryd.underlying9
  a9 := Tryd.isAgg9
  z9 := Tryd.sizeOf9
  v9 := Tryd.zeroValue9
  t20 := Tryd.underlying20
  a20 := Tryd.isAgg20
  z20 := Tryd.sizeOf20
  v20 := Tryd.zeroValue20
  t37 := Tryd.underlying87
  a37 := Tryd.isAgg87
  z37 := Tryd.sizeOf87
  v37 := Tryd.zeroValue87
  t46 := Tryd.underlying123
  a46 := Tryd.isAgg123
  z46 := Tryd.sizeOf123
  v46 := Tryd.zeroValue123
  t51 := Tryd.underlying121
  a51 := Tryd.isAgg121
  z51 := Tryd.sizeOf121
  v51 := Tryd.zeroValue121
  t53 := Tryd.underlying101
  a53 := Tryd.isAgg101
  z53 := Tryd.sizeOf101
  v53 := Tryd.zeroValue101
  t171 := Tryd.underlying100
  a171 := Tryd.isAgg100
  z171 := Tryd.sizeOf100
  v171 := Tryd.zeroValue100
  t173 := Tryd.underlying104
  a173 := Tryd.isAgg104
  z173 := Tryd.sizeOf104
  v173 := Tryd.zeroValue104
  t212 := Tryd.underlying120
  a212 := Tryd.isAgg120
  z212 := Tryd.sizeOf120
  v212 := Tryd.zeroValue120
  t213 := Tryd.underlying122
  a213 := Tryd.isAgg122
  z213 := Tryd.sizeOf122
  t232 := Tryd.underlying142
  a232 := Tryd.isAgg142
  z232 := Tryd.sizeOf142
  v232 := Tryd.zeroValue142
  t233 := Tryd.underlying143
  a233 := Tryd.isAgg143
  z233 := Tryd.sizeOf143
  v233 := Tryd.zeroValue143
  g17 := by kernel_rfl
  g18 := by kernel_rfl
  g19 := by kernel_rfl }
open Go.RowKit Go.Sort Go.Lib in
theorem Tryd.strconv_Itoa_small (i : Nat) (hi : i < 100) (w : World) :
    Calls Tryd.prog 28 #[.int .i64 i] w fun e w' => e = .returned (.string ⟨(Lib.decDigits i).toArray⟩) ∧ w' = w := Any.strconv_Itoa_small Tryd.lays171 i hi w
end Go.Proofs
