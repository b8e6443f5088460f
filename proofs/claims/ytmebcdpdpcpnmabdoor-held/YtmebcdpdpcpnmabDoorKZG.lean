import Derived.Test.YtmebcdpdpcpnmabDoorKZ8
namespace Go.Proofs.YtmebcdpdpcpnmabDoor
open Go.RowKit

/-- what a deed that was done brings: cash, slots of each voyage -/
def Mk.flowI (d : Mk.Dd) (x : Nat → Int) : Nat → Int :=
  match d.w with
  | 0 => upd x 0 (x 0 + d.a)
  | 1 => upd x 0 (x 0 - d.a)
  | 2 => upd x (1 + d.v) (x (1 + d.v) + d.a)
  | 3 => upd x (1 + d.v) (x (1 + d.v) - d.a)
  | _ => x
/-- there is in all just what came in -/
def Mk.Kp (M : Mk.Mkt) (x : Nat → Int) : Prop := totTo M.cf M.ch 4 + M.house = x 0 ∧ ∀ v, v < 2 → totTo (M.sf v) (M.sh v) 4 = x (1 + v)
theorem kp_new : Mk.Kp Mk.Mkt.new (fun _ => 0) := ⟨rfl, fun _ _ => rfl⟩
theorem kp_hold {M : Mk.Mkt} {x : Nat → Int} (h : Mk.Kp M x) {v who : Nat} (hw : who < 4) (o : Mk.Ord) (k : Int) : Mk.Kp (Mk.holdM M v who o k) x := by
  unfold Mk.holdM
  split
  · refine ⟨h.1, fun u hu => ?_⟩
    show totTo (upd M.sf v (upd (M.sf v) who (M.sf v who - k * o.qty)) u) (upd M.sh v (upd (M.sh v) who (M.sh v who + k * o.qty)) u) 4 = x (1 + u)
    by_cases e : u = v
    · subst e
      rw [upd_self, upd_self, totTo_f hw, totTo_h hw]
      have := h.2 u hu
      omega
    · rw [upd_ne _ _ e, upd_ne _ _ e]; exact h.2 u hu
  · refine ⟨?_, h.2⟩
    show totTo (upd M.cf who (M.cf who - k * o.price * o.qty)) (upd M.ch who (M.ch who + k * o.price * o.qty)) 4 + M.house = x 0
    rw [totTo_f hw, totTo_h hw]
    have := h.1
    omega
theorem kp_of {M N : Mk.Mkt} {x : Nat → Int} (h : Mk.Kp M x) (e1 : N.cf = M.cf) (e2 : N.ch = M.ch) (e3 : N.sf = M.sf) (e4 : N.sh = M.sh) (e5 : N.house = M.house) : Mk.Kp N x := by
  unfold Mk.Kp
  rw [e1, e2, e3, e4, e5]
  exact h
theorem shut_kp {M : Mk.Mkt} (hS : Mk.Sound M) (h1 : Mk.One M) {v : Nat} (hv : v < 2) {x : Nat → Int} (h : Mk.Kp M x) : Mk.Kp (Mk.shutM M v).2 x ∧ M.house ≤ (Mk.shutM M v).2.house := by
  have hf := hS.fill h1 hv
  have hD := Mk.dealt hS hv hf (M.bk v).length (Nat.le_refl _)
  have e0 : Mk.gotTo (M.bk v) (Mk.sF M v) false (M.bk v).length = Mk.sV M v := by rw [got_sum]; exact hf.side false
  have e1 : Mk.gotTo (M.bk v) (Mk.sF M v) true (M.bk v).length = Mk.sV M v := by rw [got_sum]; exact hf.side true
  have hV : 0 ≤ Mk.sV M v := by
    have := got_bd hf (fun x hx => (hS.ord v hv x hx).2.2.2) false _ (Nat.le_refl _)
    omega
  unfold Mk.shutM
  generalize Mk.dealTo M v (M.bk v) (Mk.sF M v) (Mk.sPay M v) (Mk.sGet M v) (M.bk v).length = A at *
  have hho := hD.house
  have hts := hD.tos
  have hot := hD.other
  have htt := hD.tot
  rw [e0, e1] at hho hts
  have hpr := hf.price
  have hge : 0 ≤ (Mk.sPay M v - Mk.sGet M v) * Mk.sV M v := Int.mul_nonneg (by omega) hV
  rw [Int.sub_mul] at hge
  refine ⟨⟨?_, fun u hu => ?_⟩, ?_⟩
  · show totTo A.cf A.ch 4 + A.house = x 0
    rw [htt]; exact h.1
  · show totTo (A.sf u) (A.sh u) 4 = x (1 + u)
    by_cases e : u = v
    · subst e; have := h.2 u hu; omega
    · rw [(hot u e).1, (hot u e).2]; exact h.2 u hu
  · show M.house ≤ A.house
    omega
theorem read_nums (d : Mk.Dd) (r : Nat) : (d.read r).n = d.nums ∧ (d.read r).d = Mk.wdOf d.w ∧ (d.read r).who = d.who := ⟨rfl, rfl, rfl⟩
/-- one deed: what came in is kept account of; the house does not lose -/
theorem all_kp {M : Mk.Mkt} (hS : Mk.Sound M) (h1 : Mk.One M) {d : Mk.Dd} (hd : d.Ok) (r : Nat) {x : Nat → Int} (h : Mk.Kp M x) :
    Mk.Kp (Mk.allM M (d.read r)).2.2 (if (Mk.allM M (d.read r)).2.1 = 0 then Mk.flowI d x else x) ∧ M.house ≤ (Mk.allM M (d.read r)).2.2.house := by
  obtain ⟨dw, who, v, a, b⟩ := d
  have hw : dw < 9 := hd.w
  have hwho : who < 4 := hd.who
  have hv : v < 2 := hd.v
  have h9 : dw = 0 ∨ dw = 1 ∨ dw = 2 ∨ dw = 3 ∨ dw = 4 ∨ dw = 5 ∨ dw = 6 ∨ dw = 7 ∨ dw = 8 := by omega
  have slot : ∀ (n : Int), Mk.Kp { M with sf := upd M.sf v (upd (M.sf v) who (M.sf v who + n)) } (upd x (1 + v) (x (1 + v) + n)) := fun n => by
    refine ⟨?_, fun u hu => ?_⟩
    · show _ = upd x (1 + v) _ 0
      rw [upd_ne _ _ (by omega)]; exact h.1
    · show totTo (upd M.sf v (upd (M.sf v) who (M.sf v who + n)) u) (M.sh u) 4 = upd x (1 + v) (x (1 + v) + n) (1 + u)
      by_cases e : u = v
      · subst e
        rw [upd_self, upd_self, totTo_f hwho]
        have := h.2 u hu
        omega
      · rw [upd_ne _ _ e, upd_ne _ _ (by omega)]; exact h.2 u hu
  have cash : ∀ (n : Int), Mk.Kp { M with cf := upd M.cf who (M.cf who + n) } (upd x 0 (x 0 + n)) := fun n => by
    refine ⟨?_, fun u hu => ?_⟩
    · show totTo (upd M.cf who (M.cf who + n)) M.ch 4 + M.house = upd x 0 (x 0 + n) 0
      rw [upd_self, totTo_f hwho]
      have := h.1
      omega
    · show _ = upd x 0 _ (1 + u)
      rw [upd_ne _ _ (by omega)]; exact h.2 u hu
  have ord : ∀ o : Mk.Ord, Mk.Kp (Mk.orderM M v who o).2.2 x ∧ M.house ≤ (Mk.orderM M v who o).2.2.house := fun o => by
    unfold Mk.orderM
    split
    · exact ⟨h, Int.le_refl _⟩
    · split
      · exact ⟨h, Int.le_refl _⟩
      · split
        · exact ⟨h, Int.le_refl _⟩
        · refine ⟨kp_of (kp_hold h hwho o 1) rfl rfl rfl rfl rfl, ?_⟩
          show M.house ≤ (Mk.holdM M v who o 1).house
          unfold Mk.holdM; split <;> exact Int.le_refl _
  have same : ∀ {c : Prop} [Decidable c], (if c then x else x) = x := fun {c} _ => by split <;> rfl
  rcases h9 with rfl | rfl | rfl | rfl | rfl | rfl | rfl | rfl | rfl
  · show Mk.Kp (Mk.payM M who (a : Int)).2 (if (Mk.payM M who (a : Int)).1 = 0 then upd x 0 (x 0 + a) else x) ∧ M.house ≤ (Mk.payM M who (a : Int)).2.house
    unfold Mk.payM
    split
    · exact ⟨h, Int.le_refl _⟩
    · exact ⟨cash a, Int.le_refl _⟩
  · show Mk.Kp (Mk.drawM M who (a : Int)).2 (if (Mk.drawM M who (a : Int)).1 = 0 then upd x 0 (x 0 - a) else x) ∧ M.house ≤ (Mk.drawM M who (a : Int)).2.house
    unfold Mk.drawM
    split
    · exact ⟨h, Int.le_refl _⟩
    · exact ⟨cash (-a), Int.le_refl _⟩
  · show Mk.Kp (Mk.bringM M v who (a : Int)).2 (if (Mk.bringM M v who (a : Int)).1 = 0 then upd x (1 + v) (x (1 + v) + a) else x) ∧ M.house ≤ (Mk.bringM M v who (a : Int)).2.house
    unfold Mk.bringM
    split
    · exact ⟨h, Int.le_refl _⟩
    · exact ⟨slot a, Int.le_refl _⟩
  · show Mk.Kp (Mk.fetchM M v who (a : Int)).2 (if (Mk.fetchM M v who (a : Int)).1 = 0 then upd x (1 + v) (x (1 + v) - a) else x) ∧ M.house ≤ (Mk.fetchM M v who (a : Int)).2.house
    unfold Mk.fetchM
    split
    · exact ⟨h, Int.le_refl _⟩
    · exact ⟨slot (-a), Int.le_refl _⟩
  · show Mk.Kp (Mk.orderM M v who ⟨false, (a : Int), (b : Int)⟩).2.2 (if (Mk.orderM M v who ⟨false, (a : Int), (b : Int)⟩).2.1 = 0 then x else x) ∧ _
    rw [same]; exact ord _
  · show Mk.Kp (Mk.orderM M v who ⟨true, (a : Int), (b : Int)⟩).2.2 (if (Mk.orderM M v who ⟨true, (a : Int), (b : Int)⟩).2.1 = 0 then x else x) ∧ _
    rw [same]; exact ord _
  · show Mk.Kp (Mk.dropM M v who (a : Int)).2 (if (Mk.dropM M v who (a : Int)).1 = 0 then x else x) ∧ M.house ≤ (Mk.dropM M v who (a : Int)).2.house
    rw [same]
    unfold Mk.dropM
    split
    · exact ⟨h, Int.le_refl _⟩
    · rename_i y _
      refine ⟨kp_of (kp_hold h hwho y.o (-1)) rfl rfl rfl rfl rfl, ?_⟩
      show M.house ≤ (Mk.holdM M v who y.o (-1)).house
      unfold Mk.holdM; split <;> exact Int.le_refl _
  · show Mk.Kp (Mk.modeM M v (Mk.Dd.mc ⟨7, who, v, a, b⟩)).2 (if (Mk.modeM M v (Mk.Dd.mc ⟨7, who, v, a, b⟩)).1 = 0 then x else x) ∧ M.house ≤ (Mk.modeM M v (Mk.Dd.mc ⟨7, who, v, a, b⟩)).2.house
    rw [same]
    unfold Mk.modeM
    split
    · exact ⟨h, Int.le_refl _⟩
    · exact ⟨h, Int.le_refl _⟩
  · show Mk.Kp (Mk.shutM M v).2 (if (0 : Int) = 0 then x else x) ∧ M.house ≤ (Mk.shutM M v).2.house
    rw [same]; exact shut_kp hS h1 hv h
theorem did_kp {M : Mk.Mkt} {k : Nat} (hI : AInv M k) {d : Mk.Dd} (hd : d.Ok) {x : Nat → Int} (h : Mk.Kp M x) :
    Mk.Kp (Mk.didM M d).2.2 (if Mk.didB M d = true ∧ (Mk.didM M d).2.1 = 0 then Mk.flowI d x else x) ∧ M.house ≤ (Mk.didM M d).2.2.house := by
  unfold Mk.didM Mk.didB
  by_cases hl : M.ls d.who < 99
  · rw [if_pos hl]
    have hls := hI.well.ls d.who hd.who
    have hr : 1 ≤ (M.ls d.who).toNat + 1 ∧ (M.ls d.who).toNat + 1 ≤ 99 := by omega
    have e := doM_next (M := M) (s := Mk.cmdN M d) (Mk.read_cmd hd hr) (by show (((M.ls d.who).toNat + 1 : Nat) : Int) = M.ls d.who + 1; omega)
    rw [e]
    have hk := all_kp hI.sound hI.one hd ((M.ls d.who).toNat + 1) h
    refine ⟨?_, hk.2⟩
    have e2 : (decide (M.ls d.who < 99) = true ∧ (Mk.allM M (d.read ((M.ls d.who).toNat + 1))).2.1 = 0) = ((Mk.allM M (d.read ((M.ls d.who).toNat + 1))).2.1 = 0) := by simp [hl]
    simp only [e2]
    exact kp_of hk.1 rfl rfl rfl rfl rfl
  · rw [if_neg hl, if_neg (fun h => by simp [hl] at h)]
    exact ⟨h, Int.le_refl _⟩

end Go.Proofs.YtmebcdpdpcpnmabDoor
