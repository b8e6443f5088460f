import Derived.Test.YtmebcdpdpcpnmaaGreatDoorJ20
namespace Go.Proofs.YtmebcdpdpcpnmaaGreatDoor
open Go.RowKit

set_option maxRecDepth 100000 in
set_option maxHeartbeats 1000000 in
theorem fvoyage_any (f : Nat) (l : List ByteArray) (g : Bool) (w : World) (hF : Fl w f l g) :
    Calls Tryz.prog 98 #[.pointer (some ⟨f, 0, none⟩)] w fun e w' => e = .returned (.int .i64 (Mk.nv l 0 1 : Int)) ∧ Fl w' f l.tail (g && Mk.ng l 0 1) ∧ Only (One f) w w' := by
  have HF : Hid (Fl w f l g) := hF
  clear hF
  go_enter Tryz.func98, Tryz.ntmps98
  go_wp2_with fail
  refine (fnumber_any f l g 0 1 w (by omega) HF.out).mono ?_
  rintro e w1 ⟨rfl, hF1, ho1⟩
  have HF1 : Hid (Fl w1 f l.tail (g && Mk.ng l 0 1)) := hF1
  have HO1 : Hid (Only (One f) w w1) := ho1
  clear hF1 ho1
  go_wp2
  go_ret
  exact ⟨rfl, HF1.out, HO1.out⟩

/-- a mode, as a number -/
def mdI (b : Bool) : Int := if b then 1 else 0

set_option maxRecDepth 100000 in
set_option maxHeartbeats 1000000 in
theorem fmode_any (f : Nat) (l : List ByteArray) (g : Bool) (w : World) (hF : Fl w f l g) :
    Calls Tryz.prog 99 #[.pointer (some ⟨f, 0, none⟩)] w fun e w' => e = .returned (.int .i64 (mdI (Mk.mv l))) ∧ Fl w' f l.tail (g && Mk.mg l) ∧ Only (One f) w w' := by
  have HF : Hid (Fl w f l g) := hF
  have HG : Hid (Mk.some' l = false → Mk.mg l = false) := fun h => by
    cases l with
    | nil => exact Mk.mg_nil
    | cons x r => cases h
  clear hF
  go_enter Tryz.func99, Tryz.ntmps99
  go_wp2_with fail
  refine (next_any f l g w HF.out).mono ?_
  rintro e w1 ⟨rfl, hF1, ho1⟩
  have HF1 : Hid (Fl w1 f l.tail (g && Mk.some' l)) := hF1
  have HO1 : Hid (Only (One f) w w1) := ho1
  clear hF1 ho1
  have z2 : w1.frozen? ⟨f, 2, none⟩ = false := by obtain ⟨s, m, hr, _⟩ := HF1.out; exact hr.frozen 2
  have c2 : ∃ b, w1.cell? ⟨f, 2, none⟩ = some (.bool b) := by obtain ⟨s, m, hr, _⟩ := HF1.out; exact ⟨_, hr.cell (i := 2) (by omega)⟩
  obtain ⟨b2, c2⟩ := c2
  have HYes : Hid (Mk.mg l = true → Fl w1 f l.tail (g && Mk.mg l)) := fun h => by
    have hs : Mk.some' l = true := by
      rw [← Bool.not_eq_false]
      intro h'
      have := HG.out h'
      rw [h] at this
      cases this
    have := HF1.out
    rw [hs] at this
    rw [h]
    exact this
  have HNo : Hid (Mk.mg l = false → Fl (w1.setCell ⟨f, 2, none⟩ (.bool false)) f l.tail (g && Mk.mg l)) := fun h => by
    rw [h, Bool.and_false]
    exact HF1.out.setG false
  by_cases hu : Mk.isU (Mk.hd l) = true
  · have hu' : ((Mk.hd l).toList == [117]) = true := by have := hu; unfold Mk.isU at this; simpa [Mk.bu] using this
    have hm : Mk.isM (Mk.hd l) = false := by
      unfold Mk.isM
      rw [eq_of_beq hu']
      simp [Mk.bm]
    have HM : Hid (Mk.mg l = true ∧ Mk.mv l = false) := (⟨by unfold Mk.mg; rw [hu]; rfl, hm⟩ : Mk.mg l = true ∧ Mk.mv l = false)
    clear hu hm
    go_wp2
    go_ret
    exact ⟨by rw [HM.out.2]; rfl, HYes.out HM.out.1, HO1.out⟩
  · have hu' : ((Mk.hd l).toList == [117]) = false := by
      rw [← Bool.not_eq_true]
      intro e
      apply hu
      unfold Mk.isU
      simpa [Mk.bu] using e
    by_cases hm : Mk.isM (Mk.hd l) = true
    · have hm' : ((Mk.hd l).toList == [109]) = true := by have := hm; unfold Mk.isM at this; simpa [Mk.bm] using this
      have HM : Hid (Mk.mg l = true ∧ Mk.mv l = true) := (⟨by unfold Mk.mg; rw [hm, Bool.or_true], hm⟩ : Mk.mg l = true ∧ Mk.mv l = true)
      clear hu hm
      go_wp2
      go_ret
      exact ⟨by rw [HM.out.2]; rfl, HYes.out HM.out.1, HO1.out⟩
    · have hm' : ((Mk.hd l).toList == [109]) = false := by
        rw [← Bool.not_eq_true]
        intro e
        apply hm
        unfold Mk.isM
        simpa [Mk.bm] using e
      have HM : Hid (Mk.mg l = false ∧ Mk.mv l = false) := (⟨by unfold Mk.mg; rw [Bool.eq_false_iff.2 hu, Bool.eq_false_iff.2 hm]; rfl, Bool.eq_false_iff.2 hm⟩ : Mk.mg l = false ∧ Mk.mv l = false)
      clear hu hm
      go_wp2
      go_ret
      exact ⟨by rw [HM.out.2]; rfl, HNo.out HM.out.1, HO1.out.put _ _⟩

/-- a request in memory -/
def rqF (c r : Int) (t : ByteArray) (v a p q o : Int) (m : Bool) : Nat → Value
  | 0 => .int .i64 c
  | 1 => .int .i64 r
  | 2 => .string t
  | 3 => .int .i64 v
  | 4 => .int .i64 a
  | 5 => .int .i64 p
  | 6 => .int .i64 q
  | 7 => .int .i64 o
  | _ => .int .i64 (mdI m)
def Two (f rq : Nat) : Nat → Prop := fun k => k = f ∨ k = rq
structure Rq (w : World) (f rq : Nat) (l : List ByteArray) (g : Bool) (F : Nat → Value) : Prop where
  fl : Fl w f l g
  rq : w.rowIs rq 105 9 F
section
variable {w w1 : World} {f rq : Nat} {l l' : List ByteArray} {g g' : Bool} {F F' : Nat → Value}
theorem Rq.ne (h : Rq w f rq l g F) : f ≠ rq := h.fl.kind.ne (row_kind h.rq) (by decide)
theorem Rq.step (h : Rq w f rq l g F) (hf : Fl w1 f l' g') (ho : Only (One f) w w1) : Rq w1 f rq l' g' F :=
  ⟨hf, h.rq.of_block (ho.block rq h.rq.lt (fun e => h.ne (show rq = f from e).symm))⟩
theorem Rq.put (h : Rq w f rq l g F) (i : Nat) (u : Value) : Rq (w.setCell ⟨rq, i, none⟩ u) f rq l g (fun j => if j = i then u else F j) :=
  ⟨h.fl.other h.ne u, h.rq.set i u⟩
theorem Rq.congr (h : Rq w f rq l g F) (hF : ∀ j, j < 9 → F j = F' j) : Rq w f rq l g F' := ⟨h.fl, h.rq.congr hF⟩
theorem Only.one (h : Only (One f) w w1) : Only (Two f rq) w w1 := ⟨h.os, h.tape, h.output, h.size, fun k hk hn => h.block k hk (fun e => hn (.inl e))⟩
theorem Only.two {w2 : World} (h : Only (Two f rq) w w1) (h' : Only (One f) w1 w2) : Only (Two f rq) w w2 := h.trans h' (fun _ _ e => .inl e)
theorem Only.put2 (h : Only (Two f rq) w w1) (i : Nat) (u : Value) : Only (Two f rq) w (w1.setCell ⟨rq, i, none⟩ u) := h.set (show Two f rq rq from .inr rfl) u
end

/-- what readRest leaves at a word -/
def RestIs (f rq : Nat) (l : List ByteArray) (g : Bool) (c r : Int) (d : Mk.Wd) (w : World) (e : Ending) (w' : World) : Prop :=
  e = .returned (.tuple #[]) ∧ Rq w' f rq (Mk.rL d l) (g && Mk.rG d l) (rqF c r d.text (Mk.rV d l) (Mk.rA d l) (Mk.rP d l) (Mk.rQ d l) (Mk.rO d l) (Mk.rM d l)) ∧ Only (Two f rq) w w'

set_option maxRecDepth 100000 in
set_option maxHeartbeats 2000000 in
theorem rest_pay (f rq : Nat) (l : List ByteArray) (g : Bool) (c r : Int) (w : World) (hQ : Rq w f rq l g (rqF c r ⟨#[112, 97, 121]⟩ 0 0 0 0 0 false)) :
    Calls Tryz.prog 76 #[.pointer (some ⟨f, 0, none⟩), .pointer (some ⟨rq, 0, none⟩)] w fun e w' => RestIs f rq l g c r .pay w e w' := by
  have c2 := hQ.rq.cell (i := 2) (by omega)
  simp only [rqF] at c2
  have HQ0 : Hid (Rq w f rq l g (rqF c r ⟨#[112, 97, 121]⟩ 0 0 0 0 0 false)) := hQ
  have HO0 : Hid (Only (Two f rq) w w) := Only.refl _ _
  clear hQ
  go_enter Tryz.func76, Tryz.ntmps76
  go_wp2_with fail
  refine (fnumber_any f l g 1 9999 _ (by omega) HQ0.out.fl).mono ?_
  rintro e w1 ⟨rfl, hf1, ho1⟩
  have hq1 := HQ0.out.step hf1 ho1
  have a4 := hq1.rq.cell (i := 4) (by omega)
  have z4 := hq1.rq.frozen 4
  simp only [rqF] at a4
  have HQ1 := (show Hid _ from hq1.put 4 (.int .i64 (Mk.nv l 1 9999 : Int)))
  have HO1 := (show Hid _ from (HO0.out.two ho1).put2 4 (.int .i64 (Mk.nv l 1 9999 : Int)))
  clear hf1 ho1 hq1
  go_wp2_with fail
  refine bodyPost_end (v := .tuple #[]) ?_ rfl ⟨rfl, ?_, HO1.out⟩
  · simp [results, Tryz.results76, go_sem]
  · rw [show (g && Mk.rG .pay l) = (g && Mk.ng l 1 9999) by first | rfl | simp only [Mk.rG, Bool.and_assoc]]
    exact HQ1.out.congr (fun j hj => by
      match j, hj with
      | 0, _ => rfl
      | 1, _ => rfl
      | 2, _ => rfl
      | 3, _ => rfl
      | 4, _ => rfl
      | 5, _ => rfl
      | 6, _ => rfl
      | 7, _ => rfl
      | 8, _ => rfl)

set_option maxRecDepth 100000 in
set_option maxHeartbeats 2000000 in
theorem rest_draw (f rq : Nat) (l : List ByteArray) (g : Bool) (c r : Int) (w : World) (hQ : Rq w f rq l g (rqF c r ⟨#[100, 114, 97, 119]⟩ 0 0 0 0 0 false)) :
    Calls Tryz.prog 76 #[.pointer (some ⟨f, 0, none⟩), .pointer (some ⟨rq, 0, none⟩)] w fun e w' => RestIs f rq l g c r .draw w e w' := by
  have c2 := hQ.rq.cell (i := 2) (by omega)
  simp only [rqF] at c2
  have HQ0 : Hid (Rq w f rq l g (rqF c r ⟨#[100, 114, 97, 119]⟩ 0 0 0 0 0 false)) := hQ
  have HO0 : Hid (Only (Two f rq) w w) := Only.refl _ _
  clear hQ
  go_enter Tryz.func76, Tryz.ntmps76
  go_wp2_with fail
  refine (fnumber_any f l g 1 9999 _ (by omega) HQ0.out.fl).mono ?_
  rintro e w1 ⟨rfl, hf1, ho1⟩
  have hq1 := HQ0.out.step hf1 ho1
  have a4 := hq1.rq.cell (i := 4) (by omega)
  have z4 := hq1.rq.frozen 4
  simp only [rqF] at a4
  have HQ1 := (show Hid _ from hq1.put 4 (.int .i64 (Mk.nv l 1 9999 : Int)))
  have HO1 := (show Hid _ from (HO0.out.two ho1).put2 4 (.int .i64 (Mk.nv l 1 9999 : Int)))
  clear hf1 ho1 hq1
  go_wp2_with fail
  refine bodyPost_end (v := .tuple #[]) ?_ rfl ⟨rfl, ?_, HO1.out⟩
  · simp [results, Tryz.results76, go_sem]
  · rw [show (g && Mk.rG .draw l) = (g && Mk.ng l 1 9999) by first | rfl | simp only [Mk.rG, Bool.and_assoc]]
    exact HQ1.out.congr (fun j hj => by
      match j, hj with
      | 0, _ => rfl
      | 1, _ => rfl
      | 2, _ => rfl
      | 3, _ => rfl
      | 4, _ => rfl
      | 5, _ => rfl
      | 6, _ => rfl
      | 7, _ => rfl
      | 8, _ => rfl)

set_option maxRecDepth 100000 in
set_option maxHeartbeats 2000000 in
theorem rest_bring (f rq : Nat) (l : List ByteArray) (g : Bool) (c r : Int) (w : World) (hQ : Rq w f rq l g (rqF c r ⟨#[98, 114, 105, 110, 103]⟩ 0 0 0 0 0 false)) :
    Calls Tryz.prog 76 #[.pointer (some ⟨f, 0, none⟩), .pointer (some ⟨rq, 0, none⟩)] w fun e w' => RestIs f rq l g c r .bring w e w' := by
  have c2 := hQ.rq.cell (i := 2) (by omega)
  simp only [rqF] at c2
  have HQ0 : Hid (Rq w f rq l g (rqF c r ⟨#[98, 114, 105, 110, 103]⟩ 0 0 0 0 0 false)) := hQ
  have HO0 : Hid (Only (Two f rq) w w) := Only.refl _ _
  clear hQ
  go_enter Tryz.func76, Tryz.ntmps76
  go_wp2_with fail
  refine (fvoyage_any f l g _ HQ0.out.fl).mono ?_
  rintro e w1 ⟨rfl, hf1, ho1⟩
  have hq1 := HQ0.out.step hf1 ho1
  have a3 := hq1.rq.cell (i := 3) (by omega)
  have z3 := hq1.rq.frozen 3
  simp only [rqF] at a3
  have HQ1 := (show Hid _ from hq1.put 3 (.int .i64 (Mk.nv l 0 1 : Int)))
  have HO1 := (show Hid _ from (HO0.out.two ho1).put2 3 (.int .i64 (Mk.nv l 0 1 : Int)))
  clear hf1 ho1 hq1
  go_wp2_with fail
  refine (fnumber_any f l.tail (g && Mk.ng l 0 1) 1 999 _ (by omega) HQ1.out.fl).mono ?_
  rintro e w2 ⟨rfl, hf2, ho2⟩
  have hq2 := HQ1.out.step hf2 ho2
  have a4 := hq2.rq.cell (i := 4) (by omega)
  have z4 := hq2.rq.frozen 4
  simp only [rqF] at a4
  have HQ2 := (show Hid _ from hq2.put 4 (.int .i64 (Mk.nv l.tail 1 999 : Int)))
  have HO2 := (show Hid _ from (HO1.out.two ho2).put2 4 (.int .i64 (Mk.nv l.tail 1 999 : Int)))
  clear hf2 ho2 hq2
  go_wp2_with fail
  refine bodyPost_end (v := .tuple #[]) ?_ rfl ⟨rfl, ?_, HO2.out⟩
  · simp [results, Tryz.results76, go_sem]
  · rw [show (g && Mk.rG .bring l) = ((g && Mk.ng l 0 1) && Mk.ng l.tail 1 999) by first | rfl | simp only [Mk.rG, Bool.and_assoc]]
    exact HQ2.out.congr (fun j hj => by
      match j, hj with
      | 0, _ => rfl
      | 1, _ => rfl
      | 2, _ => rfl
      | 3, _ => rfl
      | 4, _ => rfl
      | 5, _ => rfl
      | 6, _ => rfl
      | 7, _ => rfl
      | 8, _ => rfl)

set_option maxRecDepth 100000 in
set_option maxHeartbeats 2000000 in
theorem rest_fetch (f rq : Nat) (l : List ByteArray) (g : Bool) (c r : Int) (w : World) (hQ : Rq w f rq l g (rqF c r ⟨#[102, 101, 116, 99, 104]⟩ 0 0 0 0 0 false)) :
    Calls Tryz.prog 76 #[.pointer (some ⟨f, 0, none⟩), .pointer (some ⟨rq, 0, none⟩)] w fun e w' => RestIs f rq l g c r .fetch w e w' := by
  have c2 := hQ.rq.cell (i := 2) (by omega)
  simp only [rqF] at c2
  have HQ0 : Hid (Rq w f rq l g (rqF c r ⟨#[102, 101, 116, 99, 104]⟩ 0 0 0 0 0 false)) := hQ
  have HO0 : Hid (Only (Two f rq) w w) := Only.refl _ _
  clear hQ
  go_enter Tryz.func76, Tryz.ntmps76
  go_wp2_with fail
  refine (fvoyage_any f l g _ HQ0.out.fl).mono ?_
  rintro e w1 ⟨rfl, hf1, ho1⟩
  have hq1 := HQ0.out.step hf1 ho1
  have a3 := hq1.rq.cell (i := 3) (by omega)
  have z3 := hq1.rq.frozen 3
  simp only [rqF] at a3
  have HQ1 := (show Hid _ from hq1.put 3 (.int .i64 (Mk.nv l 0 1 : Int)))
  have HO1 := (show Hid _ from (HO0.out.two ho1).put2 3 (.int .i64 (Mk.nv l 0 1 : Int)))
  clear hf1 ho1 hq1
  go_wp2_with fail
  refine (fnumber_any f l.tail (g && Mk.ng l 0 1) 1 999 _ (by omega) HQ1.out.fl).mono ?_
  rintro e w2 ⟨rfl, hf2, ho2⟩
  have hq2 := HQ1.out.step hf2 ho2
  have a4 := hq2.rq.cell (i := 4) (by omega)
  have z4 := hq2.rq.frozen 4
  simp only [rqF] at a4
  have HQ2 := (show Hid _ from hq2.put 4 (.int .i64 (Mk.nv l.tail 1 999 : Int)))
  have HO2 := (show Hid _ from (HO1.out.two ho2).put2 4 (.int .i64 (Mk.nv l.tail 1 999 : Int)))
  clear hf2 ho2 hq2
  go_wp2_with fail
  refine bodyPost_end (v := .tuple #[]) ?_ rfl ⟨rfl, ?_, HO2.out⟩
  · simp [results, Tryz.results76, go_sem]
  · rw [show (g && Mk.rG .fetch l) = ((g && Mk.ng l 0 1) && Mk.ng l.tail 1 999) by first | rfl | simp only [Mk.rG, Bool.and_assoc]]
    exact HQ2.out.congr (fun j hj => by
      match j, hj with
      | 0, _ => rfl
      | 1, _ => rfl
      | 2, _ => rfl
      | 3, _ => rfl
      | 4, _ => rfl
      | 5, _ => rfl
      | 6, _ => rfl
      | 7, _ => rfl
      | 8, _ => rfl)

set_option maxRecDepth 100000 in
set_option maxHeartbeats 2000000 in
theorem rest_buy (f rq : Nat) (l : List ByteArray) (g : Bool) (c r : Int) (w : World) (hQ : Rq w f rq l g (rqF c r ⟨#[98, 117, 121]⟩ 0 0 0 0 0 false)) :
    Calls Tryz.prog 76 #[.pointer (some ⟨f, 0, none⟩), .pointer (some ⟨rq, 0, none⟩)] w fun e w' => RestIs f rq l g c r .buy w e w' := by
  have c2 := hQ.rq.cell (i := 2) (by omega)
  simp only [rqF] at c2
  have HQ0 : Hid (Rq w f rq l g (rqF c r ⟨#[98, 117, 121]⟩ 0 0 0 0 0 false)) := hQ
  have HO0 : Hid (Only (Two f rq) w w) := Only.refl _ _
  clear hQ
  go_enter Tryz.func76, Tryz.ntmps76
  go_wp2_with fail
  refine (fvoyage_any f l g _ HQ0.out.fl).mono ?_
  rintro e w1 ⟨rfl, hf1, ho1⟩
  have hq1 := HQ0.out.step hf1 ho1
  have a3 := hq1.rq.cell (i := 3) (by omega)
  have z3 := hq1.rq.frozen 3
  simp only [rqF] at a3
  have HQ1 := (show Hid _ from hq1.put 3 (.int .i64 (Mk.nv l 0 1 : Int)))
  have HO1 := (show Hid _ from (HO0.out.two ho1).put2 3 (.int .i64 (Mk.nv l 0 1 : Int)))
  clear hf1 ho1 hq1
  go_wp2_with fail
  refine (fnumber_any f l.tail (g && Mk.ng l 0 1) 1 99 _ (by omega) HQ1.out.fl).mono ?_
  rintro e w2 ⟨rfl, hf2, ho2⟩
  have hq2 := HQ1.out.step hf2 ho2
  have a5 := hq2.rq.cell (i := 5) (by omega)
  have z5 := hq2.rq.frozen 5
  simp only [rqF] at a5
  have HQ2 := (show Hid _ from hq2.put 5 (.int .i64 (Mk.nv l.tail 1 99 : Int)))
  have HO2 := (show Hid _ from (HO1.out.two ho2).put2 5 (.int .i64 (Mk.nv l.tail 1 99 : Int)))
  clear hf2 ho2 hq2
  go_wp2_with fail
  refine (fnumber_any f l.tail.tail ((g && Mk.ng l 0 1) && Mk.ng l.tail 1 99) 1 20 _ (by omega) HQ2.out.fl).mono ?_
  rintro e w3 ⟨rfl, hf3, ho3⟩
  have hq3 := HQ2.out.step hf3 ho3
  have a6 := hq3.rq.cell (i := 6) (by omega)
  have z6 := hq3.rq.frozen 6
  simp only [rqF] at a6
  have HQ3 := (show Hid _ from hq3.put 6 (.int .i64 (Mk.nv l.tail.tail 1 20 : Int)))
  have HO3 := (show Hid _ from (HO2.out.two ho3).put2 6 (.int .i64 (Mk.nv l.tail.tail 1 20 : Int)))
  clear hf3 ho3 hq3
  go_wp2_with fail
  refine bodyPost_end (v := .tuple #[]) ?_ rfl ⟨rfl, ?_, HO3.out⟩
  · simp [results, Tryz.results76, go_sem]
  · rw [show (g && Mk.rG .buy l) = (((g && Mk.ng l 0 1) && Mk.ng l.tail 1 99) && Mk.ng l.tail.tail 1 20) by first | rfl | simp only [Mk.rG, Bool.and_assoc]]
    exact HQ3.out.congr (fun j hj => by
      match j, hj with
      | 0, _ => rfl
      | 1, _ => rfl
      | 2, _ => rfl
      | 3, _ => rfl
      | 4, _ => rfl
      | 5, _ => rfl
      | 6, _ => rfl
      | 7, _ => rfl
      | 8, _ => rfl)

set_option maxRecDepth 100000 in
set_option maxHeartbeats 2000000 in
theorem rest_sell (f rq : Nat) (l : List ByteArray) (g : Bool) (c r : Int) (w : World) (hQ : Rq w f rq l g (rqF c r ⟨#[115, 101, 108, 108]⟩ 0 0 0 0 0 false)) :
    Calls Tryz.prog 76 #[.pointer (some ⟨f, 0, none⟩), .pointer (some ⟨rq, 0, none⟩)] w fun e w' => RestIs f rq l g c r .sell w e w' := by
  have c2 := hQ.rq.cell (i := 2) (by omega)
  simp only [rqF] at c2
  have HQ0 : Hid (Rq w f rq l g (rqF c r ⟨#[115, 101, 108, 108]⟩ 0 0 0 0 0 false)) := hQ
  have HO0 : Hid (Only (Two f rq) w w) := Only.refl _ _
  clear hQ
  go_enter Tryz.func76, Tryz.ntmps76
  go_wp2_with fail
  refine (fvoyage_any f l g _ HQ0.out.fl).mono ?_
  rintro e w1 ⟨rfl, hf1, ho1⟩
  have hq1 := HQ0.out.step hf1 ho1
  have a3 := hq1.rq.cell (i := 3) (by omega)
  have z3 := hq1.rq.frozen 3
  simp only [rqF] at a3
  have HQ1 := (show Hid _ from hq1.put 3 (.int .i64 (Mk.nv l 0 1 : Int)))
  have HO1 := (show Hid _ from (HO0.out.two ho1).put2 3 (.int .i64 (Mk.nv l 0 1 : Int)))
  clear hf1 ho1 hq1
  go_wp2_with fail
  refine (fnumber_any f l.tail (g && Mk.ng l 0 1) 1 99 _ (by omega) HQ1.out.fl).mono ?_
  rintro e w2 ⟨rfl, hf2, ho2⟩
  have hq2 := HQ1.out.step hf2 ho2
  have a5 := hq2.rq.cell (i := 5) (by omega)
  have z5 := hq2.rq.frozen 5
  simp only [rqF] at a5
  have HQ2 := (show Hid _ from hq2.put 5 (.int .i64 (Mk.nv l.tail 1 99 : Int)))
  have HO2 := (show Hid _ from (HO1.out.two ho2).put2 5 (.int .i64 (Mk.nv l.tail 1 99 : Int)))
  clear hf2 ho2 hq2
  go_wp2_with fail
  refine (fnumber_any f l.tail.tail ((g && Mk.ng l 0 1) && Mk.ng l.tail 1 99) 1 20 _ (by omega) HQ2.out.fl).mono ?_
  rintro e w3 ⟨rfl, hf3, ho3⟩
  have hq3 := HQ2.out.step hf3 ho3
  have a6 := hq3.rq.cell (i := 6) (by omega)
  have z6 := hq3.rq.frozen 6
  simp only [rqF] at a6
  have HQ3 := (show Hid _ from hq3.put 6 (.int .i64 (Mk.nv l.tail.tail 1 20 : Int)))
  have HO3 := (show Hid _ from (HO2.out.two ho3).put2 6 (.int .i64 (Mk.nv l.tail.tail 1 20 : Int)))
  clear hf3 ho3 hq3
  go_wp2_with fail
  refine bodyPost_end (v := .tuple #[]) ?_ rfl ⟨rfl, ?_, HO3.out⟩
  · simp [results, Tryz.results76, go_sem]
  · rw [show (g && Mk.rG .sell l) = (((g && Mk.ng l 0 1) && Mk.ng l.tail 1 99) && Mk.ng l.tail.tail 1 20) by first | rfl | simp only [Mk.rG, Bool.and_assoc]]
    exact HQ3.out.congr (fun j hj => by
      match j, hj with
      | 0, _ => rfl
      | 1, _ => rfl
      | 2, _ => rfl
      | 3, _ => rfl
      | 4, _ => rfl
      | 5, _ => rfl
      | 6, _ => rfl
      | 7, _ => rfl
      | 8, _ => rfl)

set_option maxRecDepth 100000 in
set_option maxHeartbeats 2000000 in
theorem rest_drop (f rq : Nat) (l : List ByteArray) (g : Bool) (c r : Int) (w : World) (hQ : Rq w f rq l g (rqF c r ⟨#[100, 114, 111, 112]⟩ 0 0 0 0 0 false)) :
    Calls Tryz.prog 76 #[.pointer (some ⟨f, 0, none⟩), .pointer (some ⟨rq, 0, none⟩)] w fun e w' => RestIs f rq l g c r .drop w e w' := by
  have c2 := hQ.rq.cell (i := 2) (by omega)
  simp only [rqF] at c2
  have HQ0 : Hid (Rq w f rq l g (rqF c r ⟨#[100, 114, 111, 112]⟩ 0 0 0 0 0 false)) := hQ
  have HO0 : Hid (Only (Two f rq) w w) := Only.refl _ _
  clear hQ
  go_enter Tryz.func76, Tryz.ntmps76
  go_wp2_with fail
  refine (fvoyage_any f l g _ HQ0.out.fl).mono ?_
  rintro e w1 ⟨rfl, hf1, ho1⟩
  have hq1 := HQ0.out.step hf1 ho1
  have a3 := hq1.rq.cell (i := 3) (by omega)
  have z3 := hq1.rq.frozen 3
  simp only [rqF] at a3
  have HQ1 := (show Hid _ from hq1.put 3 (.int .i64 (Mk.nv l 0 1 : Int)))
  have HO1 := (show Hid _ from (HO0.out.two ho1).put2 3 (.int .i64 (Mk.nv l 0 1 : Int)))
  clear hf1 ho1 hq1
  go_wp2_with fail
  refine (fnumber_any f l.tail (g && Mk.ng l 0 1) 0 11 _ (by omega) HQ1.out.fl).mono ?_
  rintro e w2 ⟨rfl, hf2, ho2⟩
  have hq2 := HQ1.out.step hf2 ho2
  have a7 := hq2.rq.cell (i := 7) (by omega)
  have z7 := hq2.rq.frozen 7
  simp only [rqF] at a7
  have HQ2 := (show Hid _ from hq2.put 7 (.int .i64 (Mk.nv l.tail 0 11 : Int)))
  have HO2 := (show Hid _ from (HO1.out.two ho2).put2 7 (.int .i64 (Mk.nv l.tail 0 11 : Int)))
  clear hf2 ho2 hq2
  go_wp2_with fail
  refine bodyPost_end (v := .tuple #[]) ?_ rfl ⟨rfl, ?_, HO2.out⟩
  · simp [results, Tryz.results76, go_sem]
  · rw [show (g && Mk.rG .drop l) = ((g && Mk.ng l 0 1) && Mk.ng l.tail 0 11) by first | rfl | simp only [Mk.rG, Bool.and_assoc]]
    exact HQ2.out.congr (fun j hj => by
      match j, hj with
      | 0, _ => rfl
      | 1, _ => rfl
      | 2, _ => rfl
      | 3, _ => rfl
      | 4, _ => rfl
      | 5, _ => rfl
      | 6, _ => rfl
      | 7, _ => rfl
      | 8, _ => rfl)

set_option maxRecDepth 100000 in
set_option maxHeartbeats 2000000 in
theorem rest_mode (f rq : Nat) (l : List ByteArray) (g : Bool) (c r : Int) (w : World) (hQ : Rq w f rq l g (rqF c r ⟨#[109, 111, 100, 101]⟩ 0 0 0 0 0 false)) :
    Calls Tryz.prog 76 #[.pointer (some ⟨f, 0, none⟩), .pointer (some ⟨rq, 0, none⟩)] w fun e w' => RestIs f rq l g c r .mode w e w' := by
  have c2 := hQ.rq.cell (i := 2) (by omega)
  simp only [rqF] at c2
  have HQ0 : Hid (Rq w f rq l g (rqF c r ⟨#[109, 111, 100, 101]⟩ 0 0 0 0 0 false)) := hQ
  have HO0 : Hid (Only (Two f rq) w w) := Only.refl _ _
  clear hQ
  go_enter Tryz.func76, Tryz.ntmps76
  go_wp2_with fail
  refine (fvoyage_any f l g _ HQ0.out.fl).mono ?_
  rintro e w1 ⟨rfl, hf1, ho1⟩
  have hq1 := HQ0.out.step hf1 ho1
  have a3 := hq1.rq.cell (i := 3) (by omega)
  have z3 := hq1.rq.frozen 3
  simp only [rqF] at a3
  have HQ1 := (show Hid _ from hq1.put 3 (.int .i64 (Mk.nv l 0 1 : Int)))
  have HO1 := (show Hid _ from (HO0.out.two ho1).put2 3 (.int .i64 (Mk.nv l 0 1 : Int)))
  clear hf1 ho1 hq1
  go_wp2_with fail
  refine (fmode_any f l.tail (g && Mk.ng l 0 1) _ HQ1.out.fl).mono ?_
  rintro e w2 ⟨rfl, hf2, ho2⟩
  have hq2 := HQ1.out.step hf2 ho2
  have a8 := hq2.rq.cell (i := 8) (by omega)
  have z8 := hq2.rq.frozen 8
  simp only [rqF] at a8
  have HQ2 := (show Hid _ from hq2.put 8 (.int .i64 (mdI (Mk.mv l.tail))))
  have HO2 := (show Hid _ from (HO1.out.two ho2).put2 8 (.int .i64 (mdI (Mk.mv l.tail))))
  clear hf2 ho2 hq2
  go_wp2_with fail
  refine bodyPost_end (v := .tuple #[]) ?_ rfl ⟨rfl, ?_, HO2.out⟩
  · simp [results, Tryz.results76, go_sem]
  · rw [show (g && Mk.rG .mode l) = ((g && Mk.ng l 0 1) && Mk.mg l.tail) by first | rfl | simp only [Mk.rG, Bool.and_assoc]]
    exact HQ2.out.congr (fun j hj => by
      match j, hj with
      | 0, _ => rfl
      | 1, _ => rfl
      | 2, _ => rfl
      | 3, _ => rfl
      | 4, _ => rfl
      | 5, _ => rfl
      | 6, _ => rfl
      | 7, _ => rfl
      | 8, _ => rfl)

set_option maxRecDepth 100000 in
set_option maxHeartbeats 2000000 in
theorem rest_close (f rq : Nat) (l : List ByteArray) (g : Bool) (c r : Int) (w : World) (hQ : Rq w f rq l g (rqF c r ⟨#[99, 108, 111, 115, 101]⟩ 0 0 0 0 0 false)) :
    Calls Tryz.prog 76 #[.pointer (some ⟨f, 0, none⟩), .pointer (some ⟨rq, 0, none⟩)] w fun e w' => RestIs f rq l g c r .close w e w' := by
  have c2 := hQ.rq.cell (i := 2) (by omega)
  simp only [rqF] at c2
  have HQ0 : Hid (Rq w f rq l g (rqF c r ⟨#[99, 108, 111, 115, 101]⟩ 0 0 0 0 0 false)) := hQ
  have HO0 : Hid (Only (Two f rq) w w) := Only.refl _ _
  clear hQ
  go_enter Tryz.func76, Tryz.ntmps76
  go_wp2_with fail
  refine (fvoyage_any f l g _ HQ0.out.fl).mono ?_
  rintro e w1 ⟨rfl, hf1, ho1⟩
  have hq1 := HQ0.out.step hf1 ho1
  have a3 := hq1.rq.cell (i := 3) (by omega)
  have z3 := hq1.rq.frozen 3
  simp only [rqF] at a3
  have HQ1 := (show Hid _ from hq1.put 3 (.int .i64 (Mk.nv l 0 1 : Int)))
  have HO1 := (show Hid _ from (HO0.out.two ho1).put2 3 (.int .i64 (Mk.nv l 0 1 : Int)))
  clear hf1 ho1 hq1
  go_wp2_with fail
  refine bodyPost_end (v := .tuple #[]) ?_ rfl ⟨rfl, ?_, HO1.out⟩
  · simp [results, Tryz.results76, go_sem]
  · rw [show (g && Mk.rG .close l) = (g && Mk.ng l 0 1) by first | rfl | simp only [Mk.rG, Bool.and_assoc]]
    exact HQ1.out.congr (fun j hj => by
      match j, hj with
      | 0, _ => rfl
      | 1, _ => rfl
      | 2, _ => rfl
      | 3, _ => rfl
      | 4, _ => rfl
      | 5, _ => rfl
      | 6, _ => rfl
      | 7, _ => rfl
      | 8, _ => rfl)

end Go.Proofs.YtmebcdpdpcpnmaaGreatDoor
