import Derived.Test.YtmebcdpdpcpnmaaGreatDoorKT1
namespace Go.Proofs.YtmebcdpdpcpnmaaGreatDoor
open Go.RowKit

/-- one market more -/
def Mks.push (s : Mks) (q x p : Nat) (vb : Nat → Value) (b : RB) (M : Mk.Mkt) : Mks := ⟨s.m + 1, upd s.q s.m q, upd s.px s.m x, upd s.pr s.m p, upd s.vb s.m vb, upd s.rb s.m b, upd s.Mp s.m M, upd s.Mr s.m M⟩
theorem Mks.push_old (s : Mks) (q x p : Nat) (vb : Nat → Value) (b : RB) (M : Mk.Mkt) {a : Nat} (ha : a < 2 * s.m) (k : Nat) : (s.push q x p vb b M).own a k ↔ s.own a k := by
  unfold Mks.own Mks.push
  have h : a / 2 ≠ s.m := by omega
  simp only [upd_ne _ _ h]
theorem Mks.push_p (s : Mks) (q x p : Nat) (vb : Nat → Value) (b : RB) (M : Mk.Mkt) (k : Nat) : (s.push q x p vb b M).own (2 * s.m) k ↔ PHas x vb k := by
  rw [Mks.own_p]
  unfold Mks.push
  simp only [upd_self]
theorem Mks.push_r (s : Mks) (q x p : Nat) (vb : Nat → Value) (b : RB) (M : Mk.Mkt) (k : Nat) : (s.push q x p vb b M).own (2 * s.m + 1) k ↔ b.has p k := by
  rw [Mks.own_r]
  unfold Mks.push
  simp only [upd_self]
theorem ptrs_push (q : Nat → Nat) (m b : Nat) : ptrs (upd q m b) (m + 1) = ptrs q m ++ [.pointer (some ⟨b, 0, none⟩)] := by
  unfold ptrs
  rw [List.range_succ, List.map_append]
  congr 1
  · refine List.map_congr_left (fun i hi => ?_)
    have : i ≠ m := by have := List.mem_range.1 hi; omega
    rw [upd_ne _ _ this]
  · simp [upd_self]

theorem Sc.push {E : Ext} {w w' : World} {B : Nat} {vm : Value} {s : Mks} (h : Sm E w B vm s) (hb : Below w.heap.size w w') {q x p : Nat} {vb : Nat → Value} {b : RB} {M : Mk.Mkt}
    (hP : PM w' x vb M) (hR : Ref w' p b M) (hq : w'.rowIs q 44 2 (prF x p)) (nP : ∀ k, PHas x vb k → w.heap.size ≤ k) (nR : ∀ k, b.has p k → w.heap.size ≤ k) (nq : w.heap.size ≤ q) (d : ∀ k, PHas x vb k → ¬ b.has p k) (dq : ¬ PHas x vb q ∧ ¬ b.has p q) :
    Sc w' B vm (s.push q x p vb b M) := by
  have hB := h.lt
  have h' := h.sc.below hb
  have hv : ∀ k, vm.ownBlock = some k → k < w.heap.size := fun k hk => (h.own.lt k hk).2
  have hm : (s.push q x p vb b M).m = s.m + 1 := rfl
  have qm : (s.push q x p vb b M).q s.m = q := upd_self _ _ _
  have qo : ∀ i, i < s.m → (s.push q x p vb b M).q i = s.q i := fun i hi => upd_ne _ _ (by omega)
  have hq0 : ∀ i, i < s.m → s.q i < w.heap.size := fun i hi => (h.sc.pair i hi).lt
  have each : ∀ a, a < 2 * (s.m + 1) → a < 2 * s.m ∨ a = 2 * s.m ∨ a = 2 * s.m + 1 := fun a ha => by omega
  have new : ∀ a k, a = 2 * s.m ∨ a = 2 * s.m + 1 → (s.push q x p vb b M).own a k → w.heap.size ≤ k ∧ k ≠ q := by
    rintro a k (rfl | rfl) hk
    · rw [Mks.push_p] at hk
      exact ⟨nP k hk, fun e => dq.1 (e ▸ hk)⟩
    · rw [Mks.push_r] at hk
      exact ⟨nR k hk, fun e => dq.2 (e ▸ hk)⟩
  refine ⟨?_, ?_, ?_, ?_, ?_, ?_⟩
  · intro i hi
    rw [hm] at hi
    by_cases e : i = s.m
    · subst e
      simp only [Mks.push, upd_self]
      exact hq
    · simp only [Mks.push, upd_ne _ _ e]
      exact h'.pair i (by omega)
  · intro i hi
    rw [hm] at hi
    by_cases e : i = s.m
    · subst e
      simp only [Mks.push, upd_self]
      exact hP
    · simp only [Mks.push, upd_ne _ _ e]
      exact h'.pm i (by omega)
  · intro i hi
    rw [hm] at hi
    by_cases e : i = s.m
    · subst e
      simp only [Mks.push, upd_self]
      exact hR
    · simp only [Mks.push, upd_ne _ _ e]
      exact h'.rf i (by omega)
  · intro a c ha hc hac k h1 h2
    rw [hm] at ha hc
    rcases each a ha with ha' | ha'
    · have k1 := (s.push_old q x p vb b M ha' k).1 h1
      have hl := h.sc.lt ha' k1
      rcases each c hc with hc' | hc'
      · exact h.sc.dis a c ha' hc' hac k k1 ((s.push_old q x p vb b M hc' k).1 h2)
      · have := (new c k hc' h2).1; omega
    · rcases each c hc with hc' | hc'
      · have k2 := (s.push_old q x p vb b M hc' k).1 h2
        have hl := h.sc.lt hc' k2
        have := (new a k ha' h1).1; omega
      · rcases ha' with rfl | rfl
        · rcases hc' with rfl | rfl
          · exact hac rfl
          · rw [Mks.push_p] at h1
            rw [Mks.push_r] at h2
            exact d k h1 h2
        · rcases hc' with rfl | rfl
          · rw [Mks.push_r] at h1
            rw [Mks.push_p] at h2
            exact d k h2 h1
          · exact hac rfl
  · intro a ha k hk
    rw [hm] at ha
    rcases each a ha with ha' | ha'
    · have k1 := (s.push_old q x p vb b M ha' k).1 hk
      obtain ⟨f1, f2, f3⟩ := h.sc.fix a ha' k k1
      have hl := h.sc.lt ha' k1
      refine ⟨f1, fun i hi => ?_, f3⟩
      rw [hm] at hi
      by_cases e : i = s.m
      · subst e; rw [qm]; omega
      · rw [qo i (by omega)]; exact f2 i (by omega)
    · obtain ⟨n1, n2⟩ := new a k ha' hk
      refine ⟨by omega, fun i hi => ?_, fun e => ?_⟩
      · rw [hm] at hi
        by_cases e : i = s.m
        · subst e; rw [qm]; exact n2
        · rw [qo i (by omega)]; have := hq0 i (by omega); omega
      · have := hv k e; omega
  · intro i hi
    rw [hm] at hi
    by_cases e : i = s.m
    · subst e
      rw [qm]
      exact ⟨by omega, fun e => by have := hv _ e; omega⟩
    · rw [qo i (by omega)]
      exact h.sc.qB i (by omega)

theorem ext_push {E : Ext} {w : World} {B : Nat} {vm : Value} {s : Mks} (h : Sm E w B vm s) {q x p : Nat} {vb : Nat → Value} {b : RB} {M : Mk.Mkt}
    (nP : ∀ k, PHas x vb k → w.heap.size ≤ k) (nR : ∀ k, b.has p k → w.heap.size ≤ k) (nq : w.heap.size ≤ q) {k : Nat} (hk : E.X k) : (∀ i, i < (s.push q x p vb b M).m → k ≠ (s.push q x p vb b M).q i) ∧ ∀ a, a < 2 * (s.push q x p vb b M).m → ¬ (s.push q x p vb b M).own a k := by
  obtain ⟨x1, x2, x3, x4, x5, x6⟩ := h.ext k hk
  have hm : (s.push q x p vb b M).m = s.m + 1 := rfl
  refine ⟨fun i hi => ?_, fun a ha hk' => ?_⟩
  · rw [hm] at hi
    by_cases e : i = s.m
    · subst e
      rw [show (s.push q x p vb b M).q s.m = q from upd_self _ _ _]
      omega
    · rw [show (s.push q x p vb b M).q i = s.q i from upd_ne _ _ e]
      exact x5 i (by omega)
  · rw [hm] at ha
    obtain h1 | h1 | h1 : a < 2 * s.m ∨ a = 2 * s.m ∨ a = 2 * s.m + 1 := by omega
    · exact x6 a h1 ((s.push_old q x p vb b M h1 k).1 hk')
    · subst h1; rw [Mks.push_p] at hk'; have := nP k hk'; omega
    · subst h1; rw [Mks.push_r] at hk'; have := nR k hk'; omega

/-- the row of markets grows -/
theorem Sc.grown {w w' : World} {B : Nat} {vm : Value} {s : Mks} (h : Sc w B vm s) (hg : w.grownBy w' vm.ownBlock) {gg n c : Nat} (hat : vm.ownBlock = some gg ∨ w.heap.size ≤ gg) : Sc w' B (.slice (some ⟨gg, 0, none⟩) n c) s := by
  have h2 : Sc w' B vm s := h.blocks (fun i hi => hg.block _ (h.pair i hi).lt (fun e => (h.qB i hi).2 e.symm)) (fun a ha k hk => hg.block k (h.lt ha hk) (fun e => (h.fix a ha k hk).2.2 e.symm))
  refine ⟨h2.pair, h2.pm, h2.rf, h2.dis, fun a ha k hk => ?_, fun i hi => ?_⟩
  · obtain ⟨f1, f2, f3⟩ := h.fix a ha k hk
    refine ⟨f1, f2, fun e => ?_⟩
    have e' : gg = k := by simpa [Value.ownBlock] using e
    subst e'
    rcases hat with e1 | e1
    · exact f3 e1
    · have := h.lt ha hk; omega
  · obtain ⟨f1, f2⟩ := h.qB i hi
    refine ⟨f1, fun e => ?_⟩
    have e' : gg = s.q i := by simpa [Value.ownBlock] using e
    rcases hat with e1 | e1
    · exact f2 (by rw [e1, e'])
    · have := (h.pair i hi).lt; omega

end Go.Proofs.YtmebcdpdpcpnmaaGreatDoor
