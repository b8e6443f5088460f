import Derived.Test.YtmebcdpdpcpnmaaGreatDoorJ13
import Derived.Test.YtmebcdpdpcpnmaaGreatDoorJ34
import Derived.Test.YtmebcdpdpcpnmaaGreatDoorJ1
import Derived.ProofKit
import Derived.Deep.Strs
/- A region in any order whose operations are quiet but for one that waits for all that stand ahead of it, and one behind it. -/
namespace Go
section
variable {P : Program} {md : Region.Mode} {C : World → Prop} {ops ops' : Array Oper} {m : Nat} {o o' o2 o2' : Oper} {L : Array Bool}

/-- what is listed has all that it waits for listed -/
def Closed (md : Region.Mode) (ops : Array Oper) (L : Array Bool) : Prop := ∀ i x, ops[i]? = some x → L.getD i false = true → ∀ e ∈ x.after, Region.binds md e = true → L.getD e.on false = true

theorem getD_set {i j : Nat} (hi : i < L.size) : (L.setIfInBounds i true).getD j false = (if j = i then true else L.getD j false) := by
  by_cases e : j = i
  · subst e; simp [hi]
  · rw [if_neg e]
    simp [Ne.symm e]
theorem getD_any {j : Nat} (hj : j < L.size) : L.getD j true = L.getD j false := by simp [hj]

theorem Closed.add (hC : Closed md ops L) {i : Nat} (hi : i ∈ Region.ready md ops L) (hs : i < L.size) : Closed md ops (L.setIfInBounds i true) := by
  intro j x hx hj e he hb
  rw [getD_set hs] at hj ⊢
  split
  · rfl
  · by_cases e1 : j = i
    · subst e1
      obtain ⟨_, x', hx', hdep⟩ := mem_ready.1 hi
      rw [hx] at hx'
      cases hx'
      exact hdep e he hb
    · rw [if_neg e1] at hj
      exact hC j x hx hj e he hb

theorem all_listed (hC : Closed md ops L) (hm : ops[m]? = some o) (hi : m ∈ Region.ready md ops L)
    (hsucc : ∀ j, j < m → ∃ i x, j < i ∧ i ≤ m ∧ ops[i]? = some x ∧ ∃ e ∈ x.after, Region.binds md e = true ∧ e.on = j) : ∀ d j, m - j = d → j < m → L.getD j false = true := by
  intro d
  induction d using Nat.strongRecOn with
  | _ d ih =>
    intro j hd hj
    obtain ⟨i, x, h1, h2, hx, e, he, hb, rfl⟩ := hsucc j hj
    by_cases e1 : i = m
    · subst e1
      obtain ⟨_, x', hx', hdep⟩ := mem_ready.1 hi
      rw [hx] at hx'
      cases hx'
      exact hdep e he hb
    · exact hC i x hx (ih (m - i) (by omega) i rfl (by omega)) e he hb

theorem wpAny_of_quiet_two {Q : Exit → Act → World → Prop} (hm : ops[m]? = some o) (hm2 : ops[m + 1]? = some o2) (hsz : ops.size = m + 2) (hm' : ops'[m]? = some o') (hm2' : ops'[m + 1]? = some o2') (heq : ∀ i, i < m → ops'[i]? = ops[i]?) (hsz' : ops'.size = ops.size)
    (haft : o'.after = o.after) (haft2 : o2'.after = o2.after) (hg : ∀ (i : Nat) (x : Oper), ops[i]? = some x → x.guard = none) (hg' : o'.guard = none) (hd' : o'.dst = none) (hg2' : o2'.guard = none) (hd2' : o2'.dst = none)
    (hlow : ∀ i x, ops[i]? = some x → ∀ e ∈ x.after, Region.binds md e = true → e.on < i) (hsucc : ∀ j, j < m → ∃ i x, j < i ∧ i ≤ m ∧ ops[i]? = some x ∧ ∃ e ∈ x.after, Region.binds md e = true ∧ e.on = j) (h2 : ∃ e ∈ o2.after, Region.binds md e = true ∧ e.on = m) :
    ∀ n L a w, L.size = ops.size → Closed md ops L → L.getD m false = false → L.getD (m + 1) false = false → C w →
      wpAnyQ P md ops' C (fun a' => ∀ w', C w' → o.wp P a' w' (fun a w => o2.wp P a w (fun a w => Q .normal a w) Q) Q) n L a → wpAny P md ops Q n L a w := by
  have hready : ∀ L, Region.ready md ops' L = Region.ready md ops L := by
    intro L
    unfold Region.ready
    rw [hsz']
    refine List.filter_congr (fun i hi => ?_)
    have hi' : i < m + 2 := by rw [← hsz]; exact List.mem_range.1 hi
    by_cases e : i = m
    · subst e; rw [hm, hm']; simp [haft]
    · by_cases e2 : i = m + 1
      · subst e2; rw [hm2, hm2']; simp [haft2]
      · rw [heq i (by omega)]
  intro n
  induction n with
  | zero =>
    intro L a w hs _ hL _ _ h
    exact absurd ((hready L).symm.trans h.1) (ready_ne hlow L m o hm (by rw [getD_any (by omega)]; exact hL))
  | succ n ih =>
    intro L a w hs hcl hL hL2 hC h
    have hLm : L.getD m true = false := by rw [getD_any (by omega)]; exact hL
    refine ⟨fun hn => absurd hn (ready_ne hlow L m o hm hLm), fun i hi => ?_⟩
    have hq := h.2 i (by rw [hready]; exact hi)
    obtain ⟨_, x, hx, hdepx⟩ := mem_ready.1 hi
    have hil : i < ops.size := (Array.getElem?_eq_some_iff.1 hx).1
    by_cases e2 : i = m + 1
    · subst e2
      rw [hm2] at hx
      cases hx
      obtain ⟨d, hd, hb, rfl⟩ := h2
      have := hdepx d hd hb
      rw [hL] at this
      cases this
    by_cases e : i = m
    · subst e
      have hall := all_listed hcl hm hi hsucc
      have hs1 : i < L.size := by omega
      have hs2 : i + 1 < (L.setIfInBounds i true).size := by simp; omega
      -- behind it the one that is left
      have r1 : i + 1 ∈ Region.ready md ops (L.setIfInBounds i true) := by
        rw [mem_ready]
        refine ⟨?_, o2, hm2, fun d hd hb => ?_⟩
        · rw [getD_any (by simpa using (by omega : i + 1 < L.size)), getD_set hs1, if_neg (by omega)]; exact hL2
        · have hlt := hlow _ _ hm2 d hd hb
          rw [getD_set hs1]
          split
          · rfl
          · exact hall _ d.on rfl (by omega)
      have r1' : ∀ j, j ∈ Region.ready md ops (L.setIfInBounds i true) → j = i + 1 := by
        intro j hj
        obtain ⟨hj1, y, hy, _⟩ := mem_ready.1 hj
        have hjl : j < ops.size := (Array.getElem?_eq_some_iff.1 hy).1
        rw [getD_any (by simpa using (by omega : j < L.size)), getD_set hs1] at hj1
        by_cases e3 : j = i
        · rw [if_pos e3] at hj1; cases hj1
        · rw [if_neg e3] at hj1
          by_cases e4 : j < i
          · rw [hall _ j rfl e4] at hj1; cases hj1
          · omega
      have r2 : Region.ready md ops ((L.setIfInBounds i true).setIfInBounds (i + 1) true) = [] := by
        apply List.eq_nil_iff_forall_not_mem.2
        intro j hj
        obtain ⟨hj1, y, hy, _⟩ := mem_ready.1 hj
        have hjl : j < ops.size := (Array.getElem?_eq_some_iff.1 hy).1
        rw [getD_any (by simpa using (by omega : j < L.size)), getD_set hs2, getD_set hs1] at hj1
        by_cases e3 : j = i + 1
        · rw [if_pos e3] at hj1; cases hj1
        · rw [if_neg e3] at hj1
          by_cases e5 : j = i
          · rw [if_pos e5] at hj1; cases hj1
          · rw [if_neg e5, hall _ j rfl (by omega)] at hj1; cases hj1
      have hq' : wpAnyQ P md ops' C (fun a' => ∀ w', C w' → o.wp P a' w' (fun a w => o2.wp P a w (fun a w => Q .normal a w) Q) Q) n (L.setIfInBounds i true) a := by
        unfold qOp at hq
        simp only [hm'] at hq
        have hw : Region.wanted o' (yielded ops' a.tmps) = true := by simp [Region.wanted, hg']
        simp only [hw, if_true] at hq
        obtain ⟨v, hv, hk⟩ := hq
        rw [hd'] at hk
        exact hk
      cases n with
      | zero =>
        have := hq'.1
        rw [hready] at this
        rw [this] at r1
        cases r1
      | succ k =>
        have hQ0 : ∀ w', C w' → o.wp P a w' (fun a w => o2.wp P a w (fun a w => Q .normal a w) Q) Q := by
          have hq2 := hq'.2 (i + 1) (by rw [hready]; exact r1)
          have hq3 : wpAnyQ P md ops' C (fun a' => ∀ w', C w' → o.wp P a' w' (fun a w => o2.wp P a w (fun a w => Q .normal a w) Q) Q) k ((L.setIfInBounds i true).setIfInBounds (i + 1) true) a := by
            unfold qOp at hq2
            simp only [hm2'] at hq2
            have hw : Region.wanted o2' (yielded ops' a.tmps) = true := by simp [Region.wanted, hg2']
            simp only [hw, if_true] at hq2
            obtain ⟨v, hv, hk⟩ := hq2
            rw [hd2'] at hk
            exact hk
          cases k with
          | zero => exact hq3.2
          | succ k' => exact hq3.1 (by rw [hready]; exact r2)
        unfold wpOp
        simp only [hm]
        have hw : Region.wanted o (yielded ops a.tmps) = true := by simp [Region.wanted, hg i o hm]
        simp only [hw, if_true]
        left
        refine Oper.wp_mono (fun a' w' hk => ?_) (hQ0 w hC)
        refine ⟨fun hn => (by rw [hn] at r1; cases r1), fun j hj => ?_⟩
        obtain rfl := r1' j hj
        unfold wpOp
        simp only [hm2]
        have hw2 : Region.wanted o2 (yielded ops a'.tmps) = true := by simp [Region.wanted, hg _ o2 hm2]
        simp only [hw2, if_true]
        left
        refine Oper.wp_mono (fun a2 w2 hk2 => ?_) hk
        cases k with
        | zero => exact ⟨r2, hk2⟩
        | succ k' => exact ⟨fun _ => hk2, fun j hj => (by rw [r2] at hj; cases hj)⟩
    · have h1 : wpOp P ops' Q i (wpAny P md ops Q n (L.setIfInBounds i true)) a w := by
        refine wpOp_of_qOp hC (fun a' w' hc hk => ih _ a' w' (by simpa using hs) (hcl.add hi (by omega)) ?_ ?_ hc hk) hq
        · rw [getD_set (by omega), if_neg (Ne.symm e)]; exact hL
        · rw [getD_set (by omega), if_neg (Ne.symm e2)]; exact hL2
      unfold wpOp at h1 ⊢
      rw [heq i (by omega), hx] at h1
      rw [hx]
      have hw : ∀ ps : Array Oper, Region.wanted x (yielded ps a.tmps) = true := fun ps => by simp [Region.wanted, hg i x hx]
      simp only [hw, if_true] at h1 ⊢
      exact h1
end

def twoB (l : List Oper) (o o2 : Oper) : Bool :=
  (l ++ [o, o2]).all (fun x => x.guard.isNone) && (l ++ [o, o2]).zipIdx.all (fun xi => xi.1.after.all fun e => !Region.binds .any e || decide (e.on < xi.2)) &&
    (List.range l.length).all (fun j => (l ++ [o]).zipIdx.any (fun xi => decide (j < xi.2) && xi.1.after.any fun e => Region.binds .any e && e.on == j)) && (o2.after.any fun e => Region.binds .any e && e.on == l.length) && Region.lexB .any (l ++ [struck o, struck o2]).toArray

theorem wp_region_quiet_two {P : Program} {C : World → Prop} {id : Nat} {Q : Exit → Act → World → Prop} {a : Act} {w : World} (l : List Oper) (o o2 : Oper) (hm : P.follows .mixedOrders = true) (hB : twoB l o o2 = true) (hC : C { w with drawn := w.drawn + 1 })
    (h : wpQuiet P (l ++ [struck o, struck o2]).toArray C (fun a' => ∀ w', C w' → o.wp P a' w' (fun a w => o2.wp P a w (fun a w => Q .normal a w) Q) Q) l a) : (Code.region id (l ++ [o, o2]).toArray true).wp P Q a w := by
  simp only [twoB, Bool.and_eq_true] at hB
  obtain ⟨⟨⟨⟨hB1, hB2⟩, hB3⟩, hB5⟩, hB4⟩ := hB
  simp only [Region.lexB, Bool.and_eq_true] at hB4
  refine wp_region_any hm ?_
  have hg1 : o.guard = none := by have := List.all_eq_true.1 hB1 o (by simp); simpa using this
  have hg2 : o2.guard = none := by have := List.all_eq_true.1 hB1 o2 (by simp); simpa using this
  refine wpAny_of_quiet_two (C := C) (ops := (l ++ [o, o2]).toArray) (ops' := (l ++ [struck o, struck o2]).toArray) (m := l.length) (o := o) (o' := struck o) (o2 := o2) (o2' := struck o2) (by simp) (by simp) (by simp) (by simp) (by simp) ?_ (by simp) rfl rfl ?_ (by simpa [struck] using hg1) rfl (by simpa [struck] using hg2) rfl ?_ ?_ ?_ _ _ a _ (by simp) ?_ ?_ ?_ hC ?_
  · intro i hi
    simp only [List.getElem?_toArray]
    rw [List.getElem?_append_left hi, List.getElem?_append_left hi]
  · intro i x hx
    simp only [List.getElem?_toArray] at hx
    have := List.all_eq_true.1 hB1 x (List.mem_of_getElem? hx)
    simpa using this
  · intro i x hx e he hb
    simp only [List.getElem?_toArray] at hx
    have h1 := List.all_eq_true.1 hB2 (x, i) (by rw [List.mem_zipIdx_iff_getElem?]; simpa using hx)
    have h2 := (Array.all_eq_true_iff_forall_mem.1 h1) e he
    simpa [hb] using h2
  · intro j hj
    have h1 := List.all_eq_true.1 hB3 j (List.mem_range.2 hj)
    obtain ⟨⟨x, i⟩, hxi, hx⟩ := List.any_eq_true.1 h1
    simp only [Bool.and_eq_true, decide_eq_true_eq] at hx
    obtain ⟨hji, hany⟩ := hx
    obtain ⟨k, hk, hxk⟩ := Array.any_eq_true.1 hany
    simp at hxk
    have hget : (l ++ [o])[i]? = some x := by rw [List.mem_zipIdx_iff_getElem?] at hxi; simpa using hxi
    have hil : i < l.length + 1 := by
      have := (List.getElem?_eq_some_iff.1 hget).1
      simpa using this
    refine ⟨i, x, hji, by omega, ?_, x.after[k], Array.getElem_mem hk, hxk.1, hxk.2⟩
    simp only [List.getElem?_toArray]
    rw [show l ++ [o, o2] = (l ++ [o]) ++ [o2] by simp, List.getElem?_append_left (by simpa using hil)]
    exact hget
  · obtain ⟨k, hk, hxk⟩ := Array.any_eq_true.1 hB5
    simp at hxk
    exact ⟨o2.after[k], Array.getElem_mem hk, hxk.1, hxk.2⟩
  · intro i x hx hL
    exfalso
    have : (Array.replicate (l ++ [o, o2]).toArray.size false).getD i false = false := by
      simp only [Array.getD_eq_getD_getElem?, Array.getElem?_replicate]
      split <;> rfl
    rw [this] at hL
    cases hL
  · simp
  · simp
  · have hq := wpQuiet_struck (P := P) (C := C) (ops := (l ++ [struck o, struck o2]).toArray) (o := o2) (by simpa [struck] using hg2) (l ++ [struck o]) a (wpQuiet_struck (P := P) (C := C) (ops := (l ++ [struck o, struck o2]).toArray) (o := o) (by simpa [struck] using hg1) l a h)
    have e : l ++ [struck o] ++ [struck o2] = l ++ [struck o, struck o2] := by simp
    rw [e] at hq
    have := wpAnyQ_lex (C := C) (md := .any) hB4.1 (l ++ [struck o, struck o2]) 0 (Array.replicate (l ++ [o, o2]).toArray.size false) a (by simp) (by simpa using hB4.2) hq
    simpa using this

/-- .. the operations written out; the worlds of the class as one type -/
theorem wp_region_two_lit {P : Program} {S : World → Prop} {id : Nat} {Q : Exit → Act → World → Prop} {a : Act} {w : World} {l0 : List Oper} (hne : l0 ≠ []) (hne2 : l0.dropLast ≠ []) (hm : P.follows .mixedOrders = true) (hB : twoB l0.dropLast.dropLast (l0.dropLast.getLast hne2) (l0.getLast hne) = true) (hC : S { w with drawn := w.drawn + 1 })
    (h : wpQuiet P (l0.dropLast.dropLast ++ [struck (l0.dropLast.getLast hne2), struck (l0.getLast hne)]).toArray (fun w' => ∃ u : Wof S, w' = u.val) (fun a' => ∀ w', (∃ u : Wof S, w' = u.val) → (l0.dropLast.getLast hne2).wp P a' w' (fun a w => (l0.getLast hne).wp P a w (fun a w => Q .normal a w) Q) Q) l0.dropLast.dropLast a) : (Code.region id l0.toArray true).wp P Q a w := by
  have e : l0.dropLast.dropLast ++ [l0.dropLast.getLast hne2, l0.getLast hne] = l0 := by
    have e1 := List.dropLast_concat_getLast hne2
    have e2 := List.dropLast_concat_getLast hne
    rw [show ([l0.dropLast.getLast hne2, l0.getLast hne] : List Oper) = [l0.dropLast.getLast hne2] ++ [l0.getLast hne] from rfl, ← List.append_assoc, e1, e2]
  have := wp_region_quiet_two (C := fun w' => ∃ u : Wof S, w' = u.val) (id := id) l0.dropLast.dropLast (l0.dropLast.getLast hne2) (l0.getLast hne) hm hB ⟨⟨_, hC⟩, rfl⟩ h
  rwa [e] at this

end Go

namespace Go.Proofs.YtmebcdpdpcpnmaaGreatDoor
open Go.RowKit

section
variable {E : Ext} {D : Mk.Mkt → ByteArray → ByteArray × Int × Mk.Mkt} {Inv : Mk.Mkt → Nat → Prop} {Ok : ByteArray → Prop}

set_option maxRecDepth 100000 in
set_option maxHeartbeats 4000000 in
theorem step_call (hD : Doing D Inv Ok) (B : Nat) (vm : Value) (s : Mks) (k : Nat) (kind m a b : Int) (t : ByteArray) (oa : Option Addr) (n cap : Nat) (w : World) (h5 : 5 ≤ kind) (h7 : kind ≤ 8) (hk : k < 1048576) (hm : s.m ≤ k) (hm1 : -9223372036854775808 ≤ m) (hm2 : m ≤ 9223372036854775807) (hT : Tab w)
    (hS : Sm E w B vm s) (hI : ∀ i, i < s.m → s.Mp i = s.Mr i ∧ Inv (s.Mp i) k)
    (hC : ∀ i, i < s.m → ∀ W, Sm E W B vm s → Tab W → Calls Tryz.prog 22 #[.pointer (some ⟨s.q i, 0, none⟩), opV kind m a b t oa n cap] W fun e w' => Lm E Inv W B k e w') :
    Calls Tryz.prog 12 #[.pointer (some ⟨B, 0, none⟩), opV kind m a b t oa n cap] w fun e w' => Lm E Inv w B k e w' := by
  obtain ⟨ao, co, rfl⟩ := own_form hS.own
  have HIF : Hid (∀ j, j < s.m → s.Mp j = s.Mr j ∧ Inv (s.Mp j) (k + 1)) := fun j hj => ⟨(hI j hj).1, hD.up _ _ (hI j hj).2⟩
  have HC : Hid (∀ i, i < s.m → ∀ W, Sm E W B (.slice ao s.m co) s → Tab W → Calls Tryz.prog 22 #[.pointer (some ⟨s.q i, 0, none⟩), opV kind m a b t oa n cap] W fun e w' => Lm E Inv W B k e w') := hC
  have HB1 : Hid (Below w.heap.size w (w.alloc (opO kind m a b t oa n cap))) := (Below.refl _ _).alloc (Nat.le_refl _) _
  have HS1 : Hid (Sm E (w.alloc (opO kind m a b t oa n cap)) B (.slice ao s.m co) s) := hS.below HB1.out
  have HT1 : Hid (Tab (w.alloc (opO kind m a b t oa n cap))) := hT.next HB1.out
  have hBw := hS.lt
  have x0 : (w.alloc (opO kind m a b t oa n cap)).cell? ⟨w.heap.size, 0, none⟩ = some (.int .i64 kind) := by simp
  have x1 : (w.alloc (opO kind m a b t oa n cap)).cell? ⟨w.heap.size, 1, none⟩ = some (.int .i64 m) := by simp
  have x2 : (w.alloc (opO kind m a b t oa n cap)).cell? ⟨w.heap.size, 2, none⟩ = some (.int .i64 a) := by simp
  have x3 : (w.alloc (opO kind m a b t oa n cap)).cell? ⟨w.heap.size, 3, none⟩ = some (.int .i64 b) := by simp
  have x4 : (w.alloc (opO kind m a b t oa n cap)).cell? ⟨w.heap.size, 4, none⟩ = some (.string t) := by simp
  have x5 : (w.alloc (opO kind m a b t oa n cap)).cell? ⟨w.heap.size, 5, none⟩ = some (.slice oa n cap) := by simp
  have k1 : ¬ kind < 1 := by omega
  have k1' : (1 : Int) ≤ kind := by omega
  have k3 : ¬ kind ≤ 3 := by omega
  have k4 : (kind == 4) = false := by rw [beq_eq_false_iff_ne]; omega
  have k9 : (kind == 9) = false := by rw [beq_eq_false_iff_ne]; omega
  have k4' : ¬ kind < 4 := by omega
  have k9' : ¬ (9 : Int) < kind := by omega
  clear hI hS hD hT hC h5 h7
  by_cases h0 : s.m = 0
  · have h0' : ((s.m : Int) == 0) = true := by rw [beq_iff_eq]; omega
    clear h0
    have c0 := HS1.out.c0
    go_enter Tryz.func12, Tryz.ntmps12
    go_upto_region 1 with fail
    generalize w.alloc (opO kind m a b t oa n cap) = W1 at *
    go_wp2_with fail
    go_ret
    exact ⟨rfl, _, s, HS1.out, HIF.out, by omega, HB1.out.mono (by omega)⟩
  · have h0' : ((s.m : Int) == 0) = false := by rw [beq_eq_false_iff_ne]; omega
    have hmp : 0 < s.m := by omega
    obtain ⟨i, hi, hpk⟩ := pick_fix m s.m hm1 hm2 (by omega) (by omega)
    have HPk : Hid (∀ w, Calls Tryz.prog 21 #[.int .i64 m, .int .i64 s.m] w fun e w' => e = .returned (.int .i64 i) ∧ w' = w) := hpk
    obtain ⟨g, rfl⟩ := own_some HS1.out.own hmp
    have c0 := HS1.out.c0
    have cg : (w.alloc (opO kind m a b t oa n cap)).cell? ⟨g, i, none⟩ = some (.pointer (some ⟨s.q i, 0, none⟩)) := by rw [HS1.out.own.cellAt i (by omega), ptrs_get _ hi]
    have hi' : (i : Int) < (s.m : Int) := by omega
    clear h0 hpk hm1 hm2
    go_enter Tryz.func12, Tryz.ntmps12
    go_upto_region 1 with fail
    generalize w.alloc (opO kind m a b t oa n cap) = W1 at *
    go_upto_region 21 with fail
    have hgl := blk_lt cg
    have hBl := blk_lt c0
    have hxl := blk_lt x0
    have e0 : ∀ u : Wof (Below W1.heap.size W1), u.val.cell? ⟨B, 0, none⟩ = some (.slice (some ⟨g, 0, none⟩) s.m co) := fun u => (u.ok.cell (p := ⟨B, 0, none⟩) hBl).trans c0
    have eg : ∀ u : Wof (Below W1.heap.size W1), u.val.cell? ⟨g, i, none⟩ = some (.pointer (some ⟨s.q i, 0, none⟩)) := fun u => (u.ok.cell (p := ⟨g, i, none⟩) hgl).trans cg
    have y0 : ∀ u : Wof (Below W1.heap.size W1), u.val.cell? ⟨w.heap.size, 0, none⟩ = some (.int .i64 kind) := fun u => (u.ok.cell (p := ⟨w.heap.size, 0, none⟩) hxl).trans x0
    have y1 : ∀ u : Wof (Below W1.heap.size W1), u.val.cell? ⟨w.heap.size, 1, none⟩ = some (.int .i64 m) := fun u => (u.ok.cell (p := ⟨w.heap.size, 1, none⟩) hxl).trans x1
    have y2 : ∀ u : Wof (Below W1.heap.size W1), u.val.cell? ⟨w.heap.size, 2, none⟩ = some (.int .i64 a) := fun u => (u.ok.cell (p := ⟨w.heap.size, 2, none⟩) hxl).trans x2
    have y3 : ∀ u : Wof (Below W1.heap.size W1), u.val.cell? ⟨w.heap.size, 3, none⟩ = some (.int .i64 b) := fun u => (u.ok.cell (p := ⟨w.heap.size, 3, none⟩) hxl).trans x3
    have y4 : ∀ u : Wof (Below W1.heap.size W1), u.val.cell? ⟨w.heap.size, 4, none⟩ = some (.string t) := fun u => (u.ok.cell (p := ⟨w.heap.size, 4, none⟩) hxl).trans x4
    have y5 : ∀ u : Wof (Below W1.heap.size W1), u.val.cell? ⟨w.heap.size, 5, none⟩ = some (.slice oa n cap) := fun u => (u.ok.cell (p := ⟨w.heap.size, 5, none⟩) hxl).trans x5
    have hne : Nonempty (Wof (Below W1.heap.size W1)) := ⟨⟨W1, Below.refl _ _⟩⟩
    clear c0 cg x0 x1 x2 x3 x4 x5 hgl hBl hxl
    refine wp_region_two_lit (S := Below W1.heap.size W1) (by simp) (by simp) (by kernel_rfl) (by kernel_rfl) (Below.refl _ _).drew ?_
    simp only [List.dropLast, List.getLast]
    repeat (quiet_step ((rename_i u; refine (HPk.out _).mono ?_; rintro e w3 ⟨rfl, rfl⟩; exact ⟨rfl, u, rfl⟩)))
    refine wpQuiet_nil ?_
    rintro _ ⟨u, rfl⟩
    have HCc : Hid (Calls Tryz.prog 22 #[.pointer (some ⟨s.q i, 0, none⟩), opV kind m a b t oa n cap] u.val fun e w' => Lm E Inv u.val B k e w') := HC.out i hi u.val (HS1.out.below u.ok) (HT1.out.next u.ok)
    have HBu : Hid (Below w.heap.size w u.val) := HB1.out.trans (u.ok.mono HB1.out.size)
    unfold Oper.wp
    go_simp
    refine HCc.out.mono ?_
    rintro e w3 ⟨rfl, vm', s', hS', hI', hm', hb'⟩
    have HL : Hid (Lm E Inv w B k (.returned (.bool true)) w3) := ⟨rfl, vm', s', hS', hI', hm', (HBu.out.mono (by omega)).trans hb'⟩
    clear hS' hI' hm' hb'
    go_simp
    go_wp2_with fail
    go_ret
    exact HL.out

end

end Go.Proofs.YtmebcdpdpcpnmaaGreatDoor

namespace Go.Proofs.YtmebcdpdpcpnmaaGreatDoor
open Go.RowKit

set_option maxRecDepth 100000 in
set_option maxHeartbeats 1000000 in
theorem looks_nil (B : Nat) (w : World) (hc : w.cell? ⟨B, 1, none⟩ = some (.slice none 0 0)) :
    Calls Tryz.prog 13 #[.pointer (some ⟨B, 0, none⟩)] w fun e w' => e = .returned (.bool true) ∧ w' = w := by
  go_enter Tryz.func13, Tryz.ntmps13
  go_wp2
  go_loop [3] (fun i => i = .int .i64 0) (fun i => 0)
  case atStart => rfl
  case round =>
    subst hrel
    go_wp2
    go_ret
    exact ⟨rfl, rfl⟩

/-- nothing else lies there -/
def Ext.none : Ext := ⟨fun _ => False, fun _ => Option.none, .slice Option.none 0 0, .slice Option.none 0 0⟩
theorem Sm.born (w : World) : ∃ s : Mks, s.m = 0 ∧ Sm Ext.none (w.alloc (.cells #[.slice none 0 0, .slice none 0 0, .slice none 0 0] 30)) w.heap.size (.slice none 0 0) s := by
  refine ⟨⟨0, fun _ => 0, fun _ => 0, fun _ => 0, fun _ _ => .slice none 0 0, fun _ => ⟨0, 0, fun _ => 0, 0, 0, 0, 0, 0, 0, fun _ => .slice none 0 0⟩, fun _ => Mk.Mkt.new, fun _ => Mk.Mkt.new⟩, rfl, ⟨by simp, by simp [go_sem], by simp [Ext.none], by simp [go_sem], by simp [Ext.none], by simp [go_sem], ⟨by simp [ptrs], .inl ⟨rfl, rfl⟩⟩, ⟨?_, ?_, ?_, ?_, ?_, ?_⟩, fun _ h => h.elim⟩⟩
  · intro i hi; exact absurd hi (Nat.not_lt_zero i)
  · intro i hi; exact absurd hi (Nat.not_lt_zero i)
  · intro i hi; exact absurd hi (Nat.not_lt_zero i)
  · intro a b ha; exact absurd ha (by show ¬ a < 2 * 0; omega)
  · intro a ha; exact absurd ha (by show ¬ a < 2 * 0; omega)
  · intro i hi; exact absurd hi (Nat.not_lt_zero i)

section
variable {E : Ext} {D : Mk.Mkt → ByteArray → ByteArray × Int × Mk.Mkt} {Inv : Mk.Mkt → Nat → Prop} {Ok : ByteArray → Prop}

theorem stepM (hD : Doing D Inv Ok) (B : Nat) (vm : Value) (s : Mks) (k : Nat) (x : OpD) (w : World) (h4 : 4 ≤ x.kind) (h7 : x.kind ≤ 7) (hk : k < 1048576) (hm : s.m ≤ k) (hF : x.Fits) (hs : x.s.size ≤ 1048576) (hok : Ok x.s) (hT : Tab w) (hg : ∀ g, Tryz.prog.globalNamed "internal/strconv.uint64pow10" = some g → g < B)
    (hS : Sm E w B vm s) (hI : ∀ i, i < s.m → s.Mp i = s.Mr i ∧ Inv (s.Mp i) k) :
    Calls Tryz.prog 12 #[.pointer (some ⟨B, 0, none⟩), opV x.kind x.m x.a x.b x.s x.oa x.os.length x.cap] w fun e w' => Lm E Inv w B k e w' := by
  obtain h | h | h | h : x.kind = 4 ∨ x.kind = 5 ∨ x.kind = 6 ∨ x.kind = 7 := by omega
  · rw [h]; exact step_new hD B vm s k _ _ _ _ _ _ _ w hk hm hS hI
  · rw [h]; exact step_call hD B vm s k 5 _ _ _ _ _ _ _ w (by omega) (by omega) hk hm hF.m1 hF.m2 hT hS hI (fun i hi W hW hTW => call_do hD B vm s i k _ _ _ _ _ _ _ W hk hm hi hs hok hTW hg hW hI)
  · rw [h]; exact step_call hD B vm s k 6 _ _ _ _ _ _ _ w (by omega) (by omega) hk hm hF.m1 hF.m2 hT hS hI (fun i hi W hW hTW => call_show hD B vm s i k _ _ _ _ _ _ _ W hm hi hTW hW hI)
  · rw [h]; exact step_call hD B vm s k 7 _ _ _ _ _ _ _ w (by omega) (by omega) hk hm hF.m1 hF.m2 hT hS hI (fun i hi W hW hTW => call_last hD B vm s i k _ _ _ _ _ _ _ W hm hi hW hI)

set_option maxRecDepth 100000 in
set_option maxHeartbeats 4000000 in
theorem plays_markets (hD : Doing D Inv Ok) (a : Option Addr) (cap g cap2 : Nat) (ws : List ByteArray) (l : List OpD) (w : World) (hf : ∀ x ∈ l, x.Fits) (hR : RdOps w a l) (hT : Tab w) (hn : ws.length ≤ 100) (hw : ∀ x ∈ ws, x.size ≤ 100) (hc : ∀ i, i < ws.length → w.cell? ⟨g, i, none⟩ = some (.string (Mk.wordAt ws i))) (hgl : g < w.heap.size) (hOk : ∀ t, Mk.hasAny t ws = false → Ok t) :
    Calls Tryz.prog 9 #[.slice a l.length cap, .int .i64 4, .int .i64 7, .slice (some ⟨g, 0, none⟩) ws.length cap2] w fun e w' => e = .returned (.bool true) ∧ Below w.heap.size w w' := by
  have HF : Hid (∀ x ∈ l, x.Fits) := hf
  have HR : Hid (RdOps w a l) := hR
  have HT : Hid (Tab w) := hT
  have HD : Hid (Doing D Inv Ok) := hD
  have HW : Hid (ws.length ≤ 100 ∧ (∀ x ∈ ws, x.size ≤ 100) ∧ (∀ i, i < ws.length → w.cell? ⟨g, i, none⟩ = some (.string (Mk.wordAt ws i))) ∧ g < w.heap.size) := ⟨hn, hw, hc, hgl⟩
  have HOk : Hid (∀ t, Mk.hasAny t ws = false → Ok t) := hOk
  clear hf hR hT hD hn hw hc hgl hOk
  go_enter Tryz.func9, Tryz.ntmps9
  go_wp2_with fail
  refine (small_any a cap l _ HF.out HR.out).mono ?_
  rintro e w1 ⟨r, rfl, hsm, hb1⟩
  have HB1 : Hid (Below w.heap.size w w1) := hb1
  have HSm : Hid (SmallIs l r) := hsm
  clear hsm hb1
  cases r
  · go_wp2
    go_ret
    exact ⟨rfl, HB1.out⟩
  · obtain ⟨hlen, hos⟩ := HSm.out rfl
    have HO : Hid (∀ (i : Nat) (h : i < l.length), l[i].s.size ≤ 1048576) := fun i h => (hos i h).2
    clear hos
    have hsz := HB1.out.size
    have HG : Hid (∀ g, Tryz.prog.globalNamed "internal/strconv.uint64pow10" = some g → g < w1.heap.size) := fun g hg => Nat.lt_of_lt_of_le (HT.out.lt g hg) hsz
    go_wp2
    go_loopw [11] (fun j wr => ∃ k : Nat, k ≤ l.length ∧ j = .int .i64 k ∧ (∃ vm s, s.m ≤ k ∧ Sm Ext.none wr w1.heap.size vm s ∧ ∀ i, i < s.m → s.Mp i = s.Mr i ∧ Inv (s.Mp i) k) ∧ Below w1.heap.size w1 wr) (fun j _ => l.length - (intOf j).toNat)
    case atStart =>
      obtain ⟨s, hs0, hS⟩ := Sm.born w1
      exact ⟨0, Nat.zero_le _, rfl, ⟨_, s, by omega, hS, fun i hi => by omega⟩, (Below.refl _ _).alloc (Nat.le_refl _) _⟩
    case round =>
      obtain ⟨k, hk, rfl, ⟨vm, s, hm, hS, hI⟩, hb⟩ := hrel
      have Hb : Hid (Below w1.heap.size w1 wr) := hb
      have HS : Hid (Sm Ext.none wr w1.heap.size vm s) := hS
      have HI : Hid (∀ i, i < s.m → s.Mp i = s.Mr i ∧ Inv (s.Mp i) k) := hI
      have HBw : Hid (Below w.heap.size w wr) := HB1.out.trans (hb.mono hsz)
      have hBr : w1.heap.size < wr.heap.size := hS.lt
      have HUp : Hid (∀ i, i < s.m → s.Mp i = s.Mr i ∧ Inv (s.Mp i) (k + 1)) := fun i hi => ⟨(hI i hi).1, HD.out.up _ _ (hI i hi).2⟩
      clear hb hS hI
      by_cases hlt : k < l.length
      · rcases HR.out with h | ⟨b, off, rfl, hA⟩
        · rw [h] at hlt; simp at hlt
        obtain ⟨c0, c1, c2, c3, c4, c5, _⟩ := AtOps.below hA HBw.out k hlt
        clear hA
        have HFk : Hid (l[k].Fits) := HF.out _ (List.getElem_mem hlt)
        have hok := HO.out k hlt
        have hbl := blk_lt c0
        have hlt' : (k : Int) < (l.length : Int) := by omega
        have HAl : Hid (∀ ob, Below wr.heap.size wr (wr.alloc ob)) := fun ob => (Below.refl _ _).alloc (Nat.le_refl _) ob
        have HSay : Hid (∀ ob, Calls Tryz.prog 11 #[.string l[k].s, .slice (some ⟨g, 0, none⟩) ws.length cap2] (wr.alloc ob) fun e w' => e = .returned (.bool (Mk.hasAny l[k].s ws)) ∧ w' = wr.alloc ob) := fun ob =>
          saysAny_any l[k].s g cap2 ws (wr.alloc ob) (by omega) HW.out.2.1 HW.out.1 (fun i hi => ((HBw.out.trans ((HAl.out ob).mono HBw.out.size)).cell (p := ⟨g, i, none⟩) HW.out.2.2.2).trans (HW.out.2.2.1 i hi))
        by_cases h4 : l[k].kind < 4
        · go_wp2_with (go_at_call 11; refine (HSay.out _).mono ?_; rintro e w2 ⟨rfl, hw2⟩; obtain rfl := hw2.symm)
          go_roundw
          case rel => exact ⟨k + 1, by omega, by go_num, ⟨vm, s, by omega, HS.out.below (HAl.out _), HUp.out⟩, Hb.out.alloc Hb.out.size _⟩
          case measure => simp [intOf]; omega
        · by_cases h7 : 7 < l[k].kind
          · go_wp2_with (go_at_call 11; refine (HSay.out _).mono ?_; rintro e w2 ⟨rfl, hw2⟩; obtain rfl := hw2.symm)
            go_roundw
            case rel => exact ⟨k + 1, by omega, by go_num, ⟨vm, s, by omega, HS.out.below (HAl.out _), HUp.out⟩, Hb.out.alloc Hb.out.size _⟩
            case measure => simp [intOf]; omega
          · go_wp2_with fail
            refine (HSay.out _).mono ?_
            rintro e w2 ⟨rfl, hw2⟩
            obtain rfl := hw2.symm
            by_cases hh : Mk.hasAny l[k].s ws = true
            · go_wp2_with fail
              go_roundw
              case rel => exact ⟨k + 1, by omega, by go_num, ⟨vm, s, by omega, HS.out.below (HAl.out _), HUp.out⟩, Hb.out.alloc Hb.out.size _⟩
              case measure => simp [intOf]; omega
            · have hh' : Mk.hasAny l[k].s ws = false := by simpa using hh
              have HOkk : Hid (Ok l[k].s) := HOk.out _ hh'
              clear hh
              go_wp2_with fail
              refine (stepM HD.out w1.heap.size vm s k l[k] _ (by omega) (by omega) (by omega) hm HFk.out hok HOkk.out (HT.out.next (HBw.out.trans ((HAl.out _).mono HBw.out.size))) HG.out (HS.out.below (HAl.out _)) HI.out).mono ?_
              rintro e w3 ⟨rfl, vm3, s3, hS3, hI3, hm3, hb3⟩
              have HS3 : Hid (Sm Ext.none w3 w1.heap.size vm3 s3) := hS3
              have HI3 : Hid (∀ i, i < s3.m → s3.Mp i = s3.Mr i ∧ Inv (s3.Mp i) (k + 1)) := hI3
              have HB3 : Hid (Below w1.heap.size w1 w3) := (Hb.out.alloc Hb.out.size _).trans hb3
              clear hS3 hb3 hI3
              go_wp2_with fail
              refine (looks_nil w1.heap.size _ HS3.out.c1).mono ?_
              rintro e w4 ⟨rfl, hw4⟩
              obtain rfl := hw4.symm
              go_wp2
              go_roundw
              case rel => exact ⟨k + 1, by omega, by go_num, ⟨vm3, s3, hm3, HS3.out, HI3.out⟩, HB3.out⟩
              case measure => simp [intOf]; omega
      · go_wp2
        go_ret
        exact ⟨rfl, HBw.out⟩

end

end Go.Proofs.YtmebcdpdpcpnmaaGreatDoor

namespace Go.Proofs.YtmebcdpdpcpnmaaGreatDoor
open Go.ChangeShapes Go.WideShapes Go.ChangeAt Go.RowKit Go.Deep

theorem Tryz.own : ownKnob Tryz.prog.godebug = none := by kernel_rfl
theorem Tryz.laidOut : laidOutB Tryz.prog = true := by kernel_rfl
theorem Tryz.cellsOrder : Tryz.prog.cellsOf 123 = 3 := by kernel_rfl
theorem Tryz.cellsBool : Tryz.prog.cellsOf 4 = 1 := by kernel_rfl
theorem Tryz.cellsInt : Tryz.prog.cellsOf 3 = 1 := by kernel_rfl

theorem three {α : Type} {l : List α} (h : l.length = 3) : ∃ a b c, l = [a, b, c] := by
  match l, h with
  | [a, b, c], _ => exact ⟨a, b, c, rfl⟩

theorem add_none (b off n : Nat) : (⟨b, off, none⟩ : Addr).add n = ⟨b, off + n, none⟩ := by
  unfold Addr.add; split <;> simp_all

section
variable {H : Type} {enc : TypeId × Value → H} {W : World} {base : Nat} {spare : Nat → Bool} {held : Bool}

/-- one order, out of its reading -/
theorem open_order {n : Nat} {cs : List Value} {x : DataW H × List MemPlace} (h : DataW.trod enc Tryz.prog W base spare held n 123 cs = some x) :
    ∃ o : Mk.Ord, cs = [.bool o.sell, .int .i64 o.price, .int .i64 o.qty] := by
  obtain ⟨y0, y1, y2, m, _, hl, h0, h1, h2⟩ := trod_struct3 Tryz.underlying123 h
  rw [Tryz.cellsOrder] at hl
  obtain ⟨c0, c1, c2, rfl⟩ := three hl
  simp only [Tryz.cellsBool, Tryz.cellsInt, List.drop_zero, List.drop_succ_cons, List.take_succ_cons, List.take_zero] at h0 h1 h2
  obtain ⟨s, e0, _⟩ := DataW.trod_bool Tryz.underlying4 h0
  obtain ⟨p, e1, _, _⟩ := DataW.trod_int Tryz.underlying3 h1
  obtain ⟨q, e2, _, _⟩ := DataW.trod_int Tryz.underlying3 h2
  simp only [List.cons.injEq, and_true] at e0 e1 e2
  exact ⟨⟨s, p, q⟩, by rw [e0, e1, e2]⟩

/-- the orders, out of an argument's reading -/
theorem open_orders {fuel : Nat} {a0 : Option Addr} {len0 cap0 : Nat} {x : DataW H × List MemPlace} (h : DataW.trod enc Tryz.prog W base spare held fuel 31 [.slice a0 len0 cap0] = some x) :
    ∃ l : List Mk.Ord, l.length = len0 ∧ len0 ≤ cap0 ∧ cap0 ≤ maxLen ∧ Rd W a0 l := by
  rcases open_slice Tryz.underlying31 h with ⟨hcs, _⟩ | ⟨a, len, cap, m, n, D, Pl, hcs, _, hl, hm, hmm, _, hx⟩
  · simp only [List.cons.injEq, and_true, Value.slice.injEq] at hcs
    obtain ⟨rfl, rfl, rfl⟩ := hcs
    exact ⟨[], rfl, Nat.le_refl _, Nat.zero_le _, .inl rfl⟩
  · simp only [List.cons.injEq, and_true, Value.slice.injEq] at hcs
    obtain ⟨rfl, rfl, rfl⟩ := hcs
    have hlm : len0 ≤ m := by rw [hmm]; split <;> omega
    rw [Tryz.cellsOrder] at hx
    have each : ∀ i, i < len0 → ∃ q : Bool × Int × Int, W.cell? (a.add (i * 3)) = some (.bool q.1) ∧ W.cell? (a.add (i * 3 + 1)) = some (.int .i64 q.2.1) ∧ W.cell? (a.add (i * 3 + 2)) = some (.int .i64 q.2.2) := by
      intro i hi
      obtain ⟨cs', h1, h2⟩ := hx i (by omega)
      obtain ⟨o, rfl⟩ := open_order h2
      obtain ⟨_, _, hcell⟩ := World.cells?_some h1
      have e0 := hcell 0 (by omega)
      have e1 := hcell 1 (by omega)
      have e2 := hcell 2 (by omega)
      rw [add_add] at e0 e1 e2
      exact ⟨(o.sell, o.price, o.qty), by simpa using e0, by simpa using e1, by simpa using e2⟩
    obtain ⟨q, hq⟩ := choose_lt each
    refine ⟨(List.range len0).map fun i => ⟨(q i).1, (q i).2.1, (q i).2.2⟩, by simp, hl, hm, ?_⟩
    by_cases h0 : len0 = 0
    · subst h0; exact .inl (by simp)
    · right
      obtain ⟨b, off, spot⟩ := a
      have hs : spot = none := by
        have := World.cell?_spot (hq 0 (by omega)).1
        simpa [Addr.add] using this
      subst hs
      refine ⟨b, off, rfl, fun i hi => ?_⟩
      have hi' : i < len0 := by simpa using hi
      obtain ⟨g0, g1, g2⟩ := hq i hi'
      rw [add_none] at g0 g1 g2
      simp only [List.getElem_map, List.getElem_range]
      exact ⟨g0, g1, g2⟩
end

end Go.Proofs.YtmebcdpdpcpnmaaGreatDoor
