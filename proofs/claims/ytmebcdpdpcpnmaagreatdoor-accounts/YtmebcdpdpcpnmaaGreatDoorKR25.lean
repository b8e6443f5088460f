import Derived.Test.YtmebcdpdpcpnmaaGreatDoorJ12
/- A region in any order whose operations are quiet but for one that waits for all that stand ahead of it, and one behind it. -/
namespace Go
section
variable {P : Program} {md : Region.Mode} {C : World → Prop} {ops ops' : Array Oper} {m : Nat} {o o' o2 o2' : Oper} {L : Array Bool}

/-- what is listed has all that it waits for listed -/
def Closed (md : Region.Mode) (ops : Array Oper) (L : Array Bool) : Prop := ∀ i x, ops[i]? = some x → L.getD i false = true → ∀ e ∈ x.after, Region.binds md e = true → L.getD e.on false = true

theorem getD_set {i j : Nat} (hi : i < L.size) : (L.setIfInBounds i true).getD j false = (if j = i then true else L.getD j false) := by
  by_cases e : j = i
  · subst e; simp [hi]
  · rw [if_neg e]
    simp [Ne.symm e]
theorem getD_any {j : Nat} (hj : j < L.size) : L.getD j true = L.getD j false := by simp [hj]

theorem Closed.add (hC : Closed md ops L) {i : Nat} (hi : i ∈ Region.ready md ops L) (hs : i < L.size) : Closed md ops (L.setIfInBounds i true) := by
  intro j x hx hj e he hb
  rw [getD_set hs] at hj ⊢
  split
  · rfl
  · by_cases e1 : j = i
    · subst e1
      obtain ⟨_, x', hx', hdep⟩ := mem_ready.1 hi
      rw [hx] at hx'
      cases hx'
      exact hdep e he hb
    · rw [if_neg e1] at hj
      exact hC j x hx hj e he hb

theorem all_listed (hC : Closed md ops L) (hm : ops[m]? = some o) (hi : m ∈ Region.ready md ops L)
    (hsucc : ∀ j, j < m → ∃ i x, j < i ∧ i ≤ m ∧ ops[i]? = some x ∧ ∃ e ∈ x.after, Region.binds md e = true ∧ e.on = j) : ∀ d j, m - j = d → j < m → L.getD j false = true := by
  intro d
  induction d using Nat.strongRecOn with
  | _ d ih =>
    intro j hd hj
    obtain ⟨i, x, h1, h2, hx, e, he, hb, rfl⟩ := hsucc j hj
    by_cases e1 : i = m
    · subst e1
      obtain ⟨_, x', hx', hdep⟩ := mem_ready.1 hi
      rw [hx] at hx'
      cases hx'
      exact hdep e he hb
    · exact hC i x hx (ih (m - i) (by omega) i rfl (by omega)) e he hb

theorem wpAny_of_quiet_two {Q : Exit → Act → World → Prop} (hm : ops[m]? = some o) (hm2 : ops[m + 1]? = some o2) (hsz : ops.size = m + 2) (hm' : ops'[m]? = some o') (hm2' : ops'[m + 1]? = some o2') (heq : ∀ i, i < m → ops'[i]? = ops[i]?) (hsz' : ops'.size = ops.size)
    (haft : o'.after = o.after) (haft2 : o2'.after = o2.after) (hg : ∀ (i : Nat) (x : Oper), ops[i]? = some x → x.guard = none) (hg' : o'.guard = none) (hd' : o'.dst = none) (hg2' : o2'.guard = none) (hd2' : o2'.dst = none)
    (hlow : ∀ i x, ops[i]? = some x → ∀ e ∈ x.after, Region.binds md e = true → e.on < i) (hsucc : ∀ j, j < m → ∃ i x, j < i ∧ i ≤ m ∧ ops[i]? = some x ∧ ∃ e ∈ x.after, Region.binds md e = true ∧ e.on = j) (h2 : ∃ e ∈ o2.after, Region.binds md e = true ∧ e.on = m) :
    ∀ n L a w, L.size = ops.size → Closed md ops L → L.getD m false = false → L.getD (m + 1) false = false → C w →
      wpAnyQ P md ops' C (fun a' => ∀ w', C w' → o.wp P a' w' (fun a w => o2.wp P a w (fun a w => Q .normal a w) Q) Q) n L a → wpAny P md ops Q n L a w := by
  have hready : ∀ L, Region.ready md ops' L = Region.ready md ops L := by
    intro L
    unfold Region.ready
    rw [hsz']
    refine List.filter_congr (fun i hi => ?_)
    have hi' : i < m + 2 := by rw [← hsz]; exact List.mem_range.1 hi
    by_cases e : i = m
    · subst e; rw [hm, hm']; simp [haft]
    · by_cases e2 : i = m + 1
      · subst e2; rw [hm2, hm2']; simp [haft2]
      · rw [heq i (by omega)]
  intro n
  induction n with
  | zero =>
    intro L a w hs _ hL _ _ h
    exact absurd ((hready L).symm.trans h.1) (ready_ne hlow L m o hm (by rw [getD_any (by omega)]; exact hL))
  | succ n ih =>
    intro L a w hs hcl hL hL2 hC h
    have hLm : L.getD m true = false := by rw [getD_any (by omega)]; exact hL
    refine ⟨fun hn => absurd hn (ready_ne hlow L m o hm hLm), fun i hi => ?_⟩
    have hq := h.2 i (by rw [hready]; exact hi)
    obtain ⟨_, x, hx, hdepx⟩ := mem_ready.1 hi
    have hil : i < ops.size := (Array.getElem?_eq_some_iff.1 hx).1
    by_cases e2 : i = m + 1
    · subst e2
      rw [hm2] at hx
      cases hx
      obtain ⟨d, hd, hb, rfl⟩ := h2
      have := hdepx d hd hb
      rw [hL] at this
      cases this
    by_cases e : i = m
    · subst e
      have hall := all_listed hcl hm hi hsucc
      have hs1 : i < L.size := by omega
      have hs2 : i + 1 < (L.setIfInBounds i true).size := by simp; omega
      -- behind it the one that is left
      have r1 : i + 1 ∈ Region.ready md ops (L.setIfInBounds i true) := by
        rw [mem_ready]
        refine ⟨?_, o2, hm2, fun d hd hb => ?_⟩
        · rw [getD_any (by simpa using (by omega : i + 1 < L.size)), getD_set hs1, if_neg (by omega)]; exact hL2
        · have hlt := hlow _ _ hm2 d hd hb
          rw [getD_set hs1]
          split
          · rfl
          · exact hall _ d.on rfl (by omega)
      have r1' : ∀ j, j ∈ Region.ready md ops (L.setIfInBounds i true) → j = i + 1 := by
        intro j hj
        obtain ⟨hj1, y, hy, _⟩ := mem_ready.1 hj
        have hjl : j < ops.size := (Array.getElem?_eq_some_iff.1 hy).1
        rw [getD_any (by simpa using (by omega : j < L.size)), getD_set hs1] at hj1
        by_cases e3 : j = i
        · rw [if_pos e3] at hj1; cases hj1
        · rw [if_neg e3] at hj1
          by_cases e4 : j < i
          · rw [hall _ j rfl e4] at hj1; cases hj1
          · omega
      have r2 : Region.ready md ops ((L.setIfInBounds i true).setIfInBounds (i + 1) true) = [] := by
        apply List.eq_nil_iff_forall_not_mem.2
        intro j hj
        obtain ⟨hj1, y, hy, _⟩ := mem_ready.1 hj
        have hjl : j < ops.size := (Array.getElem?_eq_some_iff.1 hy).1
        rw [getD_any (by simpa using (by omega : j < L.size)), getD_set hs2, getD_set hs1] at hj1
        by_cases e3 : j = i + 1
        · rw [if_pos e3] at hj1; cases hj1
        · rw [if_neg e3] at hj1
          by_cases e5 : j = i
          · rw [if_pos e5] at hj1; cases hj1
          · rw [if_neg e5, hall _ j rfl (by omega)] at hj1; cases hj1
      have hq' : wpAnyQ P md ops' C (fun a' => ∀ w', C w' → o.wp P a' w' (fun a w => o2.wp P a w (fun a w => Q .normal a w) Q) Q) n (L.setIfInBounds i true) a := by
        unfold qOp at hq
        simp only [hm'] at hq
        have hw : Region.wanted o' (yielded ops' a.tmps) = true := by simp [Region.wanted, hg']
        simp only [hw, if_true] at hq
        obtain ⟨v, hv, hk⟩ := hq
        rw [hd'] at hk
        exact hk
      cases n with
      | zero =>
        have := hq'.1
        rw [hready] at this
        rw [this] at r1
        cases r1
      | succ k =>
        have hQ0 : ∀ w', C w' → o.wp P a w' (fun a w => o2.wp P a w (fun a w => Q .normal a w) Q) Q := by
          have hq2 := hq'.2 (i + 1) (by rw [hready]; exact r1)
          have hq3 : wpAnyQ P md ops' C (fun a' => ∀ w', C w' → o.wp P a' w' (fun a w => o2.wp P a w (fun a w => Q .normal a w) Q) Q) k ((L.setIfInBounds i true).setIfInBounds (i + 1) true) a := by
            unfold qOp at hq2
            simp only [hm2'] at hq2
            have hw : Region.wanted o2' (yielded ops' a.tmps) = true := by simp [Region.wanted, hg2']
            simp only [hw, if_true] at hq2
            obtain ⟨v, hv, hk⟩ := hq2
            rw [hd2'] at hk
            exact hk
          cases k with
          | zero => exact hq3.2
          | succ k' => exact hq3.1 (by rw [hready]; exact r2)
        unfold wpOp
        simp only [hm]
        have hw : Region.wanted o (yielded ops a.tmps) = true := by simp [Region.wanted, hg i o hm]
        simp only [hw, if_true]
        left
        refine Oper.wp_mono (fun a' w' hk => ?_) (hQ0 w hC)
        refine ⟨fun hn => (by rw [hn] at r1; cases r1), fun j hj => ?_⟩
        obtain rfl := r1' j hj
        unfold wpOp
        simp only [hm2]
        have hw2 : Region.wanted o2 (yielded ops a'.tmps) = true := by simp [Region.wanted, hg _ o2 hm2]
        simp only [hw2, if_true]
        left
        refine Oper.wp_mono (fun a2 w2 hk2 => ?_) hk
        cases k with
        | zero => exact ⟨r2, hk2⟩
        | succ k' => exact ⟨fun _ => hk2, fun j hj => (by rw [r2] at hj; cases hj)⟩
    · have h1 : wpOp P ops' Q i (wpAny P md ops Q n (L.setIfInBounds i true)) a w := by
        refine wpOp_of_qOp hC (fun a' w' hc hk => ih _ a' w' (by simpa using hs) (hcl.add hi (by omega)) ?_ ?_ hc hk) hq
        · rw [getD_set (by omega), if_neg (Ne.symm e)]; exact hL
        · rw [getD_set (by omega), if_neg (Ne.symm e2)]; exact hL2
      unfold wpOp at h1 ⊢
      rw [heq i (by omega), hx] at h1
      rw [hx]
      have hw : ∀ ps : Array Oper, Region.wanted x (yielded ps a.tmps) = true := fun ps => by simp [Region.wanted, hg i x hx]
      simp only [hw, if_true] at h1 ⊢
      exact h1
end

def twoB (l : List Oper) (o o2 : Oper) : Bool :=
  (l ++ [o, o2]).all (fun x => x.guard.isNone) && (l ++ [o, o2]).zipIdx.all (fun xi => xi.1.after.all fun e => !Region.binds .any e || decide (e.on < xi.2)) &&
    (List.range l.length).all (fun j => (l ++ [o]).zipIdx.any (fun xi => decide (j < xi.2) && xi.1.after.any fun e => Region.binds .any e && e.on == j)) && (o2.after.any fun e => Region.binds .any e && e.on == l.length) && Region.lexB .any (l ++ [struck o, struck o2]).toArray

theorem wp_region_quiet_two {P : Program} {C : World → Prop} {id : Nat} {Q : Exit → Act → World → Prop} {a : Act} {w : World} (l : List Oper) (o o2 : Oper) (hm : P.follows .mixedOrders = true) (hB : twoB l o o2 = true) (hC : C { w with drawn := w.drawn + 1 })
    (h : wpQuiet P (l ++ [struck o, struck o2]).toArray C (fun a' => ∀ w', C w' → o.wp P a' w' (fun a w => o2.wp P a w (fun a w => Q .normal a w) Q) Q) l a) : (Code.region id (l ++ [o, o2]).toArray true).wp P Q a w := by
  simp only [twoB, Bool.and_eq_true] at hB
  obtain ⟨⟨⟨⟨hB1, hB2⟩, hB3⟩, hB5⟩, hB4⟩ := hB
  simp only [Region.lexB, Bool.and_eq_true] at hB4
  refine wp_region_any hm ?_
  have hg1 : o.guard = none := by have := List.all_eq_true.1 hB1 o (by simp); simpa using this
  have hg2 : o2.guard = none := by have := List.all_eq_true.1 hB1 o2 (by simp); simpa using this
  refine wpAny_of_quiet_two (C := C) (ops := (l ++ [o, o2]).toArray) (ops' := (l ++ [struck o, struck o2]).toArray) (m := l.length) (o := o) (o' := struck o) (o2 := o2) (o2' := struck o2) (by simp) (by simp) (by simp) (by simp) (by simp) ?_ (by simp) rfl rfl ?_ (by simpa [struck] using hg1) rfl (by simpa [struck] using hg2) rfl ?_ ?_ ?_ _ _ a _ (by simp) ?_ ?_ ?_ hC ?_
  · intro i hi
    simp only [List.getElem?_toArray]
    rw [List.getElem?_append_left hi, List.getElem?_append_left hi]
  · intro i x hx
    simp only [List.getElem?_toArray] at hx
    have := List.all_eq_true.1 hB1 x (List.mem_of_getElem? hx)
    simpa using this
  · intro i x hx e he hb
    simp only [List.getElem?_toArray] at hx
    have h1 := List.all_eq_true.1 hB2 (x, i) (by rw [List.mem_zipIdx_iff_getElem?]; simpa using hx)
    have h2 := (Array.all_eq_true_iff_forall_mem.1 h1) e he
    simpa [hb] using h2
  · intro j hj
    have h1 := List.all_eq_true.1 hB3 j (List.mem_range.2 hj)
    obtain ⟨⟨x, i⟩, hxi, hx⟩ := List.any_eq_true.1 h1
    simp only [Bool.and_eq_true, decide_eq_true_eq] at hx
    obtain ⟨hji, hany⟩ := hx
    obtain ⟨k, hk, hxk⟩ := Array.any_eq_true.1 hany
    simp at hxk
    have hget : (l ++ [o])[i]? = some x := by rw [List.mem_zipIdx_iff_getElem?] at hxi; simpa using hxi
    have hil : i < l.length + 1 := by
      have := (List.getElem?_eq_some_iff.1 hget).1
      simpa using this
    refine ⟨i, x, hji, by omega, ?_, x.after[k], Array.getElem_mem hk, hxk.1, hxk.2⟩
    simp only [List.getElem?_toArray]
    rw [show l ++ [o, o2] = (l ++ [o]) ++ [o2] by simp, List.getElem?_append_left (by simpa using hil)]
    exact hget
  · obtain ⟨k, hk, hxk⟩ := Array.any_eq_true.1 hB5
    simp at hxk
    exact ⟨o2.after[k], Array.getElem_mem hk, hxk.1, hxk.2⟩
  · intro i x hx hL
    exfalso
    have : (Array.replicate (l ++ [o, o2]).toArray.size false).getD i false = false := by
      simp only [Array.getD_eq_getD_getElem?, Array.getElem?_replicate]
      split <;> rfl
    rw [this] at hL
    cases hL
  · simp
  · simp
  · have hq := wpQuiet_struck (P := P) (C := C) (ops := (l ++ [struck o, struck o2]).toArray) (o := o2) (by simpa [struck] using hg2) (l ++ [struck o]) a (wpQuiet_struck (P := P) (C := C) (ops := (l ++ [struck o, struck o2]).toArray) (o := o) (by simpa [struck] using hg1) l a h)
    have e : l ++ [struck o] ++ [struck o2] = l ++ [struck o, struck o2] := by simp
    rw [e] at hq
    have := wpAnyQ_lex (C := C) (md := .any) hB4.1 (l ++ [struck o, struck o2]) 0 (Array.replicate (l ++ [o, o2]).toArray.size false) a (by simp) (by simpa using hB4.2) hq
    simpa using this

/-- .. the operations written out; the worlds of the class as one type -/
theorem wp_region_two_lit {P : Program} {S : World → Prop} {id : Nat} {Q : Exit → Act → World → Prop} {a : Act} {w : World} {l0 : List Oper} (hne : l0 ≠ []) (hne2 : l0.dropLast ≠ []) (hm : P.follows .mixedOrders = true) (hB : twoB l0.dropLast.dropLast (l0.dropLast.getLast hne2) (l0.getLast hne) = true) (hC : S { w with drawn := w.drawn + 1 })
    (h : wpQuiet P (l0.dropLast.dropLast ++ [struck (l0.dropLast.getLast hne2), struck (l0.getLast hne)]).toArray (fun w' => ∃ u : Wof S, w' = u.val) (fun a' => ∀ w', (∃ u : Wof S, w' = u.val) → (l0.dropLast.getLast hne2).wp P a' w' (fun a w => (l0.getLast hne).wp P a w (fun a w => Q .normal a w) Q) Q) l0.dropLast.dropLast a) : (Code.region id l0.toArray true).wp P Q a w := by
  have e : l0.dropLast.dropLast ++ [l0.dropLast.getLast hne2, l0.getLast hne] = l0 := by
    have e1 := List.dropLast_concat_getLast hne2
    have e2 := List.dropLast_concat_getLast hne
    rw [show ([l0.dropLast.getLast hne2, l0.getLast hne] : List Oper) = [l0.dropLast.getLast hne2] ++ [l0.getLast hne] from rfl, ← List.append_assoc, e1, e2]
  have := wp_region_quiet_two (C := fun w' => ∃ u : Wof S, w' = u.val) (id := id) l0.dropLast.dropLast (l0.dropLast.getLast hne2) (l0.getLast hne) hm hB ⟨⟨_, hC⟩, rfl⟩ h
  rwa [e] at this

end Go
