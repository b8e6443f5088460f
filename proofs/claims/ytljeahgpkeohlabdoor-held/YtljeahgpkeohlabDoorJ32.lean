import Derived.Test.YtljeahgpkeohlabDoorJ15
import Derived.Test.YtljeahgpkeohlabDoorJ29
/- A region in any order whose operations are quiet but for one that waits, through whatever chain, for all the others. -/
namespace Go
section
variable {P : Program} {md : Region.Mode} {C : World → Prop} {ops ops' : Array Oper} {m : Nat} {o o' : Oper}

theorem getD_set_mono {L : Array Bool} {i j : Nat} (h : L.getD j false = true) : (L.setIfInBounds i true).getD j false = true := by
  simp only [Array.getD_eq_getD_getElem?, Array.getElem?_setIfInBounds] at h ⊢
  split
  · split
    · rfl
    · rename_i h1 h2
      subst h1
      rw [Array.getElem?_eq_none (by omega)] at h
      exact h
  · exact h
/-- what was done had done all that it waits for -/
def Settled2 (md : Region.Mode) (ops : Array Oper) (L : Array Bool) : Prop := ∀ i x, ops[i]? = some x → L.getD i false = true → ∀ e ∈ x.after, Region.binds md e = true → L.getD e.on false = true
theorem Settled2.set {L : Array Bool} (h : Settled2 md ops L) {i : Nat} (hi : i ∈ Region.ready md ops L) : Settled2 md ops (L.setIfInBounds i true) := by
  intro j x hx hj e he hb
  by_cases ej : j = i
  · subst ej
    obtain ⟨_, x', hx', hdep⟩ := mem_ready.1 hi
    rw [hx] at hx'
    cases hx'
    exact getD_set_mono (hdep e he hb)
  · refine getD_set_mono (h j x hx ?_ e he hb)
    simp only [Array.getD_eq_getD_getElem?, Array.getElem?_setIfInBounds] at hj ⊢
    rwa [if_neg (Ne.symm ej)] at hj
theorem settled2_none (n : Nat) : Settled2 md ops (Array.replicate n false) := by
  intro i x _ hi
  exfalso
  simp only [Array.getD_eq_getD_getElem?, Array.getElem?_replicate] at hi
  split at hi <;> simp at hi

theorem wpAny_of_quiet_last2 {Q : Exit → Act → World → Prop} (hm : ops[m]? = some o) (hm' : ops'[m]? = some o') (heq : ∀ i, i ≠ m → ops'[i]? = ops[i]?) (hsz : ops'.size = ops.size) (haft : o'.after = o.after)
    (hg : ∀ (i : Nat) (x : Oper), ops[i]? = some x → x.guard = none) (hg' : o'.guard = none) (hd' : o'.dst = none)
    (hlow : ∀ i x, ops[i]? = some x → ∀ e ∈ x.after, Region.binds md e = true → e.on < i) (huse : ∀ j, j < ops.size → j ≠ m → ∃ i x, ops[i]? = some x ∧ j < i ∧ ∃ e ∈ x.after, Region.binds md e = true ∧ e.on = j) (hmax : ops.size = m + 1) :
    ∀ n L a w, L.size = ops.size → L.getD m true = false → Settled2 md ops L → C w → wpAnyQ P md ops' C (fun a' => ∀ w', C w' → o.wp P a' w' (fun a w => Q .normal a w) Q) n L a → wpAny P md ops Q n L a w := by
  have hready : ∀ L, Region.ready md ops' L = Region.ready md ops L := by
    intro L
    unfold Region.ready
    rw [hsz]
    refine List.filter_congr (fun i _ => ?_)
    by_cases e : i = m
    · subst e; rw [hm, hm']; simp [haft]
    · rw [heq i e]
  intro n
  induction n with
  | zero =>
    intro L a w _ hL _ _ h
    exact absurd ((hready L).symm.trans h.1) (ready_ne hlow L m o hm hL)
  | succ n ih =>
    intro L a w hs hL hSh hC h
    refine ⟨fun hn => absurd hn (ready_ne hlow L m o hm hL), fun i hi => ?_⟩
    have hq := h.2 i (by rw [hready]; exact hi)
    by_cases e : i = m
    · subst e
      have hall : Region.ready md ops (L.setIfInBounds i true) = [] := by
        apply List.eq_nil_iff_forall_not_mem.2
        intro j hj
        obtain ⟨hj1, x, hx, _⟩ := mem_ready.1 hj
        have hjl : j < ops.size := (Array.getElem?_eq_some_iff.1 hx).1
        obtain ⟨_, x', hx', hdep⟩ := mem_ready.1 hi
        rw [hm] at hx'
        cases hx'
        by_cases e : j = i
        · subst e; simp [hs, hjl] at hj1
        · have hall : ∀ d, ∀ j, i - j = d → j < i → L.getD j false = true := by
            intro d
            induction d using Nat.strongRecOn with
            | _ d ihd =>
              intro j hd hji
              obtain ⟨i', x', hx', hlt, e', he', hb', rfl⟩ := huse j (by omega) (by omega)
              have hi' : i' < ops.size := (Array.getElem?_eq_some_iff.1 hx').1
              by_cases ei : i' = i
              · subst ei
                rw [hm] at hx'
                cases hx'
                exact hdep e' he' hb'
              · exact hSh i' x' hx' (ihd (i - i') (by omega) i' rfl (by omega)) e' he' hb'
          have := hall _ j rfl (by omega)
          have hl : j < L.size := by omega
          simp [hl] at this
          simp [hl, Ne.symm e, this] at hj1
      have hQ0 : ∀ w', C w' → o.wp P a w' (fun a w => Q .normal a w) Q := by
        have hq' : wpAnyQ P md ops' C (fun a' => ∀ w', C w' → o.wp P a' w' (fun a w => Q .normal a w) Q) n (L.setIfInBounds i true) a := by
          unfold qOp at hq
          simp only [hm'] at hq
          have hw : Region.wanted o' (yielded ops' a.tmps) = true := by simp [Region.wanted, hg']
          simp only [hw, if_true] at hq
          obtain ⟨v, hv, hk⟩ := hq
          rw [hd'] at hk
          exact hk
        cases n with
        | zero => exact hq'.2
        | succ k => exact hq'.1 (by rw [hready]; exact hall)
      unfold wpOp
      simp only [hm]
      have hw : Region.wanted o (yielded ops a.tmps) = true := by simp [Region.wanted, hg i o hm]
      simp only [hw, if_true]
      left
      refine Oper.wp_mono (fun a' w' hk => ?_) (hQ0 w hC)
      cases n with
      | zero => exact ⟨hall, hk⟩
      | succ k => exact ⟨fun _ => hk, fun j hj => by rw [hall] at hj; cases hj⟩
    · have h1 : wpOp P ops' Q i (wpAny P md ops Q n (L.setIfInBounds i true)) a w := by
        refine wpOp_of_qOp hC (fun a' w' hc hk => ih _ a' w' (by simpa using hs) ?_ (hSh.set hi) hc hk) hq
        simp [e] at hL ⊢
        exact hL
      obtain ⟨_, x, hx, _⟩ := mem_ready.1 hi
      unfold wpOp at h1 ⊢
      rw [heq i e, hx] at h1
      rw [hx]
      have hw : ∀ ps : Array Oper, Region.wanted x (yielded ps a.tmps) = true := fun ps => by simp [Region.wanted, hg i x hx]
      simp only [hw, if_true] at h1 ⊢
      exact h1
end

def lastB2 (l : List Oper) (o : Oper) : Bool :=
  (l ++ [o]).all (fun x => x.guard.isNone) && (l ++ [o]).zipIdx.all (fun xi => xi.1.after.all fun e => !Region.binds .any e || decide (e.on < xi.2)) && (List.range l.length).all (fun j => (l ++ [o]).zipIdx.any fun xi => decide (j < xi.2) && xi.1.after.any fun e => Region.binds .any e && e.on == j) && Region.lexB .any (l ++ [struck o]).toArray

theorem wp_region_quiet_last2 {P : Program} {C : World → Prop} {id : Nat} {Q : Exit → Act → World → Prop} {a : Act} {w : World} (l : List Oper) (o : Oper) (hm : P.follows .mixedOrders = true) (hB : lastB2 l o = true) (hC : C { w with drawn := w.drawn + 1 })
    (h : wpQuiet P (l ++ [struck o]).toArray C (fun a' => ∀ w', C w' → o.wp P a' w' (fun a w => Q .normal a w) Q) l a) : (Code.region id (l ++ [o]).toArray true).wp P Q a w := by
  simp only [lastB2, Bool.and_eq_true] at hB
  obtain ⟨⟨⟨hB1, hB2⟩, hB3⟩, hB4⟩ := hB
  simp only [Region.lexB, Bool.and_eq_true] at hB4
  refine wp_region_any hm ?_
  have hlen : ((l ++ [o]).toArray).size = l.length + 1 := by simp
  refine wpAny_of_quiet_last2 (C := C) (ops := (l ++ [o]).toArray) (ops' := (l ++ [struck o]).toArray) (m := l.length) (o := o) (o' := struck o) (by simp) (by simp) ?_ (by simp) rfl ?_ ?_ rfl ?_ ?_ (by simp) _ _ a _ (by simp) (by simp) (settled2_none _) hC ?_
  · intro i hi
    simp only [List.getElem?_toArray]
    rcases Nat.lt_or_ge i l.length with h | h
    · rw [List.getElem?_append_left h, List.getElem?_append_left h]
    · rw [List.getElem?_append_right h, List.getElem?_append_right h]
      have : i - l.length ≠ 0 := by omega
      cases hk : i - l.length with
      | zero => omega
      | succ k => rfl
  · intro i x hx
    simp only [List.getElem?_toArray] at hx
    have := List.all_eq_true.1 hB1 x (List.mem_of_getElem? hx)
    simpa using this
  · have := List.all_eq_true.1 hB1 o (by simp)
    simpa [struck] using this
  · intro i x hx e he hb
    simp only [List.getElem?_toArray] at hx
    have h1 := List.all_eq_true.1 hB2 (x, i) (by rw [List.mem_zipIdx_iff_getElem?]; simpa using hx)
    have h2 := (Array.all_eq_true_iff_forall_mem.1 h1) e he
    simpa [hb] using h2
  · intro j hj hne
    have hj' : j < l.length := by simp at hj; omega
    have h1 := List.all_eq_true.1 hB3 j (List.mem_range.2 hj')
    obtain ⟨xi, hxi, hy⟩ := List.any_eq_true.1 h1
    rw [List.mem_zipIdx_iff_getElem?] at hxi
    simp only [Bool.and_eq_true, decide_eq_true_eq] at hy
    obtain ⟨k, hk, hx⟩ := Array.any_eq_true.1 hy.2
    simp at hx
    exact ⟨xi.2, xi.1, by simpa using hxi, hy.1, xi.1.after[k], Array.getElem_mem hk, hx.1, hx.2⟩
  · have hq : wpQuiet P (l ++ [struck o]).toArray C (fun a' => ∀ w', C w' → o.wp P a' w' (fun a w => Q .normal a w) Q) (l ++ [struck o]) a := by
      have hgs : (struck o).guard = none := by
        have := List.all_eq_true.1 hB1 o (by simp)
        simpa [struck] using this
      exact wpQuiet_struck hgs l a h
    have := wpAnyQ_lex (C := C) (md := .any) hB4.1 (l ++ [struck o]) 0 (Array.replicate (l ++ [o]).toArray.size false) a (by simp) (by simpa using hB4.2) hq
    simpa using this

theorem wp_region_last2_lit {P : Program} {S : World → Prop} {id : Nat} {Q : Exit → Act → World → Prop} {a : Act} {w : World} {l0 : List Oper} (hne : l0 ≠ []) (hm : P.follows .mixedOrders = true) (hB : lastB2 l0.dropLast (l0.getLast hne) = true) (hC : S { w with drawn := w.drawn + 1 })
    (h : wpQuiet P (l0.dropLast ++ [struck (l0.getLast hne)]).toArray (fun w' => ∃ u : Wof S, w' = u.val) (fun a' => ∀ w', (∃ u : Wof S, w' = u.val) → (l0.getLast hne).wp P a' w' (fun a w => Q .normal a w) Q) l0.dropLast a) : (Code.region id l0.toArray true).wp P Q a w := by
  have e := List.dropLast_concat_getLast hne
  have := wp_region_quiet_last2 (C := fun w' => ∃ u : Wof S, w' = u.val) (id := id) l0.dropLast (l0.getLast hne) hm hB ⟨⟨_, hC⟩, rfl⟩ h
  rwa [e] at this

end Go

namespace Go.Proofs.YtljeahgpkeohlabDoor
open Go.RowKit

/-- the program closes a batch as the document does -/
def CloseOk : Prop := ∀ (p : Nat) (vb : Nat → Value) (M : Mk.Mkt) (c : Mk.Cmd) (W : World), Mk.Sound M → Mk.One M → c.Ok → c.d = .close → PM W p vb M → Tab W →
  Calls Tryd.prog 31 #[.pointer (some ⟨p, 0, none⟩), reqV c] W fun e w' => PDoT p vb ((Mk.shutM M (Mk.nth c.n 0)).1, 0, (Mk.shutM M (Mk.nth c.n 0)).2) W e w'
theorem all_carry (hC : CloseOk) (p : Nat) (vb : Nat → Value) (M : Mk.Mkt) (c : Mk.Cmd) (hM : Mk.Sound M) (h1 : Mk.One M) (hok : c.Ok) (W : World) (hP : PM W p vb M) (hT : Tab W) :
    Calls Tryd.prog 31 #[.pointer (some ⟨p, 0, none⟩), reqV c] W fun e w' => PDoT p vb (Mk.allM M c) W e w' := by
  rcases close_or c.d with e | e
  · rw [all_close e]; exact hC p vb M c W hM h1 hok e hP hT
  · rw [all_book e]; exact book_carry p vb M c hM hok e W hP hT
theorem all_dos (hC : CloseOk) (p : Nat) (vb : Nat → Value) (M : Mk.Mkt) (k : Nat) (s : ByteArray) (w : World) (h : AInv M k) (hP : PM w p vb M) (hT : Tab w) :
    Calls Tryd.prog 22 #[.pointer (some ⟨p, 0, none⟩), .string s] w fun e w' => PDoT p vb (Mk.doM (Mk.allM M) M s) w e w' :=
  pdo_any2 p vb M s w (Mk.allM M) h.well.ls hP (fun c hc _ W hb hW => all_carry hC p vb M c h.sound h.one (Mk.read_ok hc).1 W hW (hT.next hb))

end Go.Proofs.YtljeahgpkeohlabDoor
