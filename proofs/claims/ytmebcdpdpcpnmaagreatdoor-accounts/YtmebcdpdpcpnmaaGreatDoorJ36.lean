import Derived.Test.YtmebcdpdpcpnmaaGreatDoorJ35
import Derived.Test.YtmebcdpdpcpnmaaGreatDoorJ14
namespace Go.Proofs.YtmebcdpdpcpnmaaGreatDoor
open Go.RowKit

theorem Tryz.infoPair : (Tryz.prog.info? 42).map (fun i => (i.zero, i.size, i.bytes)) = some (some (.pointer none), 1, 8) := by kernel_rfl
theorem phas_nil {x k : Nat} (h : PHas x nilV k) : k = x := by
  rcases h with h | ⟨v, _, h⟩
  · exact h
  · simp [nilV, Value.ownBlock] at h

section
variable {E : Ext} {D : Mk.Mkt → ByteArray → ByteArray × Int × Mk.Mkt} {Inv : Mk.Mkt → Nat → Prop} {Ok : ByteArray → Prop}

theorem inv_any (hD : Doing D Inv Ok) : ∀ k, Inv Mk.Mkt.new k
  | 0 => hD.new
  | k + 1 => hD.up _ _ (inv_any hD k)

set_option maxRecDepth 100000 in
set_option maxHeartbeats 4000000 in
theorem step_new (hD : Doing D Inv Ok) (B : Nat) (vm : Value) (s : Mks) (k : Nat) (m a b : Int) (t : ByteArray) (oa : Option Addr) (n cap : Nat) (w : World) (hk : k < 1048576) (hm : s.m ≤ k)
    (hS : Sm E w B vm s) (hI : ∀ i, i < s.m → s.Mp i = s.Mr i ∧ Inv (s.Mp i) k) :
    Calls Tryz.prog 12 #[.pointer (some ⟨B, 0, none⟩), opV 4 m a b t oa n cap] w fun e w' => Lm E Inv w B k e w' := by
  obtain ⟨i0, hi0, hz0, hz1, hz2⟩ := info_parts Tryz.infoPair
  obtain ⟨ao, co, rfl⟩ := own_form hS.own
  have HD : Hid (Doing D Inv Ok) := hD
  have HI : Hid (∀ i, i < s.m → s.Mp i = s.Mr i ∧ Inv (s.Mp i) k) := hI
  have HB1 : Hid (Below w.heap.size w (w.alloc (opO 4 m a b t oa n cap))) := (Below.refl _ _).alloc (Nat.le_refl _) _
  have HS1 : Hid (Sm E (w.alloc (opO 4 m a b t oa n cap)) B (.slice ao s.m co) s) := hS.below HB1.out
  have hBw := hS.lt
  clear hI hS hD
  go_enter Tryz.func12, Tryz.ntmps12
  go_wp2_with fail
  generalize w.alloc (opO 4 m a b t oa n cap) = W1 at *
  refine (pnew_any W1).mono ?_
  rintro e w2 ⟨rfl, hP2, hb2⟩
  have HP2 : Hid (PM w2 W1.heap.size nilV Mk.Mkt.new) := hP2
  have HB2 : Hid (Below W1.heap.size W1 w2) := hb2
  clear hP2 hb2
  go_wp2_with fail
  refine (rnew_any w2).mono ?_
  rintro e w3 ⟨p, bb, rfl, hR3, hn3, hb3⟩
  have HR3 : Hid (Ref w3 p bb Mk.Mkt.new) := hR3
  have HN3 : Hid (∀ k, bb.has p k → w2.heap.size ≤ k) := hn3
  have HB3 : Hid (Below W1.heap.size W1 w3) := HB2.out.trans (hb3.mono HB2.out.size)
  have HP3 : Hid (PM w3 W1.heap.size nilV Mk.Mkt.new) := HP2.out.below hb3
  have HS3 : Hid (Sm E w3 B (.slice ao s.m co) s) := HS1.out.below HB3.out
  have hx2 : W1.heap.size < w2.heap.size := HP2.out.box.lt
  have hx3 : w2.heap.size ≤ w3.heap.size := hb3.size
  clear hR3 hn3 hb3
  have c0 := HS3.out.c0
  have z0 := HS3.out.z0
  have hB3 := HS3.out.lt
  -- the pair
  have HBq : Hid (Below w3.heap.size w3 (w3.alloc (.cells #[.pointer (some ⟨W1.heap.size, 0, none⟩), .pointer (some ⟨p, 0, none⟩)] 44))) := (Below.refl _ _).alloc (Nat.le_refl _) _
  have HC : Hid (Sc (w3.alloc (.cells #[.pointer (some ⟨W1.heap.size, 0, none⟩), .pointer (some ⟨p, 0, none⟩)] 44)) B (.slice ao s.m co) (s.push w3.heap.size W1.heap.size p nilV bb Mk.Mkt.new)) := by
    refine Sc.push HS1.out (HB3.out.trans (HBq.out.mono HB3.out.size)) (HP3.out.below HBq.out) (HR3.out.below HBq.out) ?_ (fun k hk => by rw [phas_nil hk]; exact Nat.le_refl _) (fun k hk => by have := HN3.out k hk; omega) (by omega) (fun k hk hk' => by have := HN3.out k hk'; have := phas_nil hk; omega) ⟨fun h => by have := phas_nil h; omega, fun h => by have := HR3.out.lt h; omega⟩
    exact World.rowIs_alloc w3 #[.pointer (some ⟨W1.heap.size, 0, none⟩), .pointer (some ⟨p, 0, none⟩)] 44 (prF W1.heap.size p) (fun i hi => by match i, hi with | 0, _ => rfl | 1, _ => rfl)
  have HOw : Hid ((w3.alloc (.cells #[.pointer (some ⟨W1.heap.size, 0, none⟩), .pointer (some ⟨p, 0, none⟩)] 44)).ownsRow (B + 1) 42 1 (.slice ao s.m co) s.m (ptrs s.q s.m)) := own_below HS3.out.own HBq.out (fun k hk => (HS3.out.own.lt k hk).2)
  go_upto_region 9 with fail
  go_wp2_with (at_builtin; (refine wpList_append_lies _ rfl _ _ _ rfl (B + 1) 42 i0 _ 1 8 Tryz.underlying27 hi0 hz0 hz1 hz2 rfl (by omega) _ s.m (ptrs s.q s.m) rfl (HOw.out.alloc _) ⟨w3.heap.size + 1, 0, none⟩ 1 1 [.pointer (some ⟨w3.heap.size, 0, none⟩)] rfl rfl (World.news_of_block (cs := #[.pointer (some ⟨w3.heap.size, 0, none⟩)]) (t := 42) (fr := (0, 0)) ?_) (by simp [Value.oneCell']) (by omega) (by unfold maxLen; omega) (by omega) (by simp; omega) (w3.heap.size + 2) (by simp) ?_))
  · have h := heap_alloc_new (w3.alloc (.cells #[.pointer (some ⟨W1.heap.size, 0, none⟩), .pointer (some ⟨p, 0, none⟩)] 44)) (.cells #[.pointer (some ⟨w3.heap.size, 0, none⟩)] 42)
    simpa using h
  · intro gg cap' w5 hown5 hgrow hat hlt5
    have hb4 : Below w3.heap.size w3 ((w3.alloc (.cells #[.pointer (some ⟨W1.heap.size, 0, none⟩), .pointer (some ⟨p, 0, none⟩)] 44)).alloc (.cells #[.pointer (some ⟨w3.heap.size, 0, none⟩)] 42)) := HBq.out.alloc (by simp) _
    have hfar : some B ≠ (Value.slice ao s.m co).ownBlock := fun e => by have := (HS3.out.own.lt B e.symm).1; omega
    have hl4 : w3.heap.size ≤ ((w3.alloc (.cells #[.pointer (some ⟨W1.heap.size, 0, none⟩), .pointer (some ⟨p, 0, none⟩)] 44)).alloc (.cells #[.pointer (some ⟨w3.heap.size, 0, none⟩)] 42)).heap.size := hb4.size
    have cell5 : ∀ i, w5.cell? ⟨B, i, none⟩ = w3.cell? ⟨B, i, none⟩ := fun i => (hgrow.cell_far ⟨B, i, none⟩ (by show B < _; omega) hfar).trans (hb4.cell (p := ⟨B, i, none⟩) hB3)
    have d0 : w5.cell? ⟨B, 0, none⟩ = some (.slice ao s.m co) := (cell5 0).trans c0
    have d1 : w5.cell? ⟨B, 1, none⟩ = some E.v1 := (cell5 1).trans HS3.out.c1
    have d2 : w5.cell? ⟨B, 2, none⟩ = some E.v2 := (cell5 2).trans HS3.out.c2
    have froz5 : ∀ i, w5.frozen? ⟨B, i, none⟩ = w3.frozen? ⟨B, i, none⟩ := fun i => (hgrow.frozen_far ⟨B, i, none⟩ (by show B < _; omega) hfar).trans (hb4.frozen (p := ⟨B, i, none⟩) hB3)
    have hfar2 : ∀ k, E.X k → (w5.setCell ⟨B, 0, none⟩ (.slice (some ⟨gg, 0, none⟩) (s.m + 1) cap')).heap[k]? = E.H k ∧ k < w5.heap.size ∧ gg ≠ k := fun k hk => by
      obtain ⟨x1, x2, x3, x4, _⟩ := HS3.out.ext k hk
      refine ⟨(Below.heap_setCell w5 _ _ k x3).trans ((hgrow.block k (by omega) (fun e => x4 e.symm)).trans ((hb4.block k x1).trans x2)), ?_, fun e => ?_⟩
      · have := hgrow.size; omega
      · rcases hat with e1 | e1
        · exact x4 (e ▸ e1)
        · rw [e1] at e; omega
    have y0 : w5.frozen? ⟨B, 0, none⟩ = false := ((hgrow.frozen_far ⟨B, 0, none⟩ (by show B < _; omega) hfar).trans (hb4.frozen (p := ⟨B, 0, none⟩) hB3)).trans z0
    have HSm : Hid (Sm E (w5.setCell ⟨B, 0, none⟩ (.slice (some ⟨gg, 0, none⟩) (s.m + 1) cap')) B (.slice (some ⟨gg, 0, none⟩) (s.m + 1) cap') (s.push w3.heap.size W1.heap.size p nilV bb Mk.Mkt.new)) := by
      refine ⟨cell_set_same d0, by simpa using y0, cell_set_ne (by omega) d1, by simpa using (froz5 1).trans HS3.out.z1, cell_set_ne (by omega) d2, by simpa using (froz5 2).trans HS3.out.z2, ?_, ?_, fun k hk => ?_⟩
      · show World.ownsRow _ (B + 1) 42 1 _ (s.m + 1) (ptrs (upd s.q s.m w3.heap.size) (s.m + 1))
        rw [ptrs_push]
        exact ownsRow_setCell_below hown5 (by simp) _
      · refine Sc.setB ?_ _ _
        have h1 := HC.out.below ((Below.refl _ _).alloc (Nat.le_refl _) (.cells #[.pointer (some ⟨w3.heap.size, 0, none⟩)] 42))
        refine h1.grown hgrow ?_
        rcases hat with e | e
        · exact .inl e
        · exact .inr (by rw [e]; simp)
      · obtain ⟨f1, f2, f3⟩ := hfar2 k hk
        obtain ⟨p1, p2⟩ := ext_push (q := w3.heap.size) (x := W1.heap.size) (p := p) (vb := nilV) (b := bb) (M := Mk.Mkt.new) HS1.out (fun k hk => by rw [phas_nil hk]; exact Nat.le_refl _) (fun k hk => by have := HN3.out k hk; omega) (by omega) hk
        exact ⟨by simpa using f2, f1, (HS3.out.ext k hk).2.2.1, fun e => f3 (by simpa [Value.ownBlock] using e), p1, p2⟩
    have HBf : Hid (Below B w (w5.setCell ⟨B, 0, none⟩ (.slice (some ⟨gg, 0, none⟩) (s.m + 1) cap'))) := by
      have h1 : Below B w w3 := (HB1.out.mono (by omega)).trans (HB3.out.mono (by have := HS1.out.lt; omega))
      have h2 : Below B w ((w3.alloc (.cells #[.pointer (some ⟨W1.heap.size, 0, none⟩), .pointer (some ⟨p, 0, none⟩)] 44)).alloc (.cells #[.pointer (some ⟨w3.heap.size, 0, none⟩)] 42)) := h1.trans (hb4.mono (by omega))
      refine (h2.grown hgrow (by omega) (fun k hk => ?_)).setCell (p := ⟨B, 0, none⟩) (Nat.le_refl _) _
      have := (HS3.out.own.lt k hk).1
      omega
    have HIv : Hid (∀ j, j < s.m + 1 → upd s.Mp s.m Mk.Mkt.new j = upd s.Mr s.m Mk.Mkt.new j ∧ Inv (upd s.Mp s.m Mk.Mkt.new j) (k + 1)) := fun j hj => by
      by_cases e : j = s.m
      · subst e
        rw [upd_self, upd_self]
        exact ⟨rfl, inv_any HD.out _⟩
      · rw [upd_ne _ _ e, upd_ne _ _ e]
        exact ⟨(HI.out j (by omega)).1, HD.out.up _ _ (HI.out j (by omega)).2⟩
    clear hown5 hgrow hat hlt5 hb4 hfar hl4 cell5 d1 d2 froz5 hfar2 c0 z0
    go_wp2
    go_ret
    exact ⟨rfl, _, _, HSm.out, HIv.out, by show s.m + 1 ≤ k + 1; omega, HBf.out⟩

end

end Go.Proofs.YtmebcdpdpcpnmaaGreatDoor

/- A region in any order whose operations are quiet but for one that waits for all that stand ahead of it, and one behind it. -/
namespace Go
section
variable {P : Program} {md : Region.Mode} {C : World → Prop} {ops ops' : Array Oper} {m : Nat} {o o' o2 o2' : Oper} {L : Array Bool}

/-- what is listed has all that it waits for listed -/
def Closed (md : Region.Mode) (ops : Array Oper) (L : Array Bool) : Prop := ∀ i x, ops[i]? = some x → L.getD i false = true → ∀ e ∈ x.after, Region.binds md e = true → L.getD e.on false = true

theorem getD_set {i j : Nat} (hi : i < L.size) : (L.setIfInBounds i true).getD j false = (if j = i then true else L.getD j false) := by
  by_cases e : j = i
  · subst e; simp [hi]
  · rw [if_neg e]
    simp [Ne.symm e]
theorem getD_any {j : Nat} (hj : j < L.size) : L.getD j true = L.getD j false := by simp [hj]

theorem Closed.add (hC : Closed md ops L) {i : Nat} (hi : i ∈ Region.ready md ops L) (hs : i < L.size) : Closed md ops (L.setIfInBounds i true) := by
  intro j x hx hj e he hb
  rw [getD_set hs] at hj ⊢
  split
  · rfl
  · by_cases e1 : j = i
    · subst e1
      obtain ⟨_, x', hx', hdep⟩ := mem_ready.1 hi
      rw [hx] at hx'
      cases hx'
      exact hdep e he hb
    · rw [if_neg e1] at hj
      exact hC j x hx hj e he hb

theorem all_listed (hC : Closed md ops L) (hm : ops[m]? = some o) (hi : m ∈ Region.ready md ops L)
    (hsucc : ∀ j, j < m → ∃ i x, j < i ∧ i ≤ m ∧ ops[i]? = some x ∧ ∃ e ∈ x.after, Region.binds md e = true ∧ e.on = j) : ∀ d j, m - j = d → j < m → L.getD j false = true := by
  intro d
  induction d using Nat.strongRecOn with
  | _ d ih =>
    intro j hd hj
    obtain ⟨i, x, h1, h2, hx, e, he, hb, rfl⟩ := hsucc j hj
    by_cases e1 : i = m
    · subst e1
      obtain ⟨_, x', hx', hdep⟩ := mem_ready.1 hi
      rw [hx] at hx'
      cases hx'
      exact hdep e he hb
    · exact hC i x hx (ih (m - i) (by omega) i rfl (by omega)) e he hb

theorem wpAny_of_quiet_two {Q : Exit → Act → World → Prop} (hm : ops[m]? = some o) (hm2 : ops[m + 1]? = some o2) (hsz : ops.size = m + 2) (hm' : ops'[m]? = some o') (hm2' : ops'[m + 1]? = some o2') (heq : ∀ i, i < m → ops'[i]? = ops[i]?) (hsz' : ops'.size = ops.size)
    (haft : o'.after = o.after) (haft2 : o2'.after = o2.after) (hg : ∀ (i : Nat) (x : Oper), ops[i]? = some x → x.guard = none) (hg' : o'.guard = none) (hd' : o'.dst = none) (hg2' : o2'.guard = none) (hd2' : o2'.dst = none)
    (hlow : ∀ i x, ops[i]? = some x → ∀ e ∈ x.after, Region.binds md e = true → e.on < i) (hsucc : ∀ j, j < m → ∃ i x, j < i ∧ i ≤ m ∧ ops[i]? = some x ∧ ∃ e ∈ x.after, Region.binds md e = true ∧ e.on = j) (h2 : ∃ e ∈ o2.after, Region.binds md e = true ∧ e.on = m) :
    ∀ n L a w, L.size = ops.size → Closed md ops L → L.getD m false = false → L.getD (m + 1) false = false → C w →
      wpAnyQ P md ops' C (fun a' => ∀ w', C w' → o.wp P a' w' (fun a w => o2.wp P a w (fun a w => Q .normal a w) Q) Q) n L a → wpAny P md ops Q n L a w := by
  have hready : ∀ L, Region.ready md ops' L = Region.ready md ops L := by
    intro L
    unfold Region.ready
    rw [hsz']
    refine List.filter_congr (fun i hi => ?_)
    have hi' : i < m + 2 := by rw [← hsz]; exact List.mem_range.1 hi
    by_cases e : i = m
    · subst e; rw [hm, hm']; simp [haft]
    · by_cases e2 : i = m + 1
      · subst e2; rw [hm2, hm2']; simp [haft2]
      · rw [heq i (by omega)]
  intro n
  induction n with
  | zero =>
    intro L a w hs _ hL _ _ h
    exact absurd ((hready L).symm.trans h.1) (ready_ne hlow L m o hm (by rw [getD_any (by omega)]; exact hL))
  | succ n ih =>
    intro L a w hs hcl hL hL2 hC h
    have hLm : L.getD m true = false := by rw [getD_any (by omega)]; exact hL
    refine ⟨fun hn => absurd hn (ready_ne hlow L m o hm hLm), fun i hi => ?_⟩
    have hq := h.2 i (by rw [hready]; exact hi)
    obtain ⟨_, x, hx, hdepx⟩ := mem_ready.1 hi
    have hil : i < ops.size := (Array.getElem?_eq_some_iff.1 hx).1
    by_cases e2 : i = m + 1
    · subst e2
      rw [hm2] at hx
      cases hx
      obtain ⟨d, hd, hb, rfl⟩ := h2
      have := hdepx d hd hb
      rw [hL] at this
      cases this
    by_cases e : i = m
    · subst e
      have hall := all_listed hcl hm hi hsucc
      have hs1 : i < L.size := by omega
      have hs2 : i + 1 < (L.setIfInBounds i true).size := by simp; omega
      -- behind it the one that is left
      have r1 : i + 1 ∈ Region.ready md ops (L.setIfInBounds i true) := by
        rw [mem_ready]
        refine ⟨?_, o2, hm2, fun d hd hb => ?_⟩
        · rw [getD_any (by simpa using (by omega : i + 1 < L.size)), getD_set hs1, if_neg (by omega)]; exact hL2
        · have hlt := hlow _ _ hm2 d hd hb
          rw [getD_set hs1]
          split
          · rfl
          · exact hall _ d.on rfl (by omega)
      have r1' : ∀ j, j ∈ Region.ready md ops (L.setIfInBounds i true) → j = i + 1 := by
        intro j hj
        obtain ⟨hj1, y, hy, _⟩ := mem_ready.1 hj
        have hjl : j < ops.size := (Array.getElem?_eq_some_iff.1 hy).1
        rw [getD_any (by simpa using (by omega : j < L.size)), getD_set hs1] at hj1
        by_cases e3 : j = i
        · rw [if_pos e3] at hj1; cases hj1
        · rw [if_neg e3] at hj1
          by_cases e4 : j < i
          · rw [hall _ j rfl e4] at hj1; cases hj1
          · omega
      have r2 : Region.ready md ops ((L.setIfInBounds i true).setIfInBounds (i + 1) true) = [] := by
        apply List.eq_nil_iff_forall_not_mem.2
        intro j hj
        obtain ⟨hj1, y, hy, _⟩ := mem_ready.1 hj
        have hjl : j < ops.size := (Array.getElem?_eq_some_iff.1 hy).1
        rw [getD_any (by simpa using (by omega : j < L.size)), getD_set hs2, getD_set hs1] at hj1
        by_cases e3 : j = i + 1
        · rw [if_pos e3] at hj1; cases hj1
        · rw [if_neg e3] at hj1
          by_cases e5 : j = i
          · rw [if_pos e5] at hj1; cases hj1
          · rw [if_neg e5, hall _ j rfl (by omega)] at hj1; cases hj1
      have hq' : wpAnyQ P md ops' C (fun a' => ∀ w', C w' → o.wp P a' w' (fun a w => o2.wp P a w (fun a w => Q .normal a w) Q) Q) n (L.setIfInBounds i true) a := by
        unfold qOp at hq
        simp only [hm'] at hq
        have hw : Region.wanted o' (yielded ops' a.tmps) = true := by simp [Region.wanted, hg']
        simp only [hw, if_true] at hq
        obtain ⟨v, hv, hk⟩ := hq
        rw [hd'] at hk
        exact hk
      cases n with
      | zero =>
        have := hq'.1
        rw [hready] at this
        rw [this] at r1
        cases r1
      | succ k =>
        have hQ0 : ∀ w', C w' → o.wp P a w' (fun a w => o2.wp P a w (fun a w => Q .normal a w) Q) Q := by
          have hq2 := hq'.2 (i + 1) (by rw [hready]; exact r1)
          have hq3 : wpAnyQ P md ops' C (fun a' => ∀ w', C w' → o.wp P a' w' (fun a w => o2.wp P a w (fun a w => Q .normal a w) Q) Q) k ((L.setIfInBounds i true).setIfInBounds (i + 1) true) a := by
            unfold qOp at hq2
            simp only [hm2'] at hq2
            have hw : Region.wanted o2' (yielded ops' a.tmps) = true := by simp [Region.wanted, hg2']
            simp only [hw, if_true] at hq2
            obtain ⟨v, hv, hk⟩ := hq2
            rw [hd2'] at hk
            exact hk
          cases k with
          | zero => exact hq3.2
          | succ k' => exact hq3.1 (by rw [hready]; exact r2)
        unfold wpOp
        simp only [hm]
        have hw : Region.wanted o (yielded ops a.tmps) = true := by simp [Region.wanted, hg i o hm]
        simp only [hw, if_true]
        left
        refine Oper.wp_mono (fun a' w' hk => ?_) (hQ0 w hC)
        refine ⟨fun hn => (by rw [hn] at r1; cases r1), fun j hj => ?_⟩
        obtain rfl := r1' j hj
        unfold wpOp
        simp only [hm2]
        have hw2 : Region.wanted o2 (yielded ops a'.tmps) = true := by simp [Region.wanted, hg _ o2 hm2]
        simp only [hw2, if_true]
        left
        refine Oper.wp_mono (fun a2 w2 hk2 => ?_) hk
        cases k with
        | zero => exact ⟨r2, hk2⟩
        | succ k' => exact ⟨fun _ => hk2, fun j hj => (by rw [r2] at hj; cases hj)⟩
    · have h1 : wpOp P ops' Q i (wpAny P md ops Q n (L.setIfInBounds i true)) a w := by
        refine wpOp_of_qOp hC (fun a' w' hc hk => ih _ a' w' (by simpa using hs) (hcl.add hi (by omega)) ?_ ?_ hc hk) hq
        · rw [getD_set (by omega), if_neg (Ne.symm e)]; exact hL
        · rw [getD_set (by omega), if_neg (Ne.symm e2)]; exact hL2
      unfold wpOp at h1 ⊢
      rw [heq i (by omega), hx] at h1
      rw [hx]
      have hw : ∀ ps : Array Oper, Region.wanted x (yielded ps a.tmps) = true := fun ps => by simp [Region.wanted, hg i x hx]
      simp only [hw, if_true] at h1 ⊢
      exact h1
end

def twoB (l : List Oper) (o o2 : Oper) : Bool :=
  (l ++ [o, o2]).all (fun x => x.guard.isNone) && (l ++ [o, o2]).zipIdx.all (fun xi => xi.1.after.all fun e => !Region.binds .any e || decide (e.on < xi.2)) &&
    (List.range l.length).all (fun j => (l ++ [o]).zipIdx.any (fun xi => decide (j < xi.2) && xi.1.after.any fun e => Region.binds .any e && e.on == j)) && (o2.after.any fun e => Region.binds .any e && e.on == l.length) && Region.lexB .any (l ++ [struck o, struck o2]).toArray

theorem wp_region_quiet_two {P : Program} {C : World → Prop} {id : Nat} {Q : Exit → Act → World → Prop} {a : Act} {w : World} (l : List Oper) (o o2 : Oper) (hm : P.follows .mixedOrders = true) (hB : twoB l o o2 = true) (hC : C { w with drawn := w.drawn + 1 })
    (h : wpQuiet P (l ++ [struck o, struck o2]).toArray C (fun a' => ∀ w', C w' → o.wp P a' w' (fun a w => o2.wp P a w (fun a w => Q .normal a w) Q) Q) l a) : (Code.region id (l ++ [o, o2]).toArray true).wp P Q a w := by
  simp only [twoB, Bool.and_eq_true] at hB
  obtain ⟨⟨⟨⟨hB1, hB2⟩, hB3⟩, hB5⟩, hB4⟩ := hB
  simp only [Region.lexB, Bool.and_eq_true] at hB4
  refine wp_region_any hm ?_
  have hg1 : o.guard = none := by have := List.all_eq_true.1 hB1 o (by simp); simpa using this
  have hg2 : o2.guard = none := by have := List.all_eq_true.1 hB1 o2 (by simp); simpa using this
  refine wpAny_of_quiet_two (C := C) (ops := (l ++ [o, o2]).toArray) (ops' := (l ++ [struck o, struck o2]).toArray) (m := l.length) (o := o) (o' := struck o) (o2 := o2) (o2' := struck o2) (by simp) (by simp) (by simp) (by simp) (by simp) ?_ (by simp) rfl rfl ?_ (by simpa [struck] using hg1) rfl (by simpa [struck] using hg2) rfl ?_ ?_ ?_ _ _ a _ (by simp) ?_ ?_ ?_ hC ?_
  · intro i hi
    simp only [List.getElem?_toArray]
    rw [List.getElem?_append_left hi, List.getElem?_append_left hi]
  · intro i x hx
    simp only [List.getElem?_toArray] at hx
    have := List.all_eq_true.1 hB1 x (List.mem_of_getElem? hx)
    simpa using this
  · intro i x hx e he hb
    simp only [List.getElem?_toArray] at hx
    have h1 := List.all_eq_true.1 hB2 (x, i) (by rw [List.mem_zipIdx_iff_getElem?]; simpa using hx)
    have h2 := (Array.all_eq_true_iff_forall_mem.1 h1) e he
    simpa [hb] using h2
  · intro j hj
    have h1 := List.all_eq_true.1 hB3 j (List.mem_range.2 hj)
    obtain ⟨⟨x, i⟩, hxi, hx⟩ := List.any_eq_true.1 h1
    simp only [Bool.and_eq_true, decide_eq_true_eq] at hx
    obtain ⟨hji, hany⟩ := hx
    obtain ⟨k, hk, hxk⟩ := Array.any_eq_true.1 hany
    simp at hxk
    have hget : (l ++ [o])[i]? = some x := by rw [List.mem_zipIdx_iff_getElem?] at hxi; simpa using hxi
    have hil : i < l.length + 1 := by
      have := (List.getElem?_eq_some_iff.1 hget).1
      simpa using this
    refine ⟨i, x, hji, by omega, ?_, x.after[k], Array.getElem_mem hk, hxk.1, hxk.2⟩
    simp only [List.getElem?_toArray]
    rw [show l ++ [o, o2] = (l ++ [o]) ++ [o2] by simp, List.getElem?_append_left (by simpa using hil)]
    exact hget
  · obtain ⟨k, hk, hxk⟩ := Array.any_eq_true.1 hB5
    simp at hxk
    exact ⟨o2.after[k], Array.getElem_mem hk, hxk.1, hxk.2⟩
  · intro i x hx hL
    exfalso
    have : (Array.replicate (l ++ [o, o2]).toArray.size false).getD i false = false := by
      simp only [Array.getD_eq_getD_getElem?, Array.getElem?_replicate]
      split <;> rfl
    rw [this] at hL
    cases hL
  · simp
  · simp
  · have hq := wpQuiet_struck (P := P) (C := C) (ops := (l ++ [struck o, struck o2]).toArray) (o := o2) (by simpa [struck] using hg2) (l ++ [struck o]) a (wpQuiet_struck (P := P) (C := C) (ops := (l ++ [struck o, struck o2]).toArray) (o := o) (by simpa [struck] using hg1) l a h)
    have e : l ++ [struck o] ++ [struck o2] = l ++ [struck o, struck o2] := by simp
    rw [e] at hq
    have := wpAnyQ_lex (C := C) (md := .any) hB4.1 (l ++ [struck o, struck o2]) 0 (Array.replicate (l ++ [o, o2]).toArray.size false) a (by simp) (by simpa using hB4.2) hq
    simpa using this

/-- .. the operations written out; the worlds of the class as one type -/
theorem wp_region_two_lit {P : Program} {S : World → Prop} {id : Nat} {Q : Exit → Act → World → Prop} {a : Act} {w : World} {l0 : List Oper} (hne : l0 ≠ []) (hne2 : l0.dropLast ≠ []) (hm : P.follows .mixedOrders = true) (hB : twoB l0.dropLast.dropLast (l0.dropLast.getLast hne2) (l0.getLast hne) = true) (hC : S { w with drawn := w.drawn + 1 })
    (h : wpQuiet P (l0.dropLast.dropLast ++ [struck (l0.dropLast.getLast hne2), struck (l0.getLast hne)]).toArray (fun w' => ∃ u : Wof S, w' = u.val) (fun a' => ∀ w', (∃ u : Wof S, w' = u.val) → (l0.dropLast.getLast hne2).wp P a' w' (fun a w => (l0.getLast hne).wp P a w (fun a w => Q .normal a w) Q) Q) l0.dropLast.dropLast a) : (Code.region id l0.toArray true).wp P Q a w := by
  have e : l0.dropLast.dropLast ++ [l0.dropLast.getLast hne2, l0.getLast hne] = l0 := by
    have e1 := List.dropLast_concat_getLast hne2
    have e2 := List.dropLast_concat_getLast hne
    rw [show ([l0.dropLast.getLast hne2, l0.getLast hne] : List Oper) = [l0.dropLast.getLast hne2] ++ [l0.getLast hne] from rfl, ← List.append_assoc, e1, e2]
  have := wp_region_quiet_two (C := fun w' => ∃ u : Wof S, w' = u.val) (id := id) l0.dropLast.dropLast (l0.dropLast.getLast hne2) (l0.getLast hne) hm hB ⟨⟨_, hC⟩, rfl⟩ h
  rwa [e] at this

end Go

namespace Go.Proofs.YtmebcdpdpcpnmaaGreatDoor
open Go.RowKit

section
variable {E : Ext} {D : Mk.Mkt → ByteArray → ByteArray × Int × Mk.Mkt} {Inv : Mk.Mkt → Nat → Prop} {Ok : ByteArray → Prop}

set_option maxRecDepth 100000 in
set_option maxHeartbeats 4000000 in
theorem step_call (hD : Doing D Inv Ok) (B : Nat) (vm : Value) (s : Mks) (k : Nat) (kind m a b : Int) (t : ByteArray) (oa : Option Addr) (n cap : Nat) (w : World) (h5 : 5 ≤ kind) (h7 : kind ≤ 8) (hk : k < 1048576) (hm : s.m ≤ k) (hm1 : -9223372036854775808 ≤ m) (hm2 : m ≤ 9223372036854775807) (hT : Tab w)
    (hS : Sm E w B vm s) (hI : ∀ i, i < s.m → s.Mp i = s.Mr i ∧ Inv (s.Mp i) k)
    (hC : ∀ i, i < s.m → ∀ W, Sm E W B vm s → Tab W → Calls Tryz.prog 22 #[.pointer (some ⟨s.q i, 0, none⟩), opV kind m a b t oa n cap] W fun e w' => Lm E Inv W B k e w') :
    Calls Tryz.prog 12 #[.pointer (some ⟨B, 0, none⟩), opV kind m a b t oa n cap] w fun e w' => Lm E Inv w B k e w' := by
  obtain ⟨ao, co, rfl⟩ := own_form hS.own
  have HIF : Hid (∀ j, j < s.m → s.Mp j = s.Mr j ∧ Inv (s.Mp j) (k + 1)) := fun j hj => ⟨(hI j hj).1, hD.up _ _ (hI j hj).2⟩
  have HC : Hid (∀ i, i < s.m → ∀ W, Sm E W B (.slice ao s.m co) s → Tab W → Calls Tryz.prog 22 #[.pointer (some ⟨s.q i, 0, none⟩), opV kind m a b t oa n cap] W fun e w' => Lm E Inv W B k e w') := hC
  have HB1 : Hid (Below w.heap.size w (w.alloc (opO kind m a b t oa n cap))) := (Below.refl _ _).alloc (Nat.le_refl _) _
  have HS1 : Hid (Sm E (w.alloc (opO kind m a b t oa n cap)) B (.slice ao s.m co) s) := hS.below HB1.out
  have HT1 : Hid (Tab (w.alloc (opO kind m a b t oa n cap))) := hT.next HB1.out
  have hBw := hS.lt
  have x0 : (w.alloc (opO kind m a b t oa n cap)).cell? ⟨w.heap.size, 0, none⟩ = some (.int .i64 kind) := by simp
  have x1 : (w.alloc (opO kind m a b t oa n cap)).cell? ⟨w.heap.size, 1, none⟩ = some (.int .i64 m) := by simp
  have x2 : (w.alloc (opO kind m a b t oa n cap)).cell? ⟨w.heap.size, 2, none⟩ = some (.int .i64 a) := by simp
  have x3 : (w.alloc (opO kind m a b t oa n cap)).cell? ⟨w.heap.size, 3, none⟩ = some (.int .i64 b) := by simp
  have x4 : (w.alloc (opO kind m a b t oa n cap)).cell? ⟨w.heap.size, 4, none⟩ = some (.string t) := by simp
  have x5 : (w.alloc (opO kind m a b t oa n cap)).cell? ⟨w.heap.size, 5, none⟩ = some (.slice oa n cap) := by simp
  have k1 : ¬ kind < 1 := by omega
  have k1' : (1 : Int) ≤ kind := by omega
  have k3 : ¬ kind ≤ 3 := by omega
  have k4 : (kind == 4) = false := by rw [beq_eq_false_iff_ne]; omega
  have k9 : (kind == 9) = false := by rw [beq_eq_false_iff_ne]; omega
  have k4' : ¬ kind < 4 := by omega
  have k9' : ¬ (9 : Int) < kind := by omega
  clear hI hS hD hT hC h5 h7
  by_cases h0 : s.m = 0
  · have h0' : ((s.m : Int) == 0) = true := by rw [beq_iff_eq]; omega
    clear h0
    have c0 := HS1.out.c0
    go_enter Tryz.func12, Tryz.ntmps12
    go_upto_region 1 with fail
    generalize w.alloc (opO kind m a b t oa n cap) = W1 at *
    go_wp2_with fail
    go_ret
    exact ⟨rfl, _, s, HS1.out, HIF.out, by omega, HB1.out.mono (by omega)⟩
  · have h0' : ((s.m : Int) == 0) = false := by rw [beq_eq_false_iff_ne]; omega
    have hmp : 0 < s.m := by omega
    obtain ⟨i, hi, hpk⟩ := pick_fix m s.m hm1 hm2 (by omega) (by omega)
    have HPk : Hid (∀ w, Calls Tryz.prog 21 #[.int .i64 m, .int .i64 s.m] w fun e w' => e = .returned (.int .i64 i) ∧ w' = w) := hpk
    obtain ⟨g, rfl⟩ := own_some HS1.out.own hmp
    have c0 := HS1.out.c0
    have cg : (w.alloc (opO kind m a b t oa n cap)).cell? ⟨g, i, none⟩ = some (.pointer (some ⟨s.q i, 0, none⟩)) := by rw [HS1.out.own.cellAt i (by omega), ptrs_get _ hi]
    have hi' : (i : Int) < (s.m : Int) := by omega
    clear h0 hpk hm1 hm2
    go_enter Tryz.func12, Tryz.ntmps12
    go_upto_region 1 with fail
    generalize w.alloc (opO kind m a b t oa n cap) = W1 at *
    go_upto_region 21 with fail
    have hgl := blk_lt cg
    have hBl := blk_lt c0
    have hxl := blk_lt x0
    have e0 : ∀ u : Wof (Below W1.heap.size W1), u.val.cell? ⟨B, 0, none⟩ = some (.slice (some ⟨g, 0, none⟩) s.m co) := fun u => (u.ok.cell (p := ⟨B, 0, none⟩) hBl).trans c0
    have eg : ∀ u : Wof (Below W1.heap.size W1), u.val.cell? ⟨g, i, none⟩ = some (.pointer (some ⟨s.q i, 0, none⟩)) := fun u => (u.ok.cell (p := ⟨g, i, none⟩) hgl).trans cg
    have y0 : ∀ u : Wof (Below W1.heap.size W1), u.val.cell? ⟨w.heap.size, 0, none⟩ = some (.int .i64 kind) := fun u => (u.ok.cell (p := ⟨w.heap.size, 0, none⟩) hxl).trans x0
    have y1 : ∀ u : Wof (Below W1.heap.size W1), u.val.cell? ⟨w.heap.size, 1, none⟩ = some (.int .i64 m) := fun u => (u.ok.cell (p := ⟨w.heap.size, 1, none⟩) hxl).trans x1
    have y2 : ∀ u : Wof (Below W1.heap.size W1), u.val.cell? ⟨w.heap.size, 2, none⟩ = some (.int .i64 a) := fun u => (u.ok.cell (p := ⟨w.heap.size, 2, none⟩) hxl).trans x2
    have y3 : ∀ u : Wof (Below W1.heap.size W1), u.val.cell? ⟨w.heap.size, 3, none⟩ = some (.int .i64 b) := fun u => (u.ok.cell (p := ⟨w.heap.size, 3, none⟩) hxl).trans x3
    have y4 : ∀ u : Wof (Below W1.heap.size W1), u.val.cell? ⟨w.heap.size, 4, none⟩ = some (.string t) := fun u => (u.ok.cell (p := ⟨w.heap.size, 4, none⟩) hxl).trans x4
    have y5 : ∀ u : Wof (Below W1.heap.size W1), u.val.cell? ⟨w.heap.size, 5, none⟩ = some (.slice oa n cap) := fun u => (u.ok.cell (p := ⟨w.heap.size, 5, none⟩) hxl).trans x5
    have hne : Nonempty (Wof (Below W1.heap.size W1)) := ⟨⟨W1, Below.refl _ _⟩⟩
    clear c0 cg x0 x1 x2 x3 x4 x5 hgl hBl hxl
    refine wp_region_two_lit (S := Below W1.heap.size W1) (by simp) (by simp) (by kernel_rfl) (by kernel_rfl) (Below.refl _ _).drew ?_
    simp only [List.dropLast, List.getLast]
    repeat (quiet_step ((rename_i u; refine (HPk.out _).mono ?_; rintro e w3 ⟨rfl, rfl⟩; exact ⟨rfl, u, rfl⟩)))
    refine wpQuiet_nil ?_
    rintro _ ⟨u, rfl⟩
    have HCc : Hid (Calls Tryz.prog 22 #[.pointer (some ⟨s.q i, 0, none⟩), opV kind m a b t oa n cap] u.val fun e w' => Lm E Inv u.val B k e w') := HC.out i hi u.val (HS1.out.below u.ok) (HT1.out.next u.ok)
    have HBu : Hid (Below w.heap.size w u.val) := HB1.out.trans (u.ok.mono HB1.out.size)
    unfold Oper.wp
    go_simp
    refine HCc.out.mono ?_
    rintro e w3 ⟨rfl, vm', s', hS', hI', hm', hb'⟩
    have HL : Hid (Lm E Inv w B k (.returned (.bool true)) w3) := ⟨rfl, vm', s', hS', hI', hm', (HBu.out.mono (by omega)).trans hb'⟩
    clear hS' hI' hm' hb'
    go_simp
    go_wp2_with fail
    go_ret
    exact HL.out

end

end Go.Proofs.YtmebcdpdpcpnmaaGreatDoor
