import Derived.Test.YtmebcdpdpcpnmaaGreatDoorKT2
import Derived.Test.YtmebcdpdpcpnmaaGreatDoorKT3
import Derived.Test.YtmebcdpdpcpnmaaGreatDoorKT4
namespace Go.Proofs.YtmebcdpdpcpnmaaGreatDoor
open Go.RowKit

theorem Tryz.infoPair : (Tryz.prog.info? 42).map (fun i => (i.zero, i.size, i.bytes)) = some (some (.pointer none), 1, 8) := by kernel_rfl
theorem phas_nil {x k : Nat} (h : PHas x nilV k) : k = x := by
  rcases h with h | ⟨v, _, h⟩
  · exact h
  · simp [nilV, Value.ownBlock] at h

section
variable {E : Ext} {D : Mk.Mkt → ByteArray → ByteArray × Int × Mk.Mkt} {Inv : Mk.Mkt → Nat → Prop} {Ok : ByteArray → Prop}

theorem inv_any (hD : Doing D Inv Ok) : ∀ k, Inv Mk.Mkt.new k
  | 0 => hD.new
  | k + 1 => hD.up _ _ (inv_any hD k)

set_option maxRecDepth 100000 in
set_option maxHeartbeats 4000000 in
theorem step_new (hD : Doing D Inv Ok) (B : Nat) (vm : Value) (s : Mks) (k : Nat) (m a b : Int) (t : ByteArray) (oa : Option Addr) (n cap : Nat) (w : World) (hk : k < 1048576) (hm : s.m ≤ k)
    (hS : Sm E w B vm s) (hI : ∀ i, i < s.m → s.Mp i = s.Mr i ∧ Inv (s.Mp i) k) :
    Calls Tryz.prog 12 #[.pointer (some ⟨B, 0, none⟩), opV 4 m a b t oa n cap] w fun e w' => Lm E Inv w B k e w' := by
  obtain ⟨i0, hi0, hz0, hz1, hz2⟩ := info_parts Tryz.infoPair
  obtain ⟨ao, co, rfl⟩ := own_form hS.own
  have HD : Hid (Doing D Inv Ok) := hD
  have HI : Hid (∀ i, i < s.m → s.Mp i = s.Mr i ∧ Inv (s.Mp i) k) := hI
  have HB1 : Hid (Below w.heap.size w (w.alloc (opO 4 m a b t oa n cap))) := (Below.refl _ _).alloc (Nat.le_refl _) _
  have HS1 : Hid (Sm E (w.alloc (opO 4 m a b t oa n cap)) B (.slice ao s.m co) s) := hS.below HB1.out
  have hBw := hS.lt
  clear hI hS hD
  go_enter Tryz.func12, Tryz.ntmps12
  go_wp2_with fail
  generalize w.alloc (opO 4 m a b t oa n cap) = W1 at *
  refine (pnew_any W1).mono ?_
  rintro e w2 ⟨rfl, hP2, hb2⟩
  have HP2 : Hid (PM w2 W1.heap.size nilV Mk.Mkt.new) := hP2
  have HB2 : Hid (Below W1.heap.size W1 w2) := hb2
  clear hP2 hb2
  go_wp2_with fail
  refine (rnew_any w2).mono ?_
  rintro e w3 ⟨p, bb, rfl, hR3, hn3, hb3⟩
  have HR3 : Hid (Ref w3 p bb Mk.Mkt.new) := hR3
  have HN3 : Hid (∀ k, bb.has p k → w2.heap.size ≤ k) := hn3
  have HB3 : Hid (Below W1.heap.size W1 w3) := HB2.out.trans (hb3.mono HB2.out.size)
  have HP3 : Hid (PM w3 W1.heap.size nilV Mk.Mkt.new) := HP2.out.below hb3
  have HS3 : Hid (Sm E w3 B (.slice ao s.m co) s) := HS1.out.below HB3.out
  have hx2 : W1.heap.size < w2.heap.size := HP2.out.box.lt
  have hx3 : w2.heap.size ≤ w3.heap.size := hb3.size
  clear hR3 hn3 hb3
  have c0 := HS3.out.c0
  have z0 := HS3.out.z0
  have hB3 := HS3.out.lt
  -- the pair
  have HBq : Hid (Below w3.heap.size w3 (w3.alloc (.cells #[.pointer (some ⟨W1.heap.size, 0, none⟩), .pointer (some ⟨p, 0, none⟩)] 44))) := (Below.refl _ _).alloc (Nat.le_refl _) _
  have HC : Hid (Sc (w3.alloc (.cells #[.pointer (some ⟨W1.heap.size, 0, none⟩), .pointer (some ⟨p, 0, none⟩)] 44)) B (.slice ao s.m co) (s.push w3.heap.size W1.heap.size p nilV bb Mk.Mkt.new)) := by
    refine Sc.push HS1.out (HB3.out.trans (HBq.out.mono HB3.out.size)) (HP3.out.below HBq.out) (HR3.out.below HBq.out) ?_ (fun k hk => by rw [phas_nil hk]; exact Nat.le_refl _) (fun k hk => by have := HN3.out k hk; omega) (by omega) (fun k hk hk' => by have := HN3.out k hk'; have := phas_nil hk; omega) ⟨fun h => by have := phas_nil h; omega, fun h => by have := HR3.out.lt h; omega⟩
    exact World.rowIs_alloc w3 #[.pointer (some ⟨W1.heap.size, 0, none⟩), .pointer (some ⟨p, 0, none⟩)] 44 (prF W1.heap.size p) (fun i hi => by match i, hi with | 0, _ => rfl | 1, _ => rfl)
  have HOw : Hid ((w3.alloc (.cells #[.pointer (some ⟨W1.heap.size, 0, none⟩), .pointer (some ⟨p, 0, none⟩)] 44)).ownsRow (B + 1) 42 1 (.slice ao s.m co) s.m (ptrs s.q s.m)) := own_below HS3.out.own HBq.out (fun k hk => (HS3.out.own.lt k hk).2)
  go_upto_region 9 with fail
  go_wp2_with (at_builtin; (refine wpList_append_lies _ rfl _ _ _ rfl (B + 1) 42 i0 _ 1 8 Tryz.underlying27 hi0 hz0 hz1 hz2 rfl (by omega) _ s.m (ptrs s.q s.m) rfl (HOw.out.alloc _) ⟨w3.heap.size + 1, 0, none⟩ 1 1 [.pointer (some ⟨w3.heap.size, 0, none⟩)] rfl rfl (World.news_of_block (cs := #[.pointer (some ⟨w3.heap.size, 0, none⟩)]) (t := 42) (fr := (0, 0)) ?_) (by simp [Value.oneCell']) (by omega) (by unfold maxLen; omega) (by omega) (by simp; omega) (w3.heap.size + 2) (by simp) ?_))
  · have h := heap_alloc_new (w3.alloc (.cells #[.pointer (some ⟨W1.heap.size, 0, none⟩), .pointer (some ⟨p, 0, none⟩)] 44)) (.cells #[.pointer (some ⟨w3.heap.size, 0, none⟩)] 42)
    simpa using h
  · intro gg cap' w5 hown5 hgrow hat hlt5
    have hb4 : Below w3.heap.size w3 ((w3.alloc (.cells #[.pointer (some ⟨W1.heap.size, 0, none⟩), .pointer (some ⟨p, 0, none⟩)] 44)).alloc (.cells #[.pointer (some ⟨w3.heap.size, 0, none⟩)] 42)) := HBq.out.alloc (by simp) _
    have hfar : some B ≠ (Value.slice ao s.m co).ownBlock := fun e => by have := (HS3.out.own.lt B e.symm).1; omega
    have hl4 : w3.heap.size ≤ ((w3.alloc (.cells #[.pointer (some ⟨W1.heap.size, 0, none⟩), .pointer (some ⟨p, 0, none⟩)] 44)).alloc (.cells #[.pointer (some ⟨w3.heap.size, 0, none⟩)] 42)).heap.size := hb4.size
    have cell5 : ∀ i, w5.cell? ⟨B, i, none⟩ = w3.cell? ⟨B, i, none⟩ := fun i => (hgrow.cell_far ⟨B, i, none⟩ (by show B < _; omega) hfar).trans (hb4.cell (p := ⟨B, i, none⟩) hB3)
    have d0 : w5.cell? ⟨B, 0, none⟩ = some (.slice ao s.m co) := (cell5 0).trans c0
    have d1 : w5.cell? ⟨B, 1, none⟩ = some E.v1 := (cell5 1).trans HS3.out.c1
    have d2 : w5.cell? ⟨B, 2, none⟩ = some E.v2 := (cell5 2).trans HS3.out.c2
    have froz5 : ∀ i, w5.frozen? ⟨B, i, none⟩ = w3.frozen? ⟨B, i, none⟩ := fun i => (hgrow.frozen_far ⟨B, i, none⟩ (by show B < _; omega) hfar).trans (hb4.frozen (p := ⟨B, i, none⟩) hB3)
    have hfar2 : ∀ k, E.X k → (w5.setCell ⟨B, 0, none⟩ (.slice (some ⟨gg, 0, none⟩) (s.m + 1) cap')).heap[k]? = E.H k ∧ k < w5.heap.size ∧ gg ≠ k := fun k hk => by
      obtain ⟨x1, x2, x3, x4, _⟩ := HS3.out.ext k hk
      refine ⟨(Below.heap_setCell w5 _ _ k x3).trans ((hgrow.block k (by omega) (fun e => x4 e.symm)).trans ((hb4.block k x1).trans x2)), ?_, fun e => ?_⟩
      · have := hgrow.size; omega
      · rcases hat with e1 | e1
        · exact x4 (e ▸ e1)
        · rw [e1] at e; omega
    have y0 : w5.frozen? ⟨B, 0, none⟩ = false := ((hgrow.frozen_far ⟨B, 0, none⟩ (by show B < _; omega) hfar).trans (hb4.frozen (p := ⟨B, 0, none⟩) hB3)).trans z0
    have HSm : Hid (Sm E (w5.setCell ⟨B, 0, none⟩ (.slice (some ⟨gg, 0, none⟩) (s.m + 1) cap')) B (.slice (some ⟨gg, 0, none⟩) (s.m + 1) cap') (s.push w3.heap.size W1.heap.size p nilV bb Mk.Mkt.new)) := by
      refine ⟨cell_set_same d0, by simpa using y0, cell_set_ne (by omega) d1, by simpa using (froz5 1).trans HS3.out.z1, cell_set_ne (by omega) d2, by simpa using (froz5 2).trans HS3.out.z2, ?_, ?_, fun k hk => ?_⟩
      · show World.ownsRow _ (B + 1) 42 1 _ (s.m + 1) (ptrs (upd s.q s.m w3.heap.size) (s.m + 1))
        rw [ptrs_push]
        exact ownsRow_setCell_below hown5 (by simp) _
      · refine Sc.setB ?_ _ _
        have h1 := HC.out.below ((Below.refl _ _).alloc (Nat.le_refl _) (.cells #[.pointer (some ⟨w3.heap.size, 0, none⟩)] 42))
        refine h1.grown hgrow ?_
        rcases hat with e | e
        · exact .inl e
        · exact .inr (by rw [e]; simp)
      · obtain ⟨f1, f2, f3⟩ := hfar2 k hk
        obtain ⟨p1, p2⟩ := ext_push (q := w3.heap.size) (x := W1.heap.size) (p := p) (vb := nilV) (b := bb) (M := Mk.Mkt.new) HS1.out (fun k hk => by rw [phas_nil hk]; exact Nat.le_refl _) (fun k hk => by have := HN3.out k hk; omega) (by omega) hk
        exact ⟨by simpa using f2, f1, (HS3.out.ext k hk).2.2.1, fun e => f3 (by simpa [Value.ownBlock] using e), p1, p2⟩
    have HBf : Hid (Below B w (w5.setCell ⟨B, 0, none⟩ (.slice (some ⟨gg, 0, none⟩) (s.m + 1) cap'))) := by
      have h1 : Below B w w3 := (HB1.out.mono (by omega)).trans (HB3.out.mono (by have := HS1.out.lt; omega))
      have h2 : Below B w ((w3.alloc (.cells #[.pointer (some ⟨W1.heap.size, 0, none⟩), .pointer (some ⟨p, 0, none⟩)] 44)).alloc (.cells #[.pointer (some ⟨w3.heap.size, 0, none⟩)] 42)) := h1.trans (hb4.mono (by omega))
      refine (h2.grown hgrow (by omega) (fun k hk => ?_)).setCell (p := ⟨B, 0, none⟩) (Nat.le_refl _) _
      have := (HS3.out.own.lt k hk).1
      omega
    have HIv : Hid (∀ j, j < s.m + 1 → upd s.Mp s.m Mk.Mkt.new j = upd s.Mr s.m Mk.Mkt.new j ∧ Inv (upd s.Mp s.m Mk.Mkt.new j) (k + 1)) := fun j hj => by
      by_cases e : j = s.m
      · subst e
        rw [upd_self, upd_self]
        exact ⟨rfl, inv_any HD.out _⟩
      · rw [upd_ne _ _ e, upd_ne _ _ e]
        exact ⟨(HI.out j (by omega)).1, HD.out.up _ _ (HI.out j (by omega)).2⟩
    clear hown5 hgrow hat hlt5 hb4 hfar hl4 cell5 d1 d2 froz5 hfar2 c0 z0
    go_wp2
    go_ret
    exact ⟨rfl, _, _, HSm.out, HIv.out, by show s.m + 1 ≤ k + 1; omega, HBf.out⟩

end

end Go.Proofs.YtmebcdpdpcpnmaaGreatDoor
