import Derived.Test.YtljeahgpkeohlaaGreatDoorJ6
import Derived.Test.YtljeahgpkeohlaaGreatDoorJ23
import Derived.Test.YtljeahgpkeohlaaGreatDoorJ38
import Derived.Test.YtljeahgpkeohlaaGreatDoorJ39
import Derived.Test.YtljeahgpkeohlaaGreatDoorJ16
namespace Go.Proofs.YtljeahgpkeohlaaGreatDoor
open Go.RowKit

theorem has_yes {s t : ByteArray} {k : Nat} (h : k + t.size ≤ s.size) (h1 : Mk.hasAt s t k = true) : Mk.has s t = true := by
  unfold Mk.has
  rw [Bool.and_eq_true, decide_eq_true_eq]
  exact ⟨by omega, Mk.hasTo_at (k := s.size - t.size + 1) (i := k) (by omega) h1⟩

set_option maxRecDepth 100000 in
set_option maxHeartbeats 2000000 in
theorem says_any (s t : ByteArray) (w : World) (hs : s.size ≤ 2000000) (ht : t.size ≤ 2000000) :
    Calls Tryz.prog 12 #[.string s, .string t] w fun e w' => e = .returned (.bool (Mk.has s t)) ∧ w' = w := by
  go_enter Tryz.func12, Tryz.ntmps12
  go_wp2
  go_loop [5] (fun j => ∃ k : Nat, j = .int .i64 k ∧ (k = 0 ∨ k + t.size ≤ s.size + 1) ∧ Mk.hasTo s t k = false) (fun j => s.size + 1 - (intOf j).toNat)
  case atStart => exact ⟨0, rfl, .inl rfl, rfl⟩
  case round =>
    obtain ⟨k, rfl, hk, hf⟩ := hrel
    have HF : Hid (Mk.hasTo s t k = false) := hf
    have HK : Hid (k = 0 ∨ k + t.size ≤ s.size + 1) := hk
    have hkb : k ≤ 2000001 := by omega
    have hkb' : (k : Int) ≤ 2000001 := by omega
    clear hf hk
    by_cases hlt : k + t.size ≤ s.size
    · have hlt' : (k : Int) + (t.size : Int) ≤ (s.size : Int) := by omega
      by_cases hat : Mk.hasAt s t k = true
      · have HY : Hid (Mk.has s t = true) := has_yes hlt hat
        have hat' : ((s.extract k (k + t.size)).toList == t.toList) = true := hat
        clear hat
        go_wp2
        go_ret
        exact ⟨by rw [HY.out]; rfl, rfl⟩
      · have hat' : ((s.extract k (k + t.size)).toList == t.toList) = false := Bool.eq_false_iff.2 hat
        have HS : Hid (Mk.hasTo s t (k + 1) = false) := by
          show (Mk.hasTo s t k || Mk.hasAt s t k) = false
          rw [HF.out, Bool.eq_false_iff.2 hat]; rfl
        clear hat
        go_wp2
        go_round
        case rel => exact ⟨k + 1, by go_num, .inr (by omega), HS.out⟩
        case measure => simp [intOf]; omega
    · have hlt' : ¬ (k : Int) + (t.size : Int) ≤ (s.size : Int) := by omega
      have HN : Hid (Mk.has s t = false) := by
        show (decide (t.size ≤ s.size) && Mk.hasTo s t (s.size - t.size + 1)) = false
        by_cases hle : t.size ≤ s.size
        · have : s.size - t.size + 1 = k := by
            rcases HK.out with h0 | h1 <;> omega
          rw [this, HF.out, Bool.and_false]
        · have : decide (t.size ≤ s.size) = false := by rw [decide_eq_false_iff_not]; exact hle
          rw [this]; rfl
      go_wp2
      go_ret
      exact ⟨by rw [HN.out]; rfl, rfl⟩

end Go.Proofs.YtljeahgpkeohlaaGreatDoor

namespace Go.Proofs.YtljeahgpkeohlaaGreatDoor
open Go.RowKit

/-- has a text one of some words in it? -/
def Mk.hasAny (s : ByteArray) (ws : List ByteArray) : Bool := ws.any (fun t => Mk.has s t)
def Mk.wordAt (ws : List ByteArray) (i : Nat) : ByteArray := ws.getD i ⟨#[]⟩
theorem Mk.wordAt_eq {ws : List ByteArray} {i : Nat} (h : i < ws.length) : Mk.wordAt ws i = ws[i] := by simp [Mk.wordAt, List.getD, List.getElem?_eq_getElem h]

set_option maxRecDepth 100000 in
set_option maxHeartbeats 2000000 in
theorem saysAny_any (s : ByteArray) (g cap : Nat) (ws : List ByteArray) (w : World) (hs : s.size ≤ 2000000) (hw : ∀ x ∈ ws, x.size ≤ 100) (hn : ws.length ≤ 100) (hc : ∀ i, i < ws.length → w.cell? ⟨g, i, none⟩ = some (.string (Mk.wordAt ws i))) :
    Calls Tryz.prog 9 #[.string s, .slice (some ⟨g, 0, none⟩) ws.length cap] w fun e w' => e = .returned (.bool (Mk.hasAny s ws)) ∧ w' = w := by
  have HC : Hid (∀ i, i < ws.length → w.cell? ⟨g, i, none⟩ = some (.string (Mk.wordAt ws i))) := hc
  have HW : Hid (∀ i, i < ws.length → (Mk.wordAt ws i).size ≤ 100) := fun i hi => by rw [Mk.wordAt_eq hi]; exact hw _ (List.getElem_mem hi)
  clear hc hw
  go_enter Tryz.func9, Tryz.ntmps9
  go_wp2
  go_loop [5] (fun j => ∃ k : Nat, k ≤ ws.length ∧ j = .int .i64 k ∧ ∀ i, i < k → Mk.has s (Mk.wordAt ws i) = false) (fun j => ws.length - (intOf j).toNat)
  case atStart => exact ⟨0, Nat.zero_le _, rfl, fun i hi => by omega⟩
  case round =>
    obtain ⟨k, hk, rfl, hf⟩ := hrel
    have HF : Hid (∀ i, i < k → Mk.has s (Mk.wordAt ws i) = false) := hf
    clear hf
    by_cases hlt : k < ws.length
    · have hlt' : (k : Int) < (ws.length : Int) := by omega
      have ck := HC.out k hlt
      have hwk := HW.out k hlt
      go_wp2_with fail
      refine (says_any s (Mk.wordAt ws k) w hs (by omega)).mono ?_
      rintro e w2 ⟨rfl, hw2⟩
      obtain rfl := hw2.symm
      by_cases hh : Mk.has s (Mk.wordAt ws k) = true
      · have HY : Hid (Mk.hasAny s ws = true) := by
          unfold Mk.hasAny
          rw [List.any_eq_true]
          exact ⟨ws[k], List.getElem_mem hlt, by rw [← Mk.wordAt_eq hlt]; exact hh⟩
        go_wp2
        go_ret
        exact ⟨by rw [HY.out]; rfl, rfl⟩
      · have hh' : Mk.has s (Mk.wordAt ws k) = false := by simpa using hh
        have HF' : Hid (∀ i, i < k + 1 → Mk.has s (Mk.wordAt ws i) = false) := by
          intro i hi
          by_cases e : i = k
          · subst e; exact hh'
          · exact HF.out i (by omega)
        clear hh
        go_wp2
        go_round
        case rel => exact ⟨k + 1, by omega, by go_num, HF'.out⟩
        case measure => simp [intOf]; omega
    · obtain rfl : k = ws.length := by omega
      have HN : Hid (Mk.hasAny s ws = false) := by
        unfold Mk.hasAny
        rw [List.any_eq_false]
        intro x hx
        obtain ⟨i, hi, rfl⟩ := List.mem_iff_getElem.1 hx
        rw [← Mk.wordAt_eq hi, HF.out i hi]
        simp
      go_wp2
      go_ret
      exact ⟨by rw [HN.out]; rfl, rfl⟩

end Go.Proofs.YtljeahgpkeohlaaGreatDoor

namespace Go.Proofs.YtljeahgpkeohlaaGreatDoor
open Go.RowKit

theorem Tryz.infoPair : (Tryz.prog.info? 42).map (fun i => (i.zero, i.size, i.bytes)) = some (some (.pointer none), 1, 8) := by kernel_rfl
theorem phas_nil {x k : Nat} (h : PHas x nilV k) : k = x := by
  rcases h with h | ⟨v, _, h⟩
  · exact h
  · simp [nilV, Value.ownBlock] at h

section
variable {D : Mk.Mkt → ByteArray → ByteArray × Int × Mk.Mkt} {Inv : Mk.Mkt → Nat → Prop} {Ok : ByteArray → Prop}

theorem inv_any (hD : Doing D Inv Ok) : ∀ k, Inv Mk.Mkt.new k
  | 0 => hD.new
  | k + 1 => hD.up _ _ (inv_any hD k)

set_option maxRecDepth 100000 in
set_option maxHeartbeats 4000000 in
theorem step_new (hD : Doing D Inv Ok) (B : Nat) (vm : Value) (s : Mks) (k : Nat) (m a b : Int) (t : ByteArray) (oa : Option Addr) (n cap : Nat) (w : World) (hk : k < 1048576) (hm : s.m ≤ k)
    (hS : Sm w B vm s) (hI : ∀ i, i < s.m → s.Mp i = s.Mr i ∧ Inv (s.Mp i) k) :
    Calls Tryz.prog 10 #[.pointer (some ⟨B, 0, none⟩), opV 4 m a b t oa n cap] w fun e w' => Lm Inv w B k e w' := by
  obtain ⟨i0, hi0, hz0, hz1, hz2⟩ := info_parts Tryz.infoPair
  obtain ⟨ao, co, rfl⟩ := own_form hS.own
  have HD : Hid (Doing D Inv Ok) := hD
  have HI : Hid (∀ i, i < s.m → s.Mp i = s.Mr i ∧ Inv (s.Mp i) k) := hI
  have HB1 : Hid (Below w.heap.size w (w.alloc (opO 4 m a b t oa n cap))) := (Below.refl _ _).alloc (Nat.le_refl _) _
  have HS1 : Hid (Sm (w.alloc (opO 4 m a b t oa n cap)) B (.slice ao s.m co) s) := hS.below HB1.out
  have hBw := hS.lt
  clear hI hS hD
  go_enter Tryz.func10, Tryz.ntmps10
  go_wp2_with fail
  generalize w.alloc (opO 4 m a b t oa n cap) = W1 at *
  refine (pnew_any W1).mono ?_
  rintro e w2 ⟨rfl, hP2, hb2⟩
  have HP2 : Hid (PM w2 W1.heap.size nilV Mk.Mkt.new) := hP2
  have HB2 : Hid (Below W1.heap.size W1 w2) := hb2
  clear hP2 hb2
  go_wp2_with fail
  refine (rnew_any w2).mono ?_
  rintro e w3 ⟨p, bb, rfl, hR3, hn3, hb3⟩
  have HR3 : Hid (Ref w3 p bb Mk.Mkt.new) := hR3
  have HN3 : Hid (∀ k, bb.has p k → w2.heap.size ≤ k) := hn3
  have HB3 : Hid (Below W1.heap.size W1 w3) := HB2.out.trans (hb3.mono HB2.out.size)
  have HP3 : Hid (PM w3 W1.heap.size nilV Mk.Mkt.new) := HP2.out.below hb3
  have HS3 : Hid (Sm w3 B (.slice ao s.m co) s) := HS1.out.below HB3.out
  have hx2 : W1.heap.size < w2.heap.size := HP2.out.box.lt
  have hx3 : w2.heap.size ≤ w3.heap.size := hb3.size
  clear hR3 hn3 hb3
  have c0 := HS3.out.c0
  have z0 := HS3.out.z0
  have hB3 := HS3.out.lt
  -- the pair
  have HBq : Hid (Below w3.heap.size w3 (w3.alloc (.cells #[.pointer (some ⟨W1.heap.size, 0, none⟩), .pointer (some ⟨p, 0, none⟩)] 44))) := (Below.refl _ _).alloc (Nat.le_refl _) _
  have HC : Hid (Sc (w3.alloc (.cells #[.pointer (some ⟨W1.heap.size, 0, none⟩), .pointer (some ⟨p, 0, none⟩)] 44)) B (.slice ao s.m co) (s.push w3.heap.size W1.heap.size p nilV bb Mk.Mkt.new)) := by
    refine Sc.push HS1.out (HB3.out.trans (HBq.out.mono HB3.out.size)) (HP3.out.below HBq.out) (HR3.out.below HBq.out) ?_ (fun k hk => by rw [phas_nil hk]; exact Nat.le_refl _) (fun k hk => by have := HN3.out k hk; omega) (by omega) (fun k hk hk' => by have := HN3.out k hk'; have := phas_nil hk; omega) ⟨fun h => by have := phas_nil h; omega, fun h => by have := HR3.out.lt h; omega⟩
    exact World.rowIs_alloc w3 #[.pointer (some ⟨W1.heap.size, 0, none⟩), .pointer (some ⟨p, 0, none⟩)] 44 (prF W1.heap.size p) (fun i hi => by match i, hi with | 0, _ => rfl | 1, _ => rfl)
  have HOw : Hid ((w3.alloc (.cells #[.pointer (some ⟨W1.heap.size, 0, none⟩), .pointer (some ⟨p, 0, none⟩)] 44)).ownsRow (B + 1) 42 1 (.slice ao s.m co) s.m (ptrs s.q s.m)) := own_below HS3.out.own HBq.out (fun k hk => (HS3.out.own.lt k hk).2)
  go_upto_region 9 with fail
  go_wp2_with (at_builtin; (refine wpList_append_lies _ rfl _ _ _ rfl (B + 1) 42 i0 _ 1 8 Tryz.underlying27 hi0 hz0 hz1 hz2 rfl (by omega) _ s.m (ptrs s.q s.m) rfl (HOw.out.alloc _) ⟨w3.heap.size + 1, 0, none⟩ 1 1 [.pointer (some ⟨w3.heap.size, 0, none⟩)] rfl rfl (World.news_of_block (cs := #[.pointer (some ⟨w3.heap.size, 0, none⟩)]) (t := 42) (fr := (0, 0)) ?_) (by simp [Value.oneCell']) (by omega) (by unfold maxLen; omega) (by omega) (by simp; omega) (w3.heap.size + 2) (by simp) ?_))
  · have h := heap_alloc_new (w3.alloc (.cells #[.pointer (some ⟨W1.heap.size, 0, none⟩), .pointer (some ⟨p, 0, none⟩)] 44)) (.cells #[.pointer (some ⟨w3.heap.size, 0, none⟩)] 42)
    simpa using h
  · intro gg cap' w5 hown5 hgrow hat hlt5
    have hb4 : Below w3.heap.size w3 ((w3.alloc (.cells #[.pointer (some ⟨W1.heap.size, 0, none⟩), .pointer (some ⟨p, 0, none⟩)] 44)).alloc (.cells #[.pointer (some ⟨w3.heap.size, 0, none⟩)] 42)) := HBq.out.alloc (by simp) _
    have hfar : some B ≠ (Value.slice ao s.m co).ownBlock := fun e => by have := (HS3.out.own.lt B e.symm).1; omega
    have hl4 : w3.heap.size ≤ ((w3.alloc (.cells #[.pointer (some ⟨W1.heap.size, 0, none⟩), .pointer (some ⟨p, 0, none⟩)] 44)).alloc (.cells #[.pointer (some ⟨w3.heap.size, 0, none⟩)] 42)).heap.size := hb4.size
    have cell5 : ∀ i, w5.cell? ⟨B, i, none⟩ = w3.cell? ⟨B, i, none⟩ := fun i => (hgrow.cell_far ⟨B, i, none⟩ (by show B < _; omega) hfar).trans (hb4.cell (p := ⟨B, i, none⟩) hB3)
    have d0 : w5.cell? ⟨B, 0, none⟩ = some (.slice ao s.m co) := (cell5 0).trans c0
    have d1 : w5.cell? ⟨B, 1, none⟩ = some (.slice none 0 0) := (cell5 1).trans HS3.out.c1
    have y0 : w5.frozen? ⟨B, 0, none⟩ = false := ((hgrow.frozen_far ⟨B, 0, none⟩ (by show B < _; omega) hfar).trans (hb4.frozen (p := ⟨B, 0, none⟩) hB3)).trans z0
    have HSm : Hid (Sm (w5.setCell ⟨B, 0, none⟩ (.slice (some ⟨gg, 0, none⟩) (s.m + 1) cap')) B (.slice (some ⟨gg, 0, none⟩) (s.m + 1) cap') (s.push w3.heap.size W1.heap.size p nilV bb Mk.Mkt.new)) := by
      refine ⟨cell_set_same d0, by simpa using y0, cell_set_ne (by omega) d1, ?_, ?_⟩
      · show World.ownsRow _ (B + 1) 42 1 _ (s.m + 1) (ptrs (upd s.q s.m w3.heap.size) (s.m + 1))
        rw [ptrs_push]
        exact ownsRow_setCell_below hown5 (by simp) _
      · refine Sc.setB ?_ _ _
        have h1 := HC.out.below ((Below.refl _ _).alloc (Nat.le_refl _) (.cells #[.pointer (some ⟨w3.heap.size, 0, none⟩)] 42))
        refine h1.grown hgrow ?_
        rcases hat with e | e
        · exact .inl e
        · exact .inr (by rw [e]; simp)
    have HBf : Hid (Below B w (w5.setCell ⟨B, 0, none⟩ (.slice (some ⟨gg, 0, none⟩) (s.m + 1) cap'))) := by
      have h1 : Below B w w3 := (HB1.out.mono (by omega)).trans (HB3.out.mono (by have := HS1.out.lt; omega))
      have h2 : Below B w ((w3.alloc (.cells #[.pointer (some ⟨W1.heap.size, 0, none⟩), .pointer (some ⟨p, 0, none⟩)] 44)).alloc (.cells #[.pointer (some ⟨w3.heap.size, 0, none⟩)] 42)) := h1.trans (hb4.mono (by omega))
      refine (h2.grown hgrow (by omega) (fun k hk => ?_)).setCell (p := ⟨B, 0, none⟩) (Nat.le_refl _) _
      have := (HS3.out.own.lt k hk).1
      omega
    have HIv : Hid (∀ j, j < s.m + 1 → upd s.Mp s.m Mk.Mkt.new j = upd s.Mr s.m Mk.Mkt.new j ∧ Inv (upd s.Mp s.m Mk.Mkt.new j) (k + 1)) := fun j hj => by
      by_cases e : j = s.m
      · subst e
        rw [upd_self, upd_self]
        exact ⟨rfl, inv_any HD.out _⟩
      · rw [upd_ne _ _ e, upd_ne _ _ e]
        exact ⟨(HI.out j (by omega)).1, HD.out.up _ _ (HI.out j (by omega)).2⟩
    clear hown5 hgrow hat hlt5 hb4 hfar hl4 cell5 d1 c0 z0
    go_wp2
    go_ret
    exact ⟨rfl, _, _, HSm.out, HIv.out, by show s.m + 1 ≤ k + 1; omega, HBf.out⟩

end

end Go.Proofs.YtljeahgpkeohlaaGreatDoor

/- A region in any order whose operations are quiet but for one that waits for all that stand ahead of it, and one behind it. -/
namespace Go
section
variable {P : Program} {md : Region.Mode} {C : World → Prop} {ops ops' : Array Oper} {m : Nat} {o o' o2 o2' : Oper} {L : Array Bool}

/-- what is listed has all that it waits for listed -/
def Closed (md : Region.Mode) (ops : Array Oper) (L : Array Bool) : Prop := ∀ i x, ops[i]? = some x → L.getD i false = true → ∀ e ∈ x.after, Region.binds md e = true → L.getD e.on false = true

theorem getD_set {i j : Nat} (hi : i < L.size) : (L.setIfInBounds i true).getD j false = (if j = i then true else L.getD j false) := by
  by_cases e : j = i
  · subst e; simp [hi]
  · rw [if_neg e]
    simp [Ne.symm e]
theorem getD_any {j : Nat} (hj : j < L.size) : L.getD j true = L.getD j false := by simp [hj]

theorem Closed.add (hC : Closed md ops L) {i : Nat} (hi : i ∈ Region.ready md ops L) (hs : i < L.size) : Closed md ops (L.setIfInBounds i true) := by
  intro j x hx hj e he hb
  rw [getD_set hs] at hj ⊢
  split
  · rfl
  · by_cases e1 : j = i
    · subst e1
      obtain ⟨_, x', hx', hdep⟩ := mem_ready.1 hi
      rw [hx] at hx'
      cases hx'
      exact hdep e he hb
    · rw [if_neg e1] at hj
      exact hC j x hx hj e he hb

theorem all_listed (hC : Closed md ops L) (hm : ops[m]? = some o) (hi : m ∈ Region.ready md ops L)
    (hsucc : ∀ j, j < m → ∃ i x, j < i ∧ i ≤ m ∧ ops[i]? = some x ∧ ∃ e ∈ x.after, Region.binds md e = true ∧ e.on = j) : ∀ d j, m - j = d → j < m → L.getD j false = true := by
  intro d
  induction d using Nat.strongRecOn with
  | _ d ih =>
    intro j hd hj
    obtain ⟨i, x, h1, h2, hx, e, he, hb, rfl⟩ := hsucc j hj
    by_cases e1 : i = m
    · subst e1
      obtain ⟨_, x', hx', hdep⟩ := mem_ready.1 hi
      rw [hx] at hx'
      cases hx'
      exact hdep e he hb
    · exact hC i x hx (ih (m - i) (by omega) i rfl (by omega)) e he hb

theorem wpAny_of_quiet_two {Q : Exit → Act → World → Prop} (hm : ops[m]? = some o) (hm2 : ops[m + 1]? = some o2) (hsz : ops.size = m + 2) (hm' : ops'[m]? = some o') (hm2' : ops'[m + 1]? = some o2') (heq : ∀ i, i < m → ops'[i]? = ops[i]?) (hsz' : ops'.size = ops.size)
    (haft : o'.after = o.after) (haft2 : o2'.after = o2.after) (hg : ∀ (i : Nat) (x : Oper), ops[i]? = some x → x.guard = none) (hg' : o'.guard = none) (hd' : o'.dst = none) (hg2' : o2'.guard = none) (hd2' : o2'.dst = none)
    (hlow : ∀ i x, ops[i]? = some x → ∀ e ∈ x.after, Region.binds md e = true → e.on < i) (hsucc : ∀ j, j < m → ∃ i x, j < i ∧ i ≤ m ∧ ops[i]? = some x ∧ ∃ e ∈ x.after, Region.binds md e = true ∧ e.on = j) (h2 : ∃ e ∈ o2.after, Region.binds md e = true ∧ e.on = m) :
    ∀ n L a w, L.size = ops.size → Closed md ops L → L.getD m false = false → L.getD (m + 1) false = false → C w →
      wpAnyQ P md ops' C (fun a' => ∀ w', C w' → o.wp P a' w' (fun a w => o2.wp P a w (fun a w => Q .normal a w) Q) Q) n L a → wpAny P md ops Q n L a w := by
  have hready : ∀ L, Region.ready md ops' L = Region.ready md ops L := by
    intro L
    unfold Region.ready
    rw [hsz']
    refine List.filter_congr (fun i hi => ?_)
    have hi' : i < m + 2 := by rw [← hsz]; exact List.mem_range.1 hi
    by_cases e : i = m
    · subst e; rw [hm, hm']; simp [haft]
    · by_cases e2 : i = m + 1
      · subst e2; rw [hm2, hm2']; simp [haft2]
      · rw [heq i (by omega)]
  intro n
  induction n with
  | zero =>
    intro L a w hs _ hL _ _ h
    exact absurd ((hready L).symm.trans h.1) (ready_ne hlow L m o hm (by rw [getD_any (by omega)]; exact hL))
  | succ n ih =>
    intro L a w hs hcl hL hL2 hC h
    have hLm : L.getD m true = false := by rw [getD_any (by omega)]; exact hL
    refine ⟨fun hn => absurd hn (ready_ne hlow L m o hm hLm), fun i hi => ?_⟩
    have hq := h.2 i (by rw [hready]; exact hi)
    obtain ⟨_, x, hx, hdepx⟩ := mem_ready.1 hi
    have hil : i < ops.size := (Array.getElem?_eq_some_iff.1 hx).1
    by_cases e2 : i = m + 1
    · subst e2
      rw [hm2] at hx
      cases hx
      obtain ⟨d, hd, hb, rfl⟩ := h2
      have := hdepx d hd hb
      rw [hL] at this
      cases this
    by_cases e : i = m
    · subst e
      have hall := all_listed hcl hm hi hsucc
      have hs1 : i < L.size := by omega
      have hs2 : i + 1 < (L.setIfInBounds i true).size := by simp; omega
      -- behind it the one that is left
      have r1 : i + 1 ∈ Region.ready md ops (L.setIfInBounds i true) := by
        rw [mem_ready]
        refine ⟨?_, o2, hm2, fun d hd hb => ?_⟩
        · rw [getD_any (by simpa using (by omega : i + 1 < L.size)), getD_set hs1, if_neg (by omega)]; exact hL2
        · have hlt := hlow _ _ hm2 d hd hb
          rw [getD_set hs1]
          split
          · rfl
          · exact hall _ d.on rfl (by omega)
      have r1' : ∀ j, j ∈ Region.ready md ops (L.setIfInBounds i true) → j = i + 1 := by
        intro j hj
        obtain ⟨hj1, y, hy, _⟩ := mem_ready.1 hj
        have hjl : j < ops.size := (Array.getElem?_eq_some_iff.1 hy).1
        rw [getD_any (by simpa using (by omega : j < L.size)), getD_set hs1] at hj1
        by_cases e3 : j = i
        · rw [if_pos e3] at hj1; cases hj1
        · rw [if_neg e3] at hj1
          by_cases e4 : j < i
          · rw [hall _ j rfl e4] at hj1; cases hj1
          · omega
      have r2 : Region.ready md ops ((L.setIfInBounds i true).setIfInBounds (i + 1) true) = [] := by
        apply List.eq_nil_iff_forall_not_mem.2
        intro j hj
        obtain ⟨hj1, y, hy, _⟩ := mem_ready.1 hj
        have hjl : j < ops.size := (Array.getElem?_eq_some_iff.1 hy).1
        rw [getD_any (by simpa using (by omega : j < L.size)), getD_set hs2, getD_set hs1] at hj1
        by_cases e3 : j = i + 1
        · rw [if_pos e3] at hj1; cases hj1
        · rw [if_neg e3] at hj1
          by_cases e5 : j = i
          · rw [if_pos e5] at hj1; cases hj1
          · rw [if_neg e5, hall _ j rfl (by omega)] at hj1; cases hj1
      have hq' : wpAnyQ P md ops' C (fun a' => ∀ w', C w' → o.wp P a' w' (fun a w => o2.wp P a w (fun a w => Q .normal a w) Q) Q) n (L.setIfInBounds i true) a := by
        unfold qOp at hq
        simp only [hm'] at hq
        have hw : Region.wanted o' (yielded ops' a.tmps) = true := by simp [Region.wanted, hg']
        simp only [hw, if_true] at hq
        obtain ⟨v, hv, hk⟩ := hq
        rw [hd'] at hk
        exact hk
      cases n with
      | zero =>
        have := hq'.1
        rw [hready] at this
        rw [this] at r1
        cases r1
      | succ k =>
        have hQ0 : ∀ w', C w' → o.wp P a w' (fun a w => o2.wp P a w (fun a w => Q .normal a w) Q) Q := by
          have hq2 := hq'.2 (i + 1) (by rw [hready]; exact r1)
          have hq3 : wpAnyQ P md ops' C (fun a' => ∀ w', C w' → o.wp P a' w' (fun a w => o2.wp P a w (fun a w => Q .normal a w) Q) Q) k ((L.setIfInBounds i true).setIfInBounds (i + 1) true) a := by
            unfold qOp at hq2
            simp only [hm2'] at hq2
            have hw : Region.wanted o2' (yielded ops' a.tmps) = true := by simp [Region.wanted, hg2']
            simp only [hw, if_true] at hq2
            obtain ⟨v, hv, hk⟩ := hq2
            rw [hd2'] at hk
            exact hk
          cases k with
          | zero => exact hq3.2
          | succ k' => exact hq3.1 (by rw [hready]; exact r2)
        unfold wpOp
        simp only [hm]
        have hw : Region.wanted o (yielded ops a.tmps) = true := by simp [Region.wanted, hg i o hm]
        simp only [hw, if_true]
        left
        refine Oper.wp_mono (fun a' w' hk => ?_) (hQ0 w hC)
        refine ⟨fun hn => (by rw [hn] at r1; cases r1), fun j hj => ?_⟩
        obtain rfl := r1' j hj
        unfold wpOp
        simp only [hm2]
        have hw2 : Region.wanted o2 (yielded ops a'.tmps) = true := by simp [Region.wanted, hg _ o2 hm2]
        simp only [hw2, if_true]
        left
        refine Oper.wp_mono (fun a2 w2 hk2 => ?_) hk
        cases k with
        | zero => exact ⟨r2, hk2⟩
        | succ k' => exact ⟨fun _ => hk2, fun j hj => (by rw [r2] at hj; cases hj)⟩
    · have h1 : wpOp P ops' Q i (wpAny P md ops Q n (L.setIfInBounds i true)) a w := by
        refine wpOp_of_qOp hC (fun a' w' hc hk => ih _ a' w' (by simpa using hs) (hcl.add hi (by omega)) ?_ ?_ hc hk) hq
        · rw [getD_set (by omega), if_neg (Ne.symm e)]; exact hL
        · rw [getD_set (by omega), if_neg (Ne.symm e2)]; exact hL2
      unfold wpOp at h1 ⊢
      rw [heq i (by omega), hx] at h1
      rw [hx]
      have hw : ∀ ps : Array Oper, Region.wanted x (yielded ps a.tmps) = true := fun ps => by simp [Region.wanted, hg i x hx]
      simp only [hw, if_true] at h1 ⊢
      exact h1
end

def twoB (l : List Oper) (o o2 : Oper) : Bool :=
  (l ++ [o, o2]).all (fun x => x.guard.isNone) && (l ++ [o, o2]).zipIdx.all (fun xi => xi.1.after.all fun e => !Region.binds .any e || decide (e.on < xi.2)) &&
    (List.range l.length).all (fun j => (l ++ [o]).zipIdx.any (fun xi => decide (j < xi.2) && xi.1.after.any fun e => Region.binds .any e && e.on == j)) && (o2.after.any fun e => Region.binds .any e && e.on == l.length) && Region.lexB .any (l ++ [struck o, struck o2]).toArray

theorem wp_region_quiet_two {P : Program} {C : World → Prop} {id : Nat} {Q : Exit → Act → World → Prop} {a : Act} {w : World} (l : List Oper) (o o2 : Oper) (hm : P.follows .mixedOrders = true) (hB : twoB l o o2 = true) (hC : C { w with drawn := w.drawn + 1 })
    (h : wpQuiet P (l ++ [struck o, struck o2]).toArray C (fun a' => ∀ w', C w' → o.wp P a' w' (fun a w => o2.wp P a w (fun a w => Q .normal a w) Q) Q) l a) : (Code.region id (l ++ [o, o2]).toArray true).wp P Q a w := by
  simp only [twoB, Bool.and_eq_true] at hB
  obtain ⟨⟨⟨⟨hB1, hB2⟩, hB3⟩, hB5⟩, hB4⟩ := hB
  simp only [Region.lexB, Bool.and_eq_true] at hB4
  refine wp_region_any hm ?_
  have hg1 : o.guard = none := by have := List.all_eq_true.1 hB1 o (by simp); simpa using this
  have hg2 : o2.guard = none := by have := List.all_eq_true.1 hB1 o2 (by simp); simpa using this
  refine wpAny_of_quiet_two (C := C) (ops := (l ++ [o, o2]).toArray) (ops' := (l ++ [struck o, struck o2]).toArray) (m := l.length) (o := o) (o' := struck o) (o2 := o2) (o2' := struck o2) (by simp) (by simp) (by simp) (by simp) (by simp) ?_ (by simp) rfl rfl ?_ (by simpa [struck] using hg1) rfl (by simpa [struck] using hg2) rfl ?_ ?_ ?_ _ _ a _ (by simp) ?_ ?_ ?_ hC ?_
  · intro i hi
    simp only [List.getElem?_toArray]
    rw [List.getElem?_append_left hi, List.getElem?_append_left hi]
  · intro i x hx
    simp only [List.getElem?_toArray] at hx
    have := List.all_eq_true.1 hB1 x (List.mem_of_getElem? hx)
    simpa using this
  · intro i x hx e he hb
    simp only [List.getElem?_toArray] at hx
    have h1 := List.all_eq_true.1 hB2 (x, i) (by rw [List.mem_zipIdx_iff_getElem?]; simpa using hx)
    have h2 := (Array.all_eq_true_iff_forall_mem.1 h1) e he
    simpa [hb] using h2
  · intro j hj
    have h1 := List.all_eq_true.1 hB3 j (List.mem_range.2 hj)
    obtain ⟨⟨x, i⟩, hxi, hx⟩ := List.any_eq_true.1 h1
    simp only [Bool.and_eq_true, decide_eq_true_eq] at hx
    obtain ⟨hji, hany⟩ := hx
    obtain ⟨k, hk, hxk⟩ := Array.any_eq_true.1 hany
    simp at hxk
    have hget : (l ++ [o])[i]? = some x := by rw [List.mem_zipIdx_iff_getElem?] at hxi; simpa using hxi
    have hil : i < l.length + 1 := by
      have := (List.getElem?_eq_some_iff.1 hget).1
      simpa using this
    refine ⟨i, x, hji, by omega, ?_, x.after[k], Array.getElem_mem hk, hxk.1, hxk.2⟩
    simp only [List.getElem?_toArray]
    rw [show l ++ [o, o2] = (l ++ [o]) ++ [o2] by simp, List.getElem?_append_left (by simpa using hil)]
    exact hget
  · obtain ⟨k, hk, hxk⟩ := Array.any_eq_true.1 hB5
    simp at hxk
    exact ⟨o2.after[k], Array.getElem_mem hk, hxk.1, hxk.2⟩
  · intro i x hx hL
    exfalso
    have : (Array.replicate (l ++ [o, o2]).toArray.size false).getD i false = false := by
      simp only [Array.getD_eq_getD_getElem?, Array.getElem?_replicate]
      split <;> rfl
    rw [this] at hL
    cases hL
  · simp
  · simp
  · have hq := wpQuiet_struck (P := P) (C := C) (ops := (l ++ [struck o, struck o2]).toArray) (o := o2) (by simpa [struck] using hg2) (l ++ [struck o]) a (wpQuiet_struck (P := P) (C := C) (ops := (l ++ [struck o, struck o2]).toArray) (o := o) (by simpa [struck] using hg1) l a h)
    have e : l ++ [struck o] ++ [struck o2] = l ++ [struck o, struck o2] := by simp
    rw [e] at hq
    have := wpAnyQ_lex (C := C) (md := .any) hB4.1 (l ++ [struck o, struck o2]) 0 (Array.replicate (l ++ [o, o2]).toArray.size false) a (by simp) (by simpa using hB4.2) hq
    simpa using this

/-- .. the operations written out; the worlds of the class as one type -/
theorem wp_region_two_lit {P : Program} {S : World → Prop} {id : Nat} {Q : Exit → Act → World → Prop} {a : Act} {w : World} {l0 : List Oper} (hne : l0 ≠ []) (hne2 : l0.dropLast ≠ []) (hm : P.follows .mixedOrders = true) (hB : twoB l0.dropLast.dropLast (l0.dropLast.getLast hne2) (l0.getLast hne) = true) (hC : S { w with drawn := w.drawn + 1 })
    (h : wpQuiet P (l0.dropLast.dropLast ++ [struck (l0.dropLast.getLast hne2), struck (l0.getLast hne)]).toArray (fun w' => ∃ u : Wof S, w' = u.val) (fun a' => ∀ w', (∃ u : Wof S, w' = u.val) → (l0.dropLast.getLast hne2).wp P a' w' (fun a w => (l0.getLast hne).wp P a w (fun a w => Q .normal a w) Q) Q) l0.dropLast.dropLast a) : (Code.region id l0.toArray true).wp P Q a w := by
  have e : l0.dropLast.dropLast ++ [l0.dropLast.getLast hne2, l0.getLast hne] = l0 := by
    have e1 := List.dropLast_concat_getLast hne2
    have e2 := List.dropLast_concat_getLast hne
    rw [show ([l0.dropLast.getLast hne2, l0.getLast hne] : List Oper) = [l0.dropLast.getLast hne2] ++ [l0.getLast hne] from rfl, ← List.append_assoc, e1, e2]
  have := wp_region_quiet_two (C := fun w' => ∃ u : Wof S, w' = u.val) (id := id) l0.dropLast.dropLast (l0.dropLast.getLast hne2) (l0.getLast hne) hm hB ⟨⟨_, hC⟩, rfl⟩ h
  rwa [e] at this

end Go
