import Derived.Test.YtmebcdpdpcpnmaaGreatDoorK2
import Derived.Test.YtmebcdpdpcpnmaaGreatDoorK3
import Derived.Laws.CopyRow
namespace Go.Proofs.YtmebcdpdpcpnmaaGreatDoor
open Go.RowKit

theorem own_below {w w' : World} {base e size n m : Nat} {v : Value} {xs : List Value} (h : w.ownsRow base e size v n xs) (hb : Below m w w') (hm : ∀ k, v.ownBlock = some k → k < m) : w'.ownsRow base e size v n xs := by
  refine ⟨h.1, ?_⟩
  rcases h.2 with h0 | ⟨g, cap, cur, rfl, hg, hh, hr⟩
  · exact .inl h0
  · exact .inr ⟨g, cap, cur, rfl, hg, (hb.block g (hm g rfl)).trans hh, hr⟩
theorem own_kind {w : World} {base e size n : Nat} {v : Value} {xs : List Value} (h : w.ownsRow base e size v n xs) {g : Nat} (hg : v.ownBlock = some g) : ∃ c, w.heap[g]? = some (.cells c e (0, 0)) := by
  rcases h.2 with ⟨rfl, _⟩ | ⟨g', cap, cur, rfl, _, hh, _⟩
  · simp [Value.ownBlock] at hg
  · have : g' = g := by simpa [Value.ownBlock] using hg
    subst this
    exact ⟨cur, hh⟩
/-- a row of numbers is no row of lists -/
theorem row_far {w : World} {base b n k : Nat} {v : Value} {xs : List Value} {f : Nat → Value} (h : w.rowIs b 3 n f) (ho : w.ownsRow base 53 1 v k xs) : some b ≠ v.ownBlock := by
  intro e
  obtain ⟨c, hc⟩ := own_kind ho e.symm
  obtain ⟨c', hc', _⟩ := h
  rw [hc] at hc'
  simp at hc'
theorem row_grown {w w' : World} {base b n k : Nat} {v : Value} {xs : List Value} {f : Nat → Value} (h : w.rowIs b 3 n f) (ho : w.ownsRow base 53 1 v k xs) (hg : w.grownBy w' v.ownBlock) : w'.rowIs b 3 n f :=
  h.of_block (hg.block b h.lt (row_far h ho))

/-- what else lies there and stays as it is: some blocks, and the first cell of the World's box -/
structure Gst where
  X : Nat → Prop
  H : Nat → Option Obj
  v0 : Value
/-- what the World's box holds: the row of the lists that came out, and the row of those that they must read as -/
structure Pt (G : Gst) (w : World) (B : Nat) (vo : Value) (m1 : Nat) (xs : List Value) (vw : Value) (m2 : Nat) (ys : List Value) : Prop where
  c0 : w.cell? ⟨B, 0, none⟩ = some G.v0
  f0 : w.frozen? ⟨B, 0, none⟩ = false
  c1 : w.cell? ⟨B, 1, none⟩ = some vo
  c2 : w.cell? ⟨B, 2, none⟩ = some vw
  f1 : w.frozen? ⟨B, 1, none⟩ = false
  f2 : w.frozen? ⟨B, 2, none⟩ = false
  own1 : w.ownsRow (B + 1) 53 1 vo m1 xs
  own2 : w.ownsRow (B + 1) 53 1 vw m2 ys
  sep : ∀ k, vo.ownBlock = some k → vw.ownBlock ≠ some k
  gst : ∀ k, G.X k → k < w.heap.size ∧ w.heap[k]? = G.H k ∧ k ≠ B ∧ vo.ownBlock ≠ some k ∧ vw.ownBlock ≠ some k

section
variable {G : Gst} {w w' : World} {B m1 m2 : Nat} {vo vw : Value} {xs ys : List Value}

theorem Pt.lt (h : Pt G w B vo m1 xs vw m2 ys) : B < w.heap.size := blk_lt h.c1
theorem Pt.below (h : Pt G w B vo m1 xs vw m2 ys) (hb : Below w.heap.size w w') : Pt G w' B vo m1 xs vw m2 ys :=
  ⟨(hb.cell (p := ⟨B, 0, none⟩) h.lt).trans h.c0, (hb.frozen (p := ⟨B, 0, none⟩) h.lt).trans h.f0, (hb.cell (p := ⟨B, 1, none⟩) h.lt).trans h.c1, (hb.cell (p := ⟨B, 2, none⟩) h.lt).trans h.c2, (hb.frozen (p := ⟨B, 1, none⟩) h.lt).trans h.f1, (hb.frozen (p := ⟨B, 2, none⟩) h.lt).trans h.f2,
    own_below h.own1 hb (fun k hk => (h.own1.lt k hk).2), own_below h.own2 hb (fun k hk => (h.own2.lt k hk).2), h.sep, fun k hk => ⟨Nat.lt_of_lt_of_le (h.gst k hk).1 hb.size, (hb.block k (h.gst k hk).1).trans (h.gst k hk).2.1, (h.gst k hk).2.2⟩⟩
theorem Pt.alloc (h : Pt G w B vo m1 xs vw m2 ys) (o : Obj) : Pt G (w.alloc o) B vo m1 xs vw m2 ys := h.below ((Below.refl _ _).alloc (Nat.le_refl _) o)
theorem Pt.far1 (h : Pt G w B vo m1 xs vw m2 ys) : some B ≠ vo.ownBlock := fun e => by have := (h.own1.lt B e.symm).1; omega
theorem Pt.far2 (h : Pt G w B vo m1 xs vw m2 ys) : some B ≠ vw.ownBlock := fun e => by have := (h.own2.lt B e.symm).1; omega
/-- behind an append to the first row: the box is as it was -/
theorem Pt.mid1 (h : Pt G w B vo m1 xs vw m2 ys) (hg : w.grownBy w' vo.ownBlock) : w'.cell? ⟨B, 1, none⟩ = some vo ∧ w'.frozen? ⟨B, 1, none⟩ = false ∧ w'.cell? ⟨B, 2, none⟩ = some vw ∧ w'.frozen? ⟨B, 2, none⟩ = false :=
  ⟨(hg.cell_far ⟨B, 1, none⟩ h.lt h.far1).trans h.c1, (hg.frozen_far ⟨B, 1, none⟩ h.lt h.far1).trans h.f1, (hg.cell_far ⟨B, 2, none⟩ h.lt h.far1).trans h.c2, (hg.frozen_far ⟨B, 2, none⟩ h.lt h.far1).trans h.f2⟩
theorem Pt.mid2 (h : Pt G w B vo m1 xs vw m2 ys) (hg : w.grownBy w' vw.ownBlock) : w'.cell? ⟨B, 1, none⟩ = some vo ∧ w'.frozen? ⟨B, 1, none⟩ = false ∧ w'.cell? ⟨B, 2, none⟩ = some vw ∧ w'.frozen? ⟨B, 2, none⟩ = false :=
  ⟨(hg.cell_far ⟨B, 1, none⟩ h.lt h.far2).trans h.c1, (hg.frozen_far ⟨B, 1, none⟩ h.lt h.far2).trans h.f1, (hg.cell_far ⟨B, 2, none⟩ h.lt h.far2).trans h.c2, (hg.frozen_far ⟨B, 2, none⟩ h.lt h.far2).trans h.f2⟩
theorem Pt.app1 (h : Pt G w B vo m1 xs vw m2 ys) {gg n cap : Nat} {zs : List Value} (hg : w.grownBy w' vo.ownBlock) (ho : w'.ownsRow (B + 1) 53 1 (.slice (some ⟨gg, 0, none⟩) n cap) n zs) (hat : vo.ownBlock = some gg ∨ gg = w.heap.size) :
    Pt G (w'.setCell ⟨B, 1, none⟩ (.slice (some ⟨gg, 0, none⟩) n cap)) B (.slice (some ⟨gg, 0, none⟩) n cap) n zs vw m2 ys := by
  obtain ⟨a1, a2, a3, a4⟩ := h.mid1 hg
  have a5 : w'.cell? ⟨B, 0, none⟩ = some G.v0 := (hg.cell_far ⟨B, 0, none⟩ h.lt h.far1).trans h.c0
  have a6 : w'.frozen? ⟨B, 0, none⟩ = false := (hg.frozen_far ⟨B, 0, none⟩ h.lt h.far1).trans h.f0
  refine ⟨cell_set_ne (by omega) a5, by simpa using a6, cell_set_same a1, cell_set_ne (by omega) a3, by simpa using a2, by simpa using a4, ownsRow_setCell_below ho (by simp) _, ownsRow_setCell_below (h.own2.kept hg ?_) (by simp) _, ?_, fun k hk => ?_⟩
  · cases hv : vw.ownBlock with
    | none => exact .inl rfl
    | some k => exact .inr (fun e => h.sep k e.symm hv)
  · intro k hk
    have : gg = k := by simpa [Value.ownBlock] using hk
    subst this
    rcases hat with hat | hat
    · exact h.sep _ hat
    · intro e
      have := (h.own2.lt _ e).2
      omega
  · obtain ⟨x1, x2, x3, x4, x5⟩ := h.gst k hk
    refine ⟨by have := hg.size; simpa using (by omega : k < w'.heap.size), (Below.heap_setCell w' _ _ k x3).trans ((hg.block k x1 (fun e => x4 e.symm)).trans x2), x3, fun e => ?_, x5⟩
    have e' : gg = k := by simpa [Value.ownBlock] using e
    rcases hat with hat | hat
    · exact x4 (e' ▸ hat)
    · omega
theorem Pt.app2 (h : Pt G w B vo m1 xs vw m2 ys) {gg n cap : Nat} {zs : List Value} (hg : w.grownBy w' vw.ownBlock) (ho : w'.ownsRow (B + 1) 53 1 (.slice (some ⟨gg, 0, none⟩) n cap) n zs) (hat : vw.ownBlock = some gg ∨ gg = w.heap.size) :
    Pt G (w'.setCell ⟨B, 2, none⟩ (.slice (some ⟨gg, 0, none⟩) n cap)) B vo m1 xs (.slice (some ⟨gg, 0, none⟩) n cap) n zs := by
  obtain ⟨a1, a2, a3, a4⟩ := h.mid2 hg
  have a5 : w'.cell? ⟨B, 0, none⟩ = some G.v0 := (hg.cell_far ⟨B, 0, none⟩ h.lt h.far2).trans h.c0
  have a6 : w'.frozen? ⟨B, 0, none⟩ = false := (hg.frozen_far ⟨B, 0, none⟩ h.lt h.far2).trans h.f0
  refine ⟨cell_set_ne (by omega) a5, by simpa using a6, cell_set_ne (by omega) a1, cell_set_same a3, by simpa using a2, by simpa using a4, ownsRow_setCell_below (h.own1.kept hg ?_) (by simp) _, ownsRow_setCell_below ho (by simp) _, ?_, fun k hk => ?_⟩
  · cases hv : vo.ownBlock with
    | none => exact .inl rfl
    | some k => exact .inr (fun e => h.sep k hv e.symm)
  · intro k hk e
    have : gg = k := by simpa [Value.ownBlock] using e
    subst this
    rcases hat with hat | hat
    · exact h.sep _ hk hat
    · have := (h.own1.lt _ hk).2
      omega
  · obtain ⟨x1, x2, x3, x4, x5⟩ := h.gst k hk
    refine ⟨by have := hg.size; simpa using (by omega : k < w'.heap.size), (Below.heap_setCell w' _ _ k x3).trans ((hg.block k x1 (fun e => x5 e.symm)).trans x2), x3, x4, fun e => ?_⟩
    have e' : gg = k := by simpa [Value.ownBlock] using e
    rcases hat with hat | hat
    · exact x5 (e' ▸ hat)
    · omega
/-- a store into a row of numbers leaves the box as it is -/
theorem Pt.setRow (h : Pt G w B vo m1 xs vw m2 ys) {g n j : Nat} {f : Nat → Value} (hr : w.rowIs g 3 n f) (hB : B < g) (hX : ¬ G.X g) (u : Value) : Pt G (w.setCell ⟨g, j, none⟩ u) B vo m1 xs vw m2 ys := by
  have hblk : ∀ k, k ≠ g → (w.setCell ⟨g, j, none⟩ u).heap[k]? = w.heap[k]? := fun k hk => Below.heap_setCell w _ u k hk
  have hown : ∀ {v : Value} {m : Nat} {zs : List Value}, w.ownsRow (B + 1) 53 1 v m zs → (w.setCell ⟨g, j, none⟩ u).ownsRow (B + 1) 53 1 v m zs := by
    intro v m zs ho
    have hf := row_far hr ho
    refine ⟨ho.1, ?_⟩
    rcases ho.2 with h0 | ⟨g', cap, cur, rfl, hg, hh, hr'⟩
    · exact .inl h0
    · exact .inr ⟨g', cap, cur, rfl, hg, (hblk g' (fun e => hf (by rw [e]; rfl))).trans hh, hr'⟩
  exact ⟨cell_set_ne (by omega) h.c0, by simpa using h.f0, cell_set_ne (by omega) h.c1, cell_set_ne (by omega) h.c2, by simpa using h.f1, by simpa using h.f2, hown h.own1, hown h.own2, h.sep,
    fun k hk => ⟨by simpa using (h.gst k hk).1, (hblk k (fun e => hX (e ▸ hk))).trans (h.gst k hk).2.1, (h.gst k hk).2.2⟩⟩
end

end Go.Proofs.YtmebcdpdpcpnmaaGreatDoor
