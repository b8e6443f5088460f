import Derived.Test.YtmebcdpdpcpnmaaGreatDoorJ15
import Derived.Test.YtmebcdpdpcpnmaaGreatDoorKS12
import Derived.Test.YtmebcdpdpcpnmaaGreatDoorKL8
namespace Go.Proofs.YtmebcdpdpcpnmaaGreatDoor
open Go.RowKit

/-- the markets: how many; market i: its pair's block, the program's market's, the document's; what they hold -/
structure Mks where
  m : Nat
  q : Nat → Nat
  px : Nat → Nat
  pr : Nat → Nat
  vb : Nat → Nat → Value
  rb : Nat → RB
  Mp : Nat → Mk.Mkt
  Mr : Nat → Mk.Mkt
/-- whose block: 2 i: the program's market i; 2 i + 1: the document's -/
def Mks.own (s : Mks) (a k : Nat) : Prop := if a % 2 = 0 then PHas (s.px (a / 2)) (s.vb (a / 2)) k else (s.rb (a / 2)).has (s.pr (a / 2)) k
theorem Mks.own_p (s : Mks) (i k : Nat) : s.own (2 * i) k ↔ PHas (s.px i) (s.vb i) k := by
  unfold Mks.own
  rw [if_pos (by omega), show 2 * i / 2 = i by omega]
theorem Mks.own_r (s : Mks) (i k : Nat) : s.own (2 * i + 1) k ↔ (s.rb i).has (s.pr i) k := by
  unfold Mks.own
  rw [if_neg (by omega), show (2 * i + 1) / 2 = i by omega]

def prF (x r : Nat) : Nat → Value
  | 0 => .pointer (some ⟨x, 0, none⟩)
  | _ => .pointer (some ⟨r, 0, none⟩)
def ptrs (q : Nat → Nat) (m : Nat) : List Value := (List.range m).map (fun i => .pointer (some ⟨q i, 0, none⟩))
theorem ptrs_get (q : Nat → Nat) {m i : Nat} (hi : i < m) : (ptrs q m)[i]? = some (.pointer (some ⟨q i, 0, none⟩)) := by
  unfold ptrs; simp [List.getElem?_map, List.getElem?_range hi]

/-- the markets in memory, each apart from all the others -/
structure Sc (w : World) (B : Nat) (vm : Value) (s : Mks) : Prop where
  pair : ∀ i, i < s.m → w.rowIs (s.q i) 44 2 (prF (s.px i) (s.pr i))
  pm : ∀ i, i < s.m → PM w (s.px i) (s.vb i) (s.Mp i)
  rf : ∀ i, i < s.m → Ref w (s.pr i) (s.rb i) (s.Mr i)
  dis : ∀ a b, a < 2 * s.m → b < 2 * s.m → a ≠ b → ∀ k, s.own a k → ¬ s.own b k
  fix : ∀ a, a < 2 * s.m → ∀ k, s.own a k → B < k ∧ (∀ i, i < s.m → k ≠ s.q i) ∧ vm.ownBlock ≠ some k
  qB : ∀ i, i < s.m → B < s.q i ∧ vm.ownBlock ≠ some (s.q i)
/-- what else lies there and stays as it is: some blocks, and the rest of the World's box -/
structure Ext where
  X : Nat → Prop
  H : Nat → Option Obj
  v1 : Value
  v2 : Value
/-- .. and the row of them, in the World's box -/
structure Sm (E : Ext) (w : World) (B : Nat) (vm : Value) (s : Mks) : Prop where
  c0 : w.cell? ⟨B, 0, none⟩ = some vm
  z0 : w.frozen? ⟨B, 0, none⟩ = false
  c1 : w.cell? ⟨B, 1, none⟩ = some E.v1
  z1 : w.frozen? ⟨B, 1, none⟩ = false
  c2 : w.cell? ⟨B, 2, none⟩ = some E.v2
  z2 : w.frozen? ⟨B, 2, none⟩ = false
  own : w.ownsRow (B + 1) 42 1 vm s.m (ptrs s.q s.m)
  sc : Sc w B vm s
  ext : ∀ k, E.X k → k < w.heap.size ∧ w.heap[k]? = E.H k ∧ k ≠ B ∧ vm.ownBlock ≠ some k ∧ (∀ i, i < s.m → k ≠ s.q i) ∧ ∀ a, a < 2 * s.m → ¬ s.own a k

section
variable {E : Ext} {w w' : World} {B : Nat} {vm : Value} {s : Mks}
theorem Sc.lt (h : Sc w B vm s) {a k : Nat} (ha : a < 2 * s.m) (hk : s.own a k) : k < w.heap.size := by
  unfold Mks.own at hk
  split at hk
  · exact (h.pm _ (by omega)).lt hk
  · exact (h.rf _ (by omega)).lt hk
/-- whatever turns, if it is none of the blocks of theirs -/
theorem Sc.blocks (h : Sc w B vm s) (hq : ∀ i, i < s.m → w'.heap[s.q i]? = w.heap[s.q i]?) (hk : ∀ a, a < 2 * s.m → ∀ k, s.own a k → w'.heap[k]? = w.heap[k]?) : Sc w' B vm s :=
  ⟨fun i hi => (h.pair i hi).of_block (hq i hi), fun i hi => (h.pm i hi).blocks (fun k hk' => hk (2 * i) (by omega) k ((s.own_p i k).2 hk')), fun i hi => (h.rf i hi).blocks (fun k hk' => hk (2 * i + 1) (by omega) k ((s.own_r i k).2 hk')), h.dis, h.fix, h.qB⟩
theorem Sc.below (h : Sc w B vm s) (hb : Below w.heap.size w w') : Sc w' B vm s :=
  h.blocks (fun i hi => hb.block _ (h.pair i hi).lt) (fun _ ha k hk => hb.block k (h.lt ha hk))
theorem Sc.setB (h : Sc w B vm s) (i : Nat) (u : Value) : Sc (w.setCell ⟨B, i, none⟩ u) B vm s :=
  h.blocks (fun i hi => Below.heap_setCell w _ u _ (fun e => by have := (h.qB i hi).1; simp at e; omega)) (fun a ha k hk => Below.heap_setCell w _ u _ (fun e => by have := (h.fix a ha k hk).1; simp at e; omega))
theorem Sm.lt (h : Sm E w B vm s) : B < w.heap.size := blk_lt h.c0
theorem Sm.below (h : Sm E w B vm s) (hb : Below w.heap.size w w') : Sm E w' B vm s :=
  ⟨(hb.cell (p := ⟨B, 0, none⟩) h.lt).trans h.c0, (hb.frozen (p := ⟨B, 0, none⟩) h.lt).trans h.z0, (hb.cell (p := ⟨B, 1, none⟩) h.lt).trans h.c1, (hb.frozen (p := ⟨B, 1, none⟩) h.lt).trans h.z1, (hb.cell (p := ⟨B, 2, none⟩) h.lt).trans h.c2, (hb.frozen (p := ⟨B, 2, none⟩) h.lt).trans h.z2, own_below h.own hb (fun k hk => (h.own.lt k hk).2), h.sc.below hb,
    fun k hk => ⟨Nat.lt_of_lt_of_le (h.ext k hk).1 hb.size, (hb.block k (h.ext k hk).1).trans (h.ext k hk).2.1, (h.ext k hk).2.2⟩⟩
/-- one of them turns, and lays new blocks -/
theorem Sm.agent (h : Sm E w B vm s) {a0 : Nat} (ha : a0 < 2 * s.m) (s' : Mks) (hm : s'.m = s.m) (hq : s'.q = s.q) (hx : s'.px = s.px) (hr : s'.pr = s.pr) (hoth : ∀ a, a ≠ a0 → ∀ k, s'.own a k → s.own a k) (hself : ∀ k, s'.own a0 k → s.own a0 k ∨ w.heap.size ≤ k)
    (ho : Only (s.own a0) w w') (hpm : ∀ i, i < s.m → PM w' (s'.px i) (s'.vb i) (s'.Mp i)) (hrf : ∀ i, i < s.m → Ref w' (s'.pr i) (s'.rb i) (s'.Mr i)) : Sm E w' B vm s' := by
  have hB := h.lt
  have eB : w'.heap[B]? = w.heap[B]? := ho.block B hB (fun e => by have := (h.sc.fix a0 ha B e).1; omega)
  have hv : ∀ k, vm.ownBlock = some k → k < w.heap.size := fun k hk => (h.own.lt k hk).2
  refine ⟨(World.cell?_of_block (w := w) (a := ⟨B, 0, none⟩) eB).trans h.c0, (World.frozen?_of_block (w := w) (a := ⟨B, 0, none⟩) eB).trans h.z0, (World.cell?_of_block (w := w) (a := ⟨B, 1, none⟩) eB).trans h.c1, (World.frozen?_of_block (w := w) (a := ⟨B, 1, none⟩) eB).trans h.z1, (World.cell?_of_block (w := w) (a := ⟨B, 2, none⟩) eB).trans h.c2, (World.frozen?_of_block (w := w) (a := ⟨B, 2, none⟩) eB).trans h.z2, ?_, ⟨?_, ?_, ?_, ?_, ?_, ?_⟩, fun k hk => ?_⟩
  · rw [hm, hq]
    exact own_block h.own (fun k hk => ho.block k (hv k hk) (fun e => (h.sc.fix a0 ha k e).2.2 hk))
  · intro i hi
    rw [hm] at hi
    rw [hq, hx, hr]
    exact (h.sc.pair i hi).of_block (ho.block _ (h.sc.pair i hi).lt (fun e => (h.sc.fix a0 ha _ e).2.1 i hi rfl))
  · intro i hi; rw [hm] at hi; exact hpm i hi
  · intro i hi; rw [hm] at hi; exact hrf i hi
  · intro a b ha' hb' hab k hk1 hk2
    rw [hm] at ha' hb'
    by_cases e1 : a = a0
    · subst e1
      have hk2' := hoth b (fun e => hab e.symm) k hk2
      rcases hself k hk1 with h1 | h1
      · exact h.sc.dis a b ha' hb' hab k h1 hk2'
      · have := h.sc.lt hb' hk2'; omega
    · have hk1' := hoth a e1 k hk1
      by_cases e2 : b = a0
      · subst e2
        rcases hself k hk2 with h1 | h1
        · exact h.sc.dis a b ha' hb' hab k hk1' h1
        · have := h.sc.lt ha' hk1'; omega
      · exact h.sc.dis a b ha' hb' hab k hk1' (hoth b e2 k hk2)
  · intro a ha' k hk
    rw [hm] at ha'
    rw [hm, hq]
    by_cases e1 : a = a0
    · subst e1
      rcases hself k hk with h1 | h1
      · exact h.sc.fix a ha' k h1
      · refine ⟨by omega, fun i hi e => ?_, fun e => ?_⟩
        · have := (h.sc.pair i hi).lt; omega
        · have := hv k e; omega
    · exact h.sc.fix a ha' k (hoth a e1 k hk)
  · intro i hi
    rw [hm] at hi
    rw [hq]
    exact h.sc.qB i hi
  · obtain ⟨x1, x2, x3, x4, x5, x6⟩ := h.ext k hk
    refine ⟨Nat.lt_of_lt_of_le x1 ho.size, (ho.block k x1 (x6 a0 ha)).trans x2, x3, x4, fun i hi => ?_, fun a ha' hk' => ?_⟩
    · rw [hm] at hi
      rw [hq]
      exact x5 i hi
    · rw [hm] at ha'
      by_cases e1 : a = a0
      · subst e1
        rcases hself k hk' with h1 | h1
        · exact x6 a ha' h1
        · omega
      · exact x6 a ha' (hoth a e1 k hk')
/-- the program's market i turns -/
theorem Sm.atP (h : Sm E w B vm s) {i : Nat} (hi : i < s.m) {vb' : Nat → Value} {M' : Mk.Mkt} (hP : PM w' (s.px i) vb' M') (ho : Only (PHas (s.px i) (s.vb i)) w w') (hn : ∀ k, PHas (s.px i) vb' k → PHas (s.px i) (s.vb i) k ∨ w.heap.size ≤ k) :
    Sm E w' B vm { s with vb := upd s.vb i vb', Mp := upd s.Mp i M' } := by
  refine h.agent (a0 := 2 * i) (by omega) _ rfl rfl rfl rfl (fun a ha k hk => ?_) (fun k hk => ?_) ?_ (fun j hj => ?_) (fun j hj => ?_)
  · unfold Mks.own at hk ⊢
    split at hk
    · rename_i h0
      rw [if_pos h0]
      have : a / 2 ≠ i := by omega
      simp only [upd_ne _ _ this] at hk
      exact hk
    · rename_i h0
      rw [if_neg h0]
      exact hk
  · rw [Mks.own_p] at hk ⊢
    simp only [upd_self] at hk
    exact hn k hk
  · exact ⟨ho.os, ho.tape, ho.output, ho.size, fun k hk hk' => ho.block k hk (fun e => hk' ((s.own_p i k).2 e))⟩
  · by_cases e : j = i
    · subst e
      simp only [upd_self]
      exact hP
    · simp only [upd_ne _ _ e]
      exact (h.sc.pm j hj).blocks (fun k hk => ho.block k ((h.sc.pm j hj).lt hk) (fun e' => h.sc.dis (2 * j) (2 * i) (by omega) (by omega) (by omega) k ((s.own_p j k).2 hk) ((s.own_p i k).2 e')))
  · exact (h.sc.rf j hj).blocks (fun k hk => ho.block k ((h.sc.rf j hj).lt hk) (fun e' => h.sc.dis (2 * j + 1) (2 * i) (by omega) (by omega) (by omega) k ((s.own_r j k).2 hk) ((s.own_p i k).2 e')))
/-- the document's market i turns -/
theorem Sm.atR (h : Sm E w B vm s) {i : Nat} (hi : i < s.m) {b' : RB} {M' : Mk.Mkt} (hR : Ref w' (s.pr i) b' M') (ho : Only ((s.rb i).has (s.pr i)) w w') (hn : ∀ k, b'.has (s.pr i) k → (s.rb i).has (s.pr i) k ∨ w.heap.size ≤ k) :
    Sm E w' B vm { s with rb := upd s.rb i b', Mr := upd s.Mr i M' } := by
  refine h.agent (a0 := 2 * i + 1) (by omega) _ rfl rfl rfl rfl (fun a ha k hk => ?_) (fun k hk => ?_) ?_ (fun j hj => ?_) (fun j hj => ?_)
  · unfold Mks.own at hk ⊢
    split at hk
    · rename_i h0
      rw [if_pos h0]
      exact hk
    · rename_i h0
      rw [if_neg h0]
      have : a / 2 ≠ i := by omega
      simp only [upd_ne _ _ this] at hk
      exact hk
  · rw [Mks.own_r] at hk ⊢
    simp only [upd_self] at hk
    exact hn k hk
  · exact ⟨ho.os, ho.tape, ho.output, ho.size, fun k hk hk' => ho.block k hk (fun e => hk' ((s.own_r i k).2 e))⟩
  · exact (h.sc.pm j hj).blocks (fun k hk => ho.block k ((h.sc.pm j hj).lt hk) (fun e' => h.sc.dis (2 * j) (2 * i + 1) (by omega) (by omega) (by omega) k ((s.own_p j k).2 hk) ((s.own_r i k).2 e')))
  · by_cases e : j = i
    · subst e
      simp only [upd_self]
      exact hR
    · simp only [upd_ne _ _ e]
      exact (h.sc.rf j hj).blocks (fun k hk => ho.block k ((h.sc.rf j hj).lt hk) (fun e' => h.sc.dis (2 * j + 1) (2 * i + 1) (by omega) (by omega) (by omega) k ((s.own_r j k).2 hk) ((s.own_r i k).2 e')))
/-- nothing at the World's box or below it turns with one of them -/
theorem Sm.belowP (h : Sm E w B vm s) {i : Nat} (hi : i < s.m) (ho : Only (PHas (s.px i) (s.vb i)) w w') : Below B w w' :=
  ⟨ho.os, ho.tape, ho.output, ho.size, fun k hk => ho.block k (by have := h.lt; omega) (fun e => by have := (h.sc.fix (2 * i) (by omega) k ((s.own_p i k).2 e)).1; omega)⟩
theorem Sm.belowR (h : Sm E w B vm s) {i : Nat} (hi : i < s.m) (ho : Only ((s.rb i).has (s.pr i)) w w') : Below B w w' :=
  ⟨ho.os, ho.tape, ho.output, ho.size, fun k hk => ho.block k (by have := h.lt; omega) (fun e => by have := (h.sc.fix (2 * i + 1) (by omega) k ((s.own_r i k).2 e)).1; omega)⟩
end

end Go.Proofs.YtmebcdpdpcpnmaaGreatDoor
