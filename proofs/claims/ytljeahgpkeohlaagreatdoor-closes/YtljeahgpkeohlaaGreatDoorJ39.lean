import Derived.Test.YtljeahgpkeohlaaGreatDoorJ29
import Derived.Test.YtljeahgpkeohlaaGreatDoorJ30
import Derived.Test.YtljeahgpkeohlaaGreatDoorJ38
import Derived.Deep.CutBlock
namespace Go.Proofs.YtljeahgpkeohlaaGreatDoor
open Go.RowKit

/-- the markets: how many; market i: its pair's block, the program's market's, the document's; what they hold -/
structure Mks where
  m : Nat
  q : Nat → Nat
  px : Nat → Nat
  pr : Nat → Nat
  vb : Nat → Nat → Value
  rb : Nat → RB
  Mp : Nat → Mk.Mkt
  Mr : Nat → Mk.Mkt
/-- whose block: 2 i: the program's market i; 2 i + 1: the document's -/
def Mks.own (s : Mks) (a k : Nat) : Prop := if a % 2 = 0 then PHas (s.px (a / 2)) (s.vb (a / 2)) k else (s.rb (a / 2)).has (s.pr (a / 2)) k
theorem Mks.own_p (s : Mks) (i k : Nat) : s.own (2 * i) k ↔ PHas (s.px i) (s.vb i) k := by
  unfold Mks.own
  rw [if_pos (by omega), show 2 * i / 2 = i by omega]
theorem Mks.own_r (s : Mks) (i k : Nat) : s.own (2 * i + 1) k ↔ (s.rb i).has (s.pr i) k := by
  unfold Mks.own
  rw [if_neg (by omega), show (2 * i + 1) / 2 = i by omega]

def prF (x r : Nat) : Nat → Value
  | 0 => .pointer (some ⟨x, 0, none⟩)
  | _ => .pointer (some ⟨r, 0, none⟩)
def ptrs (q : Nat → Nat) (m : Nat) : List Value := (List.range m).map (fun i => .pointer (some ⟨q i, 0, none⟩))
theorem ptrs_get (q : Nat → Nat) {m i : Nat} (hi : i < m) : (ptrs q m)[i]? = some (.pointer (some ⟨q i, 0, none⟩)) := by
  unfold ptrs; simp [List.getElem?_map, List.getElem?_range hi]

/-- the markets in memory, each apart from all the others -/
structure Sc (w : World) (B : Nat) (vm : Value) (s : Mks) : Prop where
  pair : ∀ i, i < s.m → w.rowIs (s.q i) 44 2 (prF (s.px i) (s.pr i))
  pm : ∀ i, i < s.m → PM w (s.px i) (s.vb i) (s.Mp i)
  rf : ∀ i, i < s.m → Ref w (s.pr i) (s.rb i) (s.Mr i)
  dis : ∀ a b, a < 2 * s.m → b < 2 * s.m → a ≠ b → ∀ k, s.own a k → ¬ s.own b k
  fix : ∀ a, a < 2 * s.m → ∀ k, s.own a k → B < k ∧ (∀ i, i < s.m → k ≠ s.q i) ∧ vm.ownBlock ≠ some k
  qB : ∀ i, i < s.m → B < s.q i ∧ vm.ownBlock ≠ some (s.q i)
/-- .. and the row of them, in the World's box -/
structure Sm (w : World) (B : Nat) (vm : Value) (s : Mks) : Prop where
  c0 : w.cell? ⟨B, 0, none⟩ = some vm
  z0 : w.frozen? ⟨B, 0, none⟩ = false
  c1 : w.cell? ⟨B, 1, none⟩ = some (.slice none 0 0)
  own : w.ownsRow (B + 1) 42 1 vm s.m (ptrs s.q s.m)
  sc : Sc w B vm s

section
variable {w w' : World} {B : Nat} {vm : Value} {s : Mks}
theorem Sc.lt (h : Sc w B vm s) {a k : Nat} (ha : a < 2 * s.m) (hk : s.own a k) : k < w.heap.size := by
  unfold Mks.own at hk
  split at hk
  · exact (h.pm _ (by omega)).lt hk
  · exact (h.rf _ (by omega)).lt hk
/-- whatever turns, if it is none of the blocks of theirs -/
theorem Sc.blocks (h : Sc w B vm s) (hq : ∀ i, i < s.m → w'.heap[s.q i]? = w.heap[s.q i]?) (hk : ∀ a, a < 2 * s.m → ∀ k, s.own a k → w'.heap[k]? = w.heap[k]?) : Sc w' B vm s :=
  ⟨fun i hi => (h.pair i hi).of_block (hq i hi), fun i hi => (h.pm i hi).blocks (fun k hk' => hk (2 * i) (by omega) k ((s.own_p i k).2 hk')), fun i hi => (h.rf i hi).blocks (fun k hk' => hk (2 * i + 1) (by omega) k ((s.own_r i k).2 hk')), h.dis, h.fix, h.qB⟩
theorem Sc.below (h : Sc w B vm s) (hb : Below w.heap.size w w') : Sc w' B vm s :=
  h.blocks (fun i hi => hb.block _ (h.pair i hi).lt) (fun _ ha k hk => hb.block k (h.lt ha hk))
theorem Sc.setB (h : Sc w B vm s) (i : Nat) (u : Value) : Sc (w.setCell ⟨B, i, none⟩ u) B vm s :=
  h.blocks (fun i hi => Below.heap_setCell w _ u _ (fun e => by have := (h.qB i hi).1; simp at e; omega)) (fun a ha k hk => Below.heap_setCell w _ u _ (fun e => by have := (h.fix a ha k hk).1; simp at e; omega))
theorem Sm.lt (h : Sm w B vm s) : B < w.heap.size := blk_lt h.c0
theorem Sm.below (h : Sm w B vm s) (hb : Below w.heap.size w w') : Sm w' B vm s :=
  ⟨(hb.cell (p := ⟨B, 0, none⟩) h.lt).trans h.c0, (hb.frozen (p := ⟨B, 0, none⟩) h.lt).trans h.z0, (hb.cell (p := ⟨B, 1, none⟩) h.lt).trans h.c1, own_below h.own hb (fun k hk => (h.own.lt k hk).2), h.sc.below hb⟩
/-- one of them turns, and lays new blocks -/
theorem Sm.agent (h : Sm w B vm s) {a0 : Nat} (ha : a0 < 2 * s.m) (s' : Mks) (hm : s'.m = s.m) (hq : s'.q = s.q) (hx : s'.px = s.px) (hr : s'.pr = s.pr) (hoth : ∀ a, a ≠ a0 → ∀ k, s'.own a k → s.own a k) (hself : ∀ k, s'.own a0 k → s.own a0 k ∨ w.heap.size ≤ k)
    (ho : Only (s.own a0) w w') (hpm : ∀ i, i < s.m → PM w' (s'.px i) (s'.vb i) (s'.Mp i)) (hrf : ∀ i, i < s.m → Ref w' (s'.pr i) (s'.rb i) (s'.Mr i)) : Sm w' B vm s' := by
  have hB := h.lt
  have eB : w'.heap[B]? = w.heap[B]? := ho.block B hB (fun e => by have := (h.sc.fix a0 ha B e).1; omega)
  have hv : ∀ k, vm.ownBlock = some k → k < w.heap.size := fun k hk => (h.own.lt k hk).2
  refine ⟨(World.cell?_of_block (w := w) (a := ⟨B, 0, none⟩) eB).trans h.c0, (World.frozen?_of_block (w := w) (a := ⟨B, 0, none⟩) eB).trans h.z0, (World.cell?_of_block (w := w) (a := ⟨B, 1, none⟩) eB).trans h.c1, ?_, ⟨?_, ?_, ?_, ?_, ?_, ?_⟩⟩
  · rw [hm, hq]
    exact own_block h.own (fun k hk => ho.block k (hv k hk) (fun e => (h.sc.fix a0 ha k e).2.2 hk))
  · intro i hi
    rw [hm] at hi
    rw [hq, hx, hr]
    exact (h.sc.pair i hi).of_block (ho.block _ (h.sc.pair i hi).lt (fun e => (h.sc.fix a0 ha _ e).2.1 i hi rfl))
  · intro i hi; rw [hm] at hi; exact hpm i hi
  · intro i hi; rw [hm] at hi; exact hrf i hi
  · intro a b ha' hb' hab k hk1 hk2
    rw [hm] at ha' hb'
    by_cases e1 : a = a0
    · subst e1
      have hk2' := hoth b (fun e => hab e.symm) k hk2
      rcases hself k hk1 with h1 | h1
      · exact h.sc.dis a b ha' hb' hab k h1 hk2'
      · have := h.sc.lt hb' hk2'; omega
    · have hk1' := hoth a e1 k hk1
      by_cases e2 : b = a0
      · subst e2
        rcases hself k hk2 with h1 | h1
        · exact h.sc.dis a b ha' hb' hab k hk1' h1
        · have := h.sc.lt ha' hk1'; omega
      · exact h.sc.dis a b ha' hb' hab k hk1' (hoth b e2 k hk2)
  · intro a ha' k hk
    rw [hm] at ha'
    rw [hm, hq]
    by_cases e1 : a = a0
    · subst e1
      rcases hself k hk with h1 | h1
      · exact h.sc.fix a ha' k h1
      · refine ⟨by omega, fun i hi e => ?_, fun e => ?_⟩
        · have := (h.sc.pair i hi).lt; omega
        · have := hv k e; omega
    · exact h.sc.fix a ha' k (hoth a e1 k hk)
  · intro i hi
    rw [hm] at hi
    rw [hq]
    exact h.sc.qB i hi
/-- the program's market i turns -/
theorem Sm.atP (h : Sm w B vm s) {i : Nat} (hi : i < s.m) {vb' : Nat → Value} {M' : Mk.Mkt} (hP : PM w' (s.px i) vb' M') (ho : Only (PHas (s.px i) (s.vb i)) w w') (hn : ∀ k, PHas (s.px i) vb' k → PHas (s.px i) (s.vb i) k ∨ w.heap.size ≤ k) :
    Sm w' B vm { s with vb := upd s.vb i vb', Mp := upd s.Mp i M' } := by
  refine h.agent (a0 := 2 * i) (by omega) _ rfl rfl rfl rfl (fun a ha k hk => ?_) (fun k hk => ?_) ?_ (fun j hj => ?_) (fun j hj => ?_)
  · unfold Mks.own at hk ⊢
    split at hk
    · rename_i h0
      rw [if_pos h0]
      have : a / 2 ≠ i := by omega
      simp only [upd_ne _ _ this] at hk
      exact hk
    · rename_i h0
      rw [if_neg h0]
      exact hk
  · rw [Mks.own_p] at hk ⊢
    simp only [upd_self] at hk
    exact hn k hk
  · exact ⟨ho.os, ho.tape, ho.output, ho.size, fun k hk hk' => ho.block k hk (fun e => hk' ((s.own_p i k).2 e))⟩
  · by_cases e : j = i
    · subst e
      simp only [upd_self]
      exact hP
    · simp only [upd_ne _ _ e]
      exact (h.sc.pm j hj).blocks (fun k hk => ho.block k ((h.sc.pm j hj).lt hk) (fun e' => h.sc.dis (2 * j) (2 * i) (by omega) (by omega) (by omega) k ((s.own_p j k).2 hk) ((s.own_p i k).2 e')))
  · exact (h.sc.rf j hj).blocks (fun k hk => ho.block k ((h.sc.rf j hj).lt hk) (fun e' => h.sc.dis (2 * j + 1) (2 * i) (by omega) (by omega) (by omega) k ((s.own_r j k).2 hk) ((s.own_p i k).2 e')))
/-- the document's market i turns -/
theorem Sm.atR (h : Sm w B vm s) {i : Nat} (hi : i < s.m) {b' : RB} {M' : Mk.Mkt} (hR : Ref w' (s.pr i) b' M') (ho : Only ((s.rb i).has (s.pr i)) w w') (hn : ∀ k, b'.has (s.pr i) k → (s.rb i).has (s.pr i) k ∨ w.heap.size ≤ k) :
    Sm w' B vm { s with rb := upd s.rb i b', Mr := upd s.Mr i M' } := by
  refine h.agent (a0 := 2 * i + 1) (by omega) _ rfl rfl rfl rfl (fun a ha k hk => ?_) (fun k hk => ?_) ?_ (fun j hj => ?_) (fun j hj => ?_)
  · unfold Mks.own at hk ⊢
    split at hk
    · rename_i h0
      rw [if_pos h0]
      exact hk
    · rename_i h0
      rw [if_neg h0]
      have : a / 2 ≠ i := by omega
      simp only [upd_ne _ _ this] at hk
      exact hk
  · rw [Mks.own_r] at hk ⊢
    simp only [upd_self] at hk
    exact hn k hk
  · exact ⟨ho.os, ho.tape, ho.output, ho.size, fun k hk hk' => ho.block k hk (fun e => hk' ((s.own_r i k).2 e))⟩
  · exact (h.sc.pm j hj).blocks (fun k hk => ho.block k ((h.sc.pm j hj).lt hk) (fun e' => h.sc.dis (2 * j) (2 * i + 1) (by omega) (by omega) (by omega) k ((s.own_p j k).2 hk) ((s.own_r i k).2 e')))
  · by_cases e : j = i
    · subst e
      simp only [upd_self]
      exact hR
    · simp only [upd_ne _ _ e]
      exact (h.sc.rf j hj).blocks (fun k hk => ho.block k ((h.sc.rf j hj).lt hk) (fun e' => h.sc.dis (2 * j + 1) (2 * i + 1) (by omega) (by omega) (by omega) k ((s.own_r j k).2 hk) ((s.own_r i k).2 e')))
/-- nothing at the World's box or below it turns with one of them -/
theorem Sm.belowP (h : Sm w B vm s) {i : Nat} (hi : i < s.m) (ho : Only (PHas (s.px i) (s.vb i)) w w') : Below B w w' :=
  ⟨ho.os, ho.tape, ho.output, ho.size, fun k hk => ho.block k (by have := h.lt; omega) (fun e => by have := (h.sc.fix (2 * i) (by omega) k ((s.own_p i k).2 e)).1; omega)⟩
theorem Sm.belowR (h : Sm w B vm s) {i : Nat} (hi : i < s.m) (ho : Only ((s.rb i).has (s.pr i)) w w') : Below B w w' :=
  ⟨ho.os, ho.tape, ho.output, ho.size, fun k hk => ho.block k (by have := h.lt; omega) (fun e => by have := (h.sc.fix (2 * i + 1) (by omega) k ((s.own_r i k).2 e)).1; omega)⟩
end

end Go.Proofs.YtljeahgpkeohlaaGreatDoor

namespace Go.Proofs.YtljeahgpkeohlaaGreatDoor
open Go.RowKit

/-- what a statement on markets asks of Do: the pure Do, what stays true of a market, which texts -/
structure Doing (D : Mk.Mkt → ByteArray → ByteArray × Int × Mk.Mkt) (Inv : Mk.Mkt → Nat → Prop) (Ok : ByteArray → Prop) : Prop where
  fine : ∀ M k, Inv M k → M.Fine
  new : Inv Mk.Mkt.new 0
  up : ∀ M k, Inv M k → Inv M (k + 1)
  step : ∀ M k s, Inv M k → Ok s → Inv (D M s).2.2 (k + 1)
  p : ∀ (p : Nat) (vb : Nat → Value) (M : Mk.Mkt) (k : Nat) (s : ByteArray) (w : World), Inv M k → k ≤ 1048576 → s.size ≤ 1048576 → Ok s → PM w p vb M → Tab w →
    Calls Tryz.prog 27 #[.pointer (some ⟨p, 0, none⟩), .string s] w fun e w' => PDoT p vb (D M s) w e w'
  r : ∀ (p : Nat) (b : RB) (M : Mk.Mkt) (k : Nat) (s : ByteArray) (w : World), Inv M k → k ≤ 1048576 → s.size ≤ 1048576 → Ok s → Ref w p b M →
    Calls Tryz.prog 26 #[.pointer (some ⟨p, 0, none⟩), .string s] w fun e w' => DoT p b (D M s) w e w'

theorem only_drew {S : Nat → Prop} {w w' : World} (h : Only S w.drew w') : Only S w w' := ⟨h.os, h.tape, h.output, h.size, h.block⟩
/-- what a step leaves -/
def Lm (Inv : Mk.Mkt → Nat → Prop) (w : World) (B k : Nat) (e : Ending) (w' : World) : Prop :=
  e = .returned (.bool true) ∧ ∃ vm s, Sm w' B vm s ∧ (∀ i, i < s.m → s.Mp i = s.Mr i ∧ Inv (s.Mp i) (k + 1)) ∧ s.m ≤ k + 1 ∧ Below B w w'

abbrev opO (kind m a b : Int) (s : ByteArray) (oa : Option Addr) (n cap : Nat) : Obj := .cells #[.int .i64 kind, .int .i64 m, .int .i64 a, .int .i64 b, .string s, .slice oa n cap] 33

section
variable {D : Mk.Mkt → ByteArray → ByteArray × Int × Mk.Mkt} {Inv : Mk.Mkt → Nat → Prop} {Ok : ByteArray → Prop}

set_option maxRecDepth 100000 in
set_option maxHeartbeats 4000000 in
theorem call_do (hD : Doing D Inv Ok) (B : Nat) (vm : Value) (s : Mks) (i k : Nat) (m a b : Int) (t : ByteArray) (oa : Option Addr) (n cap : Nat) (w : World) (hk : k < 1048576) (hm : s.m ≤ k) (hi : i < s.m) (ht : t.size ≤ 1048576) (hok : Ok t) (hT : Tab w) (hg : ∀ g, Tryz.prog.globalNamed "internal/strconv.uint64pow10" = some g → g < B)
    (hS : Sm w B vm s) (hI : ∀ i, i < s.m → s.Mp i = s.Mr i ∧ Inv (s.Mp i) k) :
    Calls Tryz.prog 20 #[.pointer (some ⟨s.q i, 0, none⟩), opV 5 m a b t oa n cap] w fun e w' => Lm Inv w B k e w' := by
  have HI : Hid (∀ i, i < s.m → s.Mp i = s.Mr i ∧ Inv (s.Mp i) k) := hI
  have HB1 : Hid (Below w.heap.size w (w.alloc (opO 5 m a b t oa n cap))) := (Below.refl _ _).alloc (Nat.le_refl _) _
  have HS1 : Hid (Sm (w.alloc (opO 5 m a b t oa n cap)) B vm s) := hS.below HB1.out
  have HS0 : Hid (Sm w B vm s) := hS
  have hBw := hS.lt
  have HT1 : Hid (Tab (w.alloc (opO 5 m a b t oa n cap))) := hT.next HB1.out
  have x4 : (w.alloc (opO 5 m a b t oa n cap)).cell? ⟨w.heap.size, 4, none⟩ = some (.string t) := by simp
  have hwl : w.heap.size < (w.alloc (opO 5 m a b t oa n cap)).heap.size := by simp
  have HG : Hid (∀ g, Tryz.prog.globalNamed "internal/strconv.uint64pow10" = some g → g < B) := hg
  have HD : Hid (Doing D Inv Ok) := hD
  have HOk : Hid (Ok t) := hok
  clear hI hS hT hg hD hok
  go_enter Tryz.func20, Tryz.ntmps20
  go_upto_region 3 with fail
  generalize w.alloc (opO 5 m a b t oa n cap) = W1 at *
  have q0 := (HS1.out.sc.pair i hi).cell (i := 0) (by omega)
  have q1 := (HS1.out.sc.pair i hi).cell (i := 1) (by omega)
  simp only [prF] at q0 q1
  have hMi : s.Mr i = s.Mp i := (HI.out i hi).1.symm
  have HRi : Hid (Ref W1 (s.pr i) (s.rb i) (s.Mp i)) := (by have := HS1.out.sc.rf i hi; rw [hMi] at this; exact this : Ref W1 (s.pr i) (s.rb i) (s.Mp i))
  have HPi : Hid (PM W1 (s.px i) (s.vb i) (s.Mp i)) := HS1.out.sc.pm i hi
  have HCp : Hid (Calls Tryz.prog 27 #[.pointer (some ⟨s.px i, 0, none⟩), .string t] W1.drew fun e w' => PDoT (s.px i) (s.vb i) (D (s.Mp i) t) W1.drew e w') := (HD.out.p (s.px i) (s.vb i) (s.Mp i) k t W1.drew (HI.out i hi).2 (by omega) ht HOk.out (HPi.out.below (Below.refl _ _).drew) (HT1.out.next (Below.refl _ _).drew))
  go_cut [5, 6] from 19 to 28 (fun x y wx => x = .string (D (s.Mp i) t).1 ∧ y = .int .i64 (D (s.Mp i) t).2.1 ∧ ∃ vb', PM wx (s.px i) vb' (D (s.Mp i) t).2.2 ∧ Only (PHas (s.px i) (s.vb i)) W1 wx ∧ ∀ k, PHas (s.px i) vb' k → PHas (s.px i) (s.vb i) k ∨ W1.heap.size ≤ k)
  case first =>
    go_region_with (go_at_call 27; (go_must (refine HCp.out.mono ?_; rintro e w2 ⟨rfl, vb', hP2, ho2, hn2⟩)))
    all_goals
      have HW : Hid (PM w2 (s.px i) vb' (D (s.Mp i) t).2.2 ∧ Only (PHas (s.px i) (s.vb i)) W1 w2 ∧ ∀ k, PHas (s.px i) vb' k → PHas (s.px i) (s.vb i) k ∨ W1.heap.size ≤ k) := ⟨hP2, only_drew ho2, hn2⟩
      clear hP2 ho2 hn2
      go_wp2_with fail
      go_meet
      exact ⟨rfl, rfl, vb', HW.out⟩
  case rest =>
    obtain ⟨rfl, rfl, vb', hP2, ho2, hn2⟩ := hcut
    have hS2 := HS1.out.atP hi hP2 ho2 hn2
    have hb2 := HS1.out.belowP hi ho2
    have q1 := (hS2.sc.pair i hi).cell (i := 1) (by omega)
    simp only [prF] at q1
    have y4 : wc.cell? ⟨w.heap.size, 4, none⟩ = some (.string t) := (ho2.cell hwl (fun h => by have := (HS0.out.sc.pm i hi).lt h; omega)).trans x4
    have hR2 : Ref wc (s.pr i) (s.rb i) (s.Mp i) := by
      have := hS2.sc.rf i hi
      simp only [hMi] at this
      exact this
    have HS2 : Hid (Sm wc B vm { s with vb := upd s.vb i vb', Mp := upd s.Mp i (D (s.Mp i) t).2.2 }) := hS2
    have HB2 : Hid (Below B w wc) := (HB1.out.mono (by omega)).trans hb2
    have HCr : Hid (Calls Tryz.prog 26 #[.pointer (some ⟨s.pr i, 0, none⟩), .string t] wc.drew fun e w' => DoT (s.pr i) (s.rb i) (D (s.Mp i) t) wc.drew e w') := HD.out.r (s.pr i) (s.rb i) (s.Mp i) k t wc.drew (HI.out i hi).2 (by omega) ht HOk.out (hR2.below (Below.refl _ _).drew)
    clear hS2 hb2 hR2 hP2 ho2 hn2 q0 x4 HRi HPi HCp HS1
    go_upto_region 4 with fail
    go_cut [7, 8] from 29 to 38 (fun x y wx => x = .string (D (s.Mp i) t).1 ∧ y = .int .i64 (D (s.Mp i) t).2.1 ∧ ∃ b', Ref wx (s.pr i) b' (D (s.Mp i) t).2.2 ∧ Only ((s.rb i).has (s.pr i)) wc wx ∧ ∀ k, b'.has (s.pr i) k → (s.rb i).has (s.pr i) k ∨ wc.heap.size ≤ k)
    case first =>
      go_region_with (go_at_call 26; (go_must (refine HCr.out.mono ?_; rintro e w2 ⟨rfl, b', hP2, ho2, hn2⟩)))
      all_goals
        have HW : Hid (Ref w2 (s.pr i) b' (D (s.Mp i) t).2.2 ∧ Only ((s.rb i).has (s.pr i)) wc w2 ∧ ∀ k, b'.has (s.pr i) k → (s.rb i).has (s.pr i) k ∨ wc.heap.size ≤ k) := ⟨hP2, only_drew ho2, hn2⟩
        clear hP2 ho2 hn2
        go_wp2_with fail
        go_meet
        exact ⟨rfl, rfl, b', HW.out⟩
    case rest =>
      obtain ⟨rfl, rfl, b', hR3, ho3, hn3⟩ := hcut
      have hS3 := HS2.out.atR hi hR3 ho3 hn3
      have HS3 := (show Hid _ from hS3)
      have HB3 : Hid (Below B w wc) := HB2.out.trans (HS2.out.belowR hi ho3)
      have HI3 : Hid (∀ j, j < s.m → upd s.Mp i (D (s.Mp i) t).2.2 j = upd s.Mr i (D (s.Mp i) t).2.2 j ∧ Inv (upd s.Mp i (D (s.Mp i) t).2.2 j) (k + 1)) := fun j hj => by
        by_cases e : j = i
        · subst e
          rw [upd_self, upd_self]
          exact ⟨rfl, HD.out.step _ _ _ (HI.out j hj).2 HOk.out⟩
        · rw [upd_ne _ _ e, upd_ne _ _ e]
          exact ⟨(HI.out j hj).1, HD.out.up _ _ (HI.out j hj).2⟩
      clear hS3 hR3 ho3 hn3 HS2 HB2 HCr q1 y4
      go_wp2
      go_ret
      exact ⟨by simp, vm, _, HS3.out, HI3.out, by show s.m ≤ k + 1; omega, HB3.out⟩

set_option maxRecDepth 100000 in
set_option maxHeartbeats 4000000 in
theorem call_show (hD : Doing D Inv Ok) (B : Nat) (vm : Value) (s : Mks) (i k : Nat) (m a b : Int) (t : ByteArray) (oa : Option Addr) (n cap : Nat) (w : World) (hm : s.m ≤ k) (hi : i < s.m) (hT : Tab w)
    (hS : Sm w B vm s) (hI : ∀ i, i < s.m → s.Mp i = s.Mr i ∧ Inv (s.Mp i) k) :
    Calls Tryz.prog 20 #[.pointer (some ⟨s.q i, 0, none⟩), opV 6 m a b t oa n cap] w fun e w' => Lm Inv w B k e w' := by
  have HI : Hid (∀ i, i < s.m → s.Mp i = s.Mr i ∧ Inv (s.Mp i) k) := hI
  have HB1 : Hid (Below w.heap.size w (w.alloc (opO 6 m a b t oa n cap))) := (Below.refl _ _).alloc (Nat.le_refl _) _
  have HS1 : Hid (Sm (w.alloc (opO 6 m a b t oa n cap)) B vm s) := hS.below HB1.out
  have HT1 : Hid (Tab (w.alloc (opO 6 m a b t oa n cap))) := hT.next HB1.out
  have hBw := hS.lt
  have HD : Hid (Doing D Inv Ok) := hD
  have HF : Hid (s.Mp i).Fine := hD.fine _ _ (hI i hi).2
  have hMi : s.Mr i = s.Mp i := (hI i hi).1.symm
  have HIF : Hid (∀ j, j < s.m → s.Mp j = s.Mr j ∧ Inv (s.Mp j) (k + 1)) := fun j hj => ⟨(HI.out j hj).1, HD.out.up _ _ (HI.out j hj).2⟩
  clear hI hS hT hD
  go_enter Tryz.func20, Tryz.ntmps20
  go_upto_region 7 with fail
  generalize w.alloc (opO 6 m a b t oa n cap) = W1 at *
  have q0 := (HS1.out.sc.pair i hi).cell (i := 0) (by omega)
  simp only [prF] at q0
  go_wp2_with fail
  refine (pshow_any _ _ _ _ HF.out (HS1.out.sc.pm i hi) HT1.out).mono ?_
  rintro e w2 ⟨rfl, hb2⟩
  have HS2 : Hid (Sm w2 B vm s) := HS1.out.below hb2
  have HB2 : Hid (Below w.heap.size w w2) := HB1.out.trans (hb2.mono HB1.out.size)
  clear hb2 q0
  have q1 := (HS2.out.sc.pair i hi).cell (i := 1) (by omega)
  simp only [prF] at q1
  have HR2 : Hid (Ref w2 (s.pr i) (s.rb i) (s.Mp i)) := (by have := HS2.out.sc.rf i hi; rw [hMi] at this; exact this : Ref w2 (s.pr i) (s.rb i) (s.Mp i))
  go_wp2_with fail
  refine (rshow_any _ _ _ _ HF.out HR2.out).mono ?_
  rintro e w3 ⟨rfl, hb3⟩
  have HS3 : Hid (Sm w3 B vm s) := HS2.out.below hb3
  have HB3 : Hid (Below w.heap.size w w3) := HB2.out.trans (hb3.mono HB2.out.size)
  clear hb3 q1
  go_wp2_with fail
  go_ret
  exact ⟨by simp, vm, s, HS3.out, HIF.out, by omega, HB3.out.mono (by omega)⟩

set_option maxRecDepth 100000 in
set_option maxHeartbeats 4000000 in
theorem call_last (hD : Doing D Inv Ok) (B : Nat) (vm : Value) (s : Mks) (i k : Nat) (m a b : Int) (t : ByteArray) (oa : Option Addr) (n cap : Nat) (w : World) (hm : s.m ≤ k) (hi : i < s.m)
    (hS : Sm w B vm s) (hI : ∀ i, i < s.m → s.Mp i = s.Mr i ∧ Inv (s.Mp i) k) :
    Calls Tryz.prog 20 #[.pointer (some ⟨s.q i, 0, none⟩), opV 7 m a b t oa n cap] w fun e w' => Lm Inv w B k e w' := by
  have HI : Hid (∀ i, i < s.m → s.Mp i = s.Mr i ∧ Inv (s.Mp i) k) := hI
  have HB1 : Hid (Below w.heap.size w (w.alloc (opO 7 m a b t oa n cap))) := (Below.refl _ _).alloc (Nat.le_refl _) _
  have HS1 : Hid (Sm (w.alloc (opO 7 m a b t oa n cap)) B vm s) := hS.below HB1.out
  have x2 : (w.alloc (opO 7 m a b t oa n cap)).cell? ⟨w.heap.size, 2, none⟩ = some (.int .i64 a) := by simp
  have hwl : w.heap.size < (w.alloc (opO 7 m a b t oa n cap)).heap.size := by simp
  have hBw := hS.lt
  have HD : Hid (Doing D Inv Ok) := hD
  have hMi : s.Mr i = s.Mp i := (hI i hi).1.symm
  have HIF : Hid (∀ j, j < s.m → s.Mp j = s.Mr j ∧ Inv (s.Mp j) (k + 1)) := fun j hj => ⟨(HI.out j hj).1, HD.out.up _ _ (HI.out j hj).2⟩
  clear hI hS hD
  go_enter Tryz.func20, Tryz.ntmps20
  go_upto_region 11 with fail
  generalize w.alloc (opO 7 m a b t oa n cap) = W1 at *
  have q0 := (HS1.out.sc.pair i hi).cell (i := 0) (by omega)
  have q1 := (HS1.out.sc.pair i hi).cell (i := 1) (by omega)
  have hql := (HS1.out.sc.pair i hi).lt
  simp only [prF] at q0 q1
  have HRi : Hid (Ref W1 (s.pr i) (s.rb i) (s.Mp i)) := (by have := HS1.out.sc.rf i hi; rw [hMi] at this; exact this : Ref W1 (s.pr i) (s.rb i) (s.Mp i))
  have HPi : Hid (PM W1 (s.px i) (s.vb i) (s.Mp i)) := HS1.out.sc.pm i hi
  have d0 : ∀ u : Wof (Below W1.heap.size W1), u.val.cell? ⟨s.q i, 0, none⟩ = some (.pointer (some ⟨s.px i, 0, none⟩)) := fun u => (u.ok.cell (p := ⟨s.q i, 0, none⟩) hql).trans q0
  have d2 : ∀ u : Wof (Below W1.heap.size W1), u.val.cell? ⟨w.heap.size, 2, none⟩ = some (.int .i64 a) := fun u => (u.ok.cell (p := ⟨w.heap.size, 2, none⟩) hwl).trans x2
  have hne : Nonempty (Wof (Below W1.heap.size W1)) := ⟨⟨W1, Below.refl _ _⟩⟩
  clear q0
  refine wp_region_calls (S := Below W1.heap.size W1) (by kernel_rfl) (by kernel_rfl) (Below.refl _ _).drew ?_
  repeat (quiet_step ((rename_i u; refine (plast_any _ _ _ _ _ (HPi.out.below u.ok)).mono ?_; rintro e w3 ⟨rfl, hb3⟩; exact ⟨rfl, ⟨w3, u.ok.trans (hb3.mono u.ok.size)⟩, rfl⟩)))
  refine wpQuiet_nil ?_
  rintro _ ⟨u, rfl⟩
  have HB2 : Hid (Below w.heap.size w u.val) := HB1.out.trans (u.ok.mono HB1.out.size)
  have HS2 : Hid (Sm u.val B vm s) := HS1.out.below u.ok
  have HR2 : Hid (Ref u.val (s.pr i) (s.rb i) (s.Mp i)) := HRi.out.below u.ok
  have y2 : u.val.cell? ⟨w.heap.size, 2, none⟩ = some (.int .i64 a) := d2 u
  have q1' : u.val.cell? ⟨s.q i, 1, none⟩ = some (.pointer (some ⟨s.pr i, 0, none⟩)) := (u.ok.cell (p := ⟨s.q i, 1, none⟩) hql).trans q1
  have hwl2 : w.heap.size < u.val.heap.size := Nat.lt_of_lt_of_le hwl u.ok.size
  have hql2 : s.q i < u.val.heap.size := Nat.lt_of_lt_of_le hql u.ok.size
  clear d0 d2 x2 q1 hne hwl hql
  generalize u.val = W2 at *
  have d1 : ∀ u : Wof (Below W2.heap.size W2), u.val.cell? ⟨s.q i, 1, none⟩ = some (.pointer (some ⟨s.pr i, 0, none⟩)) := fun u => (u.ok.cell (p := ⟨s.q i, 1, none⟩) hql2).trans q1'
  have d2 : ∀ u : Wof (Below W2.heap.size W2), u.val.cell? ⟨w.heap.size, 2, none⟩ = some (.int .i64 a) := fun u => (u.ok.cell (p := ⟨w.heap.size, 2, none⟩) hwl2).trans y2
  have hne : Nonempty (Wof (Below W2.heap.size W2)) := ⟨⟨W2, Below.refl _ _⟩⟩
  clear q1' y2
  go_upto_region 12 with fail
  refine wp_region_calls (S := Below W2.heap.size W2) (by kernel_rfl) (by kernel_rfl) (Below.refl _ _).drew ?_
  repeat (quiet_step ((rename_i u; refine (rlast_any _ _ _ _ _ (HR2.out.below u.ok)).mono ?_; rintro e w3 ⟨rfl, rfl⟩; exact ⟨rfl, u, rfl⟩)))
  refine wpQuiet_nil ?_
  rintro _ ⟨u, rfl⟩
  have HB3 : Hid (Below w.heap.size w u.val) := HB2.out.trans (u.ok.mono HB2.out.size)
  have HS3 : Hid (Sm u.val B vm s) := HS2.out.below u.ok
  clear d1 d2 hne hwl2 hql2
  generalize u.val = W3 at *
  go_wp2_with fail
  go_ret
  exact ⟨by simp, vm, s, HS3.out, HIF.out, by omega, HB3.out.mono (by omega)⟩

end

end Go.Proofs.YtljeahgpkeohlaaGreatDoor

namespace Go.Proofs.YtljeahgpkeohlaaGreatDoor
open Go.RowKit

/-- one market more -/
def Mks.push (s : Mks) (q x p : Nat) (vb : Nat → Value) (b : RB) (M : Mk.Mkt) : Mks := ⟨s.m + 1, upd s.q s.m q, upd s.px s.m x, upd s.pr s.m p, upd s.vb s.m vb, upd s.rb s.m b, upd s.Mp s.m M, upd s.Mr s.m M⟩
theorem Mks.push_old (s : Mks) (q x p : Nat) (vb : Nat → Value) (b : RB) (M : Mk.Mkt) {a : Nat} (ha : a < 2 * s.m) (k : Nat) : (s.push q x p vb b M).own a k ↔ s.own a k := by
  unfold Mks.own Mks.push
  have h : a / 2 ≠ s.m := by omega
  simp only [upd_ne _ _ h]
theorem Mks.push_p (s : Mks) (q x p : Nat) (vb : Nat → Value) (b : RB) (M : Mk.Mkt) (k : Nat) : (s.push q x p vb b M).own (2 * s.m) k ↔ PHas x vb k := by
  rw [Mks.own_p]
  unfold Mks.push
  simp only [upd_self]
theorem Mks.push_r (s : Mks) (q x p : Nat) (vb : Nat → Value) (b : RB) (M : Mk.Mkt) (k : Nat) : (s.push q x p vb b M).own (2 * s.m + 1) k ↔ b.has p k := by
  rw [Mks.own_r]
  unfold Mks.push
  simp only [upd_self]
theorem ptrs_push (q : Nat → Nat) (m b : Nat) : ptrs (upd q m b) (m + 1) = ptrs q m ++ [.pointer (some ⟨b, 0, none⟩)] := by
  unfold ptrs
  rw [List.range_succ, List.map_append]
  congr 1
  · refine List.map_congr_left (fun i hi => ?_)
    have : i ≠ m := by have := List.mem_range.1 hi; omega
    rw [upd_ne _ _ this]
  · simp [upd_self]

theorem Sc.push {w w' : World} {B : Nat} {vm : Value} {s : Mks} (h : Sm w B vm s) (hb : Below w.heap.size w w') {q x p : Nat} {vb : Nat → Value} {b : RB} {M : Mk.Mkt}
    (hP : PM w' x vb M) (hR : Ref w' p b M) (hq : w'.rowIs q 44 2 (prF x p)) (nP : ∀ k, PHas x vb k → w.heap.size ≤ k) (nR : ∀ k, b.has p k → w.heap.size ≤ k) (nq : w.heap.size ≤ q) (d : ∀ k, PHas x vb k → ¬ b.has p k) (dq : ¬ PHas x vb q ∧ ¬ b.has p q) :
    Sc w' B vm (s.push q x p vb b M) := by
  have hB := h.lt
  have h' := h.sc.below hb
  have hv : ∀ k, vm.ownBlock = some k → k < w.heap.size := fun k hk => (h.own.lt k hk).2
  have hm : (s.push q x p vb b M).m = s.m + 1 := rfl
  have qm : (s.push q x p vb b M).q s.m = q := upd_self _ _ _
  have qo : ∀ i, i < s.m → (s.push q x p vb b M).q i = s.q i := fun i hi => upd_ne _ _ (by omega)
  have hq0 : ∀ i, i < s.m → s.q i < w.heap.size := fun i hi => (h.sc.pair i hi).lt
  have each : ∀ a, a < 2 * (s.m + 1) → a < 2 * s.m ∨ a = 2 * s.m ∨ a = 2 * s.m + 1 := fun a ha => by omega
  have new : ∀ a k, a = 2 * s.m ∨ a = 2 * s.m + 1 → (s.push q x p vb b M).own a k → w.heap.size ≤ k ∧ k ≠ q := by
    rintro a k (rfl | rfl) hk
    · rw [Mks.push_p] at hk
      exact ⟨nP k hk, fun e => dq.1 (e ▸ hk)⟩
    · rw [Mks.push_r] at hk
      exact ⟨nR k hk, fun e => dq.2 (e ▸ hk)⟩
  refine ⟨?_, ?_, ?_, ?_, ?_, ?_⟩
  · intro i hi
    rw [hm] at hi
    by_cases e : i = s.m
    · subst e
      simp only [Mks.push, upd_self]
      exact hq
    · simp only [Mks.push, upd_ne _ _ e]
      exact h'.pair i (by omega)
  · intro i hi
    rw [hm] at hi
    by_cases e : i = s.m
    · subst e
      simp only [Mks.push, upd_self]
      exact hP
    · simp only [Mks.push, upd_ne _ _ e]
      exact h'.pm i (by omega)
  · intro i hi
    rw [hm] at hi
    by_cases e : i = s.m
    · subst e
      simp only [Mks.push, upd_self]
      exact hR
    · simp only [Mks.push, upd_ne _ _ e]
      exact h'.rf i (by omega)
  · intro a c ha hc hac k h1 h2
    rw [hm] at ha hc
    rcases each a ha with ha' | ha'
    · have k1 := (s.push_old q x p vb b M ha' k).1 h1
      have hl := h.sc.lt ha' k1
      rcases each c hc with hc' | hc'
      · exact h.sc.dis a c ha' hc' hac k k1 ((s.push_old q x p vb b M hc' k).1 h2)
      · have := (new c k hc' h2).1; omega
    · rcases each c hc with hc' | hc'
      · have k2 := (s.push_old q x p vb b M hc' k).1 h2
        have hl := h.sc.lt hc' k2
        have := (new a k ha' h1).1; omega
      · rcases ha' with rfl | rfl
        · rcases hc' with rfl | rfl
          · exact hac rfl
          · rw [Mks.push_p] at h1
            rw [Mks.push_r] at h2
            exact d k h1 h2
        · rcases hc' with rfl | rfl
          · rw [Mks.push_r] at h1
            rw [Mks.push_p] at h2
            exact d k h2 h1
          · exact hac rfl
  · intro a ha k hk
    rw [hm] at ha
    rcases each a ha with ha' | ha'
    · have k1 := (s.push_old q x p vb b M ha' k).1 hk
      obtain ⟨f1, f2, f3⟩ := h.sc.fix a ha' k k1
      have hl := h.sc.lt ha' k1
      refine ⟨f1, fun i hi => ?_, f3⟩
      rw [hm] at hi
      by_cases e : i = s.m
      · subst e; rw [qm]; omega
      · rw [qo i (by omega)]; exact f2 i (by omega)
    · obtain ⟨n1, n2⟩ := new a k ha' hk
      refine ⟨by omega, fun i hi => ?_, fun e => ?_⟩
      · rw [hm] at hi
        by_cases e : i = s.m
        · subst e; rw [qm]; exact n2
        · rw [qo i (by omega)]; have := hq0 i (by omega); omega
      · have := hv k e; omega
  · intro i hi
    rw [hm] at hi
    by_cases e : i = s.m
    · subst e
      rw [qm]
      exact ⟨by omega, fun e => by have := hv _ e; omega⟩
    · rw [qo i (by omega)]
      exact h.sc.qB i (by omega)

/-- the row of markets grows -/
theorem Sc.grown {w w' : World} {B : Nat} {vm : Value} {s : Mks} (h : Sc w B vm s) (hg : w.grownBy w' vm.ownBlock) {gg n c : Nat} (hat : vm.ownBlock = some gg ∨ w.heap.size ≤ gg) : Sc w' B (.slice (some ⟨gg, 0, none⟩) n c) s := by
  have h2 : Sc w' B vm s := h.blocks (fun i hi => hg.block _ (h.pair i hi).lt (fun e => (h.qB i hi).2 e.symm)) (fun a ha k hk => hg.block k (h.lt ha hk) (fun e => (h.fix a ha k hk).2.2 e.symm))
  refine ⟨h2.pair, h2.pm, h2.rf, h2.dis, fun a ha k hk => ?_, fun i hi => ?_⟩
  · obtain ⟨f1, f2, f3⟩ := h.fix a ha k hk
    refine ⟨f1, f2, fun e => ?_⟩
    have e' : gg = k := by simpa [Value.ownBlock] using e
    subst e'
    rcases hat with e1 | e1
    · exact f3 e1
    · have := h.lt ha hk; omega
  · obtain ⟨f1, f2⟩ := h.qB i hi
    refine ⟨f1, fun e => ?_⟩
    have e' : gg = s.q i := by simpa [Value.ownBlock] using e
    rcases hat with e1 | e1
    · exact f2 (by rw [e1, e'])
    · have := (h.pair i hi).lt; omega

end Go.Proofs.YtljeahgpkeohlaaGreatDoor
