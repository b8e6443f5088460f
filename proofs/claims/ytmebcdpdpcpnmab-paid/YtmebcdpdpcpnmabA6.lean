import Derived.Test.YtmebcdpdpcpnmabA5
namespace Go.Proofs.Ytmebcdpdpcpnmab
open Go.RowKit

/-- bestLevel's memory at a round's head: its result's block, its best level's block B -/
structure Bs (w wr : World) (B : Nat) (p d s : Int) : Prop where
  below : Below w.heap.size w wr
  lt : w.heap.size < B
  res : LvAt wr w.heap.size 0 0 0
  lv : LvAt wr B p d s

theorem Bs.next {w wr w' : World} {B : Nat} {p d s : Int} (h : Bs w wr B p d s) (hb : Below wr.heap.size wr w') : Bs w w' B p d s :=
  ⟨h.below.trans (hb.mono h.below.size), h.lt, h.res.below hb h.res.lt, h.lv.below hb h.lv.lt⟩
theorem Bs.alloc {w wr : World} {B : Nat} {p d s : Int} (h : Bs w wr B p d s) (o : Obj) : Bs w (wr.alloc o) B p d s :=
  h.next ((Below.refl _ _).alloc (Nat.le_refl _) o)
theorem Bs.set {w wr : World} {B : Nat} {p d s : Int} (h : Bs w wr B p d s) (p' d' s' : Int) : Bs w (((wr.setCell ⟨B, 0, none⟩ (.int .i64 p')).setCell ⟨B, 1, none⟩ (.int .i64 d')).setCell ⟨B, 2, none⟩ (.int .i64 s')) B p' d' s' := by
  have hl := h.lt
  exact ⟨((h.below.setCell (by show _ ≤ B; omega) _).setCell (by show _ ≤ B; omega) _).setCell (by show _ ≤ B; omega) _, h.lt, ((h.res.setOther _ (by omega)).setOther _ (by omega)).setOther _ (by omega), h.lv.set _ _ _⟩

end Go.Proofs.Ytmebcdpdpcpnmab
