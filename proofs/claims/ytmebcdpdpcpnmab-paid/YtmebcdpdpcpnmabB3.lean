import Derived.Test.YtmebcdpdpcpnmabA6
import Derived.Test.YtmebcdpdpcpnmabB2
import Derived.Test.YtmebcdpdpcpnmabPlain4
namespace Go.Proofs.Ytmebcdpdpcpnmab
open Go.RowKit

theorem row_below {w w' : World} {b n m : Nat} {t : TypeId} {f : Nat → Value} (h : w.rowIs b t n f) (hb : Below m w w') (hm : b < m) : w'.rowIs b t n f := h.of_block (hb.block b hm)

/-- the memory of 'shares': the level's box, the row 'gets', the row 'lost' -/
structure Sh (w wr : World) (n : Nat) (p d s : Int) (G L : Nat → Int) : Prop where
  below : Below w.heap.size w wr
  lv : LvAt wr w.heap.size p d s
  gets : wr.rowIs (w.heap.size + 1) 3 n (fun i => .int .i64 (G i))
  lost : wr.rowIs (w.heap.size + 1 + 1) 3 n (fun i => .int .i64 (L i))

theorem Sh.next {w wr w' : World} {n : Nat} {p d s : Int} {G L : Nat → Int} (h : Sh w wr n p d s G L) (hb : Below wr.heap.size wr w') : Sh w w' n p d s G L :=
  ⟨h.below.trans (hb.mono h.below.size), h.lv.below hb h.lv.lt, row_below h.gets hb h.gets.lt, row_below h.lost hb h.lost.lt⟩
theorem Sh.alloc {w wr : World} {n : Nat} {p d s : Int} {G L : Nat → Int} (h : Sh w wr n p d s G L) (o : Obj) : Sh w (wr.alloc o) n p d s G L :=
  h.next ((Below.refl _ _).alloc (Nat.le_refl _) o)
theorem Sh.setG {w wr : World} {n : Nat} {p d s : Int} {G L : Nat → Int} (h : Sh w wr n p d s G L) (i : Nat) (v : Int) : Sh w (wr.setCell ⟨w.heap.size + 1, i, none⟩ (.int .i64 v)) n p d s (fun j => if j = i then v else G j) L :=
  ⟨h.below.setCell (by simp) _, h.lv.setOther _ (by omega), (h.gets.set i (.int .i64 v)).congr (fun j _ => by by_cases e : j = i <;> simp [e]), h.lost.setOther (by simp) _⟩
theorem Sh.setL {w wr : World} {n : Nat} {p d s : Int} {G L : Nat → Int} (h : Sh w wr n p d s G L) (i : Nat) (v : Int) : Sh w (wr.setCell ⟨w.heap.size + 1 + 1, i, none⟩ (.int .i64 v)) n p d s G (fun j => if j = i then v else L j) :=
  ⟨h.below.setCell (by show w.heap.size ≤ w.heap.size + 1 + 1; omega) _, h.lv.setOther _ (by omega), h.gets.setOther (by simp) _, (h.lost.set i (.int .i64 v)).congr (fun j _ => by by_cases e : j = i <;> simp [e])⟩
theorem Sh.congr {w wr : World} {n : Nat} {p d s : Int} {G L G' L' : Nat → Int} (h : Sh w wr n p d s G L) (hG : ∀ i, i < n → G i = G' i) (hL : ∀ i, i < n → L i = L' i) : Sh w wr n p d s G' L' :=
  ⟨h.below, h.lv, h.gets.congr (fun i hi => by rw [hG i hi]), h.lost.congr (fun i hi => by rw [hL i hi])⟩

theorem Try.infoInt : (Try.prog.info? 3).map (fun i => (i.zero, i.size, i.bytes)) = some (some (.int .i64 0), 1, 8) := by kernel_rfl

end Go.Proofs.Ytmebcdpdpcpnmab
