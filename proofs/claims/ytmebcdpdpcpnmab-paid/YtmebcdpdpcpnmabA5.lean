import Derived.Test.YtmebcdpdpcpnmabA4
import Derived.Test.YtmebcdpdpcpnmabPlain2
namespace Go.Proofs.Ytmebcdpdpcpnmab
open Go.RowKit

/-- a level lies at block B -/
structure LvAt (w : World) (B : Nat) (p d s : Int) : Prop where
  c0 : w.cell? ⟨B, 0, none⟩ = some (.int .i64 p)
  c1 : w.cell? ⟨B, 1, none⟩ = some (.int .i64 d)
  c2 : w.cell? ⟨B, 2, none⟩ = some (.int .i64 s)
  f0 : w.frozen? ⟨B, 0, none⟩ = false
  f1 : w.frozen? ⟨B, 1, none⟩ = false
  f2 : w.frozen? ⟨B, 2, none⟩ = false

theorem LvAt.lt {w : World} {B : Nat} {p d s : Int} (h : LvAt w B p d s) : B < w.heap.size := blk_lt h.c0
theorem LvAt.below {w w' : World} {B n : Nat} {p d s : Int} (h : LvAt w B p d s) (hb : Below n w w') (hn : B < n) : LvAt w' B p d s :=
  ⟨(hb.cell (p := ⟨B, 0, none⟩) hn).trans h.c0, (hb.cell (p := ⟨B, 1, none⟩) hn).trans h.c1, (hb.cell (p := ⟨B, 2, none⟩) hn).trans h.c2, (hb.frozen (p := ⟨B, 0, none⟩) hn).trans h.f0, (hb.frozen (p := ⟨B, 1, none⟩) hn).trans h.f1, (hb.frozen (p := ⟨B, 2, none⟩) hn).trans h.f2⟩
theorem LvAt.alloc {w : World} {B : Nat} {p d s : Int} (h : LvAt w B p d s) (o : Obj) : LvAt (w.alloc o) B p d s :=
  h.below ((Below.refl w.heap.size w).alloc (Nat.le_refl _) o) h.lt
theorem LvAt.born (w : World) (p d s : Int) (t : TypeId) : LvAt (w.alloc (.cells #[.int .i64 p, .int .i64 d, .int .i64 s] t)) w.heap.size p d s :=
  ⟨by simp, by simp, by simp, by simp [go_sem], by simp [go_sem], by simp [go_sem]⟩
theorem LvAt.set {w : World} {B : Nat} {p d s : Int} (h : LvAt w B p d s) (p' d' s' : Int) : LvAt (((w.setCell ⟨B, 0, none⟩ (.int .i64 p')).setCell ⟨B, 1, none⟩ (.int .i64 d')).setCell ⟨B, 2, none⟩ (.int .i64 s')) B p' d' s' :=
  ⟨cell_set_ne (by omega) (cell_set_ne (by omega) (cell_set_same h.c0)), cell_set_ne (by omega) (cell_set_same (cell_set_ne (by omega) h.c1)), cell_set_same (cell_set_ne (by omega) (cell_set_ne (by omega) h.c2)), by simpa using h.f0, by simpa using h.f1, by simpa using h.f2⟩
theorem LvAt.setOther {w : World} {B : Nat} {p d s : Int} (h : LvAt w B p d s) {b o : Nat} (v : Value) (hne : B ≠ b) : LvAt (w.setCell ⟨b, o, none⟩ v) B p d s :=
  ⟨cell_set_ne (by omega) h.c0, cell_set_ne (by omega) h.c1, cell_set_ne (by omega) h.c2, by simpa using h.f0, by simpa using h.f1, by simpa using h.f2⟩

end Go.Proofs.Ytmebcdpdpcpnmab
