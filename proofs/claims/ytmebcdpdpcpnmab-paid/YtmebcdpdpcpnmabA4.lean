import Derived.Test.YtmebcdpdpcpnmabA3
namespace Go.Proofs.Ytmebcdpdpcpnmab
open Go.RowKit

/-- levelAt's memory at a round's head: its result's block, its level's block -/
structure Lv (w wr : World) (p d s : Int) : Prop where
  below : Below w.heap.size w wr
  size : w.heap.size + 1 < wr.heap.size
  c0 : wr.cell? ⟨w.heap.size + 1, 0, none⟩ = some (.int .i64 p)
  c1 : wr.cell? ⟨w.heap.size + 1, 1, none⟩ = some (.int .i64 d)
  c2 : wr.cell? ⟨w.heap.size + 1, 2, none⟩ = some (.int .i64 s)
  f1 : wr.frozen? ⟨w.heap.size + 1, 1, none⟩ = false
  f2 : wr.frozen? ⟨w.heap.size + 1, 2, none⟩ = false
  r0 : wr.cell? ⟨w.heap.size, 0, none⟩ = some (.int .i64 0)
  r1 : wr.cell? ⟨w.heap.size, 1, none⟩ = some (.int .i64 0)
  r2 : wr.cell? ⟨w.heap.size, 2, none⟩ = some (.int .i64 0)
  g0 : wr.frozen? ⟨w.heap.size, 0, none⟩ = false
  g1 : wr.frozen? ⟨w.heap.size, 1, none⟩ = false
  g2 : wr.frozen? ⟨w.heap.size, 2, none⟩ = false

theorem cell_al {w : World} {b o : Nat} {v : Value} {ob : Obj} (h : w.cell? ⟨b, o, none⟩ = some v) : (w.alloc ob).cell? ⟨b, o, none⟩ = some v := by
  rw [World.cell?_alloc_past _ _ _ (blk_lt h)]; exact h
theorem froz_al {w : World} {b o : Nat} {v : Bool} {ob : Obj} (hb : b < w.heap.size) (h : w.frozen? ⟨b, o, none⟩ = v) : (w.alloc ob).frozen? ⟨b, o, none⟩ = v := by
  rw [← h]; exact (((Below.refl w.heap.size w).alloc (Nat.le_refl _) ob).frozen (p := ⟨b, o, none⟩) hb)
theorem cell_set_ne {w : World} {b o b' o' : Nat} {v u : Value} (hne : b ≠ b' ∨ o ≠ o') (h : w.cell? ⟨b, o, none⟩ = some v) : (w.setCell ⟨b', o', none⟩ u).cell? ⟨b, o, none⟩ = some v := by
  rw [World.cell?_setCell_other]; exact h
  intro e; injection e with e1 e2; omega

theorem cell_set_same {w : World} {b o : Nat} {v u : Value} (h : w.cell? ⟨b, o, none⟩ = some v) : (w.setCell ⟨b, o, none⟩ u).cell? ⟨b, o, none⟩ = some u := World.cell?_setCell_same _ _ _ h

theorem Lv.alloc {w wr : World} {p d s : Int} (h : Lv w wr p d s) (o : Obj) : Lv w (wr.alloc o) p d s := by
  have hs := h.size
  exact ⟨h.below.alloc (by omega) o, by simp; omega, cell_al h.c0, cell_al h.c1, cell_al h.c2, froz_al hs h.f1, froz_al hs h.f2, cell_al h.r0, cell_al h.r1, cell_al h.r2, froz_al (by omega) h.g0, froz_al (by omega) h.g1, froz_al (by omega) h.g2⟩
theorem Lv.setD {w wr : World} {p d s : Int} (h : Lv w wr p d s) (d' : Int) : Lv w (wr.setCell ⟨w.heap.size + 1, 1, none⟩ (.int .i64 d')) p d' s :=
  ⟨h.below.setCell (by simp) _, by simpa using h.size, cell_set_ne (by omega) h.c0, cell_set_same h.c1, cell_set_ne (by omega) h.c2, by simpa using h.f1, by simpa using h.f2, cell_set_ne (by omega) h.r0, cell_set_ne (by omega) h.r1, cell_set_ne (by omega) h.r2, by simpa using h.g0, by simpa using h.g1, by simpa using h.g2⟩
theorem Lv.setS {w wr : World} {p d s : Int} (h : Lv w wr p d s) (s' : Int) : Lv w (wr.setCell ⟨w.heap.size + 1, 2, none⟩ (.int .i64 s')) p d s' :=
  ⟨h.below.setCell (by simp) _, by simpa using h.size, cell_set_ne (by omega) h.c0, cell_set_ne (by omega) h.c1, cell_set_same h.c2, by simpa using h.f1, by simpa using h.f2, cell_set_ne (by omega) h.r0, cell_set_ne (by omega) h.r1, cell_set_ne (by omega) h.r2, by simpa using h.g0, by simpa using h.g1, by simpa using h.g2⟩

end Go.Proofs.Ytmebcdpdpcpnmab
