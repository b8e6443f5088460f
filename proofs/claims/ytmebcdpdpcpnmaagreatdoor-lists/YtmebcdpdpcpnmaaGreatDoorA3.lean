import Derived.Test.YtmebcdpdpcpnmaaGreatDoorA2
namespace Go.Proofs.YtmebcdpdpcpnmaaGreatDoor
open Go.RowKit

theorem blk_lt {w : World} {b o : Nat} {v : Value} (h : w.cell? ⟨b, o, none⟩ = some v) : b < w.heap.size := by
  apply Classical.byContradiction
  intro hb
  have : w.heap[b]? = none := by simp; omega
  simp [World.cell?, this] at h

/-- the orders l, at block b from offset off on -/
def At (w : World) (b off : Nat) (l : List Mk.Ord) : Prop :=
  ∀ (i : Nat) (h : i < l.length), w.cell? ⟨b, off + i * 3, none⟩ = some (.bool l[i].sell) ∧ w.cell? ⟨b, off + i * 3 + 1, none⟩ = some (.int .i64 l[i].price) ∧ w.cell? ⟨b, off + i * 3 + 1 + 1, none⟩ = some (.int .i64 l[i].qty)

theorem At.below {w w' : World} {b off : Nat} {l : List Mk.Ord} (h : At w b off l) (hb : Below w.heap.size w w') : At w' b off l := by
  intro i hi
  obtain ⟨c0, c1, c2⟩ := h i hi
  have hl := blk_lt c0
  exact ⟨(hb.cell (p := ⟨b, _, none⟩) hl).trans c0, (hb.cell (p := ⟨b, _, none⟩) hl).trans c1, (hb.cell (p := ⟨b, _, none⟩) hl).trans c2⟩
theorem Rd.below {w w' : World} {a : Option Addr} {l : List Mk.Ord} (h : Rd w a l) (hb : Below w.heap.size w w') : Rd w' a l := by
  rcases h with h | ⟨b, off, h, hR⟩
  · exact .inl h
  · exact .inr ⟨b, off, h, At.below (w := w) (fun i hi => hR i hi) hb⟩

end Go.Proofs.YtmebcdpdpcpnmaaGreatDoor
