import Derived.Test.YtmebcdpdpcpnmabDoorKZC
namespace Go.Proofs.YtmebcdpdpcpnmabDoor
open Go.RowKit

def seenF (a : Value) (h : Int) (o s : Value) : Nat → Value
  | 0 => a
  | 1 => .int .i64 h
  | 2 => o
  | _ => s

theorem seen_nil : ∀ i, i < (#[.slice none 0 0, .int .i64 0, .slice none 0 0, .slice none 0 0] : Array Value).size → (#[.slice none 0 0, .int .i64 0, .slice none 0 0, .slice none 0 0] : Array Value)[i]? = some (seenF (.slice none 0 0) 0 (.slice none 0 0) (.slice none 0 0) i) := fun i hi => by
  match i, hi with
  | 0, _ => rfl
  | 1, _ => rfl
  | 2, _ => rfl
  | 3, _ => rfl
theorem Mk.showM_le {M : Mk.Mkt} (hM : M.Fine) : (Mk.showM M).size ≤ 1000 := by
  have h1 := Mk.addM_le hM (Mk.addC M 4 ++ Mk.digI M.house) 2 (by omega)
  have h2 := Mk.addC_le hM 4 (by omega)
  have h3 := Mk.digI_le hM.house.2
  rw [ByteArray.size_append] at h1
  unfold Mk.showM
  omega

/-- what lies behind the seven parts -/
def prtL (M : Mk.Mkt) : List Value := [.string (Mk.cliT M 0), .string (Mk.cliT M 1), .string (Mk.cliT M 2), .string (Mk.cliT M 3), .string (Mk.digI M.house), .string (Mk.batT M 0), .string (Mk.batT M 1)]
abbrev nilS : Value := .slice none 0 0
/-- WHERE look STANDS: its answer's block, its own struct, the parts, the accounts so far, the orders and their sides so far -/
structure Lk (w : World) (gl lc : Nat) (M : Mk.Mkt) (av : Value) (ac : Nat) (fa : Nat → Value) (hh : Int) (ov : Value) (oc : Nat) (fo : Nat → Value) (sv : Value) (sc : Nat) (wr : World) : Prop where
  row : wr.rowIs (w.heap.size + 1) 38 4 (seenF av hh ov sv)
  res : wr.rowIs w.heap.size 38 4 (seenF nilS 0 nilS nilS)
  prt : wr.ownsRow w.heap.size 9 1 (.slice (some ⟨gl, 0, none⟩) 7 lc) 7 (prtL M)
  acc : wr.ownsRow w.heap.size 27 1 av ac ((List.range ac).map fa)
  inn : ∀ j, j < ac → wr.ownsRow w.heap.size 3 1 (fa j) 6 (numV (Mk.nums (Mk.cliT M j)).1)
  ord : wr.ownsRow w.heap.size 27 1 ov oc ((List.range oc).map fo)
  inn2 : ∀ j, j < oc → wr.ownsRow w.heap.size 3 1 (fo j) (4 * (M.bk j).length) (numV (Mk.nums (Mk.batT M j)).1)
  sid : wr.ownsRow w.heap.size 9 1 sv sc ((List.range sc).map fun j => .string (Mk.sides (Mk.batT M j)))
  a1 : ∀ k, av.ownBlock = some k → ov.ownBlock ≠ some k
  a2 : sv.ownBlock ≠ some gl
  bel : Below w.heap.size w wr
section
variable {w w1 w7 : World} {gl lc : Nat} {M : Mk.Mkt} {av : Value} {ac : Nat} {fa : Nat → Value} {hh : Int} {ov : Value} {oc : Nat} {fo : Nat → Value} {sv : Value} {sc : Nat}
theorem Lk.next (h : Lk w gl lc M av ac fa hh ov oc fo sv sc w1) (hb : Below w1.heap.size w1 w7) : Lk w gl lc M av ac fa hh ov oc fo sv sc w7 :=
  ⟨h.row.of_block (hb.block _ h.row.lt), h.res.of_block (hb.block _ h.res.lt), own_next h.prt hb, own_next h.acc hb, fun j hj => own_next (h.inn j hj) hb, own_next h.ord hb, fun j hj => own_next (h.inn2 j hj) hb, own_next h.sid hb, h.a1, h.a2, h.bel.trans (hb.mono h.bel.size)⟩
theorem own_setC {w : World} {base e size n k i : Nat} {v u : Value} {xs : List Value} (h : w.ownsRow base e size v n xs) (hk : v.ownBlock ≠ some k) : (w.setCell ⟨k, i, none⟩ u).ownsRow base e size v n xs :=
  own_block h (fun j hj => Below.heap_setCell w _ u j (fun e => hk (by rw [hj, e])))
/-- an append to one row: what the others see of it -/
theorem grown_blocks {ob : Obj} {row : Option Nat} (hg : (w1.alloc ob).grownBy w7 row) : ∀ k, k < w1.heap.size → some k ≠ row → w7.heap[k]? = w1.heap[k]? := fun k hk hn => by
  rw [hg.block k (by simp; omega) hn]
  exact Below.heap_alloc _ _ _ hk
theorem Lk.pushA (h : Lk w gl lc M av ac fa hh ov oc fo sv sc w1) {n : Value} (hn : w1.ownsRow w.heap.size 3 1 n 6 (numV (Mk.nums (Mk.cliT M ac)).1)) {ob : Obj} {g cap : Nat}
    (hown : w7.ownsRow w.heap.size 27 1 (.slice (some ⟨g, 0, none⟩) (ac + 1) cap) (ac + 1) ((List.range ac).map fa ++ [n])) (hg : (w1.alloc ob).grownBy w7 av.ownBlock) (hat : av.ownBlock = some g ∨ g = w1.heap.size + 1) :
    Lk w gl lc M (.slice (some ⟨g, 0, none⟩) (ac + 1) cap) (ac + 1) (upd fa ac n) hh ov oc fo sv sc (w7.setCell ⟨w.heap.size + 1, 0, none⟩ (.slice (some ⟨g, 0, none⟩) (ac + 1) cap)) := by
  have hb := grown_blocks hg
  have far : ∀ {k t : Nat}, Kind w1 k t → t ≠ 27 → w7.heap[k]? = w1.heap[k]? := fun {k t} hk ht => by
    obtain ⟨c, hc⟩ := hk
    have hlt : k < w1.heap.size := by
      rcases Nat.lt_or_ge k w1.heap.size with h | h
      · exact h
      · rw [Array.getElem?_eq_none h] at hc; cases hc
    exact hb k hlt (fun e => (own_kind' h.acc e.symm).ne ⟨c, hc⟩ (Ne.symm ht) rfl)
  have r1 := far (row_kind h.row) (by decide)
  have kq : Kind w7 (w.heap.size + 1) 38 := row_kind (h.row.of_block r1)
  have ownI : ∀ {v : Value} {m t : Nat} {xs : List Value}, w1.ownsRow w.heap.size t 1 v m xs → t ≠ 27 → w7.ownsRow w.heap.size t 1 v m xs := fun ho ht => own_block ho (fun k hk => far (own_kind' ho hk) ht)
  have stay : ∀ {v : Value} {m t : Nat} {xs : List Value}, w7.ownsRow w.heap.size t 1 v m xs → t ≠ 38 → (w7.setCell ⟨w.heap.size + 1, 0, none⟩ (.slice (some ⟨g, 0, none⟩) (ac + 1) cap)).ownsRow w.heap.size t 1 v m xs := fun ho ht => own_setC ho (fun e => (own_kind' ho e).ne kq ht rfl)
  have ord7 : w7.ownsRow w.heap.size 27 1 ov oc ((List.range oc).map fo) := own_block h.ord (fun k hk => hb k ((h.ord.lt k hk).2) (fun e => h.a1 k e.symm hk))
  refine ⟨((h.row.of_block r1).set 0 _).congr (fun i hi => ?_), (h.res.of_block (far (row_kind h.res) (by decide))).setOther (by show w.heap.size ≠ w.heap.size + 1; omega) _, stay (ownI h.prt (by decide)) (by decide), ?_, fun j hj => ?_, stay ord7 (by decide), fun j hj => stay (ownI (h.inn2 j hj) (by decide)) (by decide), stay (ownI h.sid (by decide)) (by decide), fun k hk => ?_, h.a2, ?_⟩
  · match i, hi with
    | 0, _ => rfl
    | 1, _ => rfl
    | 2, _ => rfl
    | 3, _ => rfl
  · have e : (List.range (ac + 1)).map (upd fa ac n) = (List.range ac).map fa ++ [n] := by
      rw [List.range_succ, List.map_append]
      congr 1
      · exact List.map_congr_left (fun j hj => upd_ne _ _ (by have := List.mem_range.1 hj; omega))
      · simp [upd_self]
    rw [e]
    exact stay hown (by decide)
  · by_cases ej : j = ac
    · subst ej; rw [upd_self]; exact stay (ownI hn (by decide)) (by decide)
    · rw [upd_ne _ _ ej]; exact stay (ownI (h.inn j (by omega)) (by decide)) (by decide)
  · obtain rfl : g = k := by simpa [Value.ownBlock] using hk
    rcases hat with e | e
    · exact h.a1 g e
    · intro h2
      have := (h.ord.lt g h2).2
      omega
  · refine Below.setCell (h.bel.trans ⟨hg.os, hg.tape, hg.output, ?_, fun k hk => ?_⟩) (by show w.heap.size ≤ w.heap.size + 1; omega) _
    · have := hg.size; simp at this; omega
    · exact hb k (Nat.lt_of_lt_of_le hk h.bel.size) (fun e => by have := own_ge h.acc k e.symm; omega)
theorem Lk.pushO (h : Lk w gl lc M av ac fa hh ov oc fo sv sc w1) {n : Value} (hn : w1.ownsRow w.heap.size 3 1 n (4 * (M.bk oc).length) (numV (Mk.nums (Mk.batT M oc)).1)) {ob : Obj} {g cap : Nat}
    (hown : w7.ownsRow w.heap.size 27 1 (.slice (some ⟨g, 0, none⟩) (oc + 1) cap) (oc + 1) ((List.range oc).map fo ++ [n])) (hg : (w1.alloc ob).grownBy w7 ov.ownBlock) (hat : ov.ownBlock = some g ∨ g = w1.heap.size + 1) :
    Lk w gl lc M av ac fa hh (.slice (some ⟨g, 0, none⟩) (oc + 1) cap) (oc + 1) (upd fo oc n) sv sc (w7.setCell ⟨w.heap.size + 1, 2, none⟩ (.slice (some ⟨g, 0, none⟩) (oc + 1) cap)) := by
  have hb := grown_blocks hg
  have far : ∀ {k t : Nat}, Kind w1 k t → t ≠ 27 → w7.heap[k]? = w1.heap[k]? := fun {k t} hk ht => by
    obtain ⟨c, hc⟩ := hk
    have hlt : k < w1.heap.size := by
      rcases Nat.lt_or_ge k w1.heap.size with h | h
      · exact h
      · rw [Array.getElem?_eq_none h] at hc; cases hc
    exact hb k hlt (fun e => (own_kind' h.ord e.symm).ne ⟨c, hc⟩ (Ne.symm ht) rfl)
  have r1 := far (row_kind h.row) (by decide)
  have kq : Kind w7 (w.heap.size + 1) 38 := row_kind (h.row.of_block r1)
  have ownI : ∀ {v : Value} {m t : Nat} {xs : List Value}, w1.ownsRow w.heap.size t 1 v m xs → t ≠ 27 → w7.ownsRow w.heap.size t 1 v m xs := fun ho ht => own_block ho (fun k hk => far (own_kind' ho hk) ht)
  have stay : ∀ {v : Value} {m t : Nat} {xs : List Value}, w7.ownsRow w.heap.size t 1 v m xs → t ≠ 38 → (w7.setCell ⟨w.heap.size + 1, 2, none⟩ (.slice (some ⟨g, 0, none⟩) (oc + 1) cap)).ownsRow w.heap.size t 1 v m xs := fun ho ht => own_setC ho (fun e => (own_kind' ho e).ne kq ht rfl)
  have acc7 : w7.ownsRow w.heap.size 27 1 av ac ((List.range ac).map fa) := own_block h.acc (fun k hk => hb k ((h.acc.lt k hk).2) (fun e => h.a1 k hk e.symm))
  refine ⟨((h.row.of_block r1).set 2 _).congr (fun i hi => ?_), (h.res.of_block (far (row_kind h.res) (by decide))).setOther (by show w.heap.size ≠ w.heap.size + 1; omega) _, stay (ownI h.prt (by decide)) (by decide), stay acc7 (by decide), fun j hj => stay (ownI (h.inn j hj) (by decide)) (by decide), ?_, fun j hj => ?_, stay (ownI h.sid (by decide)) (by decide), fun k hk => ?_, h.a2, ?_⟩
  · match i, hi with
    | 0, _ => rfl
    | 1, _ => rfl
    | 2, _ => rfl
    | 3, _ => rfl
  · have e : (List.range (oc + 1)).map (upd fo oc n) = (List.range oc).map fo ++ [n] := by
      rw [List.range_succ, List.map_append]
      congr 1
      · exact List.map_congr_left (fun j hj => upd_ne _ _ (by have := List.mem_range.1 hj; omega))
      · simp [upd_self]
    rw [e]
    exact stay hown (by decide)
  · by_cases ej : j = oc
    · subst ej; rw [upd_self]; exact stay (ownI hn (by decide)) (by decide)
    · rw [upd_ne _ _ ej]; exact stay (ownI (h.inn2 j (by omega)) (by decide)) (by decide)
  · intro h2
    obtain rfl : g = k := by simpa [Value.ownBlock] using h2
    rcases hat with e | e
    · exact h.a1 g hk e
    · have := (h.acc.lt g hk).2
      omega
  · refine Below.setCell (h.bel.trans ⟨hg.os, hg.tape, hg.output, ?_, fun k hk => ?_⟩) (by show w.heap.size ≤ w.heap.size + 1; omega) _
    · have := hg.size; simp at this; omega
    · exact hb k (Nat.lt_of_lt_of_le hk h.bel.size) (fun e => by have := own_ge h.ord k e.symm; omega)
theorem Lk.pushS (h : Lk w gl lc M av ac fa hh ov oc fo sv sc w1) {ob : Obj} {g cap : Nat}
    (hown : w7.ownsRow w.heap.size 9 1 (.slice (some ⟨g, 0, none⟩) (sc + 1) cap) (sc + 1) ((List.range sc).map (fun j => .string (Mk.sides (Mk.batT M j))) ++ [.string (Mk.sides (Mk.batT M sc))])) (hg : (w1.alloc ob).grownBy w7 sv.ownBlock) (hat : sv.ownBlock = some g ∨ g = w1.heap.size + 1) :
    Lk w gl lc M av ac fa hh ov oc fo (.slice (some ⟨g, 0, none⟩) (sc + 1) cap) (sc + 1) (w7.setCell ⟨w.heap.size + 1, 3, none⟩ (.slice (some ⟨g, 0, none⟩) (sc + 1) cap)) := by
  have hb := grown_blocks hg
  have far : ∀ {k t : Nat}, Kind w1 k t → t ≠ 9 → w7.heap[k]? = w1.heap[k]? := fun {k t} hk ht => by
    obtain ⟨c, hc⟩ := hk
    have hlt : k < w1.heap.size := by
      rcases Nat.lt_or_ge k w1.heap.size with h | h
      · exact h
      · rw [Array.getElem?_eq_none h] at hc; cases hc
    exact hb k hlt (fun e => (own_kind' h.sid e.symm).ne ⟨c, hc⟩ (Ne.symm ht) rfl)
  have r1 := far (row_kind h.row) (by decide)
  have kq : Kind w7 (w.heap.size + 1) 38 := row_kind (h.row.of_block r1)
  have ownI : ∀ {v : Value} {m t : Nat} {xs : List Value}, w1.ownsRow w.heap.size t 1 v m xs → t ≠ 9 → w7.ownsRow w.heap.size t 1 v m xs := fun ho ht => own_block ho (fun k hk => far (own_kind' ho hk) ht)
  have stay : ∀ {v : Value} {m t : Nat} {xs : List Value}, w7.ownsRow w.heap.size t 1 v m xs → t ≠ 38 → (w7.setCell ⟨w.heap.size + 1, 3, none⟩ (.slice (some ⟨g, 0, none⟩) (sc + 1) cap)).ownsRow w.heap.size t 1 v m xs := fun ho ht => own_setC ho (fun e => (own_kind' ho e).ne kq ht rfl)
  have prt7 : w7.ownsRow w.heap.size 9 1 (.slice (some ⟨gl, 0, none⟩) 7 lc) 7 (prtL M) := own_block h.prt (fun k hk => hb k ((h.prt.lt k hk).2) (fun e => by
    have hk' : gl = k := by simpa [Value.ownBlock] using hk
    exact h.a2 (by rw [← e, hk'])))
  refine ⟨((h.row.of_block r1).set 3 _).congr (fun i hi => ?_), (h.res.of_block (far (row_kind h.res) (by decide))).setOther (by show w.heap.size ≠ w.heap.size + 1; omega) _, stay prt7 (by decide), stay (ownI h.acc (by decide)) (by decide), fun j hj => stay (ownI (h.inn j hj) (by decide)) (by decide), stay (ownI h.ord (by decide)) (by decide), fun j hj => stay (ownI (h.inn2 j hj) (by decide)) (by decide), ?_, h.a1, ?_, ?_⟩
  · match i, hi with
    | 0, _ => rfl
    | 1, _ => rfl
    | 2, _ => rfl
    | 3, _ => rfl
  · rw [List.range_succ, List.map_append]
    exact stay hown (by decide)
  · intro h2
    obtain rfl : g = gl := by simpa [Value.ownBlock] using h2
    rcases hat with e | e
    · exact h.a2 e
    · have := (h.prt.lt g rfl).2
      omega
  · refine Below.setCell (h.bel.trans ⟨hg.os, hg.tape, hg.output, ?_, fun k hk => ?_⟩) (by show w.heap.size ≤ w.heap.size + 1; omega) _
    · have := hg.size; simp at this; omega
    · exact hb k (Nat.lt_of_lt_of_le hk h.bel.size) (fun e => by have := own_ge h.sid k e.symm; omega)
theorem Lk.setH (h : Lk w gl lc M av ac fa hh ov oc fo sv sc w1) (x : Int) : Lk w gl lc M av ac fa x ov oc fo sv sc (w1.setCell ⟨w.heap.size + 1, 1, none⟩ (.int .i64 x)) := by
  have kq : Kind w1 (w.heap.size + 1) 38 := row_kind h.row
  have stay : ∀ {v : Value} {m t : Nat} {xs : List Value}, w1.ownsRow w.heap.size t 1 v m xs → t ≠ 38 → (w1.setCell ⟨w.heap.size + 1, 1, none⟩ (.int .i64 x)).ownsRow w.heap.size t 1 v m xs := fun ho ht => own_setC ho (fun e => (own_kind' ho e).ne kq ht rfl)
  refine ⟨(h.row.set 1 _).congr (fun i hi => ?_), h.res.setOther (by show w.heap.size ≠ w.heap.size + 1; omega) _, stay h.prt (by decide), stay h.acc (by decide), fun j hj => stay (h.inn j hj) (by decide), stay h.ord (by decide), fun j hj => stay (h.inn2 j hj) (by decide), stay h.sid (by decide), h.a1, h.a2, h.bel.setCell (by show w.heap.size ≤ w.heap.size + 1; omega) _⟩
  match i, hi with
  | 0, _ => rfl
  | 1, _ => rfl
  | 2, _ => rfl
  | 3, _ => rfl
end

end Go.Proofs.YtmebcdpdpcpnmabDoor
