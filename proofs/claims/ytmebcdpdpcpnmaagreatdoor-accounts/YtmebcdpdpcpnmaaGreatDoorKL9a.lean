import Derived.Test.YtmebcdpdpcpnmaaGreatDoorKL8
import Derived.Test.YtmebcdpdpcpnmaaGreatDoorKD1
import Derived.SizedLaws
import Derived.OpenShut
import Derived.ChangeOld
import Derived.Below
namespace Go.Proofs.YtmebcdpdpcpnmaaGreatDoor
open Go.ChangeShapes Go.WideShapes Go.ChangeAt Go.RowKit Go.Deep

theorem Tryz.bytesOrd : Tryz.prog.bytesOf 123 = 24 := by kernel_rfl
theorem Tryz.cellsOp : Tryz.prog.cellsOf 33 = 6 := by kernel_rfl
theorem Tryz.cellsStr : Tryz.prog.cellsOf 9 = 1 := by kernel_rfl
theorem Tryz.cellsOrders : Tryz.prog.cellsOf 31 = 1 := by kernel_rfl

theorem six {α : Type} {l : List α} (h : l.length = 6) : ∃ a b c d e f, l = [a, b, c, d, e, f] := by
  match l, h with
  | [a, b, c, d, e, f], _ => exact ⟨a, b, c, d, e, f, rfl⟩
theorem all_mem {H : Type} {P : Program} {e : TypeId} {ds : List (DataW H)} {d : DataW H} (h : d ∈ ds) (n : Nat) (hn : n ∈ d.weights P e) : n ∈ DataW.weightsAll P e ds := by
  induction ds with
  | nil => cases h
  | cons x r ih =>
    simp only [DataW.weightsAll, List.mem_append]
    rcases List.mem_cons.1 h with rfl | h
    · exact .inl hn
    · exact .inr (ih h)
theorem i64_bds {x : Int} (h : (Lit.int .i64 x).wf = true) : -9223372036854775808 ≤ x ∧ x ≤ 9223372036854775807 := by
  simp [Lit.wf, IntKind.min, IntKind.max, IntKind.signed, IntKind.bits] at h
  omega

section
variable {H : Type} {enc : TypeId × Value → H} {W : World} {base : Nat} {spare : Nat → Bool} {held : Bool}

/-- how many orders: within the reach -/
theorem reach_orders {fuel : Nat} {a0 : Option Addr} {len0 cap0 : Nat} {x : DataW H × List MemPlace} (h : DataW.trod enc Tryz.prog W base spare held fuel 31 [.slice a0 len0 cap0] = some x)
    (hz : ∀ q ∈ x.1.weights Tryz.prog 31, q ≤ reachBytes) : len0 ≤ 140737488355328 := by
  rcases open_slice Tryz.underlying31 h with ⟨hcs, _⟩ | ⟨a, len, cap, m, n, D, Pl, hcs, _, hl, hm, hmm, hx, _⟩
  · simp only [List.cons.injEq, and_true, Value.slice.injEq] at hcs
    obtain ⟨_, rfl, _⟩ := hcs
    omega
  · simp only [List.cons.injEq, and_true, Value.slice.injEq] at hcs
    obtain ⟨_, rfl, _⟩ := hcs
    rw [hx] at hz
    have h1 := hz ((((List.range len0).map D).length + ((List.range (m - len0)).map fun j => D (len0 + j)).length) * Tryz.prog.bytesOf 123) (by simp [DataW.weights, Tryz.underlying31])
    rw [Tryz.bytesOrd] at h1
    have hr : reachBytes < 140737488355328 := reachBytes_lt
    simp only [List.length_map, List.length_range] at h1
    omega

theorem trod_struct6 {P : Program} {t : TypeId} {f0 f1 f2 f3 f4 f5 : Field} {fuel : Nat} {cs : List Value} {x : DataW H × List MemPlace} (ht : P.underlying t = some (.struct #[f0, f1, f2, f3, f4, f5])) (h : DataW.trod enc P W base spare held fuel t cs = some x) :
    ∃ y0 y1 y2 y3 y4 y5 n, x.1 = .agg [y0.1, y1.1, y2.1, y3.1, y4.1, y5.1] ∧ cs.length = P.cellsOf t ∧ DataW.trod enc P W base spare held n f0.type ((cs.drop f0.offset).take (P.cellsOf f0.type)) = some y0 ∧
      DataW.trod enc P W base spare held n f1.type ((cs.drop f1.offset).take (P.cellsOf f1.type)) = some y1 ∧ DataW.trod enc P W base spare held n f2.type ((cs.drop f2.offset).take (P.cellsOf f2.type)) = some y2 ∧
      DataW.trod enc P W base spare held n f3.type ((cs.drop f3.offset).take (P.cellsOf f3.type)) = some y3 ∧ DataW.trod enc P W base spare held n f4.type ((cs.drop f4.offset).take (P.cellsOf f4.type)) = some y4 ∧
      DataW.trod enc P W base spare held n f5.type ((cs.drop f5.offset).take (P.cellsOf f5.type)) = some y5 := by
  obtain ⟨xs, n, _, rfl, hl, hlen, hf⟩ := DataW.trod_struct ht h
  match xs, hlen with
  | [y0, y1, y2, y3, y4, y5], _ => exact ⟨y0, y1, y2, y3, y4, y5, n, by simp, hl, by simpa using hf 0 f0 rfl, by simpa using hf 1 f1 rfl, by simpa using hf 2 f2 rfl, by simpa using hf 3 f3 rfl, by simpa using hf 4 f4 rfl, by simpa using hf 5 f5 rfl⟩

/-- one step, out of its reading -/
theorem open_op {n : Nat} {cs : List Value} {x : DataW H × List MemPlace} (h : DataW.trod enc Tryz.prog W base spare held n 33 cs = some x) (hz : ∀ q ∈ x.1.weights Tryz.prog 33, q ≤ reachBytes) :
    ∃ o : OpD, cs = [.int .i64 o.kind, .int .i64 o.m, .int .i64 o.a, .int .i64 o.b, .string o.s, .slice o.oa o.os.length o.cap] ∧ o.Fits ∧ Rd W o.oa o.os := by
  obtain ⟨y0, y1, y2, y3, y4, y5, m, hx1, hl, h0, h1, h2, h3, h4, h5⟩ := trod_struct6 Tryz.underlying33 h
  rw [Tryz.cellsOp] at hl
  obtain ⟨c0, c1, c2, c3, c4, c5, rfl⟩ := six hl
  simp only [Tryz.cellsInt, Tryz.cellsStr, Tryz.cellsOrders, List.drop_zero, List.drop_succ_cons, List.take_succ_cons, List.take_zero] at h0 h1 h2 h3 h4 h5
  rw [hx1] at hz
  obtain ⟨v0, e0, _, _⟩ := DataW.trod_int Tryz.underlying3 h0
  obtain ⟨v1, e1, _, w1⟩ := DataW.trod_int Tryz.underlying3 h1
  obtain ⟨v2, e2, _, w2⟩ := DataW.trod_int Tryz.underlying3 h2
  obtain ⟨v3, e3, _, w3⟩ := DataW.trod_int Tryz.underlying3 h3
  obtain ⟨s, e4, x4, _⟩ := DataW.trod_string Tryz.underlying9 h4
  obtain ⟨oa, olen, ocap, e5⟩ : ∃ oa olen ocap, c5 = .slice oa olen ocap := by
    rcases open_slice Tryz.underlying31 h5 with ⟨hcs, _⟩ | ⟨a, len, cap, _, _, _, _, hcs, _⟩
    · exact ⟨_, _, _, by simpa using hcs⟩
    · exact ⟨_, _, _, by simpa using hcs⟩
  subst e5
  obtain ⟨l, hlo, _, _, hRd⟩ := open_orders h5
  have hw : ∀ (j : Nat) (t : TypeId) (d : DataW H), ([3, 3, 3, 3, 9, 31] : List TypeId)[j]? = some t → ([y0.1, y1.1, y2.1, y3.1, y4.1, y5.1] : List (DataW H))[j]? = some d → ∀ q ∈ d.weights Tryz.prog t, q ≤ reachBytes := by
    intro j t d ht hd q hq
    refine hz q ?_
    simp only [DataW.weights, Tryz.underlying33]
    exact DataW.weights_mem_each (j := j) ht hd q hq
  have hr : reachBytes < 140737488355328 := reachBytes_lt
  have hs : s.size ≤ 140737488355328 := by
    have := hw 4 _ _ rfl rfl s.data.toList.length (by rw [x4]; simp [DataW.weights])
    have e : s.data.toList.length = s.size := Array.length_toList
    omega
  have ho := reach_orders h5 (hw 5 _ _ rfl rfl)
  simp only [List.cons.injEq, and_true] at e0 e1 e2 e3 e4
  subst hlo
  exact ⟨⟨v0, v1, v2, v3, s, oa, ocap, l⟩, by rw [e0, e1, e2, e3, e4], ⟨(i64_bds w2).1, (i64_bds w2).2, (i64_bds w3).1, (i64_bds w3).2, hs, ho, (i64_bds w1).1, (i64_bds w1).2⟩, hRd⟩

/-- the script, out of the argument's reading -/
theorem open_ops {fuel : Nat} {a0 : Option Addr} {len0 cap0 : Nat} {x : DataW H × List MemPlace} (h : DataW.trod enc Tryz.prog W base spare held fuel 22 [.slice a0 len0 cap0] = some x) (hz : ∀ q ∈ x.1.weights Tryz.prog 22, q ≤ reachBytes) :
    ∃ l : List OpD, l.length = len0 ∧ (∀ x ∈ l, x.Fits) ∧ RdOps W a0 l := by
  rcases open_slice Tryz.underlying22 h with ⟨hcs, _⟩ | ⟨a, len, cap, m, n, D, Pl, hcs, _, hl, hm, hmm, hxx, hx⟩
  · simp only [List.cons.injEq, and_true, Value.slice.injEq] at hcs
    obtain ⟨rfl, rfl, rfl⟩ := hcs
    exact ⟨[], rfl, by simp, .inl rfl⟩
  · simp only [List.cons.injEq, and_true, Value.slice.injEq] at hcs
    obtain ⟨rfl, rfl, rfl⟩ := hcs
    have hlm : len0 ≤ m := by rw [hmm]; split <;> omega
    rw [Tryz.cellsOp] at hx
    have each : ∀ i, i < len0 → ∃ q : OpD, (W.cell? (a.add (i * 6)) = some (.int .i64 q.kind) ∧ W.cell? (a.add (i * 6 + 1)) = some (.int .i64 q.m) ∧ W.cell? (a.add (i * 6 + 2)) = some (.int .i64 q.a) ∧ W.cell? (a.add (i * 6 + 3)) = some (.int .i64 q.b) ∧
        W.cell? (a.add (i * 6 + 4)) = some (.string q.s) ∧ W.cell? (a.add (i * 6 + 5)) = some (.slice q.oa q.os.length q.cap)) ∧ q.Fits ∧ Rd W q.oa q.os := by
      intro i hi
      obtain ⟨cs', h1, h2⟩ := hx i (by omega)
      have hzi : ∀ q ∈ (D i).weights Tryz.prog 33, q ≤ reachBytes := by
        intro q hq
        refine hz q ?_
        rw [hxx]
        simp only [DataW.weights, Tryz.underlying22, List.mem_cons, List.mem_append]
        exact .inr (.inl (all_mem (List.mem_map.2 ⟨i, List.mem_range.2 hi, rfl⟩) q hq))
      obtain ⟨o, rfl, hF, hRd⟩ := open_op h2 hzi
      obtain ⟨_, _, hcell⟩ := World.cells?_some h1
      have e0 := hcell 0 (by omega)
      have e1 := hcell 1 (by omega)
      have e2 := hcell 2 (by omega)
      have e3 := hcell 3 (by omega)
      have e4 := hcell 4 (by omega)
      have e5 := hcell 5 (by omega)
      rw [add_add] at e0 e1 e2 e3 e4 e5
      exact ⟨o, ⟨by simpa using e0, by simpa using e1, by simpa using e2, by simpa using e3, by simpa using e4, by simpa using e5⟩, hF, hRd⟩
    obtain ⟨q, hq⟩ := @choose_lt OpD ⟨⟨0, 0, 0, 0, ByteArray.empty, none, 0, []⟩⟩ len0 _ each
    refine ⟨(List.range len0).map q, by simp, ?_, ?_⟩
    · intro x hx
      obtain ⟨i, hi, rfl⟩ := List.mem_map.1 hx
      exact (hq i (List.mem_range.1 hi)).2.1
    · by_cases h0 : len0 = 0
      · subst h0; exact .inl (by simp)
      · right
        obtain ⟨b, off, spot⟩ := a
        have hs : spot = none := by
          have := World.cell?_spot (hq 0 (by omega)).1.1
          simpa [Addr.add] using this
        subst hs
        refine ⟨b, off, rfl, fun i hi => ?_⟩
        have hi' : i < len0 := by simpa using hi
        obtain ⟨⟨g0, g1, g2, g3, g4, g5⟩, _, hRd⟩ := hq i hi'
        rw [add_none] at g0 g1 g2 g3 g4 g5
        simp only [List.getElem_map, List.getElem_range]
        exact ⟨g0, g1, g2, g3, g4, g5, hRd⟩
end

end Go.Proofs.YtmebcdpdpcpnmaaGreatDoor
