import Derived.Test.YtmebcdpdpcpnmabDoorJ29
import Derived.Test.YtmebcdpdpcpnmabDoorJ28
import Derived.SizedLaws
import Derived.OpenShut
import Derived.ChangeOld
import Derived.Below
namespace Go.Proofs.YtmebcdpdpcpnmabDoor
open Go.ChangeShapes Go.WideShapes Go.ChangeAt Go.RowKit Go.Deep

theorem Tryd.cellsDeed : Tryd.prog.cellsOf 29 = 5 := by kernel_rfl
theorem five {α : Type} {l : List α} (h : l.length = 5) : ∃ a b c d e, l = [a, b, c, d, e] := by
  match l, h with
  | [a, b, c, d, e], _ => exact ⟨a, b, c, d, e, rfl⟩
theorem i64_bds' {x : Int} (h : (Lit.int .i64 x).wf = true) : -9223372036854775808 ≤ x ∧ x ≤ 9223372036854775807 := by
  simp [Lit.wf, IntKind.min, IntKind.max, IntKind.signed, IntKind.bits] at h
  omega
def raw5 (a b c d e : Int) : Nat → Int
  | 0 => a
  | 1 => b
  | 2 => c
  | 3 => d
  | _ => e
theorem raw5_fits {a b c d e : Int} (ha : -9223372036854775808 ≤ a ∧ a ≤ 9223372036854775807) (hb : -9223372036854775808 ≤ b ∧ b ≤ 9223372036854775807) (hc : -9223372036854775808 ≤ c ∧ c ≤ 9223372036854775807)
    (hd : -9223372036854775808 ≤ d ∧ d ≤ 9223372036854775807) (he : -9223372036854775808 ≤ e ∧ e ≤ 9223372036854775807) : Fits64 (raw5 a b c d e) := by
  intro i
  unfold raw5
  split <;> assumption
/-- deeds that lie in memory -/
def RdD (w : World) (a : Option Addr) (l : List (Nat → Int)) : Prop :=
  l = [] ∨ ∃ b off, a = some ⟨b, off, none⟩ ∧ ∀ i (h : i < l.length), w.cell? ⟨b, off + i * 5, none⟩ = some (.int .i64 (l[i] 0)) ∧ w.cell? ⟨b, off + i * 5 + 1, none⟩ = some (.int .i64 (l[i] 1)) ∧ w.cell? ⟨b, off + i * 5 + 2, none⟩ = some (.int .i64 (l[i] 2)) ∧
    w.cell? ⟨b, off + i * 5 + 3, none⟩ = some (.int .i64 (l[i] 3)) ∧ w.cell? ⟨b, off + i * 5 + 4, none⟩ = some (.int .i64 (l[i] 4))
theorem RdD.below {w w' : World} {a : Option Addr} {l : List (Nat → Int)} (h : RdD w a l) (hb : Below w.heap.size w w') : RdD w' a l := by
  rcases h with h | ⟨b, off, e, hc⟩
  · exact .inl h
  · refine .inr ⟨b, off, e, fun i hi => ?_⟩
    obtain ⟨h0, h1, h2, h3, h4⟩ := hc i hi
    have hl := blk_lt h0
    exact ⟨(hb.cell (p := ⟨b, _, none⟩) hl).trans h0, (hb.cell (p := ⟨b, _, none⟩) hl).trans h1, (hb.cell (p := ⟨b, _, none⟩) hl).trans h2, (hb.cell (p := ⟨b, _, none⟩) hl).trans h3, (hb.cell (p := ⟨b, _, none⟩) hl).trans h4⟩
section
variable {H : Type} {enc : TypeId × Value → H} {W : World} {base : Nat} {spare : Nat → Bool} {held : Bool}
theorem trod_struct5 {P : Program} {t : TypeId} {f0 f1 f2 f3 f4 : Field} {fuel : Nat} {cs : List Value} {x : DataW H × List MemPlace} (ht : P.underlying t = some (.struct #[f0, f1, f2, f3, f4])) (h : DataW.trod enc P W base spare held fuel t cs = some x) :
    ∃ y0 y1 y2 y3 y4 n, x.1 = .agg [y0.1, y1.1, y2.1, y3.1, y4.1] ∧ cs.length = P.cellsOf t ∧ DataW.trod enc P W base spare held n f0.type ((cs.drop f0.offset).take (P.cellsOf f0.type)) = some y0 ∧
      DataW.trod enc P W base spare held n f1.type ((cs.drop f1.offset).take (P.cellsOf f1.type)) = some y1 ∧ DataW.trod enc P W base spare held n f2.type ((cs.drop f2.offset).take (P.cellsOf f2.type)) = some y2 ∧
      DataW.trod enc P W base spare held n f3.type ((cs.drop f3.offset).take (P.cellsOf f3.type)) = some y3 ∧ DataW.trod enc P W base spare held n f4.type ((cs.drop f4.offset).take (P.cellsOf f4.type)) = some y4 := by
  obtain ⟨xs, n, _, rfl, hl, hlen, hf⟩ := DataW.trod_struct ht h
  match xs, hlen with
  | [y0, y1, y2, y3, y4], _ => exact ⟨y0, y1, y2, y3, y4, n, by simp, hl, by simpa using hf 0 f0 rfl, by simpa using hf 1 f1 rfl, by simpa using hf 2 f2 rfl, by simpa using hf 3 f3 rfl, by simpa using hf 4 f4 rfl⟩
/-- one deed, out of its reading -/
theorem open_deed {n : Nat} {cs : List Value} {x : DataW H × List MemPlace} (h : DataW.trod enc Tryd.prog W base spare held n 29 cs = some x) :
    ∃ d : Nat → Int, cs = [.int .i64 (d 0), .int .i64 (d 1), .int .i64 (d 2), .int .i64 (d 3), .int .i64 (d 4)] ∧ Fits64 d := by
  obtain ⟨y0, y1, y2, y3, y4, m, _, hl, h0, h1, h2, h3, h4⟩ := trod_struct5 Tryd.underlying29 h
  rw [Tryd.cellsDeed] at hl
  obtain ⟨c0, c1, c2, c3, c4, rfl⟩ := five hl
  simp only [Tryd.cellsInt, List.drop_zero, List.drop_succ_cons, List.take_succ_cons, List.take_zero] at h0 h1 h2 h3 h4
  obtain ⟨v0, e0, _, w0⟩ := DataW.trod_int Tryd.underlying3 h0
  obtain ⟨v1, e1, _, w1⟩ := DataW.trod_int Tryd.underlying3 h1
  obtain ⟨v2, e2, _, w2⟩ := DataW.trod_int Tryd.underlying3 h2
  obtain ⟨v3, e3, _, w3⟩ := DataW.trod_int Tryd.underlying3 h3
  obtain ⟨v4, e4, _, w4⟩ := DataW.trod_int Tryd.underlying3 h4
  simp only [List.cons.injEq, and_true] at e0 e1 e2 e3 e4
  exact ⟨raw5 v0 v1 v2 v3 v4, by rw [e0, e1, e2, e3, e4]; rfl, raw5_fits (i64_bds' w0) (i64_bds' w1) (i64_bds' w2) (i64_bds' w3) (i64_bds' w4)⟩
/-- the deeds, out of an argument's reading -/
theorem open_deeds {fuel : Nat} {a0 : Option Addr} {len0 cap0 : Nat} {x : DataW H × List MemPlace} (h : DataW.trod enc Tryd.prog W base spare held fuel 22 [.slice a0 len0 cap0] = some x) :
    ∃ l : List (Nat → Int), l.length = len0 ∧ (∀ d ∈ l, Fits64 d) ∧ RdD W a0 l ∧ len0 ≤ maxLen := by
  rcases open_slice Tryd.underlying22 h with ⟨hcs, _⟩ | ⟨a, len, cap, m, n, D, Pl, hcs, _, hl, hm, hmm, _, hx⟩
  · simp only [List.cons.injEq, and_true, Value.slice.injEq] at hcs
    obtain ⟨rfl, rfl, rfl⟩ := hcs
    exact ⟨[], rfl, by simp, .inl rfl, Nat.zero_le _⟩
  · simp only [List.cons.injEq, and_true, Value.slice.injEq] at hcs
    obtain ⟨rfl, rfl, rfl⟩ := hcs
    have hlm : len0 ≤ m := by rw [hmm]; split <;> omega
    rw [Tryd.cellsDeed] at hx
    have each : ∀ i, i < len0 → ∃ d : Nat → Int, Fits64 d ∧ W.cell? (a.add (i * 5)) = some (.int .i64 (d 0)) ∧ W.cell? (a.add (i * 5 + 1)) = some (.int .i64 (d 1)) ∧ W.cell? (a.add (i * 5 + 2)) = some (.int .i64 (d 2)) ∧ W.cell? (a.add (i * 5 + 3)) = some (.int .i64 (d 3)) ∧ W.cell? (a.add (i * 5 + 4)) = some (.int .i64 (d 4)) := by
      intro i hi
      obtain ⟨cs', h1, h2⟩ := hx i (by omega)
      obtain ⟨d, rfl, hF⟩ := open_deed h2
      obtain ⟨_, _, hcell⟩ := World.cells?_some h1
      have e0 := hcell 0 (by omega)
      have e1 := hcell 1 (by omega)
      have e2 := hcell 2 (by omega)
      have e3 := hcell 3 (by omega)
      have e4 := hcell 4 (by omega)
      rw [add_add] at e0 e1 e2 e3 e4
      exact ⟨d, hF, by simpa using e0, by simpa using e1, by simpa using e2, by simpa using e3, by simpa using e4⟩
    obtain ⟨q, hq⟩ := choose_lt each
    refine ⟨(List.range len0).map q, by simp, fun d hd => ?_, ?_, Nat.le_trans hl hm⟩
    · obtain ⟨i, hi, rfl⟩ := List.mem_map.1 hd
      exact (hq i (List.mem_range.1 hi)).1
    by_cases h0 : len0 = 0
    · subst h0; exact .inl (by simp)
    · right
      obtain ⟨b, off, spot⟩ := a
      have hs : spot = none := by
        have := World.cell?_spot (hq 0 (by omega)).2.1
        simpa [Addr.add] using this
      subst hs
      refine ⟨b, off, rfl, fun i hi => ?_⟩
      have hi' : i < len0 := by simpa using hi
      obtain ⟨_, g0, g1, g2, g3, g4⟩ := hq i hi'
      rw [add_none] at g0 g1 g2 g3 g4
      simp only [List.getElem_map, List.getElem_range]
      exact ⟨g0, g1, g2, g3, g4⟩
end

/-- what was done to a market of the call's own is below no block of the caller's -/
theorem below_only {n p : Nat} {vb : Nat → Value} {w w1 w2 : World} (hb : Below n w w1) (ho : Only (PHas p vb) w1 w2) (hn : ∀ k, PHas p vb k → n ≤ k) (hs : n ≤ w1.heap.size) : Below n w w2 :=
  hb.trans ⟨ho.os, ho.tape, ho.output, ho.size, fun k hk => ho.block k (Nat.lt_of_lt_of_le hk hs) (fun h => by have := hn k h; omega)⟩

/-- an answer that is no OK: an empty text, and the market as it was -/
def ErrOk (M : Mk.Mkt) (x : ByteArray × Int × Mk.Mkt) : Prop := x.2.1 = 0 ∨ (x.1 = ⟨#[]⟩ ∧ x.2.2 = M ∧ 5 ≤ x.2.1 ∧ x.2.1 ≤ 10)
theorem errOk_no (M : Mk.Mkt) (n : Int) (h : 5 ≤ n ∧ n ≤ 10) : ErrOk M (⟨#[]⟩, n, M) := .inr ⟨rfl, rfl, h⟩
theorem order_err (M : Mk.Mkt) (v who : Nat) (o : Mk.Ord) : ErrOk M (Mk.orderM M v who o) := by
  unfold Mk.orderM
  split
  · exact errOk_no M 8 (by decide)
  · split
    · exact errOk_no M 7 (by decide)
    · split
      · exact errOk_no M 5 (by decide)
      · exact .inl rfl
theorem all_err (M : Mk.Mkt) (c : Mk.Cmd) : ErrOk M (Mk.allM M c) := by
  rcases close_or c.d with e | e
  · rw [all_close e]; exact .inl rfl
  · rw [all_book e]
    unfold Mk.bookM
    split
    · exact order_err _ _ _ _
    · exact order_err _ _ _ _
    · unfold Mk.dropM
      split
      · exact errOk_no M 10 (by decide)
      · exact .inl rfl
    · unfold Mk.acctM
      split
      · unfold Mk.payM
        split
        · exact errOk_no M 6 (by decide)
        · exact .inl rfl
      · unfold Mk.drawM
        split
        · exact errOk_no M 5 (by decide)
        · exact .inl rfl
      · unfold Mk.bringM
        split
        · exact errOk_no M 6 (by decide)
        · exact .inl rfl
      · unfold Mk.fetchM
        split
        · exact errOk_no M 5 (by decide)
        · exact .inl rfl
      · unfold Mk.modeM
        split
        · exact errOk_no M 9 (by decide)
        · exact .inl rfl
      · exact .inl rfl

/-- the answers that are kept: OK, or an error of the command's own, with no text -/
def Mk.Ans (M : Mk.Mkt) : Prop := ∀ c, c < 4 → M.er c = 0 ∨ (M.tx c = ⟨#[]⟩ ∧ 5 ≤ M.er c ∧ M.er c ≤ 10)
/-- a market behind a command: the four ways -/
theorem do_ways (M : Mk.Mkt) (s : ByteArray) :
    (Mk.doM (Mk.allM M) M s = (⟨#[]⟩, 2, M)) ∨ (∃ c, Mk.readP s = some c ∧ (c.r : Int) = M.ls c.who ∧ Mk.doM (Mk.allM M) M s = (M.tx c.who, M.er c.who, M)) ∨ (Mk.doM (Mk.allM M) M s = (⟨#[]⟩, 3, M)) ∨ (Mk.doM (Mk.allM M) M s = (⟨#[]⟩, 4, M)) ∨
    (∃ c, Mk.readP s = some c ∧ (c.r : Int) = M.ls c.who + 1 ∧ Mk.doM (Mk.allM M) M s = ((Mk.allM M c).1, (Mk.allM M c).2.1, { (Mk.allM M c).2.2 with ls := upd (Mk.allM M c).2.2.ls c.who c.r, tx := upd (Mk.allM M c).2.2.tx c.who (Mk.allM M c).1, er := upd (Mk.allM M c).2.2.er c.who (Mk.allM M c).2.1, disk := (Mk.allM M c).2.2.disk ++ Mk.frame s ++ s })) := by
  unfold Mk.doM
  cases hr : Mk.readP s with
  | none => exact .inl rfl
  | some c =>
    simp only []
    split
    · rename_i h; exact .inr (.inl ⟨c, rfl, h, rfl⟩)
    · split
      · exact .inr (.inr (.inl rfl))
      · split
        · exact .inr (.inr (.inr (.inl rfl)))
        · exact .inr (.inr (.inr (.inr ⟨c, rfl, by omega, rfl⟩)))
theorem book_tx (M : Mk.Mkt) (c : Mk.Cmd) : (Mk.bookM M c).2.2.tx = M.tx ∧ (Mk.bookM M c).2.2.er = M.er := by
  have hh : ∀ v who o k, (Mk.holdM M v who o k).tx = M.tx ∧ (Mk.holdM M v who o k).er = M.er := fun v who o k => by unfold Mk.holdM; split <;> exact ⟨rfl, rfl⟩
  unfold Mk.bookM
  split
  · unfold Mk.orderM; split
    · exact ⟨rfl, rfl⟩
    · split
      · exact ⟨rfl, rfl⟩
      · split
        · exact ⟨rfl, rfl⟩
        · exact hh _ _ _ 1
  · unfold Mk.orderM; split
    · exact ⟨rfl, rfl⟩
    · split
      · exact ⟨rfl, rfl⟩
      · split
        · exact ⟨rfl, rfl⟩
        · exact hh _ _ _ 1
  · unfold Mk.dropM; split
    · exact ⟨rfl, rfl⟩
    · exact hh _ _ _ (-1)
  · unfold Mk.acctM
    split
    · unfold Mk.payM; split <;> exact ⟨rfl, rfl⟩
    · unfold Mk.drawM; split <;> exact ⟨rfl, rfl⟩
    · unfold Mk.bringM; split <;> exact ⟨rfl, rfl⟩
    · unfold Mk.fetchM; split <;> exact ⟨rfl, rfl⟩
    · unfold Mk.modeM; split <;> exact ⟨rfl, rfl⟩
    · exact ⟨rfl, rfl⟩
theorem deal_tx (M : Mk.Mkt) (v : Nat) (b : List Mk.Stand) (f : Nat → Int) (pay get : Int) : ∀ k, (Mk.dealTo M v b f pay get k).tx = M.tx ∧ (Mk.dealTo M v b f pay get k).er = M.er
  | 0 => ⟨rfl, rfl⟩
  | k + 1 => by
    have ih := deal_tx M v b f pay get k
    have hh : ∀ (N : Mk.Mkt) v who o k, (Mk.holdM N v who o k).tx = N.tx ∧ (Mk.holdM N v who o k).er = N.er := fun N v who o k => by unfold Mk.holdM; split <;> exact ⟨rfl, rfl⟩
    have h1 : ∀ (N : Mk.Mkt) w o n, (Mk.dealM N v w o n pay get).tx = N.tx ∧ (Mk.dealM N v w o n pay get).er = N.er := fun N w o n => by unfold Mk.dealM; split <;> exact hh N v w o (-1)
    simp only [Mk.dealTo]
    have h2 := h1 (Mk.dealTo M v b f pay get k) (Mk.std b k).who.toNat (Mk.std b k).o (f k)
    exact ⟨h2.1.trans ih.1, h2.2.trans ih.2⟩
theorem all_tx (M : Mk.Mkt) (c : Mk.Cmd) : (Mk.allM M c).2.2.tx = M.tx ∧ (Mk.allM M c).2.2.er = M.er := by
  rcases close_or c.d with e | e
  · rw [all_close e]; exact deal_tx M _ _ _ _ _ _
  · rw [all_book e]; exact book_tx M c
theorem ans_new : Mk.Ans Mk.Mkt.new := fun _ _ => .inl rfl
theorem ans_step {M : Mk.Mkt} (h : Mk.Ans M) (s : ByteArray) : Mk.Ans (Mk.doM (Mk.allM M) M s).2.2 := by
  rcases do_ways M s with e | ⟨c, _, _, e⟩ | e | e | ⟨c, _, _, e⟩
  · rw [e]; exact h
  · rw [e]; exact h
  · rw [e]; exact h
  · rw [e]; exact h
  · rw [e]
    intro j hj
    show upd (Mk.allM M c).2.2.er c.who (Mk.allM M c).2.1 j = 0 ∨ (upd (Mk.allM M c).2.2.tx c.who (Mk.allM M c).1 j = ⟨#[]⟩ ∧ 5 ≤ upd (Mk.allM M c).2.2.er c.who (Mk.allM M c).2.1 j ∧ upd (Mk.allM M c).2.2.er c.who (Mk.allM M c).2.1 j ≤ 10)
    rw [(all_tx M c).1, (all_tx M c).2]
    by_cases ej : j = c.who
    · subst ej
      rw [upd_self, upd_self]
      exact (all_err M c).imp id (fun h => ⟨h.1, h.2.2⟩)
    · rw [upd_ne _ _ ej, upd_ne _ _ ej]
      exact h j hj
theorem addV_congr {M N : Mk.Mkt} (h1 : M.sf = N.sf) (h2 : M.sh = N.sh) (c : Nat) (s : ByteArray) : ∀ v, Mk.addV M c s v = Mk.addV N c s v
  | 0 => rfl
  | v + 1 => by simp only [Mk.addV]; rw [addV_congr h1 h2 c s v, h1, h2]
theorem show_rest (M : Mk.Mkt) (a : Nat → Int) (t : Nat → ByteArray) (e : Nat → Int) (d : ByteArray) : Mk.showM { M with ls := a, tx := t, er := e, disk := d } = Mk.showM M := by
  have hc : ∀ c, Mk.addC { M with ls := a, tx := t, er := e, disk := d } c = Mk.addC M c := by
    intro c
    induction c with
    | zero => rfl
    | succ c ih => simp only [Mk.addC]; rw [ih]; rw [addV_congr (M := { M with ls := a, tx := t, er := e, disk := d }) (N := M) rfl rfl]
  have hm : ∀ s v, Mk.addM { M with ls := a, tx := t, er := e, disk := d } s v = Mk.addM M s v := by
    intro s v
    induction v with
    | zero => rfl
    | succ v ih => simp only [Mk.addM]; rw [ih]
  unfold Mk.showM
  rw [hc, hm]
/-- what is refused is not seen -/
theorem do_shown {M : Mk.Mkt} (h : Mk.Ans M) (s : ByteArray) (he : (Mk.doM (Mk.allM M) M s).2.1 ≠ 0) (hc : ∀ c, Mk.readP s = some c → c.who < 4) : (Mk.doM (Mk.allM M) M s).1 = ⟨#[]⟩ ∧ Mk.showM (Mk.doM (Mk.allM M) M s).2.2 = Mk.showM M := by
  rcases do_ways M s with e | ⟨c, hr, _, e⟩ | e | e | ⟨c, _, _, e⟩
  · rw [e]; exact ⟨rfl, rfl⟩
  · rw [e] at he ⊢
    rcases h c.who (hc c hr) with h0 | h0
    · exact absurd h0 he
    · exact ⟨h0.1, rfl⟩
  · rw [e]; exact ⟨rfl, rfl⟩
  · rw [e]; exact ⟨rfl, rfl⟩
  · rw [e] at he ⊢
    rcases all_err M c with h0 | h0
    · exact absurd h0 he
    · exact ⟨h0.1, by rw [show_rest, h0.2.1]⟩

end Go.Proofs.YtmebcdpdpcpnmabDoor
