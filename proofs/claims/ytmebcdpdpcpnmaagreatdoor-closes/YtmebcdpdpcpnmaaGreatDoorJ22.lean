import Derived.Test.YtmebcdpdpcpnmaaGreatDoorJ21
import Derived.Test.YtmebcdpdpcpnmaaGreatDoorJ14
namespace Go.Proofs.YtmebcdpdpcpnmaaGreatDoor
open Go.RowKit

set_option maxRecDepth 100000 in
set_option maxHeartbeats 2000000 in
theorem rest_none (f rq : Nat) (l : List ByteArray) (g : Bool) (c r : Int) (t : ByteArray) (w : World) (ht : Mk.wd t = none) (hQ : Rq w f rq l g (rqF c r t 0 0 0 0 0 false)) :
    Calls Tryz.prog 76 #[.pointer (some ⟨f, 0, none⟩), .pointer (some ⟨rq, 0, none⟩)] w fun e w' => e = .returned (.tuple #[]) ∧ Rq w' f rq l false (rqF c r t 0 0 0 0 0 false) ∧ Only (Two f rq) w w' := by
  have c2 := hQ.rq.cell (i := 2) (by omega)
  simp only [rqF] at c2
  have HQ0 : Hid (Rq w f rq l g (rqF c r t 0 0 0 0 0 false)) := hQ
  have z2 : w.frozen? ⟨f, 2, none⟩ = false := by obtain ⟨s, m, hr, _⟩ := hQ.fl; exact hr.frozen 2
  have b2 : ∃ b, w.cell? ⟨f, 2, none⟩ = some (.bool b) := by obtain ⟨s, m, hr, _⟩ := hQ.fl; exact ⟨_, hr.cell (i := 2) (by omega)⟩
  obtain ⟨b2, d2⟩ := b2
  have t1 : (t.toList == [112, 97, 121]) = false := by have := Mk.isW_no (d := .pay) ht; unfold Mk.isW at this; simpa [Mk.Wd.text] using this
  have t2 : (t.toList == [100, 114, 97, 119]) = false := by have := Mk.isW_no (d := .draw) ht; unfold Mk.isW at this; simpa [Mk.Wd.text] using this
  have t3 : (t.toList == [98, 114, 105, 110, 103]) = false := by have := Mk.isW_no (d := .bring) ht; unfold Mk.isW at this; simpa [Mk.Wd.text] using this
  have t4 : (t.toList == [102, 101, 116, 99, 104]) = false := by have := Mk.isW_no (d := .fetch) ht; unfold Mk.isW at this; simpa [Mk.Wd.text] using this
  have t5 : (t.toList == [98, 117, 121]) = false := by have := Mk.isW_no (d := .buy) ht; unfold Mk.isW at this; simpa [Mk.Wd.text] using this
  have t6 : (t.toList == [115, 101, 108, 108]) = false := by have := Mk.isW_no (d := .sell) ht; unfold Mk.isW at this; simpa [Mk.Wd.text] using this
  have t7 : (t.toList == [100, 114, 111, 112]) = false := by have := Mk.isW_no (d := .drop) ht; unfold Mk.isW at this; simpa [Mk.Wd.text] using this
  have t8 : (t.toList == [109, 111, 100, 101]) = false := by have := Mk.isW_no (d := .mode) ht; unfold Mk.isW at this; simpa [Mk.Wd.text] using this
  have t9 : (t.toList == [99, 108, 111, 115, 101]) = false := by have := Mk.isW_no (d := .close) ht; unfold Mk.isW at this; simpa [Mk.Wd.text] using this
  clear hQ ht
  go_enter Tryz.func76, Tryz.ntmps76
  go_wp2_with fail
  refine bodyPost_end (v := .tuple #[]) ?_ rfl ⟨rfl, ?_, ?_⟩
  · simp [results, Tryz.results76, go_sem]
  · exact ⟨HQ0.out.fl.setG false, HQ0.out.rq.setOther (Ne.symm HQ0.out.ne) _⟩
  · exact (Only.refl (Two f rq) w).set (show Two f rq f from .inl rfl) _

theorem rest_any (f rq : Nat) (l : List ByteArray) (g : Bool) (c r : Int) (d : Mk.Wd) (w : World) (hQ : Rq w f rq l g (rqF c r d.text 0 0 0 0 0 false)) :
    Calls Tryz.prog 76 #[.pointer (some ⟨f, 0, none⟩), .pointer (some ⟨rq, 0, none⟩)] w fun e w' => RestIs f rq l g c r d w e w' := by
  cases d
  · exact rest_pay f rq l g c r w hQ
  · exact rest_draw f rq l g c r w hQ
  · exact rest_bring f rq l g c r w hQ
  · exact rest_fetch f rq l g c r w hQ
  · exact rest_buy f rq l g c r w hQ
  · exact rest_sell f rq l g c r w hQ
  · exact rest_drop f rq l g c r w hQ
  · exact rest_mode f rq l g c r w hQ
  · exact rest_close f rq l g c r w hQ

theorem Mk.words_some (s : ByteArray) : Mk.some' (Mk.words s) = true := by
  unfold Mk.words Mk.some'
  simp
theorem Fl.cells {w : World} {f : Nat} {l : List ByteArray} {g : Bool} (h : Fl w f l g) : w.cell? ⟨f, 1, none⟩ = some (.bool (Mk.some' l)) ∧ w.cell? ⟨f, 2, none⟩ = some (.bool g) := by
  obtain ⟨s, m, hr, hs, ⟨rfl, rfl⟩ | ⟨rfl, rfl⟩⟩ := h
  · rw [Mk.words_some]; exact ⟨hr.cell (i := 1) (by omega), hr.cell (i := 2) (by omega)⟩
  · exact ⟨hr.cell (i := 1) (by omega), hr.cell (i := 2) (by omega)⟩

/-- a request, as a value -/
def rqV (c r : Int) (t : ByteArray) (v a p q o : Int) (m : Bool) : Value := .agg #[.int .i64 c, .int .i64 r, .string t, .int .i64 v, .int .i64 a, .int .i64 p, .int .i64 q, .int .i64 o, .int .i64 (mdI m)]
abbrev reqV (c : Mk.Cmd) : Value := .agg #[.int .i64 (c.who : Int), .int .i64 (c.r : Int), .string c.d.text, .int .i64 (c.voy : Int), .int .i64 (c.amt : Int), .int .i64 (c.pri : Int), .int .i64 (c.qty : Int), .int .i64 (c.ord : Int), .int .i64 (mdI c.mc)]
/-- no request -/
abbrev noReq : Value := .agg #[.int .i64 0, .int .i64 0, .string ⟨#[]⟩, .int .i64 0, .int .i64 0, .int .i64 0, .int .i64 0, .int .i64 0, .int .i64 0]
def PReadIs (s : ByteArray) (w : World) (e : Ending) (w' : World) : Prop :=
  Below w.heap.size w w' ∧ (match Mk.readP s with
    | none => e = .returned (.tuple #[noReq, .bool false])
    | some c => e = .returned (.tuple #[reqV c, .bool true]))

theorem below_at {n : Nat} {w w' : World} (h : Below n w w') (i : Nat) (u : Value) : Below n w (w'.setCell ⟨n, i, none⟩ u) := h.setCell (p := ⟨n, i, none⟩) (Nat.le_refl _) u
def zF : Nat → Value := rqF 0 0 ⟨#[]⟩ 0 0 0 0 0 false

set_option maxRecDepth 100000 in
set_option maxHeartbeats 2000000 in
theorem readRequest_long (s : ByteArray) (w : World) (h : 20 < s.size) :
    Calls Tryz.prog 45 #[.string s] w fun e w' => PReadIs s w e w' := by
  have h' : (20 : Int) < (s.size : Int) := by omega
  have HR : Hid (Mk.readP s = none) := Mk.read_long h
  clear h
  go_enter Tryz.func45, Tryz.ntmps45
  go_wp2
  refine bodyPost_ret (v := .tuple #[noReq, .bool false]) ?_ rfl ⟨?_, ?_⟩
  · simp [results, Tryz.results45, go_sem]
  · exact (Below.refl _ _).alloc (Nat.le_refl _) _
  · rw [HR.out]

set_option maxRecDepth 100000 in
set_option maxHeartbeats 2000000 in
theorem readRequest_short (s : ByteArray) (w : World) (h : s.size ≤ 20) :
    Calls Tryz.prog 45 #[.string s] w fun e w' => PReadIs s w e w' := by
  have h' : ¬ (20 : Int) < (s.size : Int) := by omega
  have HS : Hid (s.size ≤ 20) := h
  clear h
  go_enter Tryz.func45, Tryz.ntmps45
  go_wp2_with fail
  have HQ0 : Hid (Rq (((w.alloc (.cells #[.int .i64 0, .int .i64 0, .string ⟨#[]⟩, .int .i64 0, .int .i64 0, .int .i64 0, .int .i64 0, .int .i64 0, .int .i64 0] 105)).alloc (.cells #[.string s, .bool true, .bool true] 145)).alloc (.cells #[.int .i64 0, .int .i64 0, .string ⟨#[]⟩, .int .i64 0, .int .i64 0, .int .i64 0, .int .i64 0, .int .i64 0, .int .i64 0] 105)) (w.heap.size + 1) (w.heap.size + 2) (Mk.words s) true zF) := by
    refine ⟨⟨s, true, ?_, HS.out, .inl ⟨rfl, rfl⟩⟩, ?_⟩
    · have h := World.rowIs_alloc (w.alloc (.cells #[.int .i64 0, .int .i64 0, .string ⟨#[]⟩, .int .i64 0, .int .i64 0, .int .i64 0, .int .i64 0, .int .i64 0, .int .i64 0] 105)) #[.string s, .bool true, .bool true] 145 (flF s true true) (fun i hi => by match i, hi with | 0, _ => rfl | 1, _ => rfl | 2, _ => rfl)
      have h2 := h.of_block (Below.heap_alloc _ (.cells #[.int .i64 0, .int .i64 0, .string ⟨#[]⟩, .int .i64 0, .int .i64 0, .int .i64 0, .int .i64 0, .int .i64 0, .int .i64 0] 105) _ h.lt)
      simpa using h2
    · have h := World.rowIs_alloc ((w.alloc (.cells #[.int .i64 0, .int .i64 0, .string ⟨#[]⟩, .int .i64 0, .int .i64 0, .int .i64 0, .int .i64 0, .int .i64 0, .int .i64 0] 105)).alloc (.cells #[.string s, .bool true, .bool true] 145)) #[.int .i64 0, .int .i64 0, .string ⟨#[]⟩, .int .i64 0, .int .i64 0, .int .i64 0, .int .i64 0, .int .i64 0, .int .i64 0] 105 zF (fun i hi => by match i, hi with | 0, _ => rfl | 1, _ => rfl | 2, _ => rfl | 3, _ => rfl | 4, _ => rfl | 5, _ => rfl | 6, _ => rfl | 7, _ => rfl | 8, _ => rfl)
      simpa using h
  have HN0 : Hid (World.rowIs (((w.alloc (.cells #[.int .i64 0, .int .i64 0, .string ⟨#[]⟩, .int .i64 0, .int .i64 0, .int .i64 0, .int .i64 0, .int .i64 0, .int .i64 0] 105)).alloc (.cells #[.string s, .bool true, .bool true] 145)).alloc (.cells #[.int .i64 0, .int .i64 0, .string ⟨#[]⟩, .int .i64 0, .int .i64 0, .int .i64 0, .int .i64 0, .int .i64 0, .int .i64 0] 105)) w.heap.size 105 9 zF) := by
    have h := World.rowIs_alloc w #[.int .i64 0, .int .i64 0, .string ⟨#[]⟩, .int .i64 0, .int .i64 0, .int .i64 0, .int .i64 0, .int .i64 0, .int .i64 0] 105 zF (fun i hi => by match i, hi with | 0, _ => rfl | 1, _ => rfl | 2, _ => rfl | 3, _ => rfl | 4, _ => rfl | 5, _ => rfl | 6, _ => rfl | 7, _ => rfl | 8, _ => rfl)
    have h2 := h.of_block (Below.heap_alloc _ (.cells #[.string s, .bool true, .bool true] 145) _ h.lt)
    exact h2.of_block (Below.heap_alloc _ _ _ h2.lt)
  have HB0 : Hid (Below w.heap.size w (((w.alloc (.cells #[.int .i64 0, .int .i64 0, .string ⟨#[]⟩, .int .i64 0, .int .i64 0, .int .i64 0, .int .i64 0, .int .i64 0, .int .i64 0] 105)).alloc (.cells #[.string s, .bool true, .bool true] 145)).alloc (.cells #[.int .i64 0, .int .i64 0, .string ⟨#[]⟩, .int .i64 0, .int .i64 0, .int .i64 0, .int .i64 0, .int .i64 0, .int .i64 0] 105))) :=
    (((Below.refl _ _).alloc (Nat.le_refl _) _).alloc (by simp) _).alloc (by simp; omega) _
  generalize ((w.alloc (.cells #[.int .i64 0, .int .i64 0, .string ⟨#[]⟩, .int .i64 0, .int .i64 0, .int .i64 0, .int .i64 0, .int .i64 0, .int .i64 0] 105)).alloc (.cells #[.string s, .bool true, .bool true] 145)).alloc (.cells #[.int .i64 0, .int .i64 0, .string ⟨#[]⟩, .int .i64 0, .int .i64 0, .int .i64 0, .int .i64 0, .int .i64 0, .int .i64 0] 105) = W0 at *
  have HO0 : Hid (Only (Two (w.heap.size + 1) (w.heap.size + 2)) W0 W0) := Only.refl _ _
  refine (fnumber_any (w.heap.size + 1) (Mk.words s) true 0 3 _ (by omega) HQ0.out.fl).mono ?_
  rintro e w1 ⟨rfl, hf1, ho1⟩
  have hq1 := HQ0.out.step hf1 ho1
  have a0 := hq1.rq.cell (i := 0) (by omega)
  have z0 := hq1.rq.frozen 0
  simp only [zF, rqF] at a0
  have HQ1 := (show Hid _ from hq1.put 0 (.int .i64 (Mk.nv (Mk.words s) 0 3 : Int)))
  have HO1 := (show Hid _ from (HO0.out.two ho1).put2 0 (.int .i64 (Mk.nv (Mk.words s) 0 3 : Int)))
  clear hf1 ho1 hq1
  go_wp2_with fail
  refine (fnumber_any (w.heap.size + 1) (Mk.words s).tail (true && Mk.ng (Mk.words s) 0 3) 1 99 _ (by omega) HQ1.out.fl).mono ?_
  rintro e w2 ⟨rfl, hf2, ho2⟩
  have hq2 := HQ1.out.step hf2 ho2
  have a1 := hq2.rq.cell (i := 1) (by omega)
  have z1 := hq2.rq.frozen 1
  simp only [zF, rqF] at a1
  have HQ2 := (show Hid _ from hq2.put 1 (.int .i64 (Mk.nv (Mk.words s).tail 1 99 : Int)))
  have HO2 := (show Hid _ from (HO1.out.two ho2).put2 1 (.int .i64 (Mk.nv (Mk.words s).tail 1 99 : Int)))
  clear hf2 ho2 hq2
  go_wp2_with fail
  refine (next_any (w.heap.size + 1) (Mk.words s).tail.tail (true && Mk.ng (Mk.words s) 0 3 && Mk.ng (Mk.words s).tail 1 99) _ HQ2.out.fl).mono ?_
  rintro e w3 ⟨rfl, hf3, ho3⟩
  have hq3 := HQ2.out.step hf3 ho3
  have a2 := hq3.rq.cell (i := 2) (by omega)
  have z2 := hq3.rq.frozen 2
  simp only [zF, rqF] at a2
  have HQ3 : Hid (Rq (w3.setCell ⟨w.heap.size + 2, 2, none⟩ (.string (Mk.hd (Mk.words s).tail.tail))) (w.heap.size + 1) (w.heap.size + 2) (Mk.words s).tail.tail.tail (true && Mk.ng (Mk.words s) 0 3 && Mk.ng (Mk.words s).tail 1 99 && Mk.some' (Mk.words s).tail.tail) (rqF (Mk.nv (Mk.words s) 0 3 : Int) (Mk.nv (Mk.words s).tail 1 99 : Int) (Mk.hd (Mk.words s).tail.tail) 0 0 0 0 0 false)) :=
    (hq3.put 2 (.string (Mk.hd (Mk.words s).tail.tail))).congr (fun j hj => by match j, hj with | 0, _ => rfl | 1, _ => rfl | 2, _ => rfl | 3, _ => rfl | 4, _ => rfl | 5, _ => rfl | 6, _ => rfl | 7, _ => rfl | 8, _ => rfl)
  have HO3 := (show Hid _ from (HO2.out.two ho3).put2 2 (.string (Mk.hd (Mk.words s).tail.tail)))
  clear hf3 ho3 hq3
  go_wp2_with fail
  have HBel : Hid (∀ W, Only (Two (w.heap.size + 1) (w.heap.size + 2)) W0 W → Below w.heap.size w W ∧ W.rowIs w.heap.size 105 9 zF) := fun W h => by
    have hsz := HB0.out.size
    refine ⟨HB0.out.trans ⟨h.os, h.tape, h.output, h.size, fun k hk => h.block k (by omega) (fun e => ?_)⟩, HN0.out.of_block (h.block _ HN0.out.lt (fun e => ?_))⟩
    · rcases e with e | e <;> omega
    · rcases e with e | e <;> omega
  cases hd : Mk.wd (Mk.hd (Mk.words s).tail.tail) with
  | none =>
    refine (rest_none (w.heap.size + 1) (w.heap.size + 2) _ _ _ _ _ _ hd HQ3.out).mono ?_
    rintro e w4 ⟨rfl, hq4, ho4⟩
    have HR : Hid (Mk.readP s = none) := Mk.read_word hd
    obtain ⟨hb4, hn4⟩ := HBel.out w4 (HO3.out.trans ho4 (fun _ _ h => h))
    have HB4 : Hid (Below w.heap.size w w4) := hb4
    have b2 := hq4.fl.cells.2
    have n0 := hn4.cell (i := 0) (by omega)
    have n1 := hn4.cell (i := 1) (by omega)
    have n2 := hn4.cell (i := 2) (by omega)
    have n3 := hn4.cell (i := 3) (by omega)
    have n4 := hn4.cell (i := 4) (by omega)
    have n5 := hn4.cell (i := 5) (by omega)
    have n6 := hn4.cell (i := 6) (by omega)
    have n7 := hn4.cell (i := 7) (by omega)
    have n8 := hn4.cell (i := 8) (by omega)
    have y0 := hn4.frozen 0
    have y1 := hn4.frozen 1
    have y2 := hn4.frozen 2
    have y3 := hn4.frozen 3
    have y4 := hn4.frozen 4
    have y5 := hn4.frozen 5
    have y6 := hn4.frozen 6
    have y7 := hn4.frozen 7
    have y8 := hn4.frozen 8
    simp only [zF, rqF] at n0 n1 n2 n3 n4 n5 n6 n7 n8
    clear hq4 ho4 hb4 hn4 a0 z0 a1 z1 a2 z2 hd
    go_wp2_with fail
    refine bodyPost_ret (v := .tuple #[noReq, .bool false]) ?_ rfl ⟨?_, ?_⟩
    · simp [results, Tryz.results45, go_sem, n0, n1, n2, n3, n4, n5, n6, n7, n8]
    · iterate 9 (refine below_at ?_ _ _)
      exact HB4.out
    · rw [HR.out]
  | some d =>
    have ht := Mk.wd_text hd
    have HQ3' : Hid (Rq (w3.setCell ⟨w.heap.size + 2, 2, none⟩ (.string (Mk.hd (Mk.words s).tail.tail))) (w.heap.size + 1) (w.heap.size + 2) (Mk.words s).tail.tail.tail (true && Mk.ng (Mk.words s) 0 3 && Mk.ng (Mk.words s).tail 1 99 && Mk.some' (Mk.words s).tail.tail) (rqF (Mk.nv (Mk.words s) 0 3 : Int) (Mk.nv (Mk.words s).tail 1 99 : Int) d.text 0 0 0 0 0 false)) := by
      have := HQ3.out
      rw [← ht]
      exact this
    refine (rest_any (w.heap.size + 1) (w.heap.size + 2) _ _ _ _ d _ HQ3'.out).mono ?_
    rintro e w4 ⟨rfl, hq4, ho4⟩
    obtain ⟨hb4, hn4⟩ := HBel.out w4 (HO3.out.trans ho4 (fun _ _ h => h))
    have HB4 : Hid (Below w.heap.size w w4) := hb4
    have HD : Hid (Mk.wd (Mk.hd (Mk.words s).tail.tail) = some d) := hd
    have HOk : Hid (Mk.okY d (Mk.words s) = (Mk.ng (Mk.words s) 0 3 && Mk.ng (Mk.words s).tail 1 99 && Mk.some' (Mk.words s).tail.tail && Mk.rG d (Mk.words s).tail.tail.tail && (Mk.rL d (Mk.words s).tail.tail.tail).isEmpty)) := rfl
    obtain ⟨b1, b2⟩ := hq4.fl.cells
    rw [Bool.true_and] at b2
    have m0 := hq4.rq.cell (i := 0) (by omega)
    have m1 := hq4.rq.cell (i := 1) (by omega)
    have m2 := hq4.rq.cell (i := 2) (by omega)
    have m3 := hq4.rq.cell (i := 3) (by omega)
    have m4 := hq4.rq.cell (i := 4) (by omega)
    have m5 := hq4.rq.cell (i := 5) (by omega)
    have m6 := hq4.rq.cell (i := 6) (by omega)
    have m7 := hq4.rq.cell (i := 7) (by omega)
    have m8 := hq4.rq.cell (i := 8) (by omega)
    simp only [rqF] at m0 m1 m2 m3 m4 m5 m6 m7 m8
    have n0 := hn4.cell (i := 0) (by omega)
    have n1 := hn4.cell (i := 1) (by omega)
    have n2 := hn4.cell (i := 2) (by omega)
    have n3 := hn4.cell (i := 3) (by omega)
    have n4 := hn4.cell (i := 4) (by omega)
    have n5 := hn4.cell (i := 5) (by omega)
    have n6 := hn4.cell (i := 6) (by omega)
    have n7 := hn4.cell (i := 7) (by omega)
    have n8 := hn4.cell (i := 8) (by omega)
    have y0 := hn4.frozen 0
    have y1 := hn4.frozen 1
    have y2 := hn4.frozen 2
    have y3 := hn4.frozen 3
    have y4 := hn4.frozen 4
    have y5 := hn4.frozen 5
    have y6 := hn4.frozen 6
    have y7 := hn4.frozen 7
    have y8 := hn4.frozen 8
    simp only [zF, rqF] at n0 n1 n2 n3 n4 n5 n6 n7 n8
    clear hq4 ho4 hb4 hn4 a0 z0 a1 z1 a2 z2 ht hd HQ3
    by_cases hG : (Mk.ng (Mk.words s) 0 3 && Mk.ng (Mk.words s).tail 1 99 && Mk.some' (Mk.words s).tail.tail && Mk.rG d (Mk.words s).tail.tail.tail) = true
    · rw [hG] at b2
      have HG : Hid _ := hG
      have HSm : Hid (Mk.some' (Mk.words s).tail.tail = true) := by simp only [Bool.and_eq_true] at hG; exact hG.1.2
      clear hG
      by_cases hM : Mk.some' (Mk.rL d (Mk.words s).tail.tail.tail) = true
      · rw [hM] at b1
        have HR : Hid (Mk.readP s = none) := (Mk.read_as HS.out HD.out HSm.out).1 (by
          rw [HOk.out, HG.out, Bool.true_and]
          unfold Mk.some' at hM
          simpa using hM)
        clear hM
        go_wp2_with fail
        refine bodyPost_ret (v := .tuple #[noReq, .bool false]) ?_ rfl ⟨?_, ?_⟩
        · simp [results, Tryz.results45, go_sem, n0, n1, n2, n3, n4, n5, n6, n7, n8]
        · iterate 9 (refine below_at ?_ _ _)
          exact HB4.out
        · rw [HR.out]
      · have hM' : Mk.some' (Mk.rL d (Mk.words s).tail.tail.tail) = false := by simpa using hM
        rw [hM'] at b1
        have HR := (show Hid _ from (Mk.read_as HS.out HD.out HSm.out).2 (by
          rw [HOk.out, HG.out, Bool.true_and]
          unfold Mk.some' at hM'
          simpa using hM'))
        clear hM hM'
        go_wp2_with fail
        refine bodyPost_ret (v := .tuple #[rqV (Mk.nv (Mk.words s) 0 3 : Int) (Mk.nv (Mk.words s).tail 1 99 : Int) d.text (Mk.rV d (Mk.words s).tail.tail.tail : Int) (Mk.rA d (Mk.words s).tail.tail.tail : Int) (Mk.rP d (Mk.words s).tail.tail.tail : Int) (Mk.rQ d (Mk.words s).tail.tail.tail : Int) (Mk.rO d (Mk.words s).tail.tail.tail : Int) (Mk.rM d (Mk.words s).tail.tail.tail), .bool true]) ?_ rfl ⟨?_, ?_⟩
        · simp [results, Tryz.results45, go_sem, n0, n1, n2, n3, n4, n5, n6, n7, n8, rqV]
        · iterate 9 (refine below_at ?_ _ _)
          exact HB4.out
        · obtain ⟨c, hc, hcd, h1, h2, h3, h4, h5, h6, h7, h8⟩ := HR.out
          rw [hc]
          show Ending.returned (.tuple #[rqV _ _ _ _ _ _ _ _ _, .bool true]) = .returned (.tuple #[reqV c, .bool true])
          rw [← h1, ← h2, ← h3, ← h4, ← h5, ← h6, ← h7, ← h8, ← hcd]
          rfl
    · have hG' : (Mk.ng (Mk.words s) 0 3 && Mk.ng (Mk.words s).tail 1 99 && Mk.some' (Mk.words s).tail.tail && Mk.rG d (Mk.words s).tail.tail.tail) = false := by rw [← Bool.not_eq_true]; exact hG
      rw [hG'] at b2
      have HR : Hid (Mk.readP s = none) := by
        by_cases hsm : Mk.some' (Mk.words s).tail.tail = true
        · exact (Mk.read_as HS.out HD.out hsm).1 (by rw [HOk.out, hG', Bool.false_and])
        · exact Mk.read_short (by simpa using hsm)
      clear hG hG'
      go_wp2_with fail
      refine bodyPost_ret (v := .tuple #[noReq, .bool false]) ?_ rfl ⟨?_, ?_⟩
      · simp [results, Tryz.results45, go_sem, n0, n1, n2, n3, n4, n5, n6, n7, n8]
      · iterate 9 (refine below_at ?_ _ _)
        exact HB4.out
      · rw [HR.out]

theorem readRequest_any (s : ByteArray) (w : World) : Calls Tryz.prog 45 #[.string s] w fun e w' => PReadIs s w e w' := by
  by_cases h : 20 < s.size
  · exact readRequest_long s w h
  · exact readRequest_short s w (by omega)

end Go.Proofs.YtmebcdpdpcpnmaaGreatDoor

namespace Go.Proofs.YtmebcdpdpcpnmaaGreatDoor
open Go.RowKit

/-- an account's cells -/
def acF (M : Mk.Mkt) (c : Nat) : Nat → Value
  | 0 => .int .i64 (M.cf c)
  | 1 => .int .i64 (M.ch c)
  | 2 => .int .i64 (M.sf 0 c)
  | 3 => .int .i64 (M.sh 0 c)
  | 4 => .int .i64 (M.sf 1 c)
  | _ => .int .i64 (M.sh 1 c)
/-- a voyage's -/
def voF (vb : Nat → Value) (M : Mk.Mkt) (v : Nat) : Nat → Value
  | 0 => .int .i64 (mdI (M.md v))
  | 1 => vb v
  | _ => .int .i64 (M.cm v)
/-- an answer's -/
def reF (M : Mk.Mkt) (c : Nat) : Nat → Value
  | 0 => .int .i64 (M.ls c)
  | 1 => .string (M.tx c)
  | _ => .int .i64 (M.er c)
def pmF (vb : Nat → Value) (M : Mk.Mkt) (j : Nat) : Value :=
  if j < 24 then acF M (j / 6) (j % 6) else if j = 24 then .int .i64 M.house else if j < 31 then voF vb M ((j - 25) / 3) ((j - 25) % 3) else if j < 43 then reF M ((j - 31) / 3) ((j - 31) % 3) else .string M.disk
section
variable {vb : Nat → Value} {M : Mk.Mkt}
theorem pm_ac {c k : Nat} (hc : c < 4) (hk : k < 6) : pmF vb M (c * 6 + k) = acF M c k := by
  unfold pmF
  rw [if_pos (by omega), show (c * 6 + k) / 6 = c by omega, show (c * 6 + k) % 6 = k by omega]
theorem pm_house : pmF vb M 24 = .int .i64 M.house := rfl
theorem pm_vo {v k : Nat} (hv : v < 2) (hk : k < 3) : pmF vb M (25 + v * 3 + k) = voF vb M v k := by
  unfold pmF
  rw [if_neg (by omega), if_neg (by omega), if_pos (by omega), show (25 + v * 3 + k - 25) / 3 = v by omega, show (25 + v * 3 + k - 25) % 3 = k by omega]
theorem pm_re {c k : Nat} (hc : c < 4) (hk : k < 3) : pmF vb M (31 + c * 3 + k) = reF M c k := by
  unfold pmF
  rw [if_neg (by omega), if_neg (by omega), if_neg (by omega), if_pos (by omega), show (31 + c * 3 + k - 31) / 3 = c by omega, show (31 + c * 3 + k - 31) % 3 = k by omega]
theorem pm_disk : pmF vb M 43 = .string M.disk := rfl
theorem pm_ext {G : Nat → Value} (ha : ∀ c k, c < 4 → k < 6 → G (c * 6 + k) = acF M c k) (hh : G 24 = .int .i64 M.house) (hv : ∀ v k, v < 2 → k < 3 → G (25 + v * 3 + k) = voF vb M v k) (hr : ∀ c k, c < 4 → k < 3 → G (31 + c * 3 + k) = reF M c k) (hl : G 43 = .string M.disk) : ∀ j, j < 44 → G j = pmF vb M j := by
  intro j hj
  by_cases h1 : j < 24
  · have e : j = j / 6 * 6 + j % 6 := by omega
    rw [e, ha _ _ (by omega) (by omega), pm_ac (by omega) (by omega)]
  · by_cases h2 : j = 24
    · subst h2; exact hh
    · by_cases h3 : j < 31
      · have e : j = 25 + (j - 25) / 3 * 3 + (j - 25) % 3 := by omega
        rw [e, hv _ _ (by omega) (by omega), pm_vo (by omega) (by omega)]
      · by_cases h4 : j < 43
        · have e : j = 31 + (j - 31) / 3 * 3 + (j - 31) % 3 := by omega
          rw [e, hr _ _ (by omega) (by omega), pm_re (by omega) (by omega)]
        · obtain rfl : j = 43 := by omega
          exact hl
end

/-- THE PROGRAM's MARKET in memory -/
structure PM (w : World) (p : Nat) (vb : Nat → Value) (M : Mk.Mkt) : Prop where
  box : w.rowIs p 72 44 (pmF vb M)
  bk : ∀ v, v < 2 → w.ownsRow 0 152 5 (vb v) (M.bk v).length (standC (M.bk v))
  vv : ∀ k, (vb 0).ownBlock = some k → (vb 1).ownBlock ≠ some k
/-- the blocks that it owns -/
def PHas (p : Nat) (vb : Nat → Value) (k : Nat) : Prop := k = p ∨ ∃ v, v < 2 ∧ (vb v).ownBlock = some k

section
variable {w w' : World} {p : Nat} {vb : Nat → Value} {M : Mk.Mkt}
theorem PM.lt (h : PM w p vb M) {k : Nat} (hk : PHas p vb k) : k < w.heap.size := by
  rcases hk with rfl | ⟨v, hv, hk⟩
  · exact h.box.lt
  · exact ((h.bk v hv).lt k hk).2
theorem PM.blocks (h : PM w p vb M) (hk : ∀ k, PHas p vb k → w'.heap[k]? = w.heap[k]?) : PM w' p vb M :=
  ⟨h.box.of_block (hk _ (.inl rfl)), fun v hv => own_block (h.bk v hv) (fun _ hk' => hk _ (.inr ⟨v, hv, hk'⟩)), h.vv⟩
theorem PM.below (h : PM w p vb M) (hb : Below w.heap.size w w') : PM w' p vb M := h.blocks (fun k hk => hb.block k (h.lt hk))
theorem PM.ac (h : PM w p vb M) {c k : Nat} (hc : c < 4) (hk : k < 6) : w.cell? ⟨p, c * 6 + k, none⟩ = some (acF M c k) := by rw [← pm_ac (vb := vb) hc hk]; exact h.box.cell (by omega)
theorem PM.ho (h : PM w p vb M) : w.cell? ⟨p, 24, none⟩ = some (.int .i64 M.house) := h.box.cell (i := 24) (by omega)
theorem PM.vo (h : PM w p vb M) {v k : Nat} (hv : v < 2) (hk : k < 3) : w.cell? ⟨p, 25 + v * 3 + k, none⟩ = some (voF vb M v k) := by rw [← pm_vo hv hk]; exact h.box.cell (by omega)
theorem PM.re (h : PM w p vb M) {c k : Nat} (hc : c < 4) (hk : k < 3) : w.cell? ⟨p, 31 + c * 3 + k, none⟩ = some (reF M c k) := by rw [← pm_re (vb := vb) hc hk]; exact h.box.cell (by omega)
theorem PM.own_set (h : PM w p vb M) (i : Nat) (u : Value) : ∀ v, v < 2 → (w.setCell ⟨p, i, none⟩ u).ownsRow 0 152 5 (vb v) (M.bk v).length (standC (M.bk v)) := fun v hv => Go.Proofs.YtmebcdpdpcpnmaaGreatDoor.own_set (h.bk v hv) (row_kind h.box) (by decide)
theorem PM.setCf (h : PM w p vb M) {c : Nat} (hc : c < 4) (x : Int) : PM (w.setCell ⟨p, c * 6, none⟩ (.int .i64 x)) p vb { M with cf := upd M.cf c x } := by
  refine ⟨(h.box.set _ _).congr (pm_ext (fun d k hd hk => ?_) ?_ (fun v k hv hk => ?_) (fun d k hd hk => ?_) ?_), h.own_set _ _, h.vv⟩
  · rw [pm_ac hd hk]
    by_cases e : d * 6 + k = c * 6
    · rw [if_pos e]
      have e1 : d = c := by omega
      have e2 : k = 0 := by omega
      subst e1 e2
      show _ = Value.int .i64 (upd M.cf d x d)
      rw [upd_self]
    · rw [if_neg e]
      match k, hk with
      | 0, _ => show _ = Value.int .i64 (upd M.cf c x d)
                rw [upd_ne _ _ (by omega)]; rfl
      | 1, _ => rfl
      | 2, _ => rfl
      | 3, _ => rfl
      | 4, _ => rfl
      | 5, _ => rfl
  · rw [if_neg (by omega)]; rfl
  · rw [if_neg (by omega), pm_vo hv hk]; rfl
  · rw [if_neg (by omega), pm_re hd hk]; rfl
  · rw [if_neg (by omega)]; rfl
theorem PM.setCh (h : PM w p vb M) {c : Nat} (hc : c < 4) (x : Int) : PM (w.setCell ⟨p, c * 6 + 1, none⟩ (.int .i64 x)) p vb { M with ch := upd M.ch c x } := by
  refine ⟨(h.box.set _ _).congr (pm_ext (fun d k hd hk => ?_) ?_ (fun v k hv hk => ?_) (fun d k hd hk => ?_) ?_), h.own_set _ _, h.vv⟩
  · rw [pm_ac hd hk]
    by_cases e : d * 6 + k = c * 6 + 1
    · rw [if_pos e]
      have e1 : d = c := by omega
      have e2 : k = 1 := by omega
      subst e1 e2
      show _ = Value.int .i64 (upd M.ch d x d)
      rw [upd_self]
    · rw [if_neg e]
      match k, hk with
      | 0, _ => rfl
      | 1, _ => show _ = Value.int .i64 (upd M.ch c x d)
                rw [upd_ne _ _ (by omega)]; rfl
      | 2, _ => rfl
      | 3, _ => rfl
      | 4, _ => rfl
      | 5, _ => rfl
  · rw [if_neg (by omega)]; rfl
  · rw [if_neg (by omega), pm_vo hv hk]; rfl
  · rw [if_neg (by omega), pm_re hd hk]; rfl
  · rw [if_neg (by omega)]; rfl
theorem upd2_self {f : Nat → Nat → Int} (v c : Nat) (x : Int) : upd f v (upd (f v) c x) v c = x := by rw [upd_self, upd_self]
theorem upd2_ne {f : Nat → Nat → Int} {v c u d : Nat} (x : Int) (h : ¬ (u = v ∧ d = c)) : upd f v (upd (f v) c x) u d = f u d := by
  by_cases e : u = v
  · subst e; rw [upd_self, upd_ne _ _ (fun e => h ⟨rfl, e⟩)]
  · rw [upd_ne _ _ e]
theorem PM.setSf (h : PM w p vb M) {v c : Nat} (hv : v < 2) (hc : c < 4) (x : Int) : PM (w.setCell ⟨p, c * 6 + 2 + v * 2, none⟩ (.int .i64 x)) p vb { M with sf := upd M.sf v (upd (M.sf v) c x) } := by
  refine ⟨(h.box.set _ _).congr (pm_ext (fun d k hd hk => ?_) ?_ (fun v k hv hk => ?_) (fun d k hd hk => ?_) ?_), h.own_set _ _, h.vv⟩
  · rw [pm_ac hd hk]
    by_cases e : d * 6 + k = c * 6 + 2 + v * 2
    · rw [if_pos e]
      have e1 : d = c := by omega
      subst e1
      rcases (show v = 0 ∧ k = 2 ∨ v = 1 ∧ k = 4 by omega) with ⟨rfl, rfl⟩ | ⟨rfl, rfl⟩
      · show _ = Value.int .i64 (upd M.sf 0 (upd (M.sf 0) d x) 0 d); rw [upd2_self]
      · show _ = Value.int .i64 (upd M.sf 1 (upd (M.sf 1) d x) 1 d); rw [upd2_self]
    · rw [if_neg e]
      match k, hk with
      | 0, _ => rfl
      | 1, _ => rfl
      | 2, _ => show _ = Value.int .i64 (upd M.sf v (upd (M.sf v) c x) 0 d)
                rw [upd2_ne _ (by omega)]; rfl
      | 3, _ => rfl
      | 4, _ => show _ = Value.int .i64 (upd M.sf v (upd (M.sf v) c x) 1 d)
                rw [upd2_ne _ (by omega)]; rfl
      | 5, _ => rfl
  · rw [if_neg (by omega)]; rfl
  · rw [if_neg (by omega), pm_vo hv hk]; rfl
  · rw [if_neg (by omega), pm_re hd hk]; rfl
  · rw [if_neg (by omega)]; rfl
theorem PM.setSh (h : PM w p vb M) {v c : Nat} (hv : v < 2) (hc : c < 4) (x : Int) : PM (w.setCell ⟨p, c * 6 + 2 + v * 2 + 1, none⟩ (.int .i64 x)) p vb { M with sh := upd M.sh v (upd (M.sh v) c x) } := by
  refine ⟨(h.box.set _ _).congr (pm_ext (fun d k hd hk => ?_) ?_ (fun v k hv hk => ?_) (fun d k hd hk => ?_) ?_), h.own_set _ _, h.vv⟩
  · rw [pm_ac hd hk]
    by_cases e : d * 6 + k = c * 6 + 2 + v * 2 + 1
    · rw [if_pos e]
      have e1 : d = c := by omega
      subst e1
      rcases (show v = 0 ∧ k = 3 ∨ v = 1 ∧ k = 5 by omega) with ⟨rfl, rfl⟩ | ⟨rfl, rfl⟩
      · show _ = Value.int .i64 (upd M.sh 0 (upd (M.sh 0) d x) 0 d); rw [upd2_self]
      · show _ = Value.int .i64 (upd M.sh 1 (upd (M.sh 1) d x) 1 d); rw [upd2_self]
    · rw [if_neg e]
      match k, hk with
      | 0, _ => rfl
      | 1, _ => rfl
      | 2, _ => rfl
      | 3, _ => show _ = Value.int .i64 (upd M.sh v (upd (M.sh v) c x) 0 d)
                rw [upd2_ne _ (by omega)]; rfl
      | 4, _ => rfl
      | 5, _ => show _ = Value.int .i64 (upd M.sh v (upd (M.sh v) c x) 1 d)
                rw [upd2_ne _ (by omega)]; rfl
  · rw [if_neg (by omega)]; rfl
  · rw [if_neg (by omega), pm_vo hv hk]; rfl
  · rw [if_neg (by omega), pm_re hd hk]; rfl
  · rw [if_neg (by omega)]; rfl
theorem PM.setMd (h : PM w p vb M) {v : Nat} (hv : v < 2) (x : Bool) : PM (w.setCell ⟨p, 25 + v * 3, none⟩ (.int .i64 (mdI x))) p vb { M with md := upd M.md v x } := by
  refine ⟨(h.box.set _ _).congr (pm_ext (fun d k hd hk => ?_) ?_ (fun u k hu hk => ?_) (fun d k hd hk => ?_) ?_), h.own_set _ _, h.vv⟩
  · rw [if_neg (by omega), pm_ac hd hk]; rfl
  · rw [if_neg (by omega)]; rfl
  · rw [pm_vo hu hk]
    by_cases e : 25 + u * 3 + k = 25 + v * 3
    · rw [if_pos e]
      have e1 : u = v := by omega
      have e2 : k = 0 := by omega
      subst e1 e2
      show _ = Value.int .i64 (mdI (upd M.md u x u))
      rw [upd_self]
    · rw [if_neg e]
      match k, hk with
      | 0, _ => show _ = Value.int .i64 (mdI (upd M.md v x u))
                rw [upd_ne _ _ (by omega)]; rfl
      | 1, _ => rfl
      | 2, _ => rfl
  · rw [if_neg (by omega), pm_re hd hk]; rfl
  · rw [if_neg (by omega)]; rfl
theorem PM.setCm (h : PM w p vb M) {v : Nat} (hv : v < 2) (x : Int) : PM (w.setCell ⟨p, 25 + v * 3 + 2, none⟩ (.int .i64 x)) p vb { M with cm := upd M.cm v x } := by
  refine ⟨(h.box.set _ _).congr (pm_ext (fun d k hd hk => ?_) ?_ (fun u k hu hk => ?_) (fun d k hd hk => ?_) ?_), h.own_set _ _, h.vv⟩
  · rw [if_neg (by omega), pm_ac hd hk]; rfl
  · rw [if_neg (by omega)]; rfl
  · rw [pm_vo hu hk]
    by_cases e : 25 + u * 3 + k = 25 + v * 3 + 2
    · rw [if_pos e]
      have e1 : u = v := by omega
      have e2 : k = 2 := by omega
      subst e1 e2
      show _ = Value.int .i64 (upd M.cm u x u)
      rw [upd_self]
    · rw [if_neg e]
      match k, hk with
      | 0, _ => rfl
      | 1, _ => rfl
      | 2, _ => show _ = Value.int .i64 (upd M.cm v x u)
                rw [upd_ne _ _ (by omega)]; rfl
  · rw [if_neg (by omega), pm_re hd hk]; rfl
  · rw [if_neg (by omega)]; rfl
/-- an answer is kept -/
theorem PM.setRe (h : PM w p vb M) {c : Nat} (hc : c < 4) (x : Int) (t : ByteArray) (e : Int) :
    PM (((w.setCell ⟨p, 31 + c * 3, none⟩ (.int .i64 x)).setCell ⟨p, 31 + c * 3 + 1, none⟩ (.string t)).setCell ⟨p, 31 + c * 3 + 2, none⟩ (.int .i64 e)) p vb { M with ls := upd M.ls c x, tx := upd M.tx c t, er := upd M.er c e } := by
  have hk : Kind (w.setCell ⟨p, 31 + c * 3, none⟩ (.int .i64 x)) p 72 := row_kind (h.box.set _ _)
  have hk2 : Kind ((w.setCell ⟨p, 31 + c * 3, none⟩ (.int .i64 x)).setCell ⟨p, 31 + c * 3 + 1, none⟩ (.string t)) p 72 := row_kind ((h.box.set _ _).set _ _)
  refine ⟨(((h.box.set _ _).set _ _).set _ _).congr (pm_ext (fun d k hd hk => ?_) ?_ (fun u k hu hk => ?_) (fun d k hd hk => ?_) ?_), fun v hv => Go.Proofs.YtmebcdpdpcpnmaaGreatDoor.own_set (Go.Proofs.YtmebcdpdpcpnmaaGreatDoor.own_set (h.own_set _ _ v hv) hk (by decide)) hk2 (by decide), h.vv⟩
  · rw [if_neg (by omega), if_neg (by omega), if_neg (by omega), pm_ac hd hk]; rfl
  · rw [if_neg (by omega), if_neg (by omega), if_neg (by omega)]; rfl
  · rw [if_neg (by omega), if_neg (by omega), if_neg (by omega), pm_vo hu hk]; rfl
  · rw [pm_re hd hk]
    by_cases he : d = c
    · subst he
      match k, hk with
      | 0, _ => rw [if_neg (by omega), if_neg (by omega), if_pos (by omega)]; show _ = Value.int .i64 (upd M.ls d x d); rw [upd_self]
      | 1, _ => rw [if_neg (by omega), if_pos (by omega)]; show _ = Value.string (upd M.tx d t d); rw [upd_self]
      | 2, _ => rw [if_pos (by omega)]; show _ = Value.int .i64 (upd M.er d e d); rw [upd_self]
    · rw [if_neg (by omega), if_neg (by omega), if_neg (by omega)]
      match k, hk with
      | 0, _ => show _ = Value.int .i64 (upd M.ls c x d); rw [upd_ne _ _ he]; rfl
      | 1, _ => show _ = Value.string (upd M.tx c t d); rw [upd_ne _ _ he]; rfl
      | 2, _ => show _ = Value.int .i64 (upd M.er c e d); rw [upd_ne _ _ he]; rfl
  · rw [if_neg (by omega), if_neg (by omega), if_neg (by omega)]; rfl
/-- the log is written -/
theorem PM.setDisk (h : PM w p vb M) (s : ByteArray) : PM (w.setCell ⟨p, 43, none⟩ (.string s)) p vb { M with disk := s } := by
  refine ⟨(h.box.set _ _).congr (pm_ext (fun d k hd hk => ?_) ?_ (fun u k hu hk => ?_) (fun d k hd hk => ?_) ?_), h.own_set _ _, h.vv⟩
  · rw [if_neg (by omega), pm_ac hd hk]; rfl
  · rw [if_neg (by omega)]; rfl
  · rw [if_neg (by omega), pm_vo hu hk]; rfl
  · rw [if_neg (by omega), pm_re hd hk]; rfl
  · rw [if_pos rfl]
theorem PM.lg (h : PM w p vb M) : w.cell? ⟨p, 43, none⟩ = some (.string M.disk) := h.box.cell (i := 43) (by omega)
end
/-- the library's table is no block of the market's -/
theorem tab_ne {w : World} {p : Nat} {vb : Nat → Value} {M : Mk.Mkt} (hT : Tab w) (hP : PM w p vb M) : ∀ g, Tryz.prog.globalNamed "internal/strconv.uint64pow10" = some g → g ≠ p := by
  rintro g hg rfl
  obtain ⟨c, hc, hs, _⟩ := hP.box
  unfold Tab Lib.TabIs World.var? at hT
  rw [hg] at hT
  have h' : (match w.heap[g]? with | some (.cells cs _ _) => some cs | _ => none) = some (Lib.pow10Tab.map fun z => Value.int .u64 z).toArray := hT
  rw [hc] at h'
  have h2 : c = (Lib.pow10Tab.map fun z => Value.int .u64 z).toArray := Option.some.inj h'
  have h3 : (Lib.pow10Tab.map fun z => Value.int .u64 z).toArray.size ≠ 44 := by decide
  rw [← h2] at h3
  exact h3 hs
theorem tab_only {w w' : World} {p : Nat} {vb : Nat → Value} {M : Mk.Mkt} (hT : Tab w) (hP : PM w p vb M) (ho : Only (One p) w w') : Tab w' := by
  have hne := tab_ne hT hP
  have hl := hT.lt
  unfold Tab Lib.TabIs World.var? at hT ⊢
  rw [← hT]
  cases hg : Tryz.prog.globalNamed "internal/strconv.uint64pow10" with
  | none => rfl
  | some g =>
    show (match w'.heap[g]? with | some (.cells cs _ _) => some cs | _ => none) = (match w.heap[g]? with | some (.cells cs _ _) => some cs | _ => none)
    rw [ho.block g (hl g hg) (fun e => hne g hg e)]

set_option maxRecDepth 100000 in
set_option maxHeartbeats 1000000 in
theorem plast_any (p : Nat) (vb : Nat → Value) (M : Mk.Mkt) (c : Int) (w : World) (hP : PM w p vb M) :
    Calls Tryz.prog 34 #[.pointer (some ⟨p, 0, none⟩), .int .i64 c] w fun e w' => e = .returned (.int .i64 (Mk.lastM M c)) ∧ Below w.heap.size w w' := by
  by_cases h : 0 ≤ c ∧ c < 4
  · obtain ⟨n, rfl⟩ := Int.eq_ofNat_of_zero_le h.1
    have hn : n < 4 := by omega
    have HL : Hid (Mk.lastM M (n : Int) = M.ls n) := (by unfold Mk.lastM; rw [if_pos h]; simp : Mk.lastM M (n : Int) = M.ls n)
    have cl := hP.re hn (k := 0) (by omega)
    simp only [reF, Nat.add_zero] at cl
    have h1 : ¬ (n : Int) < 0 := by omega
    have h2 : ¬ (4 : Int) ≤ (n : Int) := by omega
    have h3 : (n : Int) < 4 := by omega
    have hd : decide ((4 : Int) ≤ (n : Int)) = false := by rw [decide_eq_false_iff_not]; exact h2
    clear hP h
    go_enter Tryz.func34, Tryz.ntmps34
    go_wp2
    go_ret
    exact ⟨ret_int HL.out.symm, Below.refl _ _⟩
  · have HL : Hid (Mk.lastM M c = 0) := (by unfold Mk.lastM; rw [if_neg h] : Mk.lastM M c = 0)
    by_cases h1 : c < 0
    · clear hP h
      go_enter Tryz.func34, Tryz.ntmps34
      go_wp2
      go_ret
      exact ⟨ret_int HL.out.symm, Below.refl _ _⟩
    · have h2 : 4 ≤ c := by omega
      clear hP h
      go_enter Tryz.func34, Tryz.ntmps34
      go_wp2
      go_ret
      exact ⟨ret_int HL.out.symm, Below.refl _ _⟩

def nilV : Nat → Value := fun _ => .slice none 0 0

set_option maxRecDepth 100000 in
set_option maxHeartbeats 1000000 in
theorem pnew_any (w : World) :
    Calls Tryz.prog 16 #[] w fun e w' => e = .returned (.pointer (some ⟨w.heap.size, 0, none⟩)) ∧ PM w' w.heap.size nilV Mk.Mkt.new ∧ Below w.heap.size w w' := by
  go_enter Tryz.func16, Tryz.ntmps16
  go_wp2
  go_ret
  refine ⟨rfl, ⟨?_, fun v hv => ⟨by simp [Mk.Mkt.new, standC], .inl ⟨rfl, rfl⟩⟩, fun k hk => by simp [nilV, Value.ownBlock] at hk⟩, (Below.refl _ _).alloc (Nat.le_refl _) _⟩
  refine World.rowIs_alloc w _ _ _ (fun i hi => ?_)
  have hi' : i < 44 := hi
  show (((List.range 44).map (pmF nilV Mk.Mkt.new)).toArray)[i]? = some _
  simp [List.getElem?_range hi']

end Go.Proofs.YtmebcdpdpcpnmaaGreatDoor
