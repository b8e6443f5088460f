import Derived.Test.YtmebcdpdpcpnmaaGreatDoorJ9
import Derived.Test.YtmebcdpdpcpnmaaGreatDoorJ8
namespace Go.Proofs.YtmebcdpdpcpnmaaGreatDoor
open Go.RowKit

set_option maxRecDepth 100000 in
set_option maxHeartbeats 2000000 in
theorem rest_none (f rq : Nat) (l : List ByteArray) (g : Bool) (c r : Int) (t : ByteArray) (w : World) (ht : Mk.wd t = none) (hQ : Rq w f rq l g (rqF c r t 0 0 0 0 0 false)) :
    Calls Tryz.prog 76 #[.pointer (some ⟨f, 0, none⟩), .pointer (some ⟨rq, 0, none⟩)] w fun e w' => e = .returned (.tuple #[]) ∧ Rq w' f rq l false (rqF c r t 0 0 0 0 0 false) ∧ Only (Two f rq) w w' := by
  have c2 := hQ.rq.cell (i := 2) (by omega)
  simp only [rqF] at c2
  have HQ0 : Hid (Rq w f rq l g (rqF c r t 0 0 0 0 0 false)) := hQ
  have z2 : w.frozen? ⟨f, 2, none⟩ = false := by obtain ⟨s, m, hr, _⟩ := hQ.fl; exact hr.frozen 2
  have b2 : ∃ b, w.cell? ⟨f, 2, none⟩ = some (.bool b) := by obtain ⟨s, m, hr, _⟩ := hQ.fl; exact ⟨_, hr.cell (i := 2) (by omega)⟩
  obtain ⟨b2, d2⟩ := b2
  have t1 : (t.toList == [112, 97, 121]) = false := by have := Mk.isW_no (d := .pay) ht; unfold Mk.isW at this; simpa [Mk.Wd.text] using this
  have t2 : (t.toList == [100, 114, 97, 119]) = false := by have := Mk.isW_no (d := .draw) ht; unfold Mk.isW at this; simpa [Mk.Wd.text] using this
  have t3 : (t.toList == [98, 114, 105, 110, 103]) = false := by have := Mk.isW_no (d := .bring) ht; unfold Mk.isW at this; simpa [Mk.Wd.text] using this
  have t4 : (t.toList == [102, 101, 116, 99, 104]) = false := by have := Mk.isW_no (d := .fetch) ht; unfold Mk.isW at this; simpa [Mk.Wd.text] using this
  have t5 : (t.toList == [98, 117, 121]) = false := by have := Mk.isW_no (d := .buy) ht; unfold Mk.isW at this; simpa [Mk.Wd.text] using this
  have t6 : (t.toList == [115, 101, 108, 108]) = false := by have := Mk.isW_no (d := .sell) ht; unfold Mk.isW at this; simpa [Mk.Wd.text] using this
  have t7 : (t.toList == [100, 114, 111, 112]) = false := by have := Mk.isW_no (d := .drop) ht; unfold Mk.isW at this; simpa [Mk.Wd.text] using this
  have t8 : (t.toList == [109, 111, 100, 101]) = false := by have := Mk.isW_no (d := .mode) ht; unfold Mk.isW at this; simpa [Mk.Wd.text] using this
  have t9 : (t.toList == [99, 108, 111, 115, 101]) = false := by have := Mk.isW_no (d := .close) ht; unfold Mk.isW at this; simpa [Mk.Wd.text] using this
  clear hQ ht
  go_enter Tryz.func76, Tryz.ntmps76
  go_wp2_with fail
  refine bodyPost_end (v := .tuple #[]) ?_ rfl ⟨rfl, ?_, ?_⟩
  · simp [results, Tryz.results76, go_sem]
  · exact ⟨HQ0.out.fl.setG false, HQ0.out.rq.setOther (Ne.symm HQ0.out.ne) _⟩
  · exact (Only.refl (Two f rq) w).set (show Two f rq f from .inl rfl) _

theorem rest_any (f rq : Nat) (l : List ByteArray) (g : Bool) (c r : Int) (d : Mk.Wd) (w : World) (hQ : Rq w f rq l g (rqF c r d.text 0 0 0 0 0 false)) :
    Calls Tryz.prog 76 #[.pointer (some ⟨f, 0, none⟩), .pointer (some ⟨rq, 0, none⟩)] w fun e w' => RestIs f rq l g c r d w e w' := by
  cases d
  · exact rest_pay f rq l g c r w hQ
  · exact rest_draw f rq l g c r w hQ
  · exact rest_bring f rq l g c r w hQ
  · exact rest_fetch f rq l g c r w hQ
  · exact rest_buy f rq l g c r w hQ
  · exact rest_sell f rq l g c r w hQ
  · exact rest_drop f rq l g c r w hQ
  · exact rest_mode f rq l g c r w hQ
  · exact rest_close f rq l g c r w hQ

theorem Mk.words_some (s : ByteArray) : Mk.some' (Mk.words s) = true := by
  unfold Mk.words Mk.some'
  simp
theorem Fl.cells {w : World} {f : Nat} {l : List ByteArray} {g : Bool} (h : Fl w f l g) : w.cell? ⟨f, 1, none⟩ = some (.bool (Mk.some' l)) ∧ w.cell? ⟨f, 2, none⟩ = some (.bool g) := by
  obtain ⟨s, m, hr, hs, ⟨rfl, rfl⟩ | ⟨rfl, rfl⟩⟩ := h
  · rw [Mk.words_some]; exact ⟨hr.cell (i := 1) (by omega), hr.cell (i := 2) (by omega)⟩
  · exact ⟨hr.cell (i := 1) (by omega), hr.cell (i := 2) (by omega)⟩

/-- a request, as a value -/
def rqV (c r : Int) (t : ByteArray) (v a p q o : Int) (m : Bool) : Value := .agg #[.int .i64 c, .int .i64 r, .string t, .int .i64 v, .int .i64 a, .int .i64 p, .int .i64 q, .int .i64 o, .int .i64 (mdI m)]
abbrev reqV (c : Mk.Cmd) : Value := .agg #[.int .i64 (c.who : Int), .int .i64 (c.r : Int), .string c.d.text, .int .i64 (c.voy : Int), .int .i64 (c.amt : Int), .int .i64 (c.pri : Int), .int .i64 (c.qty : Int), .int .i64 (c.ord : Int), .int .i64 (mdI c.mc)]
/-- no request -/
abbrev noReq : Value := .agg #[.int .i64 0, .int .i64 0, .string ⟨#[]⟩, .int .i64 0, .int .i64 0, .int .i64 0, .int .i64 0, .int .i64 0, .int .i64 0]
def PReadIs (s : ByteArray) (w : World) (e : Ending) (w' : World) : Prop :=
  Below w.heap.size w w' ∧ (match Mk.readP s with
    | none => e = .returned (.tuple #[noReq, .bool false])
    | some c => e = .returned (.tuple #[reqV c, .bool true]))

theorem below_at {n : Nat} {w w' : World} (h : Below n w w') (i : Nat) (u : Value) : Below n w (w'.setCell ⟨n, i, none⟩ u) := h.setCell (p := ⟨n, i, none⟩) (Nat.le_refl _) u
def zF : Nat → Value := rqF 0 0 ⟨#[]⟩ 0 0 0 0 0 false

set_option maxRecDepth 100000 in
set_option maxHeartbeats 2000000 in
theorem readRequest_long (s : ByteArray) (w : World) (h : 20 < s.size) :
    Calls Tryz.prog 45 #[.string s] w fun e w' => PReadIs s w e w' := by
  have h' : (20 : Int) < (s.size : Int) := by omega
  have HR : Hid (Mk.readP s = none) := Mk.read_long h
  clear h
  go_enter Tryz.func45, Tryz.ntmps45
  go_wp2
  refine bodyPost_ret (v := .tuple #[noReq, .bool false]) ?_ rfl ⟨?_, ?_⟩
  · simp [results, Tryz.results45, go_sem]
  · exact (Below.refl _ _).alloc (Nat.le_refl _) _
  · rw [HR.out]

set_option maxRecDepth 100000 in
set_option maxHeartbeats 2000000 in
theorem readRequest_short (s : ByteArray) (w : World) (h : s.size ≤ 20) :
    Calls Tryz.prog 45 #[.string s] w fun e w' => PReadIs s w e w' := by
  have h' : ¬ (20 : Int) < (s.size : Int) := by omega
  have HS : Hid (s.size ≤ 20) := h
  clear h
  go_enter Tryz.func45, Tryz.ntmps45
  go_wp2_with fail
  have HQ0 : Hid (Rq (((w.alloc (.cells #[.int .i64 0, .int .i64 0, .string ⟨#[]⟩, .int .i64 0, .int .i64 0, .int .i64 0, .int .i64 0, .int .i64 0, .int .i64 0] 105)).alloc (.cells #[.string s, .bool true, .bool true] 145)).alloc (.cells #[.int .i64 0, .int .i64 0, .string ⟨#[]⟩, .int .i64 0, .int .i64 0, .int .i64 0, .int .i64 0, .int .i64 0, .int .i64 0] 105)) (w.heap.size + 1) (w.heap.size + 2) (Mk.words s) true zF) := by
    refine ⟨⟨s, true, ?_, HS.out, .inl ⟨rfl, rfl⟩⟩, ?_⟩
    · have h := World.rowIs_alloc (w.alloc (.cells #[.int .i64 0, .int .i64 0, .string ⟨#[]⟩, .int .i64 0, .int .i64 0, .int .i64 0, .int .i64 0, .int .i64 0, .int .i64 0] 105)) #[.string s, .bool true, .bool true] 145 (flF s true true) (fun i hi => by match i, hi with | 0, _ => rfl | 1, _ => rfl | 2, _ => rfl)
      have h2 := h.of_block (Below.heap_alloc _ (.cells #[.int .i64 0, .int .i64 0, .string ⟨#[]⟩, .int .i64 0, .int .i64 0, .int .i64 0, .int .i64 0, .int .i64 0, .int .i64 0] 105) _ h.lt)
      simpa using h2
    · have h := World.rowIs_alloc ((w.alloc (.cells #[.int .i64 0, .int .i64 0, .string ⟨#[]⟩, .int .i64 0, .int .i64 0, .int .i64 0, .int .i64 0, .int .i64 0, .int .i64 0] 105)).alloc (.cells #[.string s, .bool true, .bool true] 145)) #[.int .i64 0, .int .i64 0, .string ⟨#[]⟩, .int .i64 0, .int .i64 0, .int .i64 0, .int .i64 0, .int .i64 0, .int .i64 0] 105 zF (fun i hi => by match i, hi with | 0, _ => rfl | 1, _ => rfl | 2, _ => rfl | 3, _ => rfl | 4, _ => rfl | 5, _ => rfl | 6, _ => rfl | 7, _ => rfl | 8, _ => rfl)
      simpa using h
  have HN0 : Hid (World.rowIs (((w.alloc (.cells #[.int .i64 0, .int .i64 0, .string ⟨#[]⟩, .int .i64 0, .int .i64 0, .int .i64 0, .int .i64 0, .int .i64 0, .int .i64 0] 105)).alloc (.cells #[.string s, .bool true, .bool true] 145)).alloc (.cells #[.int .i64 0, .int .i64 0, .string ⟨#[]⟩, .int .i64 0, .int .i64 0, .int .i64 0, .int .i64 0, .int .i64 0, .int .i64 0] 105)) w.heap.size 105 9 zF) := by
    have h := World.rowIs_alloc w #[.int .i64 0, .int .i64 0, .string ⟨#[]⟩, .int .i64 0, .int .i64 0, .int .i64 0, .int .i64 0, .int .i64 0, .int .i64 0] 105 zF (fun i hi => by match i, hi with | 0, _ => rfl | 1, _ => rfl | 2, _ => rfl | 3, _ => rfl | 4, _ => rfl | 5, _ => rfl | 6, _ => rfl | 7, _ => rfl | 8, _ => rfl)
    have h2 := h.of_block (Below.heap_alloc _ (.cells #[.string s, .bool true, .bool true] 145) _ h.lt)
    exact h2.of_block (Below.heap_alloc _ _ _ h2.lt)
  have HB0 : Hid (Below w.heap.size w (((w.alloc (.cells #[.int .i64 0, .int .i64 0, .string ⟨#[]⟩, .int .i64 0, .int .i64 0, .int .i64 0, .int .i64 0, .int .i64 0, .int .i64 0] 105)).alloc (.cells #[.string s, .bool true, .bool true] 145)).alloc (.cells #[.int .i64 0, .int .i64 0, .string ⟨#[]⟩, .int .i64 0, .int .i64 0, .int .i64 0, .int .i64 0, .int .i64 0, .int .i64 0] 105))) :=
    (((Below.refl _ _).alloc (Nat.le_refl _) _).alloc (by simp) _).alloc (by simp; omega) _
  generalize ((w.alloc (.cells #[.int .i64 0, .int .i64 0, .string ⟨#[]⟩, .int .i64 0, .int .i64 0, .int .i64 0, .int .i64 0, .int .i64 0, .int .i64 0] 105)).alloc (.cells #[.string s, .bool true, .bool true] 145)).alloc (.cells #[.int .i64 0, .int .i64 0, .string ⟨#[]⟩, .int .i64 0, .int .i64 0, .int .i64 0, .int .i64 0, .int .i64 0, .int .i64 0] 105) = W0 at *
  have HO0 : Hid (Only (Two (w.heap.size + 1) (w.heap.size + 2)) W0 W0) := Only.refl _ _
  refine (fnumber_any (w.heap.size + 1) (Mk.words s) true 0 3 _ (by omega) HQ0.out.fl).mono ?_
  rintro e w1 ⟨rfl, hf1, ho1⟩
  have hq1 := HQ0.out.step hf1 ho1
  have a0 := hq1.rq.cell (i := 0) (by omega)
  have z0 := hq1.rq.frozen 0
  simp only [zF, rqF] at a0
  have HQ1 := (show Hid _ from hq1.put 0 (.int .i64 (Mk.nv (Mk.words s) 0 3 : Int)))
  have HO1 := (show Hid _ from (HO0.out.two ho1).put2 0 (.int .i64 (Mk.nv (Mk.words s) 0 3 : Int)))
  clear hf1 ho1 hq1
  go_wp2_with fail
  refine (fnumber_any (w.heap.size + 1) (Mk.words s).tail (true && Mk.ng (Mk.words s) 0 3) 1 99 _ (by omega) HQ1.out.fl).mono ?_
  rintro e w2 ⟨rfl, hf2, ho2⟩
  have hq2 := HQ1.out.step hf2 ho2
  have a1 := hq2.rq.cell (i := 1) (by omega)
  have z1 := hq2.rq.frozen 1
  simp only [zF, rqF] at a1
  have HQ2 := (show Hid _ from hq2.put 1 (.int .i64 (Mk.nv (Mk.words s).tail 1 99 : Int)))
  have HO2 := (show Hid _ from (HO1.out.two ho2).put2 1 (.int .i64 (Mk.nv (Mk.words s).tail 1 99 : Int)))
  clear hf2 ho2 hq2
  go_wp2_with fail
  refine (next_any (w.heap.size + 1) (Mk.words s).tail.tail (true && Mk.ng (Mk.words s) 0 3 && Mk.ng (Mk.words s).tail 1 99) _ HQ2.out.fl).mono ?_
  rintro e w3 ⟨rfl, hf3, ho3⟩
  have hq3 := HQ2.out.step hf3 ho3
  have a2 := hq3.rq.cell (i := 2) (by omega)
  have z2 := hq3.rq.frozen 2
  simp only [zF, rqF] at a2
  have HQ3 : Hid (Rq (w3.setCell ⟨w.heap.size + 2, 2, none⟩ (.string (Mk.hd (Mk.words s).tail.tail))) (w.heap.size + 1) (w.heap.size + 2) (Mk.words s).tail.tail.tail (true && Mk.ng (Mk.words s) 0 3 && Mk.ng (Mk.words s).tail 1 99 && Mk.some' (Mk.words s).tail.tail) (rqF (Mk.nv (Mk.words s) 0 3 : Int) (Mk.nv (Mk.words s).tail 1 99 : Int) (Mk.hd (Mk.words s).tail.tail) 0 0 0 0 0 false)) :=
    (hq3.put 2 (.string (Mk.hd (Mk.words s).tail.tail))).congr (fun j hj => by match j, hj with | 0, _ => rfl | 1, _ => rfl | 2, _ => rfl | 3, _ => rfl | 4, _ => rfl | 5, _ => rfl | 6, _ => rfl | 7, _ => rfl | 8, _ => rfl)
  have HO3 := (show Hid _ from (HO2.out.two ho3).put2 2 (.string (Mk.hd (Mk.words s).tail.tail)))
  clear hf3 ho3 hq3
  go_wp2_with fail
  have HBel : Hid (∀ W, Only (Two (w.heap.size + 1) (w.heap.size + 2)) W0 W → Below w.heap.size w W ∧ W.rowIs w.heap.size 105 9 zF) := fun W h => by
    have hsz := HB0.out.size
    refine ⟨HB0.out.trans ⟨h.os, h.tape, h.output, h.size, fun k hk => h.block k (by omega) (fun e => ?_)⟩, HN0.out.of_block (h.block _ HN0.out.lt (fun e => ?_))⟩
    · rcases e with e | e <;> omega
    · rcases e with e | e <;> omega
  cases hd : Mk.wd (Mk.hd (Mk.words s).tail.tail) with
  | none =>
    refine (rest_none (w.heap.size + 1) (w.heap.size + 2) _ _ _ _ _ _ hd HQ3.out).mono ?_
    rintro e w4 ⟨rfl, hq4, ho4⟩
    have HR : Hid (Mk.readP s = none) := Mk.read_word hd
    obtain ⟨hb4, hn4⟩ := HBel.out w4 (HO3.out.trans ho4 (fun _ _ h => h))
    have HB4 : Hid (Below w.heap.size w w4) := hb4
    have b2 := hq4.fl.cells.2
    have n0 := hn4.cell (i := 0) (by omega)
    have n1 := hn4.cell (i := 1) (by omega)
    have n2 := hn4.cell (i := 2) (by omega)
    have n3 := hn4.cell (i := 3) (by omega)
    have n4 := hn4.cell (i := 4) (by omega)
    have n5 := hn4.cell (i := 5) (by omega)
    have n6 := hn4.cell (i := 6) (by omega)
    have n7 := hn4.cell (i := 7) (by omega)
    have n8 := hn4.cell (i := 8) (by omega)
    have y0 := hn4.frozen 0
    have y1 := hn4.frozen 1
    have y2 := hn4.frozen 2
    have y3 := hn4.frozen 3
    have y4 := hn4.frozen 4
    have y5 := hn4.frozen 5
    have y6 := hn4.frozen 6
    have y7 := hn4.frozen 7
    have y8 := hn4.frozen 8
    simp only [zF, rqF] at n0 n1 n2 n3 n4 n5 n6 n7 n8
    clear hq4 ho4 hb4 hn4 a0 z0 a1 z1 a2 z2 hd
    go_wp2_with fail
    refine bodyPost_ret (v := .tuple #[noReq, .bool false]) ?_ rfl ⟨?_, ?_⟩
    · simp [results, Tryz.results45, go_sem, n0, n1, n2, n3, n4, n5, n6, n7, n8]
    · iterate 9 (refine below_at ?_ _ _)
      exact HB4.out
    · rw [HR.out]
  | some d =>
    have ht := Mk.wd_text hd
    have HQ3' : Hid (Rq (w3.setCell ⟨w.heap.size + 2, 2, none⟩ (.string (Mk.hd (Mk.words s).tail.tail))) (w.heap.size + 1) (w.heap.size + 2) (Mk.words s).tail.tail.tail (true && Mk.ng (Mk.words s) 0 3 && Mk.ng (Mk.words s).tail 1 99 && Mk.some' (Mk.words s).tail.tail) (rqF (Mk.nv (Mk.words s) 0 3 : Int) (Mk.nv (Mk.words s).tail 1 99 : Int) d.text 0 0 0 0 0 false)) := by
      have := HQ3.out
      rw [← ht]
      exact this
    refine (rest_any (w.heap.size + 1) (w.heap.size + 2) _ _ _ _ d _ HQ3'.out).mono ?_
    rintro e w4 ⟨rfl, hq4, ho4⟩
    obtain ⟨hb4, hn4⟩ := HBel.out w4 (HO3.out.trans ho4 (fun _ _ h => h))
    have HB4 : Hid (Below w.heap.size w w4) := hb4
    have HD : Hid (Mk.wd (Mk.hd (Mk.words s).tail.tail) = some d) := hd
    have HOk : Hid (Mk.okY d (Mk.words s) = (Mk.ng (Mk.words s) 0 3 && Mk.ng (Mk.words s).tail 1 99 && Mk.some' (Mk.words s).tail.tail && Mk.rG d (Mk.words s).tail.tail.tail && (Mk.rL d (Mk.words s).tail.tail.tail).isEmpty)) := rfl
    obtain ⟨b1, b2⟩ := hq4.fl.cells
    rw [Bool.true_and] at b2
    have m0 := hq4.rq.cell (i := 0) (by omega)
    have m1 := hq4.rq.cell (i := 1) (by omega)
    have m2 := hq4.rq.cell (i := 2) (by omega)
    have m3 := hq4.rq.cell (i := 3) (by omega)
    have m4 := hq4.rq.cell (i := 4) (by omega)
    have m5 := hq4.rq.cell (i := 5) (by omega)
    have m6 := hq4.rq.cell (i := 6) (by omega)
    have m7 := hq4.rq.cell (i := 7) (by omega)
    have m8 := hq4.rq.cell (i := 8) (by omega)
    simp only [rqF] at m0 m1 m2 m3 m4 m5 m6 m7 m8
    have n0 := hn4.cell (i := 0) (by omega)
    have n1 := hn4.cell (i := 1) (by omega)
    have n2 := hn4.cell (i := 2) (by omega)
    have n3 := hn4.cell (i := 3) (by omega)
    have n4 := hn4.cell (i := 4) (by omega)
    have n5 := hn4.cell (i := 5) (by omega)
    have n6 := hn4.cell (i := 6) (by omega)
    have n7 := hn4.cell (i := 7) (by omega)
    have n8 := hn4.cell (i := 8) (by omega)
    have y0 := hn4.frozen 0
    have y1 := hn4.frozen 1
    have y2 := hn4.frozen 2
    have y3 := hn4.frozen 3
    have y4 := hn4.frozen 4
    have y5 := hn4.frozen 5
    have y6 := hn4.frozen 6
    have y7 := hn4.frozen 7
    have y8 := hn4.frozen 8
    simp only [zF, rqF] at n0 n1 n2 n3 n4 n5 n6 n7 n8
    clear hq4 ho4 hb4 hn4 a0 z0 a1 z1 a2 z2 ht hd HQ3
    by_cases hG : (Mk.ng (Mk.words s) 0 3 && Mk.ng (Mk.words s).tail 1 99 && Mk.some' (Mk.words s).tail.tail && Mk.rG d (Mk.words s).tail.tail.tail) = true
    · rw [hG] at b2
      have HG : Hid _ := hG
      have HSm : Hid (Mk.some' (Mk.words s).tail.tail = true) := by simp only [Bool.and_eq_true] at hG; exact hG.1.2
      clear hG
      by_cases hM : Mk.some' (Mk.rL d (Mk.words s).tail.tail.tail) = true
      · rw [hM] at b1
        have HR : Hid (Mk.readP s = none) := (Mk.read_as HS.out HD.out HSm.out).1 (by
          rw [HOk.out, HG.out, Bool.true_and]
          unfold Mk.some' at hM
          simpa using hM)
        clear hM
        go_wp2_with fail
        refine bodyPost_ret (v := .tuple #[noReq, .bool false]) ?_ rfl ⟨?_, ?_⟩
        · simp [results, Tryz.results45, go_sem, n0, n1, n2, n3, n4, n5, n6, n7, n8]
        · iterate 9 (refine below_at ?_ _ _)
          exact HB4.out
        · rw [HR.out]
      · have hM' : Mk.some' (Mk.rL d (Mk.words s).tail.tail.tail) = false := by simpa using hM
        rw [hM'] at b1
        have HR := (show Hid _ from (Mk.read_as HS.out HD.out HSm.out).2 (by
          rw [HOk.out, HG.out, Bool.true_and]
          unfold Mk.some' at hM'
          simpa using hM'))
        clear hM hM'
        go_wp2_with fail
        refine bodyPost_ret (v := .tuple #[rqV (Mk.nv (Mk.words s) 0 3 : Int) (Mk.nv (Mk.words s).tail 1 99 : Int) d.text (Mk.rV d (Mk.words s).tail.tail.tail : Int) (Mk.rA d (Mk.words s).tail.tail.tail : Int) (Mk.rP d (Mk.words s).tail.tail.tail : Int) (Mk.rQ d (Mk.words s).tail.tail.tail : Int) (Mk.rO d (Mk.words s).tail.tail.tail : Int) (Mk.rM d (Mk.words s).tail.tail.tail), .bool true]) ?_ rfl ⟨?_, ?_⟩
        · simp [results, Tryz.results45, go_sem, n0, n1, n2, n3, n4, n5, n6, n7, n8, rqV]
        · iterate 9 (refine below_at ?_ _ _)
          exact HB4.out
        · obtain ⟨c, hc, hcd, h1, h2, h3, h4, h5, h6, h7, h8⟩ := HR.out
          rw [hc]
          show Ending.returned (.tuple #[rqV _ _ _ _ _ _ _ _ _, .bool true]) = .returned (.tuple #[reqV c, .bool true])
          rw [← h1, ← h2, ← h3, ← h4, ← h5, ← h6, ← h7, ← h8, ← hcd]
          rfl
    · have hG' : (Mk.ng (Mk.words s) 0 3 && Mk.ng (Mk.words s).tail 1 99 && Mk.some' (Mk.words s).tail.tail && Mk.rG d (Mk.words s).tail.tail.tail) = false := by rw [← Bool.not_eq_true]; exact hG
      rw [hG'] at b2
      have HR : Hid (Mk.readP s = none) := by
        by_cases hsm : Mk.some' (Mk.words s).tail.tail = true
        · exact (Mk.read_as HS.out HD.out hsm).1 (by rw [HOk.out, hG', Bool.false_and])
        · exact Mk.read_short (by simpa using hsm)
      clear hG hG'
      go_wp2_with fail
      refine bodyPost_ret (v := .tuple #[noReq, .bool false]) ?_ rfl ⟨?_, ?_⟩
      · simp [results, Tryz.results45, go_sem, n0, n1, n2, n3, n4, n5, n6, n7, n8]
      · iterate 9 (refine below_at ?_ _ _)
        exact HB4.out
      · rw [HR.out]

theorem readRequest_any (s : ByteArray) (w : World) : Calls Tryz.prog 45 #[.string s] w fun e w' => PReadIs s w e w' := by
  by_cases h : 20 < s.size
  · exact readRequest_long s w h
  · exact readRequest_short s w (by omega)

end Go.Proofs.YtmebcdpdpcpnmaaGreatDoor

namespace Go.Proofs.YtmebcdpdpcpnmaaGreatDoor
open Go.RowKit

set_option maxRecDepth 100000 in
set_option maxHeartbeats 2000000 in
theorem money_draw (p g len cap : Nat) (b : RB) (M : Mk.Mkt) (who : Nat) (r n : Int) (mc : Bool) (w : World) (hM : M.Fine) (hR : Ref w p b M) (hw : who < 4) (hn : 0 ≤ n ∧ n ≤ 9999) (hl : 1 ≤ len) (hg : w.cell? ⟨g, 0, none⟩ = some (.int .i64 n)) :
    Calls Tryz.prog 79 #[.pointer (some ⟨p, 0, none⟩), cmdV who r .draw (.slice (some ⟨g, 0, none⟩) len cap) mc] w fun e w' => Does p b (Mk.drawM M who n) w e w' := by
  have HM : Hid M.Fine := hM
  have HR : Hid (Ref w p b M) := hR
  have hgl := blk_lt hg
  have hl' : (0 : Int) < (len : Int) := by omega
  have hw' : (who : Int) < 4 := by omega
  have HB2 : Hid (Below w.heap.size w (w.alloc (.cells #[.int .i64 (who : Int), .int .i64 r, .string (Mk.Wd.text .draw), .slice (some ⟨g, 0, none⟩) len cap, .bool mc] 83))) := (Below.refl _ _).alloc (Nat.le_refl _) _
  have HR2 : Hid (Ref (w.alloc (.cells #[.int .i64 (who : Int), .int .i64 r, .string (Mk.Wd.text .draw), .slice (some ⟨g, 0, none⟩) len cap, .bool mc] 83)) p b M) := HR.out.below HB2.out
  have x0 : (w.alloc (.cells #[.int .i64 (who : Int), .int .i64 r, .string (Mk.Wd.text .draw), .slice (some ⟨g, 0, none⟩) len cap, .bool mc] 83)).cell? ⟨w.heap.size, 0, none⟩ = some (.int .i64 (who : Int)) := by simp
  have ht := txt_draw
  have bf := hM.cf who hw
  clear hM hR
  go_enter Tryz.func79, Tryz.ntmps79
  go_wp2_with fail
  generalize w.alloc (.cells #[.int .i64 (who : Int), .int .i64 r, .string (Mk.Wd.text .draw), .slice (some ⟨g, 0, none⟩) len cap, .bool mc] 83) = W1 at *
  have f0 := HR2.out.box.cell (i := 0) (by omega)
  simp only [mktF] at f0
  have a0 := HR2.out.cash.cell (i := who * 2) (by omega)
  rw [purseF_0] at a0
  go_quiet (fail)
  have hbq : Below W1.heap.size W1 (W1.drewN nq) := below_drewN (Below.refl _ _) nq
  have HB3 : Hid (Below w.heap.size w (W1.drewN nq)) := HB2.out.trans (hbq.mono HB2.out.size)
  have HR3 : Hid (Ref (W1.drewN nq) p b M) := HR2.out.below hbq
  have x3 : (W1.drewN nq).cell? ⟨w.heap.size, 0, none⟩ = some (.int .i64 (who : Int)) := by simpa using x0
  generalize W1.drewN nq = W3 at *
  clear hbq f0 a0 x0
  have f0 := HR3.out.box.cell (i := 0) (by omega)
  simp only [mktF] at f0
  have a0 := HR3.out.cash.cell (i := who * 2) (by omega)
  rw [purseF_0] at a0
  have z0 := HR3.out.cash.frozen (who * 2)
  by_cases hbig : M.cf who < n
  · have HX : Hid (Mk.drawM M who n = (5, M)) := if_pos hbig
    go_wp2_with fail
    go_ret
    exact ⟨by rw [HX.out]; rfl, by rw [HX.out]; exact HR3.out, Only.of_below HB3.out⟩
  · have HX : Hid (Mk.drawM M who n = (0, { M with cf := upd M.cf who (M.cf who - n) })) := if_neg hbig
    go_wp2_with fail
    go_region
    go_wp2_with fail
    go_ret
    refine ⟨by rw [HX.out]; rfl, by rw [HX.out]; exact (HR3.out.setCf who _).below (Below.refl _ _).drew, ?_⟩
    exact ((Only.of_below HB3.out).set (.inr (.inl rfl)) _).next (Below.refl _ _).drew

set_option maxRecDepth 100000 in
set_option maxHeartbeats 2000000 in
theorem goods_bring (p g len cap : Nat) (b : RB) (M : Mk.Mkt) (who v : Nat) (r n : Int) (mc : Bool) (w : World) (hM : M.Fine) (hR : Ref w p b M) (hw : who < 4) (hv : v < 2) (hn : 0 ≤ n ∧ n ≤ 9999) (hl : 2 ≤ len) (hg0 : w.cell? ⟨g, 0, none⟩ = some (.int .i64 (v : Int))) (hg : w.cell? ⟨g, 1, none⟩ = some (.int .i64 n)) :
    Calls Tryz.prog 80 #[.pointer (some ⟨p, 0, none⟩), cmdV who r .bring (.slice (some ⟨g, 0, none⟩) len cap) mc] w fun e w' => Does p b (Mk.bringM M v who n) w e w' := by
  have HM : Hid M.Fine := hM
  have HR : Hid (Ref w p b M) := hR
  have hgl := blk_lt hg
  have hpl := hR.box.lt
  have hl' : (0 : Int) < (len : Int) := by omega
  have hl1 : (1 : Int) < (len : Int) := by omega
  have hw' : (who : Int) < 4 := by omega
  have hv' : (v : Int) < 2 := by omega
  have f1 := hR.box.cell (i := 1) (by omega)
  have g1 := hR.slots.cell hv
  have hsl := hR.slots.lt
  simp only [mktF] at f1
  have HBd : Hid (∀ c, c < 4 → 0 ≤ M.sf v c ∧ M.sf v c ≤ 9999 ∧ 0 ≤ M.sh v c ∧ M.sh v c ≤ 9999) := fun c hc => ⟨(hM.sf v c hv hc).1, (hM.sf v c hv hc).2, (hM.sh v c hv hc).1, (hM.sh v c hv hc).2⟩
  have tb := totTo_bd HBd.out 4 (by omega)
  have HAl : Hid (∀ ob, Below w.heap.size w (w.alloc ob)) := fun ob => (Below.refl _ _).alloc (Nat.le_refl _) ob
  have ht := txt_bring
  have HV : Hid (v < 2) := hv
  clear hM hR
  go_enter Tryz.func80, Tryz.ntmps80
  go_wp2_with fail
  have HR1 : Hid (Ref (w.alloc (.cells #[.int .i64 (who : Int), .int .i64 r, .string (Mk.Wd.text .bring), .slice (some ⟨g, 0, none⟩) len cap, .bool mc] 83)) p b M) := HR.out.below (HAl.out _)
  refine (total_any (b.sb v) (M.sf v) (M.sh v) _ HBd.out (HR1.out.sl v hv)).mono ?_
  rintro e w2 ⟨rfl, m, hw2⟩
  have hb2 : Below w.heap.size w w2 := by rw [hw2]; exact below_drewN (HAl.out _) m
  have x0 : w2.cell? ⟨w.heap.size, 0, none⟩ = some (.int .i64 (who : Int)) := by rw [hw2]; simp
  have HR2 : Hid (Ref w2 p b M) := HR.out.below hb2
  have HB2 : Hid (Below w.heap.size w w2) := hb2
  clear hw2 hb2 f1 g1
  have f1 := HR2.out.box.cell (i := 1) (by omega)
  have g1 := HR2.out.slots.cell hv
  simp only [mktF] at f1
  have a0 := (HR2.out.sl v hv).cell (i := who * 2) (by omega)
  rw [purseF_0] at a0
  have z0 := (HR2.out.sl v hv).frozen (who * 2)
  have bf := HM.out.sf v who hv hw
  by_cases hbig : 999 < totTo (M.sf v) (M.sh v) 4 + n
  · have HX : Hid (Mk.bringM M v who n = (6, M)) := if_pos hbig
    go_wp2_with fail
    go_ret
    exact ⟨by rw [HX.out]; rfl, by rw [HX.out]; exact HR2.out, Only.of_below HB2.out⟩
  · have HX : Hid (Mk.bringM M v who n = (0, { M with sf := upd M.sf v (upd (M.sf v) who (M.sf v who + n)) })) := if_neg hbig
    go_wp2_with fail
    go_region
    go_wp2_with fail
    go_ret
    refine ⟨by rw [HX.out]; rfl, by rw [HX.out]; exact (HR2.out.setSf v HV.out who _).below (Below.refl _ _).drew, ?_⟩
    exact ((Only.of_below HB2.out).set (.inr (.inr (.inr (.inl ⟨v, HV.out, rfl⟩)))) _).next (Below.refl _ _).drew

set_option maxRecDepth 100000 in
set_option maxHeartbeats 2000000 in
theorem goods_fetch (p g len cap : Nat) (b : RB) (M : Mk.Mkt) (who v : Nat) (r n : Int) (mc : Bool) (w : World) (hM : M.Fine) (hR : Ref w p b M) (hw : who < 4) (hv : v < 2) (hn : 0 ≤ n ∧ n ≤ 9999) (hl : 2 ≤ len) (hg0 : w.cell? ⟨g, 0, none⟩ = some (.int .i64 (v : Int))) (hg : w.cell? ⟨g, 1, none⟩ = some (.int .i64 n)) :
    Calls Tryz.prog 80 #[.pointer (some ⟨p, 0, none⟩), cmdV who r .fetch (.slice (some ⟨g, 0, none⟩) len cap) mc] w fun e w' => Does p b (Mk.fetchM M v who n) w e w' := by
  have HM : Hid M.Fine := hM
  have HR : Hid (Ref w p b M) := hR
  have hgl := blk_lt hg
  have hl' : (0 : Int) < (len : Int) := by omega
  have hl1 : (1 : Int) < (len : Int) := by omega
  have hw' : (who : Int) < 4 := by omega
  have hv' : (v : Int) < 2 := by omega
  have HV : Hid (v < 2) := hv
  have HB2 : Hid (Below w.heap.size w (w.alloc (.cells #[.int .i64 (who : Int), .int .i64 r, .string (Mk.Wd.text .fetch), .slice (some ⟨g, 0, none⟩) len cap, .bool mc] 83))) := (Below.refl _ _).alloc (Nat.le_refl _) _
  have HR2 : Hid (Ref (w.alloc (.cells #[.int .i64 (who : Int), .int .i64 r, .string (Mk.Wd.text .fetch), .slice (some ⟨g, 0, none⟩) len cap, .bool mc] 83)) p b M) := HR.out.below HB2.out
  have x0 : (w.alloc (.cells #[.int .i64 (who : Int), .int .i64 r, .string (Mk.Wd.text .fetch), .slice (some ⟨g, 0, none⟩) len cap, .bool mc] 83)).cell? ⟨w.heap.size, 0, none⟩ = some (.int .i64 (who : Int)) := by simp
  have ht := txt_fetch
  have bf := hM.sf v who hv hw
  clear hM hR
  go_enter Tryz.func80, Tryz.ntmps80
  go_wp2_with fail
  generalize w.alloc (.cells #[.int .i64 (who : Int), .int .i64 r, .string (Mk.Wd.text .fetch), .slice (some ⟨g, 0, none⟩) len cap, .bool mc] 83) = W1 at *
  have f1 := HR2.out.box.cell (i := 1) (by omega)
  have g1 := HR2.out.slots.cell hv
  simp only [mktF] at f1
  have a0 := (HR2.out.sl v hv).cell (i := who * 2) (by omega)
  rw [purseF_0] at a0
  go_quiet (fail)
  have hbq : Below W1.heap.size W1 (W1.drewN nq) := below_drewN (Below.refl _ _) nq
  have HB3 : Hid (Below w.heap.size w (W1.drewN nq)) := HB2.out.trans (hbq.mono HB2.out.size)
  have HR3 : Hid (Ref (W1.drewN nq) p b M) := HR2.out.below hbq
  have x3 : (W1.drewN nq).cell? ⟨w.heap.size, 0, none⟩ = some (.int .i64 (who : Int)) := by simpa using x0
  generalize W1.drewN nq = W3 at *
  clear hbq f1 g1 a0 x0
  have f1 := HR3.out.box.cell (i := 1) (by omega)
  have g1 := HR3.out.slots.cell hv
  simp only [mktF] at f1
  have a0 := (HR3.out.sl v hv).cell (i := who * 2) (by omega)
  rw [purseF_0] at a0
  have z0 := (HR3.out.sl v hv).frozen (who * 2)
  by_cases hbig : M.sf v who < n
  · have HX : Hid (Mk.fetchM M v who n = (5, M)) := if_pos hbig
    go_wp2_with fail
    go_ret
    exact ⟨by rw [HX.out]; rfl, by rw [HX.out]; exact HR3.out, Only.of_below HB3.out⟩
  · have HX : Hid (Mk.fetchM M v who n = (0, { M with sf := upd M.sf v (upd (M.sf v) who (M.sf v who - n)) })) := if_neg hbig
    go_wp2_with fail
    go_region
    go_wp2_with fail
    go_ret
    refine ⟨by rw [HX.out]; rfl, by rw [HX.out]; exact (HR3.out.setSf v HV.out who _).below (Below.refl _ _).drew, ?_⟩
    exact ((Only.of_below HB3.out).set (.inr (.inr (.inr (.inl ⟨v, HV.out, rfl⟩)))) _).next (Below.refl _ _).drew

end Go.Proofs.YtmebcdpdpcpnmaaGreatDoor

namespace Go.Proofs.YtmebcdpdpcpnmaaGreatDoor
open Go.RowKit


theorem Tryz.infoPurse : (Tryz.prog.info? 117).map (fun i => (i.zero, i.size, i.bytes)) = some (some (.agg #[.int .i64 0, .int .i64 0]), 2, 16) := by kernel_rfl
theorem Tryz.infoBool : (Tryz.prog.info? 4).map (fun i => (i.zero, i.size, i.bytes)) = some (some (.bool false), 1, 1) := by kernel_rfl
theorem Tryz.infoString : (Tryz.prog.info? 9).map (fun i => (i.zero, i.size, i.bytes)) = some (some (.string ⟨#[]⟩), 1, 16) := by kernel_rfl
section
variable (w : World)
theorem mk_purses : (Instr.makeSlice 73 (.int .i64 4) (.int .i64 4)).run Tryz.prog w = .ok (.slice (some ⟨w.heap.size, 0, none⟩) 4 4) (w.alloc (.cells #[.int .i64 0, .int .i64 0, .int .i64 0, .int .i64 0, .int .i64 0, .int .i64 0, .int .i64 0, .int .i64 0] 117)) := by
  obtain ⟨i, hi, hzz⟩ := Option.map_eq_some_iff.1 Tryz.infoPurse
  simp only [Prod.mk.injEq] at hzz
  obtain ⟨hz, hs, hb⟩ := hzz
  have hr := run_make (P := Tryz.prog) w 73 117 i _ Tryz.underlying73 hi hz .i64 .i64 4 4 (by omega) (Int.le_refl _) (by rw [hb]; omega) (by omega)
  rw [hs, show madeCells (Value.agg #[.int .i64 0, .int .i64 0]).cells (Int.toNat 4 * 2) = #[.int .i64 0, .int .i64 0, .int .i64 0, .int .i64 0, .int .i64 0, .int .i64 0, .int .i64 0, .int .i64 0] from by kernel_rfl] at hr
  exact hr
theorem mk_bools : (Instr.makeSlice 75 (.int .i64 2) (.int .i64 2)).run Tryz.prog w = .ok (.slice (some ⟨w.heap.size, 0, none⟩) 2 2) (w.alloc (.cells #[.bool false, .bool false] 4)) := by
  have hr := run_make_row' (P := Tryz.prog) 75 4 (.bool false) 1 Tryz.underlying75 Tryz.infoBool rfl .i64 .i64 2 (by omega) (by omega) w
  rw [show madeCells #[.bool false] 2 = #[.bool false, .bool false] from by kernel_rfl] at hr
  exact hr
theorem mk_ints2 : (Instr.makeSlice 53 (.int .i64 2) (.int .i64 2)).run Tryz.prog w = .ok (.slice (some ⟨w.heap.size, 0, none⟩) 2 2) (w.alloc (.cells #[.int .i64 0, .int .i64 0] 3)) := by
  have hr := run_make_row' (P := Tryz.prog) 53 3 (.int .i64 0) 8 Tryz.underlying53 Tryz.infoInt rfl .i64 .i64 2 (by omega) (by omega) w
  rw [show madeCells #[.int .i64 0] 2 = #[.int .i64 0, .int .i64 0] from by kernel_rfl] at hr
  exact hr
theorem mk_ints4 : (Instr.makeSlice 53 (.int .i64 4) (.int .i64 4)).run Tryz.prog w = .ok (.slice (some ⟨w.heap.size, 0, none⟩) 4 4) (w.alloc (.cells #[.int .i64 0, .int .i64 0, .int .i64 0, .int .i64 0] 3)) := by
  have hr := run_make_row' (P := Tryz.prog) 53 3 (.int .i64 0) 8 Tryz.underlying53 Tryz.infoInt rfl .i64 .i64 4 (by omega) (by omega) w
  rw [show madeCells #[.int .i64 0] 4 = #[.int .i64 0, .int .i64 0, .int .i64 0, .int .i64 0] from by kernel_rfl] at hr
  exact hr
theorem mk_strings : (Instr.makeSlice 25 (.int .i64 4) (.int .i64 4)).run Tryz.prog w = .ok (.slice (some ⟨w.heap.size, 0, none⟩) 4 4) (w.alloc (.cells #[.string ⟨#[]⟩, .string ⟨#[]⟩, .string ⟨#[]⟩, .string ⟨#[]⟩] 9)) := by
  have hr := run_make_row' (P := Tryz.prog) 25 9 (.string ⟨#[]⟩) 16 Tryz.underlying25 Tryz.infoString rfl .i64 .i64 4 (by omega) (by omega) w
  rw [show madeCells #[.string ⟨#[]⟩] 4 = #[.string ⟨#[]⟩, .string ⟨#[]⟩, .string ⟨#[]⟩, .string ⟨#[]⟩] from by kernel_rfl] at hr
  exact hr
theorem mk_slots (a b : Nat) : (Instr.buildSlice 74 2 #[(0, .slice (some ⟨a, 0, none⟩) 4 4), (1, .slice (some ⟨b, 0, none⟩) 4 4)]).run Tryz.prog w = .ok (.slice (some ⟨w.heap.size, 0, none⟩) 2 2) (w.alloc (.cells #[.slice (some ⟨a, 0, none⟩) 4 4, .slice (some ⟨b, 0, none⟩) 4 4] 73)) := by
  simp [Instr.buildSlice, go_sem]
theorem mk_books : (Instr.buildSlice 76 2 #[(0, .slice none 0 0), (1, .slice none 0 0)]).run Tryz.prog w = .ok (.slice (some ⟨w.heap.size, 0, none⟩) 2 2) (w.alloc (.cells #[.slice none 0 0, .slice none 0 0] 118)) := by
  simp [Instr.buildSlice, go_sem]
end

def nT : Nat → TypeId
  | 0 => 117 | 1 => 117 | 2 => 117 | 3 => 73 | 4 => 4 | 5 => 118 | 6 => 3 | 7 => 3 | 8 => 9 | 9 => 3 | _ => 78
def nN : Nat → Nat
  | 0 => 8 | 1 => 8 | 2 => 8 | 3 => 2 | 4 => 2 | 5 => 2 | 6 => 2 | 7 => 4 | 8 => 4 | 9 => 4 | _ => 10
def nRB (g : Nat → Nat) : RB := ⟨g 0, g 3, fun v => if v = 0 then g 1 else g 2, g 4, g 5, g 6, g 7, g 8, g 9, fun _ => .slice none 0 0⟩
def nF (g : Nat → Nat) : Nat → Nat → Value
  | 0 => purseF (fun _ => 0) (fun _ => 0) | 1 => purseF (fun _ => 0) (fun _ => 0) | 2 => purseF (fun _ => 0) (fun _ => 0)
  | 3 => fun v => .slice (some ⟨if v = 0 then g 1 else g 2, 0, none⟩) 4 4
  | 4 => fun _ => .bool false | 5 => fun _ => .slice none 0 0 | 6 => fun _ => .int .i64 0 | 7 => fun _ => .int .i64 0 | 8 => fun _ => .string ⟨#[]⟩ | 9 => fun _ => .int .i64 0
  | _ => mktF (nRB g) Mk.Mkt.new
/-- New's way: l: which of its operations are done; g: the blocks that they made -/
structure NI (w0 : World) (l : Nat → Bool) (g : Nat → Nat) (w : World) : Prop where
  below : Below w0.heap.size w0 w
  lo : ∀ i, i < 12 → i ≠ 10 → l i = true → w0.heap.size ≤ g i
  row : ∀ i, i < 12 → i ≠ 10 → l i = true → w.rowIs (g i) (nT i) (nN i) (nF g i)
  dis : ∀ i j, i < 12 → j < 12 → i ≠ 10 → j ≠ 10 → l i = true → l j = true → i ≠ j → g i ≠ g j
  c3 : l 3 = true → l 1 = true ∧ l 2 = true
  c10 : l 10 = true → l 0 = true ∧ l 3 = true ∧ l 4 = true ∧ l 5 = true ∧ l 6 = true ∧ l 7 = true ∧ l 8 = true ∧ l 9 = true
  c11 : l 11 = true → l 10 = true
  c12 : l 12 = true → l 11 = true

/-- what an operation that makes a row does -/
theorem NI.take {w0 w w' : World} {l : Nat → Bool} {g : Nat → Nat} (h : NI w0 l g w) (i : Nat) (hi : i < 12) (h10 : i ≠ 10) (hl : l i = false) (hb : Below w.heap.size w w')
    (hr : w'.rowIs w.heap.size (nT i) (nN i) (nF (upd g i w.heap.size) i)) (h3 : i = 3 → l 1 = true ∧ l 2 = true) (h11 : i = 11 → l 10 = true) : NI w0 (upd l i true) (upd g i w.heap.size) w' := by
  have hlt : ∀ j, j < 12 → j ≠ 10 → l j = true → g j < w.heap.size := fun j a b c => (h.row j a b c).lt
  have hne : ∀ j, l j = true → j ≠ i := fun j hj e => by subst e; rw [hl] at hj; cases hj
  have up : ∀ j, l j = true → upd g i w.heap.size j = g j := fun j hj => by unfold upd; rw [if_neg (hne j hj)]
  have cases_l : ∀ j, upd l i true j = true → j = i ∨ (j ≠ i ∧ l j = true) := fun j hj => by
    by_cases e : j = i
    · exact .inl e
    · unfold upd at hj; rw [if_neg e] at hj; exact .inr ⟨e, hj⟩
  have mono : ∀ j, l j = true → upd l i true j = true := fun j hj => by unfold upd; split <;> simp_all
  have same : ∀ j, j < 12 → j ≠ 10 → l j = true → nF (upd g i w.heap.size) j = nF g j := by
    intro j a b c
    by_cases e3 : j = 3
    · subst e3
      obtain ⟨p, q⟩ := h.c3 c
      unfold nF
      simp only [up 1 p, up 2 q]
    · by_cases e11 : j = 11
      · subst e11
        obtain ⟨k0, k3, k4, k5, k6, k7, k8, k9⟩ := h.c10 (h.c11 c)
        obtain ⟨p, q⟩ := h.c3 k3
        simp only [nF, nRB, up 0 k0, up 1 p, up 2 q, up 3 k3, up 4 k4, up 5 k5, up 6 k6, up 7 k7, up 8 k8, up 9 k9]
      · have : j = 0 ∨ j = 1 ∨ j = 2 ∨ j = 4 ∨ j = 5 ∨ j = 6 ∨ j = 7 ∨ j = 8 ∨ j = 9 := by omega
        rcases this with rfl | rfl | rfl | rfl | rfl | rfl | rfl | rfl | rfl <;> rfl
  refine ⟨h.below.trans (hb.mono h.below.size), ?_, ?_, ?_, ?_, ?_, ?_, ?_⟩
  · intro j a b c
    rcases cases_l j c with rfl | ⟨_, d⟩
    · unfold upd; rw [if_pos rfl]; exact h.below.size
    · rw [up j d]; exact h.lo j a b d
  · intro j a b c
    rcases cases_l j c with rfl | ⟨_, d⟩
    · have : upd g j w.heap.size j = w.heap.size := by unfold upd; rw [if_pos rfl]
      rw [this]; exact hr
    · rw [up j d, same j a b d]; exact (h.row j a b d).of_block (hb.block _ (hlt j a b d))
  · intro j k a a' b b' c c' n
    have ui : upd g i w.heap.size i = w.heap.size := by unfold upd; rw [if_pos rfl]
    rcases cases_l j c with rfl | ⟨_, d⟩ <;> rcases cases_l k c' with rfl | ⟨_, d'⟩
    · exact absurd rfl n
    · rw [ui, up k d']; have := hlt k a' b' d'; omega
    · rw [ui, up j d]; have := hlt j a b d; omega
    · rw [up j d, up k d']; exact h.dis j k a a' b b' d d' n
  · intro c
    rcases cases_l 3 c with e | ⟨_, d⟩
    · exact ⟨mono _ (h3 e.symm).1, mono _ (h3 e.symm).2⟩
    · exact ⟨mono _ (h.c3 d).1, mono _ (h.c3 d).2⟩
  · intro c
    rcases cases_l 10 c with e | ⟨_, d⟩
    · exact absurd e.symm h10
    · obtain ⟨k0, k3, k4, k5, k6, k7, k8, k9⟩ := h.c10 d
      exact ⟨mono _ k0, mono _ k3, mono _ k4, mono _ k5, mono _ k6, mono _ k7, mono _ k8, mono _ k9⟩
  · intro c
    rcases cases_l 11 c with e | ⟨_, d⟩
    · exact mono _ (h11 e.symm)
    · exact mono _ (h.c11 d)
  · intro c
    rcases cases_l 12 c with e | ⟨_, d⟩
    · omega
    · exact mono _ (h.c12 d)

end Go.Proofs.YtmebcdpdpcpnmaaGreatDoor
