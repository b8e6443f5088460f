import Derived.Test.YtmebcdpdpcpnmabDoorJ18
namespace Go.Proofs.YtmebcdpdpcpnmabDoor
open Go.RowKit

set_option maxRecDepth 100000 in
set_option maxHeartbeats 2000000 in
theorem rest_none (f rq : Nat) (l : List ByteArray) (g : Bool) (c r : Int) (t : ByteArray) (w : World) (ht : Mk.wd t = none) (hQ : Rq w f rq l g (rqF c r t 0 0 0 0 0 false)) :
    Calls Tryd.prog 42 #[.pointer (some ⟨f, 0, none⟩), .pointer (some ⟨rq, 0, none⟩)] w fun e w' => e = .returned (.tuple #[]) ∧ Rq w' f rq l false (rqF c r t 0 0 0 0 0 false) ∧ Only (Two f rq) w w' := by
  have c2 := hQ.rq.cell (i := 2) (by omega)
  simp only [rqF] at c2
  have HQ0 : Hid (Rq w f rq l g (rqF c r t 0 0 0 0 0 false)) := hQ
  have z2 : w.frozen? ⟨f, 2, none⟩ = false := by obtain ⟨s, m, hr, _⟩ := hQ.fl; exact hr.frozen 2
  have b2 : ∃ b, w.cell? ⟨f, 2, none⟩ = some (.bool b) := by obtain ⟨s, m, hr, _⟩ := hQ.fl; exact ⟨_, hr.cell (i := 2) (by omega)⟩
  obtain ⟨b2, d2⟩ := b2
  have t1 : (t.toList == [112, 97, 121]) = false := by have := Mk.isW_no (d := .pay) ht; unfold Mk.isW at this; simpa [Mk.Wd.text] using this
  have t2 : (t.toList == [100, 114, 97, 119]) = false := by have := Mk.isW_no (d := .draw) ht; unfold Mk.isW at this; simpa [Mk.Wd.text] using this
  have t3 : (t.toList == [98, 114, 105, 110, 103]) = false := by have := Mk.isW_no (d := .bring) ht; unfold Mk.isW at this; simpa [Mk.Wd.text] using this
  have t4 : (t.toList == [102, 101, 116, 99, 104]) = false := by have := Mk.isW_no (d := .fetch) ht; unfold Mk.isW at this; simpa [Mk.Wd.text] using this
  have t5 : (t.toList == [98, 117, 121]) = false := by have := Mk.isW_no (d := .buy) ht; unfold Mk.isW at this; simpa [Mk.Wd.text] using this
  have t6 : (t.toList == [115, 101, 108, 108]) = false := by have := Mk.isW_no (d := .sell) ht; unfold Mk.isW at this; simpa [Mk.Wd.text] using this
  have t7 : (t.toList == [100, 114, 111, 112]) = false := by have := Mk.isW_no (d := .drop) ht; unfold Mk.isW at this; simpa [Mk.Wd.text] using this
  have t8 : (t.toList == [109, 111, 100, 101]) = false := by have := Mk.isW_no (d := .mode) ht; unfold Mk.isW at this; simpa [Mk.Wd.text] using this
  have t9 : (t.toList == [99, 108, 111, 115, 101]) = false := by have := Mk.isW_no (d := .close) ht; unfold Mk.isW at this; simpa [Mk.Wd.text] using this
  clear hQ ht
  go_enter Tryd.func42, Tryd.ntmps42
  go_wp2_with fail
  refine bodyPost_end (v := .tuple #[]) ?_ rfl ⟨rfl, ?_, ?_⟩
  · simp [results, Tryd.results42, go_sem]
  · exact ⟨HQ0.out.fl.setG false, HQ0.out.rq.setOther (Ne.symm HQ0.out.ne) _⟩
  · exact (Only.refl (Two f rq) w).set (show Two f rq f from .inl rfl) _

theorem rest_any (f rq : Nat) (l : List ByteArray) (g : Bool) (c r : Int) (d : Mk.Wd) (w : World) (hQ : Rq w f rq l g (rqF c r d.text 0 0 0 0 0 false)) :
    Calls Tryd.prog 42 #[.pointer (some ⟨f, 0, none⟩), .pointer (some ⟨rq, 0, none⟩)] w fun e w' => RestIs f rq l g c r d w e w' := by
  cases d
  · exact rest_pay f rq l g c r w hQ
  · exact rest_draw f rq l g c r w hQ
  · exact rest_bring f rq l g c r w hQ
  · exact rest_fetch f rq l g c r w hQ
  · exact rest_buy f rq l g c r w hQ
  · exact rest_sell f rq l g c r w hQ
  · exact rest_drop f rq l g c r w hQ
  · exact rest_mode f rq l g c r w hQ
  · exact rest_close f rq l g c r w hQ

theorem Mk.words_some (s : ByteArray) : Mk.some' (Mk.words s) = true := by
  unfold Mk.words Mk.some'
  simp
theorem Fl.cells {w : World} {f : Nat} {l : List ByteArray} {g : Bool} (h : Fl w f l g) : w.cell? ⟨f, 1, none⟩ = some (.bool (Mk.some' l)) ∧ w.cell? ⟨f, 2, none⟩ = some (.bool g) := by
  obtain ⟨s, m, hr, hs, ⟨rfl, rfl⟩ | ⟨rfl, rfl⟩⟩ := h
  · rw [Mk.words_some]; exact ⟨hr.cell (i := 1) (by omega), hr.cell (i := 2) (by omega)⟩
  · exact ⟨hr.cell (i := 1) (by omega), hr.cell (i := 2) (by omega)⟩

/-- a request, as a value -/
def rqV (c r : Int) (t : ByteArray) (v a p q o : Int) (m : Bool) : Value := .agg #[.int .i64 c, .int .i64 r, .string t, .int .i64 v, .int .i64 a, .int .i64 p, .int .i64 q, .int .i64 o, .int .i64 (mdI m)]
abbrev reqV (c : Mk.Cmd) : Value := .agg #[.int .i64 (c.who : Int), .int .i64 (c.r : Int), .string c.d.text, .int .i64 (c.voy : Int), .int .i64 (c.amt : Int), .int .i64 (c.pri : Int), .int .i64 (c.qty : Int), .int .i64 (c.ord : Int), .int .i64 (mdI c.mc)]
/-- no request -/
abbrev noReq : Value := .agg #[.int .i64 0, .int .i64 0, .string ⟨#[]⟩, .int .i64 0, .int .i64 0, .int .i64 0, .int .i64 0, .int .i64 0, .int .i64 0]
def PReadIs (s : ByteArray) (w : World) (e : Ending) (w' : World) : Prop :=
  Below w.heap.size w w' ∧ (match Mk.readP s with
    | none => e = .returned (.tuple #[noReq, .bool false])
    | some c => e = .returned (.tuple #[reqV c, .bool true]))

theorem below_at {n : Nat} {w w' : World} (h : Below n w w') (i : Nat) (u : Value) : Below n w (w'.setCell ⟨n, i, none⟩ u) := h.setCell (p := ⟨n, i, none⟩) (Nat.le_refl _) u
def zF : Nat → Value := rqF 0 0 ⟨#[]⟩ 0 0 0 0 0 false

set_option maxRecDepth 100000 in
set_option maxHeartbeats 2000000 in
theorem readRequest_long (s : ByteArray) (w : World) (h : 20 < s.size) :
    Calls Tryd.prog 32 #[.string s] w fun e w' => PReadIs s w e w' := by
  have h' : (20 : Int) < (s.size : Int) := by omega
  have HR : Hid (Mk.readP s = none) := Mk.read_long h
  clear h
  go_enter Tryd.func32, Tryd.ntmps32
  go_wp2
  refine bodyPost_ret (v := .tuple #[noReq, .bool false]) ?_ rfl ⟨?_, ?_⟩
  · simp [results, Tryd.results32, go_sem]
  · exact (Below.refl _ _).alloc (Nat.le_refl _) _
  · rw [HR.out]

set_option maxRecDepth 100000 in
set_option maxHeartbeats 2000000 in
theorem readRequest_short (s : ByteArray) (w : World) (h : s.size ≤ 20) :
    Calls Tryd.prog 32 #[.string s] w fun e w' => PReadIs s w e w' := by
  have h' : ¬ (20 : Int) < (s.size : Int) := by omega
  have HS : Hid (s.size ≤ 20) := h
  clear h
  go_enter Tryd.func32, Tryd.ntmps32
  go_wp2_with fail
  have HQ0 : Hid (Rq (((w.alloc (.cells #[.int .i64 0, .int .i64 0, .string ⟨#[]⟩, .int .i64 0, .int .i64 0, .int .i64 0, .int .i64 0, .int .i64 0, .int .i64 0] 76)).alloc (.cells #[.string s, .bool true, .bool true] 89)).alloc (.cells #[.int .i64 0, .int .i64 0, .string ⟨#[]⟩, .int .i64 0, .int .i64 0, .int .i64 0, .int .i64 0, .int .i64 0, .int .i64 0] 76)) (w.heap.size + 1) (w.heap.size + 2) (Mk.words s) true zF) := by
    refine ⟨⟨s, true, ?_, HS.out, .inl ⟨rfl, rfl⟩⟩, ?_⟩
    · have h := World.rowIs_alloc (w.alloc (.cells #[.int .i64 0, .int .i64 0, .string ⟨#[]⟩, .int .i64 0, .int .i64 0, .int .i64 0, .int .i64 0, .int .i64 0, .int .i64 0] 76)) #[.string s, .bool true, .bool true] 89 (flF s true true) (fun i hi => by match i, hi with | 0, _ => rfl | 1, _ => rfl | 2, _ => rfl)
      have h2 := h.of_block (Below.heap_alloc _ (.cells #[.int .i64 0, .int .i64 0, .string ⟨#[]⟩, .int .i64 0, .int .i64 0, .int .i64 0, .int .i64 0, .int .i64 0, .int .i64 0] 76) _ h.lt)
      simpa using h2
    · have h := World.rowIs_alloc ((w.alloc (.cells #[.int .i64 0, .int .i64 0, .string ⟨#[]⟩, .int .i64 0, .int .i64 0, .int .i64 0, .int .i64 0, .int .i64 0, .int .i64 0] 76)).alloc (.cells #[.string s, .bool true, .bool true] 89)) #[.int .i64 0, .int .i64 0, .string ⟨#[]⟩, .int .i64 0, .int .i64 0, .int .i64 0, .int .i64 0, .int .i64 0, .int .i64 0] 76 zF (fun i hi => by match i, hi with | 0, _ => rfl | 1, _ => rfl | 2, _ => rfl | 3, _ => rfl | 4, _ => rfl | 5, _ => rfl | 6, _ => rfl | 7, _ => rfl | 8, _ => rfl)
      simpa using h
  have HN0 : Hid (World.rowIs (((w.alloc (.cells #[.int .i64 0, .int .i64 0, .string ⟨#[]⟩, .int .i64 0, .int .i64 0, .int .i64 0, .int .i64 0, .int .i64 0, .int .i64 0] 76)).alloc (.cells #[.string s, .bool true, .bool true] 89)).alloc (.cells #[.int .i64 0, .int .i64 0, .string ⟨#[]⟩, .int .i64 0, .int .i64 0, .int .i64 0, .int .i64 0, .int .i64 0, .int .i64 0] 76)) w.heap.size 76 9 zF) := by
    have h := World.rowIs_alloc w #[.int .i64 0, .int .i64 0, .string ⟨#[]⟩, .int .i64 0, .int .i64 0, .int .i64 0, .int .i64 0, .int .i64 0, .int .i64 0] 76 zF (fun i hi => by match i, hi with | 0, _ => rfl | 1, _ => rfl | 2, _ => rfl | 3, _ => rfl | 4, _ => rfl | 5, _ => rfl | 6, _ => rfl | 7, _ => rfl | 8, _ => rfl)
    have h2 := h.of_block (Below.heap_alloc _ (.cells #[.string s, .bool true, .bool true] 89) _ h.lt)
    exact h2.of_block (Below.heap_alloc _ _ _ h2.lt)
  have HB0 : Hid (Below w.heap.size w (((w.alloc (.cells #[.int .i64 0, .int .i64 0, .string ⟨#[]⟩, .int .i64 0, .int .i64 0, .int .i64 0, .int .i64 0, .int .i64 0, .int .i64 0] 76)).alloc (.cells #[.string s, .bool true, .bool true] 89)).alloc (.cells #[.int .i64 0, .int .i64 0, .string ⟨#[]⟩, .int .i64 0, .int .i64 0, .int .i64 0, .int .i64 0, .int .i64 0, .int .i64 0] 76))) :=
    (((Below.refl _ _).alloc (Nat.le_refl _) _).alloc (by simp) _).alloc (by simp; omega) _
  generalize ((w.alloc (.cells #[.int .i64 0, .int .i64 0, .string ⟨#[]⟩, .int .i64 0, .int .i64 0, .int .i64 0, .int .i64 0, .int .i64 0, .int .i64 0] 76)).alloc (.cells #[.string s, .bool true, .bool true] 89)).alloc (.cells #[.int .i64 0, .int .i64 0, .string ⟨#[]⟩, .int .i64 0, .int .i64 0, .int .i64 0, .int .i64 0, .int .i64 0, .int .i64 0] 76) = W0 at *
  have HO0 : Hid (Only (Two (w.heap.size + 1) (w.heap.size + 2)) W0 W0) := Only.refl _ _
  refine (fnumber_any (w.heap.size + 1) (Mk.words s) true 0 3 _ (by omega) HQ0.out.fl).mono ?_
  rintro e w1 ⟨rfl, hf1, ho1⟩
  have hq1 := HQ0.out.step hf1 ho1
  have a0 := hq1.rq.cell (i := 0) (by omega)
  have z0 := hq1.rq.frozen 0
  simp only [zF, rqF] at a0
  have HQ1 := (show Hid _ from hq1.put 0 (.int .i64 (Mk.nv (Mk.words s) 0 3 : Int)))
  have HO1 := (show Hid _ from (HO0.out.two ho1).put2 0 (.int .i64 (Mk.nv (Mk.words s) 0 3 : Int)))
  clear hf1 ho1 hq1
  go_wp2_with fail
  refine (fnumber_any (w.heap.size + 1) (Mk.words s).tail (true && Mk.ng (Mk.words s) 0 3) 1 99 _ (by omega) HQ1.out.fl).mono ?_
  rintro e w2 ⟨rfl, hf2, ho2⟩
  have hq2 := HQ1.out.step hf2 ho2
  have a1 := hq2.rq.cell (i := 1) (by omega)
  have z1 := hq2.rq.frozen 1
  simp only [zF, rqF] at a1
  have HQ2 := (show Hid _ from hq2.put 1 (.int .i64 (Mk.nv (Mk.words s).tail 1 99 : Int)))
  have HO2 := (show Hid _ from (HO1.out.two ho2).put2 1 (.int .i64 (Mk.nv (Mk.words s).tail 1 99 : Int)))
  clear hf2 ho2 hq2
  go_wp2_with fail
  refine (next_any (w.heap.size + 1) (Mk.words s).tail.tail (true && Mk.ng (Mk.words s) 0 3 && Mk.ng (Mk.words s).tail 1 99) _ HQ2.out.fl).mono ?_
  rintro e w3 ⟨rfl, hf3, ho3⟩
  have hq3 := HQ2.out.step hf3 ho3
  have a2 := hq3.rq.cell (i := 2) (by omega)
  have z2 := hq3.rq.frozen 2
  simp only [zF, rqF] at a2
  have HQ3 : Hid (Rq (w3.setCell ⟨w.heap.size + 2, 2, none⟩ (.string (Mk.hd (Mk.words s).tail.tail))) (w.heap.size + 1) (w.heap.size + 2) (Mk.words s).tail.tail.tail (true && Mk.ng (Mk.words s) 0 3 && Mk.ng (Mk.words s).tail 1 99 && Mk.some' (Mk.words s).tail.tail) (rqF (Mk.nv (Mk.words s) 0 3 : Int) (Mk.nv (Mk.words s).tail 1 99 : Int) (Mk.hd (Mk.words s).tail.tail) 0 0 0 0 0 false)) :=
    (hq3.put 2 (.string (Mk.hd (Mk.words s).tail.tail))).congr (fun j hj => by match j, hj with | 0, _ => rfl | 1, _ => rfl | 2, _ => rfl | 3, _ => rfl | 4, _ => rfl | 5, _ => rfl | 6, _ => rfl | 7, _ => rfl | 8, _ => rfl)
  have HO3 := (show Hid _ from (HO2.out.two ho3).put2 2 (.string (Mk.hd (Mk.words s).tail.tail)))
  clear hf3 ho3 hq3
  go_wp2_with fail
  have HBel : Hid (∀ W, Only (Two (w.heap.size + 1) (w.heap.size + 2)) W0 W → Below w.heap.size w W ∧ W.rowIs w.heap.size 76 9 zF) := fun W h => by
    have hsz := HB0.out.size
    refine ⟨HB0.out.trans ⟨h.os, h.tape, h.output, h.size, fun k hk => h.block k (by omega) (fun e => ?_)⟩, HN0.out.of_block (h.block _ HN0.out.lt (fun e => ?_))⟩
    · rcases e with e | e <;> omega
    · rcases e with e | e <;> omega
  cases hd : Mk.wd (Mk.hd (Mk.words s).tail.tail) with
  | none =>
    refine (rest_none (w.heap.size + 1) (w.heap.size + 2) _ _ _ _ _ _ hd HQ3.out).mono ?_
    rintro e w4 ⟨rfl, hq4, ho4⟩
    have HR : Hid (Mk.readP s = none) := Mk.read_word hd
    obtain ⟨hb4, hn4⟩ := HBel.out w4 (HO3.out.trans ho4 (fun _ _ h => h))
    have HB4 : Hid (Below w.heap.size w w4) := hb4
    have b2 := hq4.fl.cells.2
    have n0 := hn4.cell (i := 0) (by omega)
    have n1 := hn4.cell (i := 1) (by omega)
    have n2 := hn4.cell (i := 2) (by omega)
    have n3 := hn4.cell (i := 3) (by omega)
    have n4 := hn4.cell (i := 4) (by omega)
    have n5 := hn4.cell (i := 5) (by omega)
    have n6 := hn4.cell (i := 6) (by omega)
    have n7 := hn4.cell (i := 7) (by omega)
    have n8 := hn4.cell (i := 8) (by omega)
    have y0 := hn4.frozen 0
    have y1 := hn4.frozen 1
    have y2 := hn4.frozen 2
    have y3 := hn4.frozen 3
    have y4 := hn4.frozen 4
    have y5 := hn4.frozen 5
    have y6 := hn4.frozen 6
    have y7 := hn4.frozen 7
    have y8 := hn4.frozen 8
    simp only [zF, rqF] at n0 n1 n2 n3 n4 n5 n6 n7 n8
    clear hq4 ho4 hb4 hn4 a0 z0 a1 z1 a2 z2 hd
    go_wp2_with fail
    refine bodyPost_ret (v := .tuple #[noReq, .bool false]) ?_ rfl ⟨?_, ?_⟩
    · simp [results, Tryd.results32, go_sem, n0, n1, n2, n3, n4, n5, n6, n7, n8]
    · iterate 9 (refine below_at ?_ _ _)
      exact HB4.out
    · rw [HR.out]
  | some d =>
    have ht := Mk.wd_text hd
    have HQ3' : Hid (Rq (w3.setCell ⟨w.heap.size + 2, 2, none⟩ (.string (Mk.hd (Mk.words s).tail.tail))) (w.heap.size + 1) (w.heap.size + 2) (Mk.words s).tail.tail.tail (true && Mk.ng (Mk.words s) 0 3 && Mk.ng (Mk.words s).tail 1 99 && Mk.some' (Mk.words s).tail.tail) (rqF (Mk.nv (Mk.words s) 0 3 : Int) (Mk.nv (Mk.words s).tail 1 99 : Int) d.text 0 0 0 0 0 false)) := by
      have := HQ3.out
      rw [← ht]
      exact this
    refine (rest_any (w.heap.size + 1) (w.heap.size + 2) _ _ _ _ d _ HQ3'.out).mono ?_
    rintro e w4 ⟨rfl, hq4, ho4⟩
    obtain ⟨hb4, hn4⟩ := HBel.out w4 (HO3.out.trans ho4 (fun _ _ h => h))
    have HB4 : Hid (Below w.heap.size w w4) := hb4
    have HD : Hid (Mk.wd (Mk.hd (Mk.words s).tail.tail) = some d) := hd
    have HOk : Hid (Mk.okY d (Mk.words s) = (Mk.ng (Mk.words s) 0 3 && Mk.ng (Mk.words s).tail 1 99 && Mk.some' (Mk.words s).tail.tail && Mk.rG d (Mk.words s).tail.tail.tail && (Mk.rL d (Mk.words s).tail.tail.tail).isEmpty)) := rfl
    obtain ⟨b1, b2⟩ := hq4.fl.cells
    rw [Bool.true_and] at b2
    have m0 := hq4.rq.cell (i := 0) (by omega)
    have m1 := hq4.rq.cell (i := 1) (by omega)
    have m2 := hq4.rq.cell (i := 2) (by omega)
    have m3 := hq4.rq.cell (i := 3) (by omega)
    have m4 := hq4.rq.cell (i := 4) (by omega)
    have m5 := hq4.rq.cell (i := 5) (by omega)
    have m6 := hq4.rq.cell (i := 6) (by omega)
    have m7 := hq4.rq.cell (i := 7) (by omega)
    have m8 := hq4.rq.cell (i := 8) (by omega)
    simp only [rqF] at m0 m1 m2 m3 m4 m5 m6 m7 m8
    have n0 := hn4.cell (i := 0) (by omega)
    have n1 := hn4.cell (i := 1) (by omega)
    have n2 := hn4.cell (i := 2) (by omega)
    have n3 := hn4.cell (i := 3) (by omega)
    have n4 := hn4.cell (i := 4) (by omega)
    have n5 := hn4.cell (i := 5) (by omega)
    have n6 := hn4.cell (i := 6) (by omega)
    have n7 := hn4.cell (i := 7) (by omega)
    have n8 := hn4.cell (i := 8) (by omega)
    have y0 := hn4.frozen 0
    have y1 := hn4.frozen 1
    have y2 := hn4.frozen 2
    have y3 := hn4.frozen 3
    have y4 := hn4.frozen 4
    have y5 := hn4.frozen 5
    have y6 := hn4.frozen 6
    have y7 := hn4.frozen 7
    have y8 := hn4.frozen 8
    simp only [zF, rqF] at n0 n1 n2 n3 n4 n5 n6 n7 n8
    clear hq4 ho4 hb4 hn4 a0 z0 a1 z1 a2 z2 ht hd HQ3
    by_cases hG : (Mk.ng (Mk.words s) 0 3 && Mk.ng (Mk.words s).tail 1 99 && Mk.some' (Mk.words s).tail.tail && Mk.rG d (Mk.words s).tail.tail.tail) = true
    · rw [hG] at b2
      have HG : Hid _ := hG
      have HSm : Hid (Mk.some' (Mk.words s).tail.tail = true) := by simp only [Bool.and_eq_true] at hG; exact hG.1.2
      clear hG
      by_cases hM : Mk.some' (Mk.rL d (Mk.words s).tail.tail.tail) = true
      · rw [hM] at b1
        have HR : Hid (Mk.readP s = none) := (Mk.read_as HS.out HD.out HSm.out).1 (by
          rw [HOk.out, HG.out, Bool.true_and]
          unfold Mk.some' at hM
          simpa using hM)
        clear hM
        go_wp2_with fail
        refine bodyPost_ret (v := .tuple #[noReq, .bool false]) ?_ rfl ⟨?_, ?_⟩
        · simp [results, Tryd.results32, go_sem, n0, n1, n2, n3, n4, n5, n6, n7, n8]
        · iterate 9 (refine below_at ?_ _ _)
          exact HB4.out
        · rw [HR.out]
      · have hM' : Mk.some' (Mk.rL d (Mk.words s).tail.tail.tail) = false := by simpa using hM
        rw [hM'] at b1
        have HR := (show Hid _ from (Mk.read_as HS.out HD.out HSm.out).2 (by
          rw [HOk.out, HG.out, Bool.true_and]
          unfold Mk.some' at hM'
          simpa using hM'))
        clear hM hM'
        go_wp2_with fail
        refine bodyPost_ret (v := .tuple #[rqV (Mk.nv (Mk.words s) 0 3 : Int) (Mk.nv (Mk.words s).tail 1 99 : Int) d.text (Mk.rV d (Mk.words s).tail.tail.tail : Int) (Mk.rA d (Mk.words s).tail.tail.tail : Int) (Mk.rP d (Mk.words s).tail.tail.tail : Int) (Mk.rQ d (Mk.words s).tail.tail.tail : Int) (Mk.rO d (Mk.words s).tail.tail.tail : Int) (Mk.rM d (Mk.words s).tail.tail.tail), .bool true]) ?_ rfl ⟨?_, ?_⟩
        · simp [results, Tryd.results32, go_sem, n0, n1, n2, n3, n4, n5, n6, n7, n8, rqV]
        · iterate 9 (refine below_at ?_ _ _)
          exact HB4.out
        · obtain ⟨c, hc, hcd, h1, h2, h3, h4, h5, h6, h7, h8⟩ := HR.out
          rw [hc]
          show Ending.returned (.tuple #[rqV _ _ _ _ _ _ _ _ _, .bool true]) = .returned (.tuple #[reqV c, .bool true])
          rw [← h1, ← h2, ← h3, ← h4, ← h5, ← h6, ← h7, ← h8, ← hcd]
          rfl
    · have hG' : (Mk.ng (Mk.words s) 0 3 && Mk.ng (Mk.words s).tail 1 99 && Mk.some' (Mk.words s).tail.tail && Mk.rG d (Mk.words s).tail.tail.tail) = false := by rw [← Bool.not_eq_true]; exact hG
      rw [hG'] at b2
      have HR : Hid (Mk.readP s = none) := by
        by_cases hsm : Mk.some' (Mk.words s).tail.tail = true
        · exact (Mk.read_as HS.out HD.out hsm).1 (by rw [HOk.out, hG', Bool.false_and])
        · exact Mk.read_short (by simpa using hsm)
      clear hG hG'
      go_wp2_with fail
      refine bodyPost_ret (v := .tuple #[noReq, .bool false]) ?_ rfl ⟨?_, ?_⟩
      · simp [results, Tryd.results32, go_sem, n0, n1, n2, n3, n4, n5, n6, n7, n8]
      · iterate 9 (refine below_at ?_ _ _)
        exact HB4.out
      · rw [HR.out]

theorem readRequest_any (s : ByteArray) (w : World) : Calls Tryd.prog 32 #[.string s] w fun e w' => PReadIs s w e w' := by
  by_cases h : 20 < s.size
  · exact readRequest_long s w h
  · exact readRequest_short s w (by omega)

end Go.Proofs.YtmebcdpdpcpnmabDoor
