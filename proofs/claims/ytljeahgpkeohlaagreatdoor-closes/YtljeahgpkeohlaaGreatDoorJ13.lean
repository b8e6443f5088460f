import Derived.Test.YtljeahgpkeohlaaGreatDoorJ12
import Derived.BigRegion
namespace Go.Proofs.YtljeahgpkeohlaaGreatDoor
open Go.RowKit

/-- but for the blocks in S nothing that was there has turned -/
structure Only (S : Nat → Prop) (w w' : World) : Prop where
  os : w'.os = w.os
  tape : w'.tape = w.tape
  output : w'.output = w.output
  size : w.heap.size ≤ w'.heap.size
  block : ∀ k, k < w.heap.size → ¬ S k → w'.heap[k]? = w.heap[k]?
section
variable {S S' : Nat → Prop} {w w1 w2 : World}
theorem Only.refl (S : Nat → Prop) (w : World) : Only S w w := ⟨rfl, rfl, rfl, Nat.le_refl _, fun _ _ _ => rfl⟩
theorem Only.of_below (h : Below w.heap.size w w1) : Only S w w1 := ⟨h.os, h.tape, h.output, h.size, fun k hk _ => h.block k hk⟩
theorem Only.trans (h : Only S w w1) (h' : Only S' w1 w2) (hS : ∀ k, k < w.heap.size → S' k → S k) : Only S w w2 :=
  ⟨h'.os.trans h.os, h'.tape.trans h.tape, h'.output.trans h.output, Nat.le_trans h.size h'.size, fun k hk hn => (h'.block k (Nat.lt_of_lt_of_le hk h.size) (fun hs => hn (hS k hk hs))).trans (h.block k hk hn)⟩
theorem Only.next (h : Only S w w1) (hb : Below w1.heap.size w1 w2) : Only S w w2 := h.trans (S' := S) (Only.of_below hb) (fun _ _ h => h)
theorem Only.set (h : Only S w w1) {k i : Nat} (hk : S k) (u : Value) : Only S w (w1.setCell ⟨k, i, none⟩ u) :=
  ⟨h.os, h.tape, h.output, by simpa using h.size, fun j hj hn => (Below.heap_setCell w1 _ u j (fun e => hn (by rw [e]; exact hk))).trans (h.block j hj hn)⟩
end

/-- the four arms of P10 -/
def Mk.payM (M : Mk.Mkt) (c : Nat) (n : Int) : Int × Mk.Mkt := if 9999 < totTo M.cf M.ch 4 + M.house + n then (6, M) else (0, { M with cf := upd M.cf c (M.cf c + n) })
def Mk.drawM (M : Mk.Mkt) (c : Nat) (n : Int) : Int × Mk.Mkt := if M.cf c < n then (5, M) else (0, { M with cf := upd M.cf c (M.cf c - n) })
def Mk.bringM (M : Mk.Mkt) (v c : Nat) (n : Int) : Int × Mk.Mkt := if 999 < totTo (M.sf v) (M.sh v) 4 + n then (6, M) else (0, { M with sf := upd M.sf v (upd (M.sf v) c (M.sf v c + n)) })
def Mk.fetchM (M : Mk.Mkt) (v c : Nat) (n : Int) : Int × Mk.Mkt := if M.sf v c < n then (5, M) else (0, { M with sf := upd M.sf v (upd (M.sf v) c (M.sf v c - n)) })

/-- a command, as a value -/
abbrev cmdV (who r : Int) (d : Mk.Wd) (v : Value) (mc : Bool) : Value := .agg #[.int .i64 who, .int .i64 r, .string d.text, v, .bool mc]

/-- what a method of the market leaves -/
def Does (p : Nat) (b : RB) (x : Int × Mk.Mkt) (w : World) (e : Ending) (w' : World) : Prop := e = .returned (.int .i64 x.1) ∧ Ref w' p b x.2 ∧ Only (b.has p) w w'

theorem txt_pay : ((Mk.Wd.text .pay).toList == [112, 97, 121]) = true := by simp [Mk.Wd.text]
theorem txt_draw : ((Mk.Wd.text .draw).toList == [112, 97, 121]) = false := by simp [Mk.Wd.text]
theorem txt_bring : ((Mk.Wd.text .bring).toList == [98, 114, 105, 110, 103]) = true := by simp [Mk.Wd.text]
theorem txt_fetch : ((Mk.Wd.text .fetch).toList == [98, 114, 105, 110, 103]) = false := by simp [Mk.Wd.text]

set_option maxRecDepth 100000 in
set_option maxHeartbeats 2000000 in
theorem money_pay (p g len cap : Nat) (b : RB) (M : Mk.Mkt) (who : Nat) (r n : Int) (mc : Bool) (w : World) (hM : M.Fine) (hR : Ref w p b M) (hw : who < 4) (hn : 0 ≤ n ∧ n ≤ 9999) (hl : 1 ≤ len) (hg : w.cell? ⟨g, 0, none⟩ = some (.int .i64 n)) :
    Calls Tryz.prog 70 #[.pointer (some ⟨p, 0, none⟩), cmdV who r .pay (.slice (some ⟨g, 0, none⟩) len cap) mc] w fun e w' => Does p b (Mk.payM M who n) w e w' := by
  have HM : Hid M.Fine := hM
  have HR : Hid (Ref w p b M) := hR
  have hgl := blk_lt hg
  have hpl := hR.box.lt
  have hl' : (0 : Int) < (len : Int) := by omega
  have hw' : (who : Int) < 4 := by omega
  have f0 := hR.box.cell (i := 0) (by omega)
  have f2 := hR.box.cell (i := 2) (by omega)
  simp only [mktF] at f0 f2
  have hcl := hR.cash.lt
  have HBd : Hid (∀ c, c < 4 → 0 ≤ M.cf c ∧ M.cf c ≤ 9999 ∧ 0 ≤ M.ch c ∧ M.ch c ≤ 9999) := fun c hc => ⟨(hM.cf c hc).1, (hM.cf c hc).2, (hM.ch c hc).1, (hM.ch c hc).2⟩
  have tb := totTo_bd HBd.out 4 (by omega)
  have hb := hM.house
  have HAl : Hid (∀ ob, Below w.heap.size w (w.alloc ob)) := fun ob => (Below.refl _ _).alloc (Nat.le_refl _) ob
  have ht := txt_pay
  clear hM hR
  go_enter Tryz.func70, Tryz.ntmps70
  go_wp2_with fail
  have HR1 : Hid (Ref (w.alloc (.cells #[.int .i64 (who : Int), .int .i64 r, .string (Mk.Wd.text .pay), .slice (some ⟨g, 0, none⟩) len cap, .bool mc] 80)) p b M) := HR.out.below (HAl.out _)
  refine (total_any b.bC M.cf M.ch _ HBd.out HR1.out.cash).mono ?_
  rintro e w2 ⟨rfl, m, hw2⟩
  have hb2 : Below w.heap.size w w2 := by rw [hw2]; exact below_drewN (HAl.out _) m
  have x0 : w2.cell? ⟨w.heap.size, 0, none⟩ = some (.int .i64 (who : Int)) := by rw [hw2]; simp
  have HR2 : Hid (Ref w2 p b M) := HR.out.below hb2
  have HB2 : Hid (Below w.heap.size w w2) := hb2
  clear hw2 hb2 f0 f2
  have f0 := HR2.out.box.cell (i := 0) (by omega)
  have f2 := HR2.out.box.cell (i := 2) (by omega)
  simp only [mktF] at f0 f2
  have a0 := HR2.out.cash.cell (i := who * 2) (by omega)
  rw [purseF_0] at a0
  have z0 := HR2.out.cash.frozen (who * 2)
  have bf := HM.out.cf who hw
  by_cases hbig : 9999 < totTo M.cf M.ch 4 + M.house + n
  · have HX : Hid (Mk.payM M who n = (6, M)) := if_pos hbig
    go_wp2_with fail
    go_ret
    exact ⟨by rw [HX.out]; rfl, by rw [HX.out]; exact HR2.out, Only.of_below HB2.out⟩
  · have HX : Hid (Mk.payM M who n = (0, { M with cf := upd M.cf who (M.cf who + n) })) := if_neg hbig
    go_wp2_with fail
    go_region
    go_wp2_with fail
    go_ret
    refine ⟨by rw [HX.out]; rfl, by rw [HX.out]; exact (HR2.out.setCf who _).below (Below.refl _ _).drew, ?_⟩
    exact ((Only.of_below HB2.out).set (.inr (.inl rfl)) _).next (Below.refl _ _).drew

end Go.Proofs.YtljeahgpkeohlaaGreatDoor

namespace Go.Proofs.YtljeahgpkeohlaaGreatDoor
open Go.RowKit

set_option maxRecDepth 100000 in
set_option maxHeartbeats 2000000 in
theorem money_draw (p g len cap : Nat) (b : RB) (M : Mk.Mkt) (who : Nat) (r n : Int) (mc : Bool) (w : World) (hM : M.Fine) (hR : Ref w p b M) (hw : who < 4) (hn : 0 ≤ n ∧ n ≤ 9999) (hl : 1 ≤ len) (hg : w.cell? ⟨g, 0, none⟩ = some (.int .i64 n)) :
    Calls Tryz.prog 70 #[.pointer (some ⟨p, 0, none⟩), cmdV who r .draw (.slice (some ⟨g, 0, none⟩) len cap) mc] w fun e w' => Does p b (Mk.drawM M who n) w e w' := by
  have HM : Hid M.Fine := hM
  have HR : Hid (Ref w p b M) := hR
  have hgl := blk_lt hg
  have hl' : (0 : Int) < (len : Int) := by omega
  have hw' : (who : Int) < 4 := by omega
  have HB2 : Hid (Below w.heap.size w (w.alloc (.cells #[.int .i64 (who : Int), .int .i64 r, .string (Mk.Wd.text .draw), .slice (some ⟨g, 0, none⟩) len cap, .bool mc] 80))) := (Below.refl _ _).alloc (Nat.le_refl _) _
  have HR2 : Hid (Ref (w.alloc (.cells #[.int .i64 (who : Int), .int .i64 r, .string (Mk.Wd.text .draw), .slice (some ⟨g, 0, none⟩) len cap, .bool mc] 80)) p b M) := HR.out.below HB2.out
  have x0 : (w.alloc (.cells #[.int .i64 (who : Int), .int .i64 r, .string (Mk.Wd.text .draw), .slice (some ⟨g, 0, none⟩) len cap, .bool mc] 80)).cell? ⟨w.heap.size, 0, none⟩ = some (.int .i64 (who : Int)) := by simp
  have ht := txt_draw
  have bf := hM.cf who hw
  clear hM hR
  go_enter Tryz.func70, Tryz.ntmps70
  go_wp2_with fail
  generalize w.alloc (.cells #[.int .i64 (who : Int), .int .i64 r, .string (Mk.Wd.text .draw), .slice (some ⟨g, 0, none⟩) len cap, .bool mc] 80) = W1 at *
  have f0 := HR2.out.box.cell (i := 0) (by omega)
  simp only [mktF] at f0
  have a0 := HR2.out.cash.cell (i := who * 2) (by omega)
  rw [purseF_0] at a0
  go_quiet (fail)
  have hbq : Below W1.heap.size W1 (W1.drewN nq) := below_drewN (Below.refl _ _) nq
  have HB3 : Hid (Below w.heap.size w (W1.drewN nq)) := HB2.out.trans (hbq.mono HB2.out.size)
  have HR3 : Hid (Ref (W1.drewN nq) p b M) := HR2.out.below hbq
  have x3 : (W1.drewN nq).cell? ⟨w.heap.size, 0, none⟩ = some (.int .i64 (who : Int)) := by simpa using x0
  generalize W1.drewN nq = W3 at *
  clear hbq f0 a0 x0
  have f0 := HR3.out.box.cell (i := 0) (by omega)
  simp only [mktF] at f0
  have a0 := HR3.out.cash.cell (i := who * 2) (by omega)
  rw [purseF_0] at a0
  have z0 := HR3.out.cash.frozen (who * 2)
  by_cases hbig : M.cf who < n
  · have HX : Hid (Mk.drawM M who n = (5, M)) := if_pos hbig
    go_wp2_with fail
    go_ret
    exact ⟨by rw [HX.out]; rfl, by rw [HX.out]; exact HR3.out, Only.of_below HB3.out⟩
  · have HX : Hid (Mk.drawM M who n = (0, { M with cf := upd M.cf who (M.cf who - n) })) := if_neg hbig
    go_wp2_with fail
    go_region
    go_wp2_with fail
    go_ret
    refine ⟨by rw [HX.out]; rfl, by rw [HX.out]; exact (HR3.out.setCf who _).below (Below.refl _ _).drew, ?_⟩
    exact ((Only.of_below HB3.out).set (.inr (.inl rfl)) _).next (Below.refl _ _).drew

set_option maxRecDepth 100000 in
set_option maxHeartbeats 2000000 in
theorem goods_bring (p g len cap : Nat) (b : RB) (M : Mk.Mkt) (who v : Nat) (r n : Int) (mc : Bool) (w : World) (hM : M.Fine) (hR : Ref w p b M) (hw : who < 4) (hv : v < 2) (hn : 0 ≤ n ∧ n ≤ 9999) (hl : 2 ≤ len) (hg0 : w.cell? ⟨g, 0, none⟩ = some (.int .i64 (v : Int))) (hg : w.cell? ⟨g, 1, none⟩ = some (.int .i64 n)) :
    Calls Tryz.prog 71 #[.pointer (some ⟨p, 0, none⟩), cmdV who r .bring (.slice (some ⟨g, 0, none⟩) len cap) mc] w fun e w' => Does p b (Mk.bringM M v who n) w e w' := by
  have HM : Hid M.Fine := hM
  have HR : Hid (Ref w p b M) := hR
  have hgl := blk_lt hg
  have hpl := hR.box.lt
  have hl' : (0 : Int) < (len : Int) := by omega
  have hl1 : (1 : Int) < (len : Int) := by omega
  have hw' : (who : Int) < 4 := by omega
  have hv' : (v : Int) < 2 := by omega
  have f1 := hR.box.cell (i := 1) (by omega)
  have g1 := hR.slots.cell hv
  have hsl := hR.slots.lt
  simp only [mktF] at f1
  have HBd : Hid (∀ c, c < 4 → 0 ≤ M.sf v c ∧ M.sf v c ≤ 9999 ∧ 0 ≤ M.sh v c ∧ M.sh v c ≤ 9999) := fun c hc => ⟨(hM.sf v c hv hc).1, (hM.sf v c hv hc).2, (hM.sh v c hv hc).1, (hM.sh v c hv hc).2⟩
  have tb := totTo_bd HBd.out 4 (by omega)
  have HAl : Hid (∀ ob, Below w.heap.size w (w.alloc ob)) := fun ob => (Below.refl _ _).alloc (Nat.le_refl _) ob
  have ht := txt_bring
  have HV : Hid (v < 2) := hv
  clear hM hR
  go_enter Tryz.func71, Tryz.ntmps71
  go_wp2_with fail
  have HR1 : Hid (Ref (w.alloc (.cells #[.int .i64 (who : Int), .int .i64 r, .string (Mk.Wd.text .bring), .slice (some ⟨g, 0, none⟩) len cap, .bool mc] 80)) p b M) := HR.out.below (HAl.out _)
  refine (total_any (b.sb v) (M.sf v) (M.sh v) _ HBd.out (HR1.out.sl v hv)).mono ?_
  rintro e w2 ⟨rfl, m, hw2⟩
  have hb2 : Below w.heap.size w w2 := by rw [hw2]; exact below_drewN (HAl.out _) m
  have x0 : w2.cell? ⟨w.heap.size, 0, none⟩ = some (.int .i64 (who : Int)) := by rw [hw2]; simp
  have HR2 : Hid (Ref w2 p b M) := HR.out.below hb2
  have HB2 : Hid (Below w.heap.size w w2) := hb2
  clear hw2 hb2 f1 g1
  have f1 := HR2.out.box.cell (i := 1) (by omega)
  have g1 := HR2.out.slots.cell hv
  simp only [mktF] at f1
  have a0 := (HR2.out.sl v hv).cell (i := who * 2) (by omega)
  rw [purseF_0] at a0
  have z0 := (HR2.out.sl v hv).frozen (who * 2)
  have bf := HM.out.sf v who hv hw
  by_cases hbig : 999 < totTo (M.sf v) (M.sh v) 4 + n
  · have HX : Hid (Mk.bringM M v who n = (6, M)) := if_pos hbig
    go_wp2_with fail
    go_ret
    exact ⟨by rw [HX.out]; rfl, by rw [HX.out]; exact HR2.out, Only.of_below HB2.out⟩
  · have HX : Hid (Mk.bringM M v who n = (0, { M with sf := upd M.sf v (upd (M.sf v) who (M.sf v who + n)) })) := if_neg hbig
    go_wp2_with fail
    go_region
    go_wp2_with fail
    go_ret
    refine ⟨by rw [HX.out]; rfl, by rw [HX.out]; exact (HR2.out.setSf v HV.out who _).below (Below.refl _ _).drew, ?_⟩
    exact ((Only.of_below HB2.out).set (.inr (.inr (.inr (.inl ⟨v, HV.out, rfl⟩)))) _).next (Below.refl _ _).drew

set_option maxRecDepth 100000 in
set_option maxHeartbeats 2000000 in
theorem goods_fetch (p g len cap : Nat) (b : RB) (M : Mk.Mkt) (who v : Nat) (r n : Int) (mc : Bool) (w : World) (hM : M.Fine) (hR : Ref w p b M) (hw : who < 4) (hv : v < 2) (hn : 0 ≤ n ∧ n ≤ 9999) (hl : 2 ≤ len) (hg0 : w.cell? ⟨g, 0, none⟩ = some (.int .i64 (v : Int))) (hg : w.cell? ⟨g, 1, none⟩ = some (.int .i64 n)) :
    Calls Tryz.prog 71 #[.pointer (some ⟨p, 0, none⟩), cmdV who r .fetch (.slice (some ⟨g, 0, none⟩) len cap) mc] w fun e w' => Does p b (Mk.fetchM M v who n) w e w' := by
  have HM : Hid M.Fine := hM
  have HR : Hid (Ref w p b M) := hR
  have hgl := blk_lt hg
  have hl' : (0 : Int) < (len : Int) := by omega
  have hl1 : (1 : Int) < (len : Int) := by omega
  have hw' : (who : Int) < 4 := by omega
  have hv' : (v : Int) < 2 := by omega
  have HV : Hid (v < 2) := hv
  have HB2 : Hid (Below w.heap.size w (w.alloc (.cells #[.int .i64 (who : Int), .int .i64 r, .string (Mk.Wd.text .fetch), .slice (some ⟨g, 0, none⟩) len cap, .bool mc] 80))) := (Below.refl _ _).alloc (Nat.le_refl _) _
  have HR2 : Hid (Ref (w.alloc (.cells #[.int .i64 (who : Int), .int .i64 r, .string (Mk.Wd.text .fetch), .slice (some ⟨g, 0, none⟩) len cap, .bool mc] 80)) p b M) := HR.out.below HB2.out
  have x0 : (w.alloc (.cells #[.int .i64 (who : Int), .int .i64 r, .string (Mk.Wd.text .fetch), .slice (some ⟨g, 0, none⟩) len cap, .bool mc] 80)).cell? ⟨w.heap.size, 0, none⟩ = some (.int .i64 (who : Int)) := by simp
  have ht := txt_fetch
  have bf := hM.sf v who hv hw
  clear hM hR
  go_enter Tryz.func71, Tryz.ntmps71
  go_wp2_with fail
  generalize w.alloc (.cells #[.int .i64 (who : Int), .int .i64 r, .string (Mk.Wd.text .fetch), .slice (some ⟨g, 0, none⟩) len cap, .bool mc] 80) = W1 at *
  have f1 := HR2.out.box.cell (i := 1) (by omega)
  have g1 := HR2.out.slots.cell hv
  simp only [mktF] at f1
  have a0 := (HR2.out.sl v hv).cell (i := who * 2) (by omega)
  rw [purseF_0] at a0
  go_quiet (fail)
  have hbq : Below W1.heap.size W1 (W1.drewN nq) := below_drewN (Below.refl _ _) nq
  have HB3 : Hid (Below w.heap.size w (W1.drewN nq)) := HB2.out.trans (hbq.mono HB2.out.size)
  have HR3 : Hid (Ref (W1.drewN nq) p b M) := HR2.out.below hbq
  have x3 : (W1.drewN nq).cell? ⟨w.heap.size, 0, none⟩ = some (.int .i64 (who : Int)) := by simpa using x0
  generalize W1.drewN nq = W3 at *
  clear hbq f1 g1 a0 x0
  have f1 := HR3.out.box.cell (i := 1) (by omega)
  have g1 := HR3.out.slots.cell hv
  simp only [mktF] at f1
  have a0 := (HR3.out.sl v hv).cell (i := who * 2) (by omega)
  rw [purseF_0] at a0
  have z0 := (HR3.out.sl v hv).frozen (who * 2)
  by_cases hbig : M.sf v who < n
  · have HX : Hid (Mk.fetchM M v who n = (5, M)) := if_pos hbig
    go_wp2_with fail
    go_ret
    exact ⟨by rw [HX.out]; rfl, by rw [HX.out]; exact HR3.out, Only.of_below HB3.out⟩
  · have HX : Hid (Mk.fetchM M v who n = (0, { M with sf := upd M.sf v (upd (M.sf v) who (M.sf v who - n)) })) := if_neg hbig
    go_wp2_with fail
    go_region
    go_wp2_with fail
    go_ret
    refine ⟨by rw [HX.out]; rfl, by rw [HX.out]; exact (HR3.out.setSf v HV.out who _).below (Below.refl _ _).drew, ?_⟩
    exact ((Only.of_below HB3.out).set (.inr (.inr (.inr (.inl ⟨v, HV.out, rfl⟩)))) _).next (Below.refl _ _).drew

end Go.Proofs.YtljeahgpkeohlaaGreatDoor

namespace Go.Proofs.YtljeahgpkeohlaaGreatDoor
open Go.RowKit


theorem Tryz.infoPurse : (Tryz.prog.info? 115).map (fun i => (i.zero, i.size, i.bytes)) = some (some (.agg #[.int .i64 0, .int .i64 0]), 2, 16) := by kernel_rfl
theorem Tryz.infoBool : (Tryz.prog.info? 4).map (fun i => (i.zero, i.size, i.bytes)) = some (some (.bool false), 1, 1) := by kernel_rfl
theorem Tryz.infoString : (Tryz.prog.info? 9).map (fun i => (i.zero, i.size, i.bytes)) = some (some (.string ⟨#[]⟩), 1, 16) := by kernel_rfl
section
variable (w : World)
theorem mk_purses : (Instr.makeSlice 73 (.int .i64 4) (.int .i64 4)).run Tryz.prog w = .ok (.slice (some ⟨w.heap.size, 0, none⟩) 4 4) (w.alloc (.cells #[.int .i64 0, .int .i64 0, .int .i64 0, .int .i64 0, .int .i64 0, .int .i64 0, .int .i64 0, .int .i64 0] 115)) := by
  obtain ⟨i, hi, hzz⟩ := Option.map_eq_some_iff.1 Tryz.infoPurse
  simp only [Prod.mk.injEq] at hzz
  obtain ⟨hz, hs, hb⟩ := hzz
  have hr := run_make (P := Tryz.prog) w 73 115 i _ Tryz.underlying73 hi hz .i64 .i64 4 4 (by omega) (Int.le_refl _) (by rw [hb]; omega) (by omega)
  rw [hs, show madeCells (Value.agg #[.int .i64 0, .int .i64 0]).cells (Int.toNat 4 * 2) = #[.int .i64 0, .int .i64 0, .int .i64 0, .int .i64 0, .int .i64 0, .int .i64 0, .int .i64 0, .int .i64 0] from by kernel_rfl] at hr
  exact hr
theorem mk_bools : (Instr.makeSlice 75 (.int .i64 2) (.int .i64 2)).run Tryz.prog w = .ok (.slice (some ⟨w.heap.size, 0, none⟩) 2 2) (w.alloc (.cells #[.bool false, .bool false] 4)) := by
  have hr := run_make_row' (P := Tryz.prog) 75 4 (.bool false) 1 Tryz.underlying75 Tryz.infoBool rfl .i64 .i64 2 (by omega) (by omega) w
  rw [show madeCells #[.bool false] 2 = #[.bool false, .bool false] from by kernel_rfl] at hr
  exact hr
theorem mk_ints2 : (Instr.makeSlice 53 (.int .i64 2) (.int .i64 2)).run Tryz.prog w = .ok (.slice (some ⟨w.heap.size, 0, none⟩) 2 2) (w.alloc (.cells #[.int .i64 0, .int .i64 0] 3)) := by
  have hr := run_make_row' (P := Tryz.prog) 53 3 (.int .i64 0) 8 Tryz.underlying53 Tryz.infoInt rfl .i64 .i64 2 (by omega) (by omega) w
  rw [show madeCells #[.int .i64 0] 2 = #[.int .i64 0, .int .i64 0] from by kernel_rfl] at hr
  exact hr
theorem mk_ints4 : (Instr.makeSlice 53 (.int .i64 4) (.int .i64 4)).run Tryz.prog w = .ok (.slice (some ⟨w.heap.size, 0, none⟩) 4 4) (w.alloc (.cells #[.int .i64 0, .int .i64 0, .int .i64 0, .int .i64 0] 3)) := by
  have hr := run_make_row' (P := Tryz.prog) 53 3 (.int .i64 0) 8 Tryz.underlying53 Tryz.infoInt rfl .i64 .i64 4 (by omega) (by omega) w
  rw [show madeCells #[.int .i64 0] 4 = #[.int .i64 0, .int .i64 0, .int .i64 0, .int .i64 0] from by kernel_rfl] at hr
  exact hr
theorem mk_strings : (Instr.makeSlice 25 (.int .i64 4) (.int .i64 4)).run Tryz.prog w = .ok (.slice (some ⟨w.heap.size, 0, none⟩) 4 4) (w.alloc (.cells #[.string ⟨#[]⟩, .string ⟨#[]⟩, .string ⟨#[]⟩, .string ⟨#[]⟩] 9)) := by
  have hr := run_make_row' (P := Tryz.prog) 25 9 (.string ⟨#[]⟩) 16 Tryz.underlying25 Tryz.infoString rfl .i64 .i64 4 (by omega) (by omega) w
  rw [show madeCells #[.string ⟨#[]⟩] 4 = #[.string ⟨#[]⟩, .string ⟨#[]⟩, .string ⟨#[]⟩, .string ⟨#[]⟩] from by kernel_rfl] at hr
  exact hr
theorem mk_slots (a b : Nat) : (Instr.buildSlice 74 2 #[(0, .slice (some ⟨a, 0, none⟩) 4 4), (1, .slice (some ⟨b, 0, none⟩) 4 4)]).run Tryz.prog w = .ok (.slice (some ⟨w.heap.size, 0, none⟩) 2 2) (w.alloc (.cells #[.slice (some ⟨a, 0, none⟩) 4 4, .slice (some ⟨b, 0, none⟩) 4 4] 73)) := by
  simp [Instr.buildSlice, go_sem]
theorem mk_books : (Instr.buildSlice 76 2 #[(0, .slice none 0 0), (1, .slice none 0 0)]).run Tryz.prog w = .ok (.slice (some ⟨w.heap.size, 0, none⟩) 2 2) (w.alloc (.cells #[.slice none 0 0, .slice none 0 0] 116)) := by
  simp [Instr.buildSlice, go_sem]
end

def nT : Nat → TypeId
  | 0 => 115 | 1 => 115 | 2 => 115 | 3 => 73 | 4 => 4 | 5 => 116 | 6 => 3 | 7 => 3 | 8 => 9 | 9 => 3 | _ => 78
def nN : Nat → Nat
  | 0 => 8 | 1 => 8 | 2 => 8 | 3 => 2 | 4 => 2 | 5 => 2 | 6 => 2 | 7 => 4 | 8 => 4 | 9 => 4 | _ => 10
def nRB (g : Nat → Nat) : RB := ⟨g 0, g 3, fun v => if v = 0 then g 1 else g 2, g 4, g 5, g 6, g 7, g 8, g 9, fun _ => .slice none 0 0⟩
def nF (g : Nat → Nat) : Nat → Nat → Value
  | 0 => purseF (fun _ => 0) (fun _ => 0) | 1 => purseF (fun _ => 0) (fun _ => 0) | 2 => purseF (fun _ => 0) (fun _ => 0)
  | 3 => fun v => .slice (some ⟨if v = 0 then g 1 else g 2, 0, none⟩) 4 4
  | 4 => fun _ => .bool false | 5 => fun _ => .slice none 0 0 | 6 => fun _ => .int .i64 0 | 7 => fun _ => .int .i64 0 | 8 => fun _ => .string ⟨#[]⟩ | 9 => fun _ => .int .i64 0
  | _ => mktF (nRB g) Mk.Mkt.new
/-- New's way: l: which of its operations are done; g: the blocks that they made -/
structure NI (w0 : World) (l : Nat → Bool) (g : Nat → Nat) (w : World) : Prop where
  below : Below w0.heap.size w0 w
  lo : ∀ i, i < 12 → i ≠ 10 → l i = true → w0.heap.size ≤ g i
  row : ∀ i, i < 12 → i ≠ 10 → l i = true → w.rowIs (g i) (nT i) (nN i) (nF g i)
  dis : ∀ i j, i < 12 → j < 12 → i ≠ 10 → j ≠ 10 → l i = true → l j = true → i ≠ j → g i ≠ g j
  c3 : l 3 = true → l 1 = true ∧ l 2 = true
  c10 : l 10 = true → l 0 = true ∧ l 3 = true ∧ l 4 = true ∧ l 5 = true ∧ l 6 = true ∧ l 7 = true ∧ l 8 = true ∧ l 9 = true
  c11 : l 11 = true → l 10 = true
  c12 : l 12 = true → l 11 = true

/-- what an operation that makes a row does -/
theorem NI.take {w0 w w' : World} {l : Nat → Bool} {g : Nat → Nat} (h : NI w0 l g w) (i : Nat) (hi : i < 12) (h10 : i ≠ 10) (hl : l i = false) (hb : Below w.heap.size w w')
    (hr : w'.rowIs w.heap.size (nT i) (nN i) (nF (upd g i w.heap.size) i)) (h3 : i = 3 → l 1 = true ∧ l 2 = true) (h11 : i = 11 → l 10 = true) : NI w0 (upd l i true) (upd g i w.heap.size) w' := by
  have hlt : ∀ j, j < 12 → j ≠ 10 → l j = true → g j < w.heap.size := fun j a b c => (h.row j a b c).lt
  have hne : ∀ j, l j = true → j ≠ i := fun j hj e => by subst e; rw [hl] at hj; cases hj
  have up : ∀ j, l j = true → upd g i w.heap.size j = g j := fun j hj => by unfold upd; rw [if_neg (hne j hj)]
  have cases_l : ∀ j, upd l i true j = true → j = i ∨ (j ≠ i ∧ l j = true) := fun j hj => by
    by_cases e : j = i
    · exact .inl e
    · unfold upd at hj; rw [if_neg e] at hj; exact .inr ⟨e, hj⟩
  have mono : ∀ j, l j = true → upd l i true j = true := fun j hj => by unfold upd; split <;> simp_all
  have same : ∀ j, j < 12 → j ≠ 10 → l j = true → nF (upd g i w.heap.size) j = nF g j := by
    intro j a b c
    by_cases e3 : j = 3
    · subst e3
      obtain ⟨p, q⟩ := h.c3 c
      unfold nF
      simp only [up 1 p, up 2 q]
    · by_cases e11 : j = 11
      · subst e11
        obtain ⟨k0, k3, k4, k5, k6, k7, k8, k9⟩ := h.c10 (h.c11 c)
        obtain ⟨p, q⟩ := h.c3 k3
        simp only [nF, nRB, up 0 k0, up 1 p, up 2 q, up 3 k3, up 4 k4, up 5 k5, up 6 k6, up 7 k7, up 8 k8, up 9 k9]
      · have : j = 0 ∨ j = 1 ∨ j = 2 ∨ j = 4 ∨ j = 5 ∨ j = 6 ∨ j = 7 ∨ j = 8 ∨ j = 9 := by omega
        rcases this with rfl | rfl | rfl | rfl | rfl | rfl | rfl | rfl | rfl <;> rfl
  refine ⟨h.below.trans (hb.mono h.below.size), ?_, ?_, ?_, ?_, ?_, ?_, ?_⟩
  · intro j a b c
    rcases cases_l j c with rfl | ⟨_, d⟩
    · unfold upd; rw [if_pos rfl]; exact h.below.size
    · rw [up j d]; exact h.lo j a b d
  · intro j a b c
    rcases cases_l j c with rfl | ⟨_, d⟩
    · have : upd g j w.heap.size j = w.heap.size := by unfold upd; rw [if_pos rfl]
      rw [this]; exact hr
    · rw [up j d, same j a b d]; exact (h.row j a b d).of_block (hb.block _ (hlt j a b d))
  · intro j k a a' b b' c c' n
    have ui : upd g i w.heap.size i = w.heap.size := by unfold upd; rw [if_pos rfl]
    rcases cases_l j c with rfl | ⟨_, d⟩ <;> rcases cases_l k c' with rfl | ⟨_, d'⟩
    · exact absurd rfl n
    · rw [ui, up k d']; have := hlt k a' b' d'; omega
    · rw [ui, up j d]; have := hlt j a b d; omega
    · rw [up j d, up k d']; exact h.dis j k a a' b b' d d' n
  · intro c
    rcases cases_l 3 c with e | ⟨_, d⟩
    · exact ⟨mono _ (h3 e.symm).1, mono _ (h3 e.symm).2⟩
    · exact ⟨mono _ (h.c3 d).1, mono _ (h.c3 d).2⟩
  · intro c
    rcases cases_l 10 c with e | ⟨_, d⟩
    · exact absurd e.symm h10
    · obtain ⟨k0, k3, k4, k5, k6, k7, k8, k9⟩ := h.c10 d
      exact ⟨mono _ k0, mono _ k3, mono _ k4, mono _ k5, mono _ k6, mono _ k7, mono _ k8, mono _ k9⟩
  · intro c
    rcases cases_l 11 c with e | ⟨_, d⟩
    · exact mono _ (h11 e.symm)
    · exact mono _ (h.c11 d)
  · intro c
    rcases cases_l 12 c with e | ⟨_, d⟩
    · omega
    · exact mono _ (h.c12 d)

end Go.Proofs.YtljeahgpkeohlaaGreatDoor
