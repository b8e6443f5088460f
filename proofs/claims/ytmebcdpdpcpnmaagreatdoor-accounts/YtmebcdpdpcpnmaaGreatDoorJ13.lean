import Derived.Test.YtmebcdpdpcpnmaaGreatDoorJ12
namespace Go.Proofs.YtmebcdpdpcpnmaaGreatDoor
open Go.RowKit

set_option maxRecDepth 100000 in
set_option maxHeartbeats 4000000 in
theorem holds_buy (p : Nat) (b : RB) (M : Mk.Mkt) (v who : Nat) (pr q : Int) (lt : Bool) (w : World) (bf : -50000 ≤ M.cf who ∧ M.cf who ≤ 50000) (bh : -50000 ≤ M.ch who ∧ M.ch who ≤ 50000) (hR : Ref w p b M) (hw : who < 4) (hq : 1 ≤ q ∧ q ≤ 20) (hp : 1 ≤ pr ∧ pr ≤ 99) :
    Calls Tryz.prog 109 #[.pointer (some ⟨p, 0, none⟩), .int .i64 v, .int .i64 who, .agg #[.bool false, .int .i64 pr, .int .i64 q], .bool lt] w fun e w' =>
      e = .returned (.tuple #[]) ∧ Ref w' p b (Mk.holdM M v who ⟨false, pr, q⟩ (if lt then -1 else 1)) ∧ Only (b.has p) w w' := by
  have HR : Hid (Ref w p b M) := hR
  have hw' : (who : Int) < 4 := by omega
  have HB2 : Hid (Below w.heap.size w (w.alloc (.cells #[.bool false, .int .i64 pr, .int .i64 q] 120))) := (Below.refl _ _).alloc (Nat.le_refl _) _
  have HR2 : Hid (Ref (w.alloc (.cells #[.bool false, .int .i64 pr, .int .i64 q] 120)) p b M) := HR.out.below HB2.out
  have x0 : (w.alloc (.cells #[.bool false, .int .i64 pr, .int .i64 q] 120)).cell? ⟨w.heap.size, 2, none⟩ = some (.int .i64 q) := by simp
  have x1 : (w.alloc (.cells #[.bool false, .int .i64 pr, .int .i64 q] 120)).cell? ⟨w.heap.size, 1, none⟩ = some (.int .i64 pr) := by simp
  have hsz1 : (w.alloc (.cells #[.bool false, .int .i64 pr, .int .i64 q] 120)).heap.size = w.heap.size + 1 := by simp
  clear hR
  cases lt
  · have HX : Hid (Mk.holdM M v who ⟨false, pr, q⟩ 1 = { M with cf := upd M.cf who (M.cf who - pr * q), ch := upd M.ch who (M.ch who + pr * q) }) := (by simp [Mk.holdM] : Mk.holdM M v who ⟨false, pr, q⟩ 1 = { M with cf := upd M.cf who (M.cf who - pr * q), ch := upd M.ch who (M.ch who + pr * q) })
    go_enter Tryz.func109, Tryz.ntmps109
    go_wp2_with fail
    generalize w.alloc (.cells #[.bool false, .int .i64 pr, .int .i64 q] 120) = W1 at *
    have hl : ∀ k, b.has p k → k < W1.heap.size := fun k hk => HR2.out.lt hk
    have f1 := HR2.out.box.cell (i := 0) (by omega)
    simp only [mktF] at f1
    have a0 := HR2.out.cash.cell (i := who * 2) (by omega)
    have a1 := HR2.out.cash.cell (i := who * 2 + 1) (by omega)
    rw [purseF_0] at a0
    rw [purseF_1] at a1
    have l1 := HR2.out.box.lt
    have l3 := HR2.out.cash.lt
    have c1 : ∀ u : Wof (Below W1.heap.size W1), u.val.cell? ⟨p, 0, none⟩ = some (.slice (some ⟨b.bC, 0, none⟩) 4 4) := fun u => (u.ok.cell (p := ⟨p, 0, none⟩) l1).trans f1
    have c3 : ∀ u : Wof (Below W1.heap.size W1), u.val.cell? ⟨b.bC, who * 2, none⟩ = some (.int .i64 (M.cf who)) := fun u => (u.ok.cell (p := ⟨b.bC, who * 2, none⟩) l3).trans a0
    have c4 : ∀ u : Wof (Below W1.heap.size W1), u.val.cell? ⟨b.bC, who * 2 + 1, none⟩ = some (.int .i64 (M.ch who)) := fun u => (u.ok.cell (p := ⟨b.bC, who * 2 + 1, none⟩) l3).trans a1
    have c5 : ∀ u : Wof (Below W1.heap.size W1), u.val.cell? ⟨w.heap.size, 2, none⟩ = some (.int .i64 q) := fun u => (u.ok.cell (p := ⟨w.heap.size, 2, none⟩) (by show w.heap.size < _; omega)).trans x0
    have c6 : ∀ u : Wof (Below W1.heap.size W1), u.val.cell? ⟨w.heap.size, 1, none⟩ = some (.int .i64 pr) := fun u => (u.ok.cell (p := ⟨w.heap.size, 1, none⟩) (by show w.heap.size < _; omega)).trans x1
    have z3 : ∀ u : Wof (Below W1.heap.size W1), u.val.frozen? ⟨b.bC, who * 2, none⟩ = false := fun u => (u.ok.frozen (p := ⟨b.bC, who * 2, none⟩) l3).trans (HR2.out.cash.frozen _)
    have z4 : ∀ u : Wof (Below W1.heap.size W1), u.val.frozen? ⟨b.bC, who * 2 + 1, none⟩ = false := fun u => (u.ok.frozen (p := ⟨b.bC, who * 2 + 1, none⟩) l3).trans (HR2.out.cash.frozen _)
    have hne : Nonempty (Wof (Below W1.heap.size W1)) := ⟨⟨W1, Below.refl _ _⟩⟩
    have hpq : 1 ≤ pr * q ∧ pr * q ≤ 1980 := ⟨by have := Int.mul_le_mul hp.1 hq.1 (by omega) (by omega); omega, by have := Int.mul_le_mul hp.2 hq.2 (by omega) (by omega); omega⟩
    have hwq : IntKind.i64.wrap pr = pr := IntWalk.i64_in pr (by omega)
    have hwq3 : IntKind.i64.wrap (pr * q) = pr * q := IntWalk.i64_in (pr * q) (by omega)
    have hnq : -pr * q = -(pr * q) := Int.neg_mul pr q
    have hwq4 : IntKind.i64.wrap (-pr * q) = -pr * q := IntWalk.i64_in (-pr * q) (by omega)
    have HW : Hid (-100000 ≤ pr * q ∧ pr * q ≤ 100000 ∧ -100000 ≤ -pr * q ∧ -pr * q ≤ 100000) := ⟨by omega, by omega, by omega, by omega⟩
    clear hnq
    have HSz : Hid (W1.heap.size = w.heap.size + 1) := hsz1
    clear hl f1 a0 a1 x0 x1 hsz1
    refine wp_region_last_lit (S := Below W1.heap.size W1) (by simp) (by kernel_rfl) (by kernel_rfl) (Below.refl _ _).drew ?_
    simp only [List.dropLast, List.getLast]
    repeat (quiet_step ((rename_i u; refine (hold_any _ _ _ _ ⟨by omega, by omega⟩ ⟨by omega, by omega⟩ ⟨by have := HW.out; omega, by have := HW.out; omega⟩).mono ?_; rintro e w3 ⟨rfl, hb3⟩; exact ⟨rfl, ⟨w3, u.ok.trans (hb3.mono u.ok.size)⟩, rfl⟩)))
    refine wpQuiet_nil ?_
    rintro _ ⟨u, rfl⟩
    unfold Oper.wp
    go_simp
    refine bodyPost_end (v := .tuple #[]) ?_ rfl ⟨rfl, ?_, ?_⟩
    · simp [results, Tryz.results109, go_sem]
    · show Ref _ p b (Mk.holdM M v who ⟨false, pr, q⟩ 1)
      rw [HX.out]; exact ((HR2.out.below u.ok).setCf who _).setCh who _
    · exact (((Only.of_below (HB2.out.trans (u.ok.mono HB2.out.size))).set (.inr (.inl rfl)) _).set (.inr (.inl rfl)) _)
  · have HX : Hid (Mk.holdM M v who ⟨false, pr, q⟩ (-1) = { M with cf := upd M.cf who (M.cf who - -pr * q), ch := upd M.ch who (M.ch who + -pr * q) }) := (by simp [Mk.holdM] : Mk.holdM M v who ⟨false, pr, q⟩ (-1) = { M with cf := upd M.cf who (M.cf who - -pr * q), ch := upd M.ch who (M.ch who + -pr * q) })
    go_enter Tryz.func109, Tryz.ntmps109
    go_wp2_with fail
    generalize w.alloc (.cells #[.bool false, .int .i64 pr, .int .i64 q] 120) = W1 at *
    have hl : ∀ k, b.has p k → k < W1.heap.size := fun k hk => HR2.out.lt hk
    have f1 := HR2.out.box.cell (i := 0) (by omega)
    simp only [mktF] at f1
    have a0 := HR2.out.cash.cell (i := who * 2) (by omega)
    have a1 := HR2.out.cash.cell (i := who * 2 + 1) (by omega)
    rw [purseF_0] at a0
    rw [purseF_1] at a1
    have l1 := HR2.out.box.lt
    have l3 := HR2.out.cash.lt
    have c1 : ∀ u : Wof (Below W1.heap.size W1), u.val.cell? ⟨p, 0, none⟩ = some (.slice (some ⟨b.bC, 0, none⟩) 4 4) := fun u => (u.ok.cell (p := ⟨p, 0, none⟩) l1).trans f1
    have c3 : ∀ u : Wof (Below W1.heap.size W1), u.val.cell? ⟨b.bC, who * 2, none⟩ = some (.int .i64 (M.cf who)) := fun u => (u.ok.cell (p := ⟨b.bC, who * 2, none⟩) l3).trans a0
    have c4 : ∀ u : Wof (Below W1.heap.size W1), u.val.cell? ⟨b.bC, who * 2 + 1, none⟩ = some (.int .i64 (M.ch who)) := fun u => (u.ok.cell (p := ⟨b.bC, who * 2 + 1, none⟩) l3).trans a1
    have c5 : ∀ u : Wof (Below W1.heap.size W1), u.val.cell? ⟨w.heap.size, 2, none⟩ = some (.int .i64 q) := fun u => (u.ok.cell (p := ⟨w.heap.size, 2, none⟩) (by show w.heap.size < _; omega)).trans x0
    have c6 : ∀ u : Wof (Below W1.heap.size W1), u.val.cell? ⟨w.heap.size, 1, none⟩ = some (.int .i64 pr) := fun u => (u.ok.cell (p := ⟨w.heap.size, 1, none⟩) (by show w.heap.size < _; omega)).trans x1
    have z3 : ∀ u : Wof (Below W1.heap.size W1), u.val.frozen? ⟨b.bC, who * 2, none⟩ = false := fun u => (u.ok.frozen (p := ⟨b.bC, who * 2, none⟩) l3).trans (HR2.out.cash.frozen _)
    have z4 : ∀ u : Wof (Below W1.heap.size W1), u.val.frozen? ⟨b.bC, who * 2 + 1, none⟩ = false := fun u => (u.ok.frozen (p := ⟨b.bC, who * 2 + 1, none⟩) l3).trans (HR2.out.cash.frozen _)
    have hne : Nonempty (Wof (Below W1.heap.size W1)) := ⟨⟨W1, Below.refl _ _⟩⟩
    have hwq2 : IntKind.i64.wrap (-pr) = -pr := IntWalk.i64_in (-pr) (by omega)
    have hpq : 1 ≤ pr * q ∧ pr * q ≤ 1980 := ⟨by have := Int.mul_le_mul hp.1 hq.1 (by omega) (by omega); omega, by have := Int.mul_le_mul hp.2 hq.2 (by omega) (by omega); omega⟩
    have hwq : IntKind.i64.wrap pr = pr := IntWalk.i64_in pr (by omega)
    have hwq3 : IntKind.i64.wrap (pr * q) = pr * q := IntWalk.i64_in (pr * q) (by omega)
    have hnq : -pr * q = -(pr * q) := Int.neg_mul pr q
    have hwq4 : IntKind.i64.wrap (-pr * q) = -pr * q := IntWalk.i64_in (-pr * q) (by omega)
    have HW : Hid (-100000 ≤ pr * q ∧ pr * q ≤ 100000 ∧ -100000 ≤ -pr * q ∧ -pr * q ≤ 100000) := ⟨by omega, by omega, by omega, by omega⟩
    clear hnq
    have HSz : Hid (W1.heap.size = w.heap.size + 1) := hsz1
    clear hl f1 a0 a1 x0 x1 hsz1
    refine wp_region_last_lit (S := Below W1.heap.size W1) (by simp) (by kernel_rfl) (by kernel_rfl) (Below.refl _ _).drew ?_
    simp only [List.dropLast, List.getLast]
    repeat (quiet_step ((rename_i u; refine (hold_any _ _ _ _ ⟨by omega, by omega⟩ ⟨by omega, by omega⟩ ⟨by have := HW.out; omega, by have := HW.out; omega⟩).mono ?_; rintro e w3 ⟨rfl, hb3⟩; exact ⟨rfl, ⟨w3, u.ok.trans (hb3.mono u.ok.size)⟩, rfl⟩)))
    refine wpQuiet_nil ?_
    rintro _ ⟨u, rfl⟩
    unfold Oper.wp
    go_simp
    refine bodyPost_end (v := .tuple #[]) ?_ rfl ⟨rfl, ?_, ?_⟩
    · simp [results, Tryz.results109, go_sem]
    · show Ref _ p b (Mk.holdM M v who ⟨false, pr, q⟩ (-1))
      rw [HX.out]; exact ((HR2.out.below u.ok).setCf who _).setCh who _
    · exact (((Only.of_below (HB2.out.trans (u.ok.mono HB2.out.size))).set (.inr (.inl rfl)) _).set (.inr (.inl rfl)) _)

end Go.Proofs.YtmebcdpdpcpnmaaGreatDoor

namespace Go.Proofs.YtmebcdpdpcpnmaaGreatDoor
open Go.RowKit

theorem wt_mode1 : ((Mk.Wd.text .mode).toList == [112, 97, 121]) = false := by simp [Mk.Wd.text]
theorem wt_mode2 : ((Mk.Wd.text .mode).toList == [100, 114, 97, 119]) = false := by simp [Mk.Wd.text]
theorem wt_mode3 : ((Mk.Wd.text .mode).toList == [98, 114, 105, 110, 103]) = false := by simp [Mk.Wd.text]
theorem wt_mode4 : ((Mk.Wd.text .mode).toList == [102, 101, 116, 99, 104]) = false := by simp [Mk.Wd.text]
theorem wt_mode5 : ((Mk.Wd.text .mode).toList == [98, 117, 121]) = false := by simp [Mk.Wd.text]
theorem wt_mode6 : ((Mk.Wd.text .mode).toList == [115, 101, 108, 108]) = false := by simp [Mk.Wd.text]
theorem wt_mode7 : ((Mk.Wd.text .mode).toList == [100, 114, 111, 112]) = false := by simp [Mk.Wd.text]
theorem wt_mode8 : ((Mk.Wd.text .mode).toList == [109, 111, 100, 101]) = true := by simp [Mk.Wd.text]

/-- a batch's row, as a slice -/
theorem Ref.book {w : World} {p : Nat} {b : RB} {M : Mk.Mkt} (h : Ref w p b M) {v : Nat} (hv : v < 2) : ∃ a cap, b.bv v = .slice a (M.bk v).length cap := by
  rcases (h.bk v hv).2 with ⟨e, h0⟩ | ⟨g, cap, cur, e, _⟩
  · exact ⟨none, 0, by rw [e, h0]⟩
  · exact ⟨_, cap, e⟩

/-- P13 -/
def Mk.modeM (M : Mk.Mkt) (v : Nat) (mc : Bool) : Int × Mk.Mkt := if 0 < (M.bk v).length then (9, M) else (0, { M with md := upd M.md v mc })

set_option maxRecDepth 100000 in
set_option maxHeartbeats 2000000 in
theorem does_mode (p g len cap : Nat) (b : RB) (M : Mk.Mkt) (who u : Nat) (r : Int) (mc : Bool) (w : World) (hM : M.Fine) (hR : Ref w p b M) (hu : u < 2) (hl : 1 ≤ len) (hg : w.cell? ⟨g, 0, none⟩ = some (.int .i64 (u : Int))) :
    Calls Tryz.prog 50 #[.pointer (some ⟨p, 0, none⟩), cmdV who r .mode (.slice (some ⟨g, 0, none⟩) len cap) mc] w fun e w' => DoT p b (⟨#[]⟩, (Mk.modeM M u mc).1, (Mk.modeM M u mc).2) w e w' := by
  have HR : Hid (Ref w p b M) := hR
  have hgl := blk_lt hg
  have hl' : (0 : Int) < (len : Int) := by omega
  have hu' : (u : Int) < 2 := by omega
  obtain ⟨ba, bc, hbv⟩ := hR.book hu
  have hlen := hM.len u hu
  have HB2 : Hid (Below w.heap.size w (w.alloc (.cells #[.int .i64 (who : Int), .int .i64 r, .string (Mk.Wd.text .mode), .slice (some ⟨g, 0, none⟩) len cap, .bool mc] 83))) := (Below.refl _ _).alloc (Nat.le_refl _) _
  have HR2 : Hid (Ref (w.alloc (.cells #[.int .i64 (who : Int), .int .i64 r, .string (Mk.Wd.text .mode), .slice (some ⟨g, 0, none⟩) len cap, .bool mc] 83)) p b M) := HR.out.below HB2.out
  have HG2 : Hid ((w.alloc (.cells #[.int .i64 (who : Int), .int .i64 r, .string (Mk.Wd.text .mode), .slice (some ⟨g, 0, none⟩) len cap, .bool mc] 83)).cell? ⟨g, 0, none⟩ = some (.int .i64 (u : Int))) := (HB2.out.cell (p := ⟨g, 0, none⟩) hgl).trans hg
  have x2 : (w.alloc (.cells #[.int .i64 (who : Int), .int .i64 r, .string (Mk.Wd.text .mode), .slice (some ⟨g, 0, none⟩) len cap, .bool mc] 83)).cell? ⟨w.heap.size, 2, none⟩ = some (.string (Mk.Wd.text .mode)) := by simp
  have x3 : (w.alloc (.cells #[.int .i64 (who : Int), .int .i64 r, .string (Mk.Wd.text .mode), .slice (some ⟨g, 0, none⟩) len cap, .bool mc] 83)).cell? ⟨w.heap.size, 3, none⟩ = some (.slice (some ⟨g, 0, none⟩) len cap) := by simp
  have x4 : (w.alloc (.cells #[.int .i64 (who : Int), .int .i64 r, .string (Mk.Wd.text .mode), .slice (some ⟨g, 0, none⟩) len cap, .bool mc] 83)).cell? ⟨w.heap.size, 4, none⟩ = some (.bool mc) := by simp
  have t1 := wt_mode1
  have t2 := wt_mode2
  have t3 := wt_mode3
  have t4 := wt_mode4
  have t5 := wt_mode5
  have t6 := wt_mode6
  have t7 := wt_mode7
  have t8 := wt_mode8
  clear hM hR hg hgl
  go_enter Tryz.func50, Tryz.ntmps50
  go_wp2_with fail
  generalize w.alloc (.cells #[.int .i64 (who : Int), .int .i64 r, .string (Mk.Wd.text .mode), .slice (some ⟨g, 0, none⟩) len cap, .bool mc] 83) = W1 at *
  have f4 := HR2.out.box.cell (i := 4) (by omega)
  have g4 := HR2.out.books.cell hu
  have hg := HG2.out
  simp only [mktF] at f4
  rw [hbv] at g4
  go_quiet (fail)
  have hbq : Below W1.heap.size W1 (W1.drewN nq) := below_drewN (Below.refl _ _) nq
  have HB3 : Hid (Below w.heap.size w (W1.drewN nq)) := HB2.out.trans (hbq.mono HB2.out.size)
  have HR3 : Hid (Ref (W1.drewN nq) p b M) := HR2.out.below hbq
  have y3 : (W1.drewN nq).cell? ⟨w.heap.size, 3, none⟩ = some (.slice (some ⟨g, 0, none⟩) len cap) := by simpa using x3
  have y4 : (W1.drewN nq).cell? ⟨w.heap.size, 4, none⟩ = some (.bool mc) := by simpa using x4
  have yg : (W1.drewN nq).cell? ⟨g, 0, none⟩ = some (.int .i64 (u : Int)) := by simpa using hg
  generalize W1.drewN nq = W3 at *
  clear hbq f4 g4 x2 x3 x4 hg HG2 HR2 HB2
  by_cases hb : 0 < (M.bk u).length
  · have HX : Hid (Mk.modeM M u mc = (9, M)) := if_pos hb
    have hb' : (0 : Int) < ((M.bk u).length : Int) := by omega
    go_wp2_with fail
    rw [HX.out]
    refine bodyPost_ret (v := .tuple #[.string ⟨#[]⟩, .int .i64 9]) ?_ rfl (doT_same HR.out HB3.out)
    simp [results, Tryz.results50, go_sem]
  · have HX : Hid (Mk.modeM M u mc = (0, { M with md := upd M.md u mc })) := if_neg hb
    have hb' : ¬ (0 : Int) < ((M.bk u).length : Int) := by omega
    have f3 := HR3.out.box.cell (i := 3) (by omega)
    have g3 := HR3.out.modes.cell hu
    have z3 := HR3.out.modes.frozen u
    simp only [mktF] at f3
    go_wp2_with fail
    go_region
    have HR4 : Hid (Ref ((W3.setCell ⟨b.bM, u, none⟩ (.bool mc)).drew) p b { M with md := upd M.md u mc }) := (HR3.out.setMd u _).below (Below.refl _ _).drew
    have HO4 : Hid (Only (b.has p) W3 ((W3.setCell ⟨b.bM, u, none⟩ (.bool mc)).drew)) := ((Only.refl _ _).set (.inr (.inr (.inr (.inr (.inl rfl))))) _).next (Below.refl _ _).drew
    generalize (W3.setCell ⟨b.bM, u, none⟩ (.bool mc)).drew = W4 at *
    go_wp2_with fail
    rw [HX.out]
    refine bodyPost_ret (v := .tuple #[.string ⟨#[]⟩, .int .i64 0]) ?_ rfl ⟨rfl, b, HR4.out, (Only.of_below HB3.out).trans HO4.out (fun _ _ h => h), fun _ h => .inl h⟩
    simp [results, Tryz.results50, go_sem]

end Go.Proofs.YtmebcdpdpcpnmaaGreatDoor

namespace Go.Proofs.YtmebcdpdpcpnmaaGreatDoor
open Go.RowKit

/-- P10, P13: what the words do that want no order (the others: nothing yet) -/
def Mk.acctM (M : Mk.Mkt) (c : Mk.Cmd) : ByteArray × Int × Mk.Mkt :=
  match c.d with
  | .pay => (⟨#[]⟩, Mk.payM M c.who (Mk.nth c.n 0 : Int))
  | .draw => (⟨#[]⟩, Mk.drawM M c.who (Mk.nth c.n 0 : Int))
  | .bring => (⟨#[]⟩, Mk.bringM M (Mk.nth c.n 0) c.who (Mk.nth c.n 1 : Int))
  | .fetch => (⟨#[]⟩, Mk.fetchM M (Mk.nth c.n 0) c.who (Mk.nth c.n 1 : Int))
  | .mode => (⟨#[]⟩, Mk.modeM M (Mk.nth c.n 0) c.mc)
  | _ => (⟨#[]⟩, 0, M)
def plainW : Mk.Wd → Bool
  | .pay => true
  | .draw => true
  | .bring => true
  | .fetch => true
  | .mode => true
  | _ => false

theorem acct_does (p : Nat) (b : RB) (M : Mk.Mkt) (c : Mk.Cmd) (hM : M.Fine) (hok : c.Ok) (hd : plainW c.d = true) (W : World) (g cap : Nat) (hR : Ref W p b M) (hc : ∀ (i : Nat) (h : i < c.n.length), W.cell? ⟨g, i, none⟩ = some (.int .i64 (c.n[i] : Int))) :
    Calls Tryz.prog 50 #[.pointer (some ⟨p, 0, none⟩), cmdV c.who c.r c.d (.slice (some ⟨g, 0, none⟩) c.n.length cap) c.mc] W fun e w' => DoT p b (Mk.acctM M c) W e w' := by
  have hcell : ∀ i, i < c.n.length → W.cell? ⟨g, i, none⟩ = some (.int .i64 (Mk.nth c.n i : Int)) := fun i hi => by rw [Mk.nth_at hi]; exact hc i hi
  obtain ⟨who, r, d, n, mc⟩ := c
  have hw : who < 4 := hok.who
  have hlen : n.length = d.lo.length := hok.len
  have hnum : ∀ i, i < n.length → Mk.nth d.lo i ≤ Mk.nth n i ∧ Mk.nth n i ≤ Mk.nth d.hi i := hok.num
  have hcell' : ∀ i, i < n.length → W.cell? ⟨g, i, none⟩ = some (.int .i64 (Mk.nth n i : Int)) := hcell
  cases d
  case pay =>
    have h0 : 0 < n.length := by rw [hlen]; decide
    have q := (hnum 0 h0).2
    have e : Mk.nth (Mk.Wd.hi .pay) 0 = 9999 := rfl
    exact does_pay p g n.length cap b M who r (Mk.nth n 0 : Int) mc W hM hR hw ⟨by omega, by omega⟩ (by omega) (hcell' 0 h0)
  case draw =>
    have h0 : 0 < n.length := by rw [hlen]; decide
    have q := (hnum 0 h0).2
    have e : Mk.nth (Mk.Wd.hi .draw) 0 = 9999 := rfl
    exact does_draw p g n.length cap b M who r (Mk.nth n 0 : Int) mc W hM hR hw ⟨by omega, by omega⟩ (by omega) (hcell' 0 h0)
  case bring =>
    have h1 : 1 < n.length := by rw [hlen]; decide
    have q := (hnum 0 (by omega)).2
    have q1 := (hnum 1 h1).2
    have e : Mk.nth (Mk.Wd.hi .bring) 0 = 1 := rfl
    have e1 : Mk.nth (Mk.Wd.hi .bring) 1 = 999 := rfl
    exact does_bring p g n.length cap b M who (Mk.nth n 0) r (Mk.nth n 1 : Int) mc W hM hR hw (by omega) ⟨by omega, by omega⟩ (by omega) (hcell' 0 (by omega)) (hcell' 1 h1)
  case fetch =>
    have h1 : 1 < n.length := by rw [hlen]; decide
    have q := (hnum 0 (by omega)).2
    have q1 := (hnum 1 h1).2
    have e : Mk.nth (Mk.Wd.hi .fetch) 0 = 1 := rfl
    have e1 : Mk.nth (Mk.Wd.hi .fetch) 1 = 999 := rfl
    exact does_fetch p g n.length cap b M who (Mk.nth n 0) r (Mk.nth n 1 : Int) mc W hM hR hw (by omega) ⟨by omega, by omega⟩ (by omega) (hcell' 0 (by omega)) (hcell' 1 h1)
  case mode =>
    have h0 : 0 < n.length := by rw [hlen]; decide
    have q := (hnum 0 h0).2
    have e : Mk.nth (Mk.Wd.hi .mode) 0 = 1 := rfl
    exact does_mode p g n.length cap b M who (Mk.nth n 0) r mc W hM hR (by omega) (by omega) (hcell' 0 h0)
  all_goals simp [plainW] at hd

theorem acct_disk (M : Mk.Mkt) (c : Mk.Cmd) : (Mk.acctM M c).2.2.disk = M.disk := by
  unfold Mk.acctM
  split
  · unfold Mk.payM; split <;> rfl
  · unfold Mk.drawM; split <;> rfl
  · unfold Mk.bringM; split <;> rfl
  · unfold Mk.fetchM; split <;> rfl
  · unfold Mk.modeM; split <;> rfl
  · rfl

end Go.Proofs.YtmebcdpdpcpnmaaGreatDoor

namespace Go.Proofs.YtmebcdpdpcpnmaaGreatDoor

theorem totTo_ge {f h : Nat → Int} (hb : ∀ c, c < 4 → 0 ≤ f c ∧ 0 ≤ h c) {c : Nat} (hc : c < 4) : f c ≤ totTo f h 4 := by
  have b0 := hb 0 (by omega)
  have b1 := hb 1 (by omega)
  have b2 := hb 2 (by omega)
  have b3 := hb 3 (by omega)
  have e : totTo f h 4 = 0 + f 0 + h 0 + f 1 + h 1 + f 2 + h 2 + f 3 + h 3 := rfl
  rw [e]
  have : c = 0 ∨ c = 1 ∨ c = 2 ∨ c = 3 := by omega
  rcases this with rfl | rfl | rfl | rfl <;> omega

theorem Fine.cf {M : Mk.Mkt} (h : M.Fine) (c : Nat) (x : Int) (hx : 0 ≤ x ∧ x ≤ 9999) : Mk.Mkt.Fine { M with cf := upd M.cf c x } :=
  ⟨fun d hd => by
    show 0 ≤ upd M.cf c x d ∧ upd M.cf c x d ≤ 9999
    unfold upd; split
    · exact hx
    · exact h.cf d hd, h.ch, h.sf, h.sh, h.house, h.len, h.num, h.who, h.ord⟩
theorem Fine.sf {M : Mk.Mkt} (h : M.Fine) (v c : Nat) (x : Int) (hx : 0 ≤ x ∧ x ≤ 9999) : Mk.Mkt.Fine { M with sf := upd M.sf v (upd (M.sf v) c x) } :=
  ⟨h.cf, h.ch, fun u d hu hd => by
    show 0 ≤ upd M.sf v (upd (M.sf v) c x) u d ∧ upd M.sf v (upd (M.sf v) c x) u d ≤ 9999
    by_cases e : u = v
    · subst e
      rw [upd_self]
      unfold upd; split
      · exact hx
      · exact h.sf u d hu hd
    · rw [upd_ne _ _ e]; exact h.sf u d hu hd, h.sh, h.house, h.len, h.num, h.who, h.ord⟩
theorem Fine.md {M : Mk.Mkt} (h : M.Fine) (f : Nat → Bool) : Mk.Mkt.Fine { M with md := f } := ⟨h.cf, h.ch, h.sf, h.sh, h.house, h.len, h.num, h.who, h.ord⟩
theorem Fine.rest {M : Mk.Mkt} (h : M.Fine) (a : Nat → Int) (t : Nat → ByteArray) (e : Nat → Int) (d : ByteArray) : Mk.Mkt.Fine { M with ls := a, tx := t, er := e, disk := d } := ⟨h.cf, h.ch, h.sf, h.sh, h.house, h.len, h.num, h.who, h.ord⟩

/-- the words without orders keep the bounds -/
theorem acct_fine {M : Mk.Mkt} {c : Mk.Cmd} (hM : M.Fine) (hok : c.Ok) : (Mk.acctM M c).2.2.Fine := by
  obtain ⟨who, r, d, n, mc⟩ := c
  have hw : who < 4 := hok.who
  have hlen : n.length = d.lo.length := hok.len
  have hnum : ∀ i, i < n.length → Mk.nth d.lo i ≤ Mk.nth n i ∧ Mk.nth n i ≤ Mk.nth d.hi i := hok.num
  have hc := hM.cf who hw
  have tc := totTo_ge (f := M.cf) (h := M.ch) (fun c hc => ⟨(hM.cf c hc).1, (hM.ch c hc).1⟩) hw
  have hh := hM.house
  have ts : ∀ u, u < 2 → M.sf u who ≤ totTo (M.sf u) (M.sh u) 4 := fun u hu => totTo_ge (fun c hc => ⟨(hM.sf u c hu hc).1, (hM.sh u c hu hc).1⟩) hw
  have hs : ∀ u, u < 2 → 0 ≤ M.sf u who ∧ M.sf u who ≤ 9999 := fun u hu => hM.sf u who hu hw
  cases d
  case pay =>
    show (Mk.payM M who (Mk.nth n 0 : Int)).2.Fine
    unfold Mk.payM
    split
    · exact hM
    · exact Fine.cf hM who _ ⟨by omega, by omega⟩
  case draw =>
    show (Mk.drawM M who (Mk.nth n 0 : Int)).2.Fine
    unfold Mk.drawM
    split
    · exact hM
    · exact Fine.cf hM who _ ⟨by omega, by omega⟩
  case bring =>
    have h1 : 1 < n.length := by rw [hlen]; decide
    have q := (hnum 0 (by omega)).2
    have e : Mk.nth (Mk.Wd.hi .bring) 0 = 1 := rfl
    have t1 := ts (Mk.nth n 0) (by omega)
    have s1 := hs (Mk.nth n 0) (by omega)
    show (Mk.bringM M (Mk.nth n 0) who (Mk.nth n 1 : Int)).2.Fine
    unfold Mk.bringM
    split
    · exact hM
    · exact Fine.sf hM _ who _ ⟨by omega, by omega⟩
  case fetch =>
    have h1 : 1 < n.length := by rw [hlen]; decide
    have q := (hnum 0 (by omega)).2
    have e : Mk.nth (Mk.Wd.hi .fetch) 0 = 1 := rfl
    have s1 := hs (Mk.nth n 0) (by omega)
    show (Mk.fetchM M (Mk.nth n 0) who (Mk.nth n 1 : Int)).2.Fine
    unfold Mk.fetchM
    split
    · exact hM
    · exact Fine.sf hM _ who _ ⟨by omega, by omega⟩
  case mode =>
    show (Mk.modeM M (Mk.nth n 0) mc).2.Fine
    unfold Mk.modeM
    split
    · exact hM
    · exact Fine.md hM _
  all_goals exact hM

end Go.Proofs.YtmebcdpdpcpnmaaGreatDoor

namespace Go.Proofs.YtmebcdpdpcpnmaaGreatDoor

/-- a market after k commands: its bounds -/
structure Well (M : Mk.Mkt) (k : Nat) : Prop where
  fine : M.Fine
  ls : ∀ c, c < 4 → 0 ≤ M.ls c ∧ M.ls c ≤ 99
  disk : M.disk.size ≤ 22 * k

theorem new_well : Well Mk.Mkt.new 0 := by
  refine ⟨⟨?_, ?_, ?_, ?_, ?_, ?_, ?_, ?_, ?_⟩, ?_, ?_⟩ <;> simp [Mk.Mkt.new]
  rfl

theorem acct_ls (M : Mk.Mkt) (c : Mk.Cmd) : (Mk.acctM M c).2.2.ls = M.ls := by
  unfold Mk.acctM
  split
  · unfold Mk.payM; split <;> rfl
  · unfold Mk.drawM; split <;> rfl
  · unfold Mk.bringM; split <;> rfl
  · unfold Mk.fetchM; split <;> rfl
  · unfold Mk.modeM; split <;> rfl
  · rfl

theorem do_well {M : Mk.Mkt} {k : Nat} {X : Mk.Cmd → ByteArray × Int × Mk.Mkt} (s : ByteArray) (h : Well M k)
    (hX : ∀ c, Mk.readP s = some c → (X c).2.2.Fine ∧ (X c).2.2.ls = M.ls ∧ (X c).2.2.disk = M.disk) : Well (Mk.doM X M s).2.2 (k + 1) := by
  have h' : Well M (k + 1) := ⟨h.fine, h.ls, by have := h.disk; omega⟩
  unfold Mk.doM
  cases hr : Mk.readP s with
  | none => exact h'
  | some c =>
    obtain ⟨hok, h20⟩ := Mk.read_ok hr
    obtain ⟨hf, hl, hd⟩ := hX c hr
    show Well (if (c.r : Int) = M.ls c.who then (M.tx c.who, M.er c.who, M) else if (c.r : Int) < M.ls c.who then (⟨#[]⟩, 3, M) else if M.ls c.who + 1 < (c.r : Int) then (⟨#[]⟩, 4, M) else ((X c).1, (X c).2.1, { (X c).2.2 with ls := upd (X c).2.2.ls c.who c.r, tx := upd (X c).2.2.tx c.who (X c).1, er := upd (X c).2.2.er c.who (X c).2.1, disk := (X c).2.2.disk ++ Mk.frame s ++ s }) : ByteArray × Int × Mk.Mkt).2.2 (k + 1)
    split
    · exact h'
    · split
      · exact h'
      · split
        · exact h'
        · refine ⟨Fine.rest hf _ _ _ _, fun d hd' => ?_, ?_⟩
          · show 0 ≤ upd (X c).2.2.ls c.who (c.r : Int) d ∧ upd (X c).2.2.ls c.who (c.r : Int) d ≤ 99
            rw [hl]
            have := hok.r
            unfold upd; split
            · exact ⟨by omega, by omega⟩
            · exact h.ls d hd'
          · show ((X c).2.2.disk ++ Mk.frame s ++ s).size ≤ 22 * (k + 1)
            rw [ByteArray.size_append, ByteArray.size_append, frame_size, hd]
            have := h.disk
            omega

/-- DO, OF THE DOCUMENT, at a text whose word (if it is a command) wants no order -/
theorem acct_do (p : Nat) (b : RB) (M : Mk.Mkt) (k : Nat) (s : ByteArray) (w : World) (h : Well M k) (hk : k ≤ 1048576) (hs : s.size ≤ 2000000) (hR : Ref w p b M) (hp : ∀ c, Mk.readP s = some c → plainW c.d = true) :
    Calls Tryz.prog 30 #[.pointer (some ⟨p, 0, none⟩), .string s] w fun e w' => DoT p b (Mk.doM (Mk.acctM M) M s) w e w' :=
  do_any p b M s w (Mk.acctM M) h.ls (by have := h.disk; omega) hs hR (fun c hc _ => ⟨acct_disk M c, fun W g cap hW hn => acct_does p b M c h.fine (Mk.read_ok hc).1 (hp c hc) W g cap hW hn⟩)
theorem acct_well {M : Mk.Mkt} {k : Nat} (s : ByteArray) (h : Well M k) : Well (Mk.doM (Mk.acctM M) M s).2.2 (k + 1) :=
  do_well s h (fun c hc => ⟨acct_fine h.fine (Mk.read_ok hc).1, acct_ls M c, acct_disk M c⟩)

end Go.Proofs.YtmebcdpdpcpnmaaGreatDoor
