import Derived.Test.YtmebcdpdpcpnmaaGreatDoorJ12
import Derived.Deep.QuietTactic
namespace Go

/-- the last operation struck -/
def struck (o : Oper) : Oper := { o with dst := none, op := .move (.const undef) }
def lastB (l : List Oper) (o : Oper) : Bool :=
  (l ++ [o]).all (fun x => x.guard.isNone) && (l ++ [o]).zipIdx.all (fun xi => xi.1.after.all fun e => !Region.binds .any e || decide (e.on < xi.2)) && (List.range l.length).all (fun j => o.after.any fun e => Region.binds .any e && e.on == j) && Region.lexB .any (l ++ [struck o]).toArray

theorem wpQuiet_struck {P : Program} {C : World → Prop} {ops : Array Oper} {Q : Act → Prop} {o : Oper} (hg : (struck o).guard = none) : ∀ (l : List Oper) (a : Act), wpQuiet P ops C Q l a → wpQuiet P ops C Q (l ++ [struck o]) a
  | [], a, h => by
    have hw : Region.wanted (struck o) (yielded ops a.tmps) = true := by simp [Region.wanted, hg]
    show (if Region.wanted (struck o) (yielded ops a.tmps) then (struck o).quiet P a C (wpQuiet P ops C Q []) else _)
    rw [if_pos hw]
    exact ⟨undef, fun w _ => ⟨rfl, rfl⟩, h⟩
  | x :: l, a, h => by
    show (if Region.wanted x (yielded ops a.tmps) then x.quiet P a C (wpQuiet P ops C Q (l ++ [struck o])) else wpQuiet P ops C Q (l ++ [struck o]) (a.put x.dst undef))
    have h' : (if Region.wanted x (yielded ops a.tmps) then x.quiet P a C (wpQuiet P ops C Q l) else wpQuiet P ops C Q l (a.put x.dst undef)) := h
    split
    · rename_i hw
      rw [if_pos hw] at h'
      exact Oper.quiet_mono (fun a => wpQuiet_struck hg l a) h'
    · rename_i hw
      rw [if_neg hw] at h'
      exact wpQuiet_struck hg l _ h'

theorem wp_region_quiet_last {P : Program} {C : World → Prop} {id : Nat} {Q : Exit → Act → World → Prop} {a : Act} {w : World} (l : List Oper) (o : Oper) (hm : P.follows .mixedOrders = true) (hB : lastB l o = true) (hC : C { w with drawn := w.drawn + 1 })
    (h : wpQuiet P (l ++ [struck o]).toArray C (fun a' => ∀ w', C w' → o.wp P a' w' (fun a w => Q .normal a w) Q) l a) : (Code.region id (l ++ [o]).toArray true).wp P Q a w := by
  simp only [lastB, Bool.and_eq_true] at hB
  obtain ⟨⟨⟨hB1, hB2⟩, hB3⟩, hB4⟩ := hB
  simp only [Region.lexB, Bool.and_eq_true] at hB4
  refine wp_region_any hm ?_
  have hlen : ((l ++ [o]).toArray).size = l.length + 1 := by simp
  refine wpAny_of_quiet_last (C := C) (ops := (l ++ [o]).toArray) (ops' := (l ++ [struck o]).toArray) (m := l.length) (o := o) (o' := struck o) (by simp) (by simp) ?_ (by simp) rfl ?_ ?_ rfl ?_ ?_ _ _ a _ (by simp) (by simp) hC ?_
  · intro i hi
    simp only [List.getElem?_toArray]
    rcases Nat.lt_or_ge i l.length with h | h
    · rw [List.getElem?_append_left h, List.getElem?_append_left h]
    · rw [List.getElem?_append_right h, List.getElem?_append_right h]
      have : i - l.length ≠ 0 := by omega
      cases hk : i - l.length with
      | zero => omega
      | succ k => rfl
  · intro i x hx
    simp only [List.getElem?_toArray] at hx
    have := List.all_eq_true.1 hB1 x (List.mem_of_getElem? hx)
    simpa using this
  · have := List.all_eq_true.1 hB1 o (by simp)
    simpa [struck] using this
  · intro i x hx e he hb
    simp only [List.getElem?_toArray] at hx
    have h1 := List.all_eq_true.1 hB2 (x, i) (by rw [List.mem_zipIdx_iff_getElem?]; simpa using hx)
    have h2 := (Array.all_eq_true_iff_forall_mem.1 h1) e he
    simpa [hb] using h2
  · intro j hj hne
    have hj' : j < l.length := by simp at hj; omega
    have h1 := List.all_eq_true.1 hB3 j (List.mem_range.2 hj')
    obtain ⟨k, hk, hx⟩ := Array.any_eq_true.1 h1
    simp at hx
    exact ⟨o.after[k], Array.getElem_mem hk, hx.1, hx.2⟩
  · have hq : wpQuiet P (l ++ [struck o]).toArray C (fun a' => ∀ w', C w' → o.wp P a' w' (fun a w => Q .normal a w) Q) (l ++ [struck o]) a := by
      have hgs : (struck o).guard = none := by
        have := List.all_eq_true.1 hB1 o (by simp)
        simpa [struck] using this
      exact wpQuiet_struck hgs l a h
    have := wpAnyQ_lex (C := C) (md := .any) hB4.1 (l ++ [struck o]) 0 (Array.replicate (l ++ [o]).toArray.size false) a (by simp) (by simpa using hB4.2) hq
    simpa using this

/-- the worlds of a class, as one type -/
structure Wof (S : World → Prop) where
  val : World
  ok : S val
/-- .. the operations written out; the worlds of the class as one type -/
theorem wp_region_last_lit {P : Program} {S : World → Prop} {id : Nat} {Q : Exit → Act → World → Prop} {a : Act} {w : World} {l0 : List Oper} (hne : l0 ≠ []) (hm : P.follows .mixedOrders = true) (hB : lastB l0.dropLast (l0.getLast hne) = true) (hC : S { w with drawn := w.drawn + 1 })
    (h : wpQuiet P (l0.dropLast ++ [struck (l0.getLast hne)]).toArray (fun w' => ∃ u : Wof S, w' = u.val) (fun a' => ∀ w', (∃ u : Wof S, w' = u.val) → (l0.getLast hne).wp P a' w' (fun a w => Q .normal a w) Q) l0.dropLast a) : (Code.region id l0.toArray true).wp P Q a w := by
  have e := List.dropLast_concat_getLast hne
  have := wp_region_quiet_last (C := fun w' => ∃ u : Wof S, w' = u.val) (id := id) l0.dropLast (l0.getLast hne) hm hB ⟨⟨_, hC⟩, rfl⟩ h
  rwa [e] at this

end Go

namespace Go.Proofs.YtmebcdpdpcpnmaaGreatDoor
open Go.RowKit

set_option maxRecDepth 100000 in
set_option maxHeartbeats 1000000 in
theorem hold_any (f h n : Int) (w : World) (bf : -100000 ≤ f ∧ f ≤ 100000) (bh : -100000 ≤ h ∧ h ≤ 100000) (bn : -100000 ≤ n ∧ n ≤ 100000) :
    Calls Tryz.prog 126 #[.agg #[.int .i64 f, .int .i64 h], .int .i64 n] w fun e w' => e = .returned (.agg #[.int .i64 (f - n), .int .i64 (h + n)]) ∧ Below w.heap.size w w' := by
  go_enter Tryz.func126, Tryz.ntmps126
  go_wp2
  refine bodyPost_ret (v := .agg #[.int .i64 (f - n), .int .i64 (h + n)]) ?_ rfl ⟨rfl, ?_⟩
  · simp [results, Tryz.results126, go_sem]
  · repeat (first | exact Below.refl _ _ | refine Below.alloc ?_ (by simp <;> omega) _ | refine Below.setCell ?_ (by simp) _)

/-- an order's needs are held (k = 1), or let go (k = -1) -/
def Mk.holdM (M : Mk.Mkt) (v who : Nat) (o : Mk.Ord) (k : Int) : Mk.Mkt :=
  if o.sell then { M with sf := upd M.sf v (upd (M.sf v) who (M.sf v who - k * o.qty)), sh := upd M.sh v (upd (M.sh v) who (M.sh v who + k * o.qty)) }
  else { M with cf := upd M.cf who (M.cf who - k * o.price * o.qty), ch := upd M.ch who (M.ch who + k * o.price * o.qty) }

set_option maxRecDepth 100000 in
set_option maxHeartbeats 4000000 in
theorem holds_sell (p : Nat) (b : RB) (M : Mk.Mkt) (v who : Nat) (pr q : Int) (lt : Bool) (w : World) (bf : -50000 ≤ M.sf v who ∧ M.sf v who ≤ 50000) (bh : -50000 ≤ M.sh v who ∧ M.sh v who ≤ 50000) (hR : Ref w p b M) (hw : who < 4) (hv : v < 2) (hq : 1 ≤ q ∧ q ≤ 20) :
    Calls Tryz.prog 109 #[.pointer (some ⟨p, 0, none⟩), .int .i64 v, .int .i64 who, .agg #[.bool true, .int .i64 pr, .int .i64 q], .bool lt] w fun e w' =>
      e = .returned (.tuple #[]) ∧ Ref w' p b (Mk.holdM M v who ⟨true, pr, q⟩ (if lt then -1 else 1)) ∧ Only (b.has p) w w' := by
  have HR : Hid (Ref w p b M) := hR
  have hw' : (who : Int) < 4 := by omega
  have hv' : (v : Int) < 2 := by omega
  have HV : Hid (v < 2) := hv
  have HB2 : Hid (Below w.heap.size w (w.alloc (.cells #[.bool true, .int .i64 pr, .int .i64 q] 120))) := (Below.refl _ _).alloc (Nat.le_refl _) _
  have HR2 : Hid (Ref (w.alloc (.cells #[.bool true, .int .i64 pr, .int .i64 q] 120)) p b M) := HR.out.below HB2.out
  have x0 : (w.alloc (.cells #[.bool true, .int .i64 pr, .int .i64 q] 120)).cell? ⟨w.heap.size, 2, none⟩ = some (.int .i64 q) := by simp
  have hsz1 : (w.alloc (.cells #[.bool true, .int .i64 pr, .int .i64 q] 120)).heap.size = w.heap.size + 1 := by simp
  clear hR
  cases lt
  · have HX : Hid (Mk.holdM M v who ⟨true, pr, q⟩ 1 = { M with sf := upd M.sf v (upd (M.sf v) who (M.sf v who - q)), sh := upd M.sh v (upd (M.sh v) who (M.sh v who + q)) }) := (by simp [Mk.holdM] : Mk.holdM M v who ⟨true, pr, q⟩ 1 = { M with sf := upd M.sf v (upd (M.sf v) who (M.sf v who - q)), sh := upd M.sh v (upd (M.sh v) who (M.sh v who + q)) })
    go_enter Tryz.func109, Tryz.ntmps109
    go_wp2_with fail
    generalize w.alloc (.cells #[.bool true, .int .i64 pr, .int .i64 q] 120) = W1 at *
    have hl : ∀ k, b.has p k → k < W1.heap.size := fun k hk => HR2.out.lt hk
    have f1 := HR2.out.box.cell (i := 1) (by omega)
    have g1 := HR2.out.slots.cell hv
    simp only [mktF] at f1
    have a0 := (HR2.out.sl v hv).cell (i := who * 2) (by omega)
    have a1 := (HR2.out.sl v hv).cell (i := who * 2 + 1) (by omega)
    rw [purseF_0] at a0
    rw [purseF_1] at a1
    have l1 := HR2.out.box.lt
    have l2 := HR2.out.slots.lt
    have l3 := (HR2.out.sl v hv).lt
    have c1 : ∀ u : Wof (Below W1.heap.size W1), u.val.cell? ⟨p, 1, none⟩ = some (.slice (some ⟨b.bS, 0, none⟩) 2 2) := fun u => (u.ok.cell (p := ⟨p, 1, none⟩) l1).trans f1
    have c2 : ∀ u : Wof (Below W1.heap.size W1), u.val.cell? ⟨b.bS, v, none⟩ = some (.slice (some ⟨b.sb v, 0, none⟩) 4 4) := fun u => (u.ok.cell (p := ⟨b.bS, v, none⟩) l2).trans g1
    have c3 : ∀ u : Wof (Below W1.heap.size W1), u.val.cell? ⟨b.sb v, who * 2, none⟩ = some (.int .i64 (M.sf v who)) := fun u => (u.ok.cell (p := ⟨b.sb v, who * 2, none⟩) l3).trans a0
    have c4 : ∀ u : Wof (Below W1.heap.size W1), u.val.cell? ⟨b.sb v, who * 2 + 1, none⟩ = some (.int .i64 (M.sh v who)) := fun u => (u.ok.cell (p := ⟨b.sb v, who * 2 + 1, none⟩) l3).trans a1
    have c5 : ∀ u : Wof (Below W1.heap.size W1), u.val.cell? ⟨w.heap.size, 2, none⟩ = some (.int .i64 q) := fun u => (u.ok.cell (p := ⟨w.heap.size, 2, none⟩) (by show w.heap.size < _; omega)).trans x0
    have z3 : ∀ u : Wof (Below W1.heap.size W1), u.val.frozen? ⟨b.sb v, who * 2, none⟩ = false := fun u => (u.ok.frozen (p := ⟨b.sb v, who * 2, none⟩) l3).trans ((HR2.out.sl v hv).frozen _)
    have z4 : ∀ u : Wof (Below W1.heap.size W1), u.val.frozen? ⟨b.sb v, who * 2 + 1, none⟩ = false := fun u => (u.ok.frozen (p := ⟨b.sb v, who * 2 + 1, none⟩) l3).trans ((HR2.out.sl v hv).frozen _)
    have hne : Nonempty (Wof (Below W1.heap.size W1)) := ⟨⟨W1, Below.refl _ _⟩⟩
    have hwq : IntKind.i64.wrap q = q := IntWalk.i64_in q (by omega)
    have HSz : Hid (W1.heap.size = w.heap.size + 1) := hsz1
    clear hl f1 g1 a0 a1 x0 hsz1
    refine wp_region_last_lit (S := Below W1.heap.size W1) (by simp) (by kernel_rfl) (by kernel_rfl) (Below.refl _ _).drew ?_
    simp only [List.dropLast, List.getLast]
    repeat (quiet_step ((rename_i u; refine (hold_any _ _ _ _ ⟨by omega, by omega⟩ ⟨by omega, by omega⟩ ⟨by omega, by omega⟩).mono ?_; rintro e w3 ⟨rfl, hb3⟩; exact ⟨rfl, ⟨w3, u.ok.trans (hb3.mono u.ok.size)⟩, rfl⟩)))
    refine wpQuiet_nil ?_
    rintro _ ⟨u, rfl⟩
    unfold Oper.wp
    go_simp
    refine bodyPost_end (v := .tuple #[]) ?_ rfl ⟨rfl, ?_, ?_⟩
    · simp [results, Tryz.results109, go_sem]
    · show Ref _ p b (Mk.holdM M v who ⟨true, pr, q⟩ 1)
      rw [HX.out]; exact ((HR2.out.below u.ok).setSf v hv who _).setSh v hv who _
    · exact (((Only.of_below (HB2.out.trans (u.ok.mono HB2.out.size))).set (.inr (.inr (.inr (.inl ⟨v, hv, rfl⟩)))) _).set (.inr (.inr (.inr (.inl ⟨v, hv, rfl⟩)))) _)
  · have HX : Hid (Mk.holdM M v who ⟨true, pr, q⟩ (-1) = { M with sf := upd M.sf v (upd (M.sf v) who (M.sf v who + q)), sh := upd M.sh v (upd (M.sh v) who (M.sh v who + -q)) }) := (by simp [Mk.holdM] : Mk.holdM M v who ⟨true, pr, q⟩ (-1) = { M with sf := upd M.sf v (upd (M.sf v) who (M.sf v who + q)), sh := upd M.sh v (upd (M.sh v) who (M.sh v who + -q)) })
    go_enter Tryz.func109, Tryz.ntmps109
    go_wp2_with fail
    generalize w.alloc (.cells #[.bool true, .int .i64 pr, .int .i64 q] 120) = W1 at *
    have hl : ∀ k, b.has p k → k < W1.heap.size := fun k hk => HR2.out.lt hk
    have f1 := HR2.out.box.cell (i := 1) (by omega)
    have g1 := HR2.out.slots.cell hv
    simp only [mktF] at f1
    have a0 := (HR2.out.sl v hv).cell (i := who * 2) (by omega)
    have a1 := (HR2.out.sl v hv).cell (i := who * 2 + 1) (by omega)
    rw [purseF_0] at a0
    rw [purseF_1] at a1
    have l1 := HR2.out.box.lt
    have l2 := HR2.out.slots.lt
    have l3 := (HR2.out.sl v hv).lt
    have c1 : ∀ u : Wof (Below W1.heap.size W1), u.val.cell? ⟨p, 1, none⟩ = some (.slice (some ⟨b.bS, 0, none⟩) 2 2) := fun u => (u.ok.cell (p := ⟨p, 1, none⟩) l1).trans f1
    have c2 : ∀ u : Wof (Below W1.heap.size W1), u.val.cell? ⟨b.bS, v, none⟩ = some (.slice (some ⟨b.sb v, 0, none⟩) 4 4) := fun u => (u.ok.cell (p := ⟨b.bS, v, none⟩) l2).trans g1
    have c3 : ∀ u : Wof (Below W1.heap.size W1), u.val.cell? ⟨b.sb v, who * 2, none⟩ = some (.int .i64 (M.sf v who)) := fun u => (u.ok.cell (p := ⟨b.sb v, who * 2, none⟩) l3).trans a0
    have c4 : ∀ u : Wof (Below W1.heap.size W1), u.val.cell? ⟨b.sb v, who * 2 + 1, none⟩ = some (.int .i64 (M.sh v who)) := fun u => (u.ok.cell (p := ⟨b.sb v, who * 2 + 1, none⟩) l3).trans a1
    have c5 : ∀ u : Wof (Below W1.heap.size W1), u.val.cell? ⟨w.heap.size, 2, none⟩ = some (.int .i64 q) := fun u => (u.ok.cell (p := ⟨w.heap.size, 2, none⟩) (by show w.heap.size < _; omega)).trans x0
    have z3 : ∀ u : Wof (Below W1.heap.size W1), u.val.frozen? ⟨b.sb v, who * 2, none⟩ = false := fun u => (u.ok.frozen (p := ⟨b.sb v, who * 2, none⟩) l3).trans ((HR2.out.sl v hv).frozen _)
    have z4 : ∀ u : Wof (Below W1.heap.size W1), u.val.frozen? ⟨b.sb v, who * 2 + 1, none⟩ = false := fun u => (u.ok.frozen (p := ⟨b.sb v, who * 2 + 1, none⟩) l3).trans ((HR2.out.sl v hv).frozen _)
    have hne : Nonempty (Wof (Below W1.heap.size W1)) := ⟨⟨W1, Below.refl _ _⟩⟩
    have hwq2 : IntKind.i64.wrap (-q) = -q := IntWalk.i64_in (-q) (by omega)
    have hwq : IntKind.i64.wrap q = q := IntWalk.i64_in q (by omega)
    have HSz : Hid (W1.heap.size = w.heap.size + 1) := hsz1
    clear hl f1 g1 a0 a1 x0 hsz1
    refine wp_region_last_lit (S := Below W1.heap.size W1) (by simp) (by kernel_rfl) (by kernel_rfl) (Below.refl _ _).drew ?_
    simp only [List.dropLast, List.getLast]
    repeat (quiet_step ((rename_i u; refine (hold_any _ _ _ _ ⟨by omega, by omega⟩ ⟨by omega, by omega⟩ ⟨by omega, by omega⟩).mono ?_; rintro e w3 ⟨rfl, hb3⟩; exact ⟨rfl, ⟨w3, u.ok.trans (hb3.mono u.ok.size)⟩, rfl⟩)))
    refine wpQuiet_nil ?_
    rintro _ ⟨u, rfl⟩
    unfold Oper.wp
    go_simp
    refine bodyPost_end (v := .tuple #[]) ?_ rfl ⟨rfl, ?_, ?_⟩
    · simp [results, Tryz.results109, go_sem]
    · show Ref _ p b (Mk.holdM M v who ⟨true, pr, q⟩ (-1))
      rw [HX.out]; exact ((HR2.out.below u.ok).setSf v hv who _).setSh v hv who _
    · exact (((Only.of_below (HB2.out.trans (u.ok.mono HB2.out.size))).set (.inr (.inr (.inr (.inl ⟨v, hv, rfl⟩)))) _).set (.inr (.inr (.inr (.inl ⟨v, hv, rfl⟩)))) _)

end Go.Proofs.YtmebcdpdpcpnmaaGreatDoor

namespace Go.Proofs.YtmebcdpdpcpnmaaGreatDoor
open Go.RowKit

set_option maxRecDepth 100000 in
set_option maxHeartbeats 4000000 in
theorem holds_buy (p : Nat) (b : RB) (M : Mk.Mkt) (v who : Nat) (pr q : Int) (lt : Bool) (w : World) (bf : -50000 ≤ M.cf who ∧ M.cf who ≤ 50000) (bh : -50000 ≤ M.ch who ∧ M.ch who ≤ 50000) (hR : Ref w p b M) (hw : who < 4) (hq : 1 ≤ q ∧ q ≤ 20) (hp : 1 ≤ pr ∧ pr ≤ 99) :
    Calls Tryz.prog 109 #[.pointer (some ⟨p, 0, none⟩), .int .i64 v, .int .i64 who, .agg #[.bool false, .int .i64 pr, .int .i64 q], .bool lt] w fun e w' =>
      e = .returned (.tuple #[]) ∧ Ref w' p b (Mk.holdM M v who ⟨false, pr, q⟩ (if lt then -1 else 1)) ∧ Only (b.has p) w w' := by
  have HR : Hid (Ref w p b M) := hR
  have hw' : (who : Int) < 4 := by omega
  have HB2 : Hid (Below w.heap.size w (w.alloc (.cells #[.bool false, .int .i64 pr, .int .i64 q] 120))) := (Below.refl _ _).alloc (Nat.le_refl _) _
  have HR2 : Hid (Ref (w.alloc (.cells #[.bool false, .int .i64 pr, .int .i64 q] 120)) p b M) := HR.out.below HB2.out
  have x0 : (w.alloc (.cells #[.bool false, .int .i64 pr, .int .i64 q] 120)).cell? ⟨w.heap.size, 2, none⟩ = some (.int .i64 q) := by simp
  have x1 : (w.alloc (.cells #[.bool false, .int .i64 pr, .int .i64 q] 120)).cell? ⟨w.heap.size, 1, none⟩ = some (.int .i64 pr) := by simp
  have hsz1 : (w.alloc (.cells #[.bool false, .int .i64 pr, .int .i64 q] 120)).heap.size = w.heap.size + 1 := by simp
  clear hR
  cases lt
  · have HX : Hid (Mk.holdM M v who ⟨false, pr, q⟩ 1 = { M with cf := upd M.cf who (M.cf who - pr * q), ch := upd M.ch who (M.ch who + pr * q) }) := (by simp [Mk.holdM] : Mk.holdM M v who ⟨false, pr, q⟩ 1 = { M with cf := upd M.cf who (M.cf who - pr * q), ch := upd M.ch who (M.ch who + pr * q) })
    go_enter Tryz.func109, Tryz.ntmps109
    go_wp2_with fail
    generalize w.alloc (.cells #[.bool false, .int .i64 pr, .int .i64 q] 120) = W1 at *
    have hl : ∀ k, b.has p k → k < W1.heap.size := fun k hk => HR2.out.lt hk
    have f1 := HR2.out.box.cell (i := 0) (by omega)
    simp only [mktF] at f1
    have a0 := HR2.out.cash.cell (i := who * 2) (by omega)
    have a1 := HR2.out.cash.cell (i := who * 2 + 1) (by omega)
    rw [purseF_0] at a0
    rw [purseF_1] at a1
    have l1 := HR2.out.box.lt
    have l3 := HR2.out.cash.lt
    have c1 : ∀ u : Wof (Below W1.heap.size W1), u.val.cell? ⟨p, 0, none⟩ = some (.slice (some ⟨b.bC, 0, none⟩) 4 4) := fun u => (u.ok.cell (p := ⟨p, 0, none⟩) l1).trans f1
    have c3 : ∀ u : Wof (Below W1.heap.size W1), u.val.cell? ⟨b.bC, who * 2, none⟩ = some (.int .i64 (M.cf who)) := fun u => (u.ok.cell (p := ⟨b.bC, who * 2, none⟩) l3).trans a0
    have c4 : ∀ u : Wof (Below W1.heap.size W1), u.val.cell? ⟨b.bC, who * 2 + 1, none⟩ = some (.int .i64 (M.ch who)) := fun u => (u.ok.cell (p := ⟨b.bC, who * 2 + 1, none⟩) l3).trans a1
    have c5 : ∀ u : Wof (Below W1.heap.size W1), u.val.cell? ⟨w.heap.size, 2, none⟩ = some (.int .i64 q) := fun u => (u.ok.cell (p := ⟨w.heap.size, 2, none⟩) (by show w.heap.size < _; omega)).trans x0
    have c6 : ∀ u : Wof (Below W1.heap.size W1), u.val.cell? ⟨w.heap.size, 1, none⟩ = some (.int .i64 pr) := fun u => (u.ok.cell (p := ⟨w.heap.size, 1, none⟩) (by show w.heap.size < _; omega)).trans x1
    have z3 : ∀ u : Wof (Below W1.heap.size W1), u.val.frozen? ⟨b.bC, who * 2, none⟩ = false := fun u => (u.ok.frozen (p := ⟨b.bC, who * 2, none⟩) l3).trans (HR2.out.cash.frozen _)
    have z4 : ∀ u : Wof (Below W1.heap.size W1), u.val.frozen? ⟨b.bC, who * 2 + 1, none⟩ = false := fun u => (u.ok.frozen (p := ⟨b.bC, who * 2 + 1, none⟩) l3).trans (HR2.out.cash.frozen _)
    have hne : Nonempty (Wof (Below W1.heap.size W1)) := ⟨⟨W1, Below.refl _ _⟩⟩
    have hpq : 1 ≤ pr * q ∧ pr * q ≤ 1980 := ⟨by have := Int.mul_le_mul hp.1 hq.1 (by omega) (by omega); omega, by have := Int.mul_le_mul hp.2 hq.2 (by omega) (by omega); omega⟩
    have hwq : IntKind.i64.wrap pr = pr := IntWalk.i64_in pr (by omega)
    have hwq3 : IntKind.i64.wrap (pr * q) = pr * q := IntWalk.i64_in (pr * q) (by omega)
    have hnq : -pr * q = -(pr * q) := Int.neg_mul pr q
    have hwq4 : IntKind.i64.wrap (-pr * q) = -pr * q := IntWalk.i64_in (-pr * q) (by omega)
    have HW : Hid (-100000 ≤ pr * q ∧ pr * q ≤ 100000 ∧ -100000 ≤ -pr * q ∧ -pr * q ≤ 100000) := ⟨by omega, by omega, by omega, by omega⟩
    clear hnq
    have HSz : Hid (W1.heap.size = w.heap.size + 1) := hsz1
    clear hl f1 a0 a1 x0 x1 hsz1
    refine wp_region_last_lit (S := Below W1.heap.size W1) (by simp) (by kernel_rfl) (by kernel_rfl) (Below.refl _ _).drew ?_
    simp only [List.dropLast, List.getLast]
    repeat (quiet_step ((rename_i u; refine (hold_any _ _ _ _ ⟨by omega, by omega⟩ ⟨by omega, by omega⟩ ⟨by have := HW.out; omega, by have := HW.out; omega⟩).mono ?_; rintro e w3 ⟨rfl, hb3⟩; exact ⟨rfl, ⟨w3, u.ok.trans (hb3.mono u.ok.size)⟩, rfl⟩)))
    refine wpQuiet_nil ?_
    rintro _ ⟨u, rfl⟩
    unfold Oper.wp
    go_simp
    refine bodyPost_end (v := .tuple #[]) ?_ rfl ⟨rfl, ?_, ?_⟩
    · simp [results, Tryz.results109, go_sem]
    · show Ref _ p b (Mk.holdM M v who ⟨false, pr, q⟩ 1)
      rw [HX.out]; exact ((HR2.out.below u.ok).setCf who _).setCh who _
    · exact (((Only.of_below (HB2.out.trans (u.ok.mono HB2.out.size))).set (.inr (.inl rfl)) _).set (.inr (.inl rfl)) _)
  · have HX : Hid (Mk.holdM M v who ⟨false, pr, q⟩ (-1) = { M with cf := upd M.cf who (M.cf who - -pr * q), ch := upd M.ch who (M.ch who + -pr * q) }) := (by simp [Mk.holdM] : Mk.holdM M v who ⟨false, pr, q⟩ (-1) = { M with cf := upd M.cf who (M.cf who - -pr * q), ch := upd M.ch who (M.ch who + -pr * q) })
    go_enter Tryz.func109, Tryz.ntmps109
    go_wp2_with fail
    generalize w.alloc (.cells #[.bool false, .int .i64 pr, .int .i64 q] 120) = W1 at *
    have hl : ∀ k, b.has p k → k < W1.heap.size := fun k hk => HR2.out.lt hk
    have f1 := HR2.out.box.cell (i := 0) (by omega)
    simp only [mktF] at f1
    have a0 := HR2.out.cash.cell (i := who * 2) (by omega)
    have a1 := HR2.out.cash.cell (i := who * 2 + 1) (by omega)
    rw [purseF_0] at a0
    rw [purseF_1] at a1
    have l1 := HR2.out.box.lt
    have l3 := HR2.out.cash.lt
    have c1 : ∀ u : Wof (Below W1.heap.size W1), u.val.cell? ⟨p, 0, none⟩ = some (.slice (some ⟨b.bC, 0, none⟩) 4 4) := fun u => (u.ok.cell (p := ⟨p, 0, none⟩) l1).trans f1
    have c3 : ∀ u : Wof (Below W1.heap.size W1), u.val.cell? ⟨b.bC, who * 2, none⟩ = some (.int .i64 (M.cf who)) := fun u => (u.ok.cell (p := ⟨b.bC, who * 2, none⟩) l3).trans a0
    have c4 : ∀ u : Wof (Below W1.heap.size W1), u.val.cell? ⟨b.bC, who * 2 + 1, none⟩ = some (.int .i64 (M.ch who)) := fun u => (u.ok.cell (p := ⟨b.bC, who * 2 + 1, none⟩) l3).trans a1
    have c5 : ∀ u : Wof (Below W1.heap.size W1), u.val.cell? ⟨w.heap.size, 2, none⟩ = some (.int .i64 q) := fun u => (u.ok.cell (p := ⟨w.heap.size, 2, none⟩) (by show w.heap.size < _; omega)).trans x0
    have c6 : ∀ u : Wof (Below W1.heap.size W1), u.val.cell? ⟨w.heap.size, 1, none⟩ = some (.int .i64 pr) := fun u => (u.ok.cell (p := ⟨w.heap.size, 1, none⟩) (by show w.heap.size < _; omega)).trans x1
    have z3 : ∀ u : Wof (Below W1.heap.size W1), u.val.frozen? ⟨b.bC, who * 2, none⟩ = false := fun u => (u.ok.frozen (p := ⟨b.bC, who * 2, none⟩) l3).trans (HR2.out.cash.frozen _)
    have z4 : ∀ u : Wof (Below W1.heap.size W1), u.val.frozen? ⟨b.bC, who * 2 + 1, none⟩ = false := fun u => (u.ok.frozen (p := ⟨b.bC, who * 2 + 1, none⟩) l3).trans (HR2.out.cash.frozen _)
    have hne : Nonempty (Wof (Below W1.heap.size W1)) := ⟨⟨W1, Below.refl _ _⟩⟩
    have hwq2 : IntKind.i64.wrap (-pr) = -pr := IntWalk.i64_in (-pr) (by omega)
    have hpq : 1 ≤ pr * q ∧ pr * q ≤ 1980 := ⟨by have := Int.mul_le_mul hp.1 hq.1 (by omega) (by omega); omega, by have := Int.mul_le_mul hp.2 hq.2 (by omega) (by omega); omega⟩
    have hwq : IntKind.i64.wrap pr = pr := IntWalk.i64_in pr (by omega)
    have hwq3 : IntKind.i64.wrap (pr * q) = pr * q := IntWalk.i64_in (pr * q) (by omega)
    have hnq : -pr * q = -(pr * q) := Int.neg_mul pr q
    have hwq4 : IntKind.i64.wrap (-pr * q) = -pr * q := IntWalk.i64_in (-pr * q) (by omega)
    have HW : Hid (-100000 ≤ pr * q ∧ pr * q ≤ 100000 ∧ -100000 ≤ -pr * q ∧ -pr * q ≤ 100000) := ⟨by omega, by omega, by omega, by omega⟩
    clear hnq
    have HSz : Hid (W1.heap.size = w.heap.size + 1) := hsz1
    clear hl f1 a0 a1 x0 x1 hsz1
    refine wp_region_last_lit (S := Below W1.heap.size W1) (by simp) (by kernel_rfl) (by kernel_rfl) (Below.refl _ _).drew ?_
    simp only [List.dropLast, List.getLast]
    repeat (quiet_step ((rename_i u; refine (hold_any _ _ _ _ ⟨by omega, by omega⟩ ⟨by omega, by omega⟩ ⟨by have := HW.out; omega, by have := HW.out; omega⟩).mono ?_; rintro e w3 ⟨rfl, hb3⟩; exact ⟨rfl, ⟨w3, u.ok.trans (hb3.mono u.ok.size)⟩, rfl⟩)))
    refine wpQuiet_nil ?_
    rintro _ ⟨u, rfl⟩
    unfold Oper.wp
    go_simp
    refine bodyPost_end (v := .tuple #[]) ?_ rfl ⟨rfl, ?_, ?_⟩
    · simp [results, Tryz.results109, go_sem]
    · show Ref _ p b (Mk.holdM M v who ⟨false, pr, q⟩ (-1))
      rw [HX.out]; exact ((HR2.out.below u.ok).setCf who _).setCh who _
    · exact (((Only.of_below (HB2.out.trans (u.ok.mono HB2.out.size))).set (.inr (.inl rfl)) _).set (.inr (.inl rfl)) _)

end Go.Proofs.YtmebcdpdpcpnmaaGreatDoor

namespace Go.Proofs.YtmebcdpdpcpnmaaGreatDoor
open Go.RowKit

theorem wt_mode1 : ((Mk.Wd.text .mode).toList == [112, 97, 121]) = false := by simp [Mk.Wd.text]
theorem wt_mode2 : ((Mk.Wd.text .mode).toList == [100, 114, 97, 119]) = false := by simp [Mk.Wd.text]
theorem wt_mode3 : ((Mk.Wd.text .mode).toList == [98, 114, 105, 110, 103]) = false := by simp [Mk.Wd.text]
theorem wt_mode4 : ((Mk.Wd.text .mode).toList == [102, 101, 116, 99, 104]) = false := by simp [Mk.Wd.text]
theorem wt_mode5 : ((Mk.Wd.text .mode).toList == [98, 117, 121]) = false := by simp [Mk.Wd.text]
theorem wt_mode6 : ((Mk.Wd.text .mode).toList == [115, 101, 108, 108]) = false := by simp [Mk.Wd.text]
theorem wt_mode7 : ((Mk.Wd.text .mode).toList == [100, 114, 111, 112]) = false := by simp [Mk.Wd.text]
theorem wt_mode8 : ((Mk.Wd.text .mode).toList == [109, 111, 100, 101]) = true := by simp [Mk.Wd.text]

/-- a batch's row, as a slice -/
theorem Ref.book {w : World} {p : Nat} {b : RB} {M : Mk.Mkt} (h : Ref w p b M) {v : Nat} (hv : v < 2) : ∃ a cap, b.bv v = .slice a (M.bk v).length cap := by
  rcases (h.bk v hv).2 with ⟨e, h0⟩ | ⟨g, cap, cur, e, _⟩
  · exact ⟨none, 0, by rw [e, h0]⟩
  · exact ⟨_, cap, e⟩

/-- P13 -/
def Mk.modeM (M : Mk.Mkt) (v : Nat) (mc : Bool) : Int × Mk.Mkt := if 0 < (M.bk v).length then (9, M) else (0, { M with md := upd M.md v mc })

set_option maxRecDepth 100000 in
set_option maxHeartbeats 2000000 in
theorem does_mode (p g len cap : Nat) (b : RB) (M : Mk.Mkt) (who u : Nat) (r : Int) (mc : Bool) (w : World) (hM : M.Fine) (hR : Ref w p b M) (hu : u < 2) (hl : 1 ≤ len) (hg : w.cell? ⟨g, 0, none⟩ = some (.int .i64 (u : Int))) :
    Calls Tryz.prog 50 #[.pointer (some ⟨p, 0, none⟩), cmdV who r .mode (.slice (some ⟨g, 0, none⟩) len cap) mc] w fun e w' => DoT p b (⟨#[]⟩, (Mk.modeM M u mc).1, (Mk.modeM M u mc).2) w e w' := by
  have HR : Hid (Ref w p b M) := hR
  have hgl := blk_lt hg
  have hl' : (0 : Int) < (len : Int) := by omega
  have hu' : (u : Int) < 2 := by omega
  obtain ⟨ba, bc, hbv⟩ := hR.book hu
  have hlen := hM.len u hu
  have HB2 : Hid (Below w.heap.size w (w.alloc (.cells #[.int .i64 (who : Int), .int .i64 r, .string (Mk.Wd.text .mode), .slice (some ⟨g, 0, none⟩) len cap, .bool mc] 83))) := (Below.refl _ _).alloc (Nat.le_refl _) _
  have HR2 : Hid (Ref (w.alloc (.cells #[.int .i64 (who : Int), .int .i64 r, .string (Mk.Wd.text .mode), .slice (some ⟨g, 0, none⟩) len cap, .bool mc] 83)) p b M) := HR.out.below HB2.out
  have HG2 : Hid ((w.alloc (.cells #[.int .i64 (who : Int), .int .i64 r, .string (Mk.Wd.text .mode), .slice (some ⟨g, 0, none⟩) len cap, .bool mc] 83)).cell? ⟨g, 0, none⟩ = some (.int .i64 (u : Int))) := (HB2.out.cell (p := ⟨g, 0, none⟩) hgl).trans hg
  have x2 : (w.alloc (.cells #[.int .i64 (who : Int), .int .i64 r, .string (Mk.Wd.text .mode), .slice (some ⟨g, 0, none⟩) len cap, .bool mc] 83)).cell? ⟨w.heap.size, 2, none⟩ = some (.string (Mk.Wd.text .mode)) := by simp
  have x3 : (w.alloc (.cells #[.int .i64 (who : Int), .int .i64 r, .string (Mk.Wd.text .mode), .slice (some ⟨g, 0, none⟩) len cap, .bool mc] 83)).cell? ⟨w.heap.size, 3, none⟩ = some (.slice (some ⟨g, 0, none⟩) len cap) := by simp
  have x4 : (w.alloc (.cells #[.int .i64 (who : Int), .int .i64 r, .string (Mk.Wd.text .mode), .slice (some ⟨g, 0, none⟩) len cap, .bool mc] 83)).cell? ⟨w.heap.size, 4, none⟩ = some (.bool mc) := by simp
  have t1 := wt_mode1
  have t2 := wt_mode2
  have t3 := wt_mode3
  have t4 := wt_mode4
  have t5 := wt_mode5
  have t6 := wt_mode6
  have t7 := wt_mode7
  have t8 := wt_mode8
  clear hM hR hg hgl
  go_enter Tryz.func50, Tryz.ntmps50
  go_wp2_with fail
  generalize w.alloc (.cells #[.int .i64 (who : Int), .int .i64 r, .string (Mk.Wd.text .mode), .slice (some ⟨g, 0, none⟩) len cap, .bool mc] 83) = W1 at *
  have f4 := HR2.out.box.cell (i := 4) (by omega)
  have g4 := HR2.out.books.cell hu
  have hg := HG2.out
  simp only [mktF] at f4
  rw [hbv] at g4
  go_quiet (fail)
  have hbq : Below W1.heap.size W1 (W1.drewN nq) := below_drewN (Below.refl _ _) nq
  have HB3 : Hid (Below w.heap.size w (W1.drewN nq)) := HB2.out.trans (hbq.mono HB2.out.size)
  have HR3 : Hid (Ref (W1.drewN nq) p b M) := HR2.out.below hbq
  have y3 : (W1.drewN nq).cell? ⟨w.heap.size, 3, none⟩ = some (.slice (some ⟨g, 0, none⟩) len cap) := by simpa using x3
  have y4 : (W1.drewN nq).cell? ⟨w.heap.size, 4, none⟩ = some (.bool mc) := by simpa using x4
  have yg : (W1.drewN nq).cell? ⟨g, 0, none⟩ = some (.int .i64 (u : Int)) := by simpa using hg
  generalize W1.drewN nq = W3 at *
  clear hbq f4 g4 x2 x3 x4 hg HG2 HR2 HB2
  by_cases hb : 0 < (M.bk u).length
  · have HX : Hid (Mk.modeM M u mc = (9, M)) := if_pos hb
    have hb' : (0 : Int) < ((M.bk u).length : Int) := by omega
    go_wp2_with fail
    rw [HX.out]
    refine bodyPost_ret (v := .tuple #[.string ⟨#[]⟩, .int .i64 9]) ?_ rfl (doT_same HR.out HB3.out)
    simp [results, Tryz.results50, go_sem]
  · have HX : Hid (Mk.modeM M u mc = (0, { M with md := upd M.md u mc })) := if_neg hb
    have hb' : ¬ (0 : Int) < ((M.bk u).length : Int) := by omega
    have f3 := HR3.out.box.cell (i := 3) (by omega)
    have g3 := HR3.out.modes.cell hu
    have z3 := HR3.out.modes.frozen u
    simp only [mktF] at f3
    go_wp2_with fail
    go_region
    have HR4 : Hid (Ref ((W3.setCell ⟨b.bM, u, none⟩ (.bool mc)).drew) p b { M with md := upd M.md u mc }) := (HR3.out.setMd u _).below (Below.refl _ _).drew
    have HO4 : Hid (Only (b.has p) W3 ((W3.setCell ⟨b.bM, u, none⟩ (.bool mc)).drew)) := ((Only.refl _ _).set (.inr (.inr (.inr (.inr (.inl rfl))))) _).next (Below.refl _ _).drew
    generalize (W3.setCell ⟨b.bM, u, none⟩ (.bool mc)).drew = W4 at *
    go_wp2_with fail
    rw [HX.out]
    refine bodyPost_ret (v := .tuple #[.string ⟨#[]⟩, .int .i64 0]) ?_ rfl ⟨rfl, b, HR4.out, (Only.of_below HB3.out).trans HO4.out (fun _ _ h => h), fun _ h => .inl h⟩
    simp [results, Tryz.results50, go_sem]

end Go.Proofs.YtmebcdpdpcpnmaaGreatDoor

namespace Go.Proofs.YtmebcdpdpcpnmaaGreatDoor
open Go.RowKit

/-- P10, P13: what the words do that want no order (the others: nothing yet) -/
def Mk.acctM (M : Mk.Mkt) (c : Mk.Cmd) : ByteArray × Int × Mk.Mkt :=
  match c.d with
  | .pay => (⟨#[]⟩, Mk.payM M c.who (Mk.nth c.n 0 : Int))
  | .draw => (⟨#[]⟩, Mk.drawM M c.who (Mk.nth c.n 0 : Int))
  | .bring => (⟨#[]⟩, Mk.bringM M (Mk.nth c.n 0) c.who (Mk.nth c.n 1 : Int))
  | .fetch => (⟨#[]⟩, Mk.fetchM M (Mk.nth c.n 0) c.who (Mk.nth c.n 1 : Int))
  | .mode => (⟨#[]⟩, Mk.modeM M (Mk.nth c.n 0) c.mc)
  | _ => (⟨#[]⟩, 0, M)
def plainW : Mk.Wd → Bool
  | .pay => true
  | .draw => true
  | .bring => true
  | .fetch => true
  | .mode => true
  | _ => false

theorem acct_does (p : Nat) (b : RB) (M : Mk.Mkt) (c : Mk.Cmd) (hM : M.Fine) (hok : c.Ok) (hd : plainW c.d = true) (W : World) (g cap : Nat) (hR : Ref W p b M) (hc : ∀ (i : Nat) (h : i < c.n.length), W.cell? ⟨g, i, none⟩ = some (.int .i64 (c.n[i] : Int))) :
    Calls Tryz.prog 50 #[.pointer (some ⟨p, 0, none⟩), cmdV c.who c.r c.d (.slice (some ⟨g, 0, none⟩) c.n.length cap) c.mc] W fun e w' => DoT p b (Mk.acctM M c) W e w' := by
  have hcell : ∀ i, i < c.n.length → W.cell? ⟨g, i, none⟩ = some (.int .i64 (Mk.nth c.n i : Int)) := fun i hi => by rw [Mk.nth_at hi]; exact hc i hi
  obtain ⟨who, r, d, n, mc⟩ := c
  have hw : who < 4 := hok.who
  have hlen : n.length = d.lo.length := hok.len
  have hnum : ∀ i, i < n.length → Mk.nth d.lo i ≤ Mk.nth n i ∧ Mk.nth n i ≤ Mk.nth d.hi i := hok.num
  have hcell' : ∀ i, i < n.length → W.cell? ⟨g, i, none⟩ = some (.int .i64 (Mk.nth n i : Int)) := hcell
  cases d
  case pay =>
    have h0 : 0 < n.length := by rw [hlen]; decide
    have q := (hnum 0 h0).2
    have e : Mk.nth (Mk.Wd.hi .pay) 0 = 9999 := rfl
    exact does_pay p g n.length cap b M who r (Mk.nth n 0 : Int) mc W hM hR hw ⟨by omega, by omega⟩ (by omega) (hcell' 0 h0)
  case draw =>
    have h0 : 0 < n.length := by rw [hlen]; decide
    have q := (hnum 0 h0).2
    have e : Mk.nth (Mk.Wd.hi .draw) 0 = 9999 := rfl
    exact does_draw p g n.length cap b M who r (Mk.nth n 0 : Int) mc W hM hR hw ⟨by omega, by omega⟩ (by omega) (hcell' 0 h0)
  case bring =>
    have h1 : 1 < n.length := by rw [hlen]; decide
    have q := (hnum 0 (by omega)).2
    have q1 := (hnum 1 h1).2
    have e : Mk.nth (Mk.Wd.hi .bring) 0 = 1 := rfl
    have e1 : Mk.nth (Mk.Wd.hi .bring) 1 = 999 := rfl
    exact does_bring p g n.length cap b M who (Mk.nth n 0) r (Mk.nth n 1 : Int) mc W hM hR hw (by omega) ⟨by omega, by omega⟩ (by omega) (hcell' 0 (by omega)) (hcell' 1 h1)
  case fetch =>
    have h1 : 1 < n.length := by rw [hlen]; decide
    have q := (hnum 0 (by omega)).2
    have q1 := (hnum 1 h1).2
    have e : Mk.nth (Mk.Wd.hi .fetch) 0 = 1 := rfl
    have e1 : Mk.nth (Mk.Wd.hi .fetch) 1 = 999 := rfl
    exact does_fetch p g n.length cap b M who (Mk.nth n 0) r (Mk.nth n 1 : Int) mc W hM hR hw (by omega) ⟨by omega, by omega⟩ (by omega) (hcell' 0 (by omega)) (hcell' 1 h1)
  case mode =>
    have h0 : 0 < n.length := by rw [hlen]; decide
    have q := (hnum 0 h0).2
    have e : Mk.nth (Mk.Wd.hi .mode) 0 = 1 := rfl
    exact does_mode p g n.length cap b M who (Mk.nth n 0) r mc W hM hR (by omega) (by omega) (hcell' 0 h0)
  all_goals simp [plainW] at hd

theorem acct_disk (M : Mk.Mkt) (c : Mk.Cmd) : (Mk.acctM M c).2.2.disk = M.disk := by
  unfold Mk.acctM
  split
  · unfold Mk.payM; split <;> rfl
  · unfold Mk.drawM; split <;> rfl
  · unfold Mk.bringM; split <;> rfl
  · unfold Mk.fetchM; split <;> rfl
  · unfold Mk.modeM; split <;> rfl
  · rfl

end Go.Proofs.YtmebcdpdpcpnmaaGreatDoor
