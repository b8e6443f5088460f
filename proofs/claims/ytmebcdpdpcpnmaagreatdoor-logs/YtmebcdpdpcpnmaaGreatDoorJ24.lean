import Derived.Test.YtmebcdpdpcpnmaaGreatDoorJ13
import Derived.Test.YtmebcdpdpcpnmaaGreatDoorJ23
/- A region in any order whose operations are quiet but for one that waits, through whatever chain, for all the others. -/
namespace Go
section
variable {P : Program} {md : Region.Mode} {C : World → Prop} {ops ops' : Array Oper} {m : Nat} {o o' : Oper}

theorem getD_set_mono {L : Array Bool} {i j : Nat} (h : L.getD j false = true) : (L.setIfInBounds i true).getD j false = true := by
  simp only [Array.getD_eq_getD_getElem?, Array.getElem?_setIfInBounds] at h ⊢
  split
  · split
    · rfl
    · rename_i h1 h2
      subst h1
      rw [Array.getElem?_eq_none (by omega)] at h
      exact h
  · exact h
/-- what was done had done all that it waits for -/
def Settled2 (md : Region.Mode) (ops : Array Oper) (L : Array Bool) : Prop := ∀ i x, ops[i]? = some x → L.getD i false = true → ∀ e ∈ x.after, Region.binds md e = true → L.getD e.on false = true
theorem Settled2.set {L : Array Bool} (h : Settled2 md ops L) {i : Nat} (hi : i ∈ Region.ready md ops L) : Settled2 md ops (L.setIfInBounds i true) := by
  intro j x hx hj e he hb
  by_cases ej : j = i
  · subst ej
    obtain ⟨_, x', hx', hdep⟩ := mem_ready.1 hi
    rw [hx] at hx'
    cases hx'
    exact getD_set_mono (hdep e he hb)
  · refine getD_set_mono (h j x hx ?_ e he hb)
    simp only [Array.getD_eq_getD_getElem?, Array.getElem?_setIfInBounds] at hj ⊢
    rwa [if_neg (Ne.symm ej)] at hj
theorem settled2_none (n : Nat) : Settled2 md ops (Array.replicate n false) := by
  intro i x _ hi
  exfalso
  simp only [Array.getD_eq_getD_getElem?, Array.getElem?_replicate] at hi
  split at hi <;> simp at hi

theorem wpAny_of_quiet_last2 {Q : Exit → Act → World → Prop} (hm : ops[m]? = some o) (hm' : ops'[m]? = some o') (heq : ∀ i, i ≠ m → ops'[i]? = ops[i]?) (hsz : ops'.size = ops.size) (haft : o'.after = o.after)
    (hg : ∀ (i : Nat) (x : Oper), ops[i]? = some x → x.guard = none) (hg' : o'.guard = none) (hd' : o'.dst = none)
    (hlow : ∀ i x, ops[i]? = some x → ∀ e ∈ x.after, Region.binds md e = true → e.on < i) (huse : ∀ j, j < ops.size → j ≠ m → ∃ i x, ops[i]? = some x ∧ j < i ∧ ∃ e ∈ x.after, Region.binds md e = true ∧ e.on = j) (hmax : ops.size = m + 1) :
    ∀ n L a w, L.size = ops.size → L.getD m true = false → Settled2 md ops L → C w → wpAnyQ P md ops' C (fun a' => ∀ w', C w' → o.wp P a' w' (fun a w => Q .normal a w) Q) n L a → wpAny P md ops Q n L a w := by
  have hready : ∀ L, Region.ready md ops' L = Region.ready md ops L := by
    intro L
    unfold Region.ready
    rw [hsz]
    refine List.filter_congr (fun i _ => ?_)
    by_cases e : i = m
    · subst e; rw [hm, hm']; simp [haft]
    · rw [heq i e]
  intro n
  induction n with
  | zero =>
    intro L a w _ hL _ _ h
    exact absurd ((hready L).symm.trans h.1) (ready_ne hlow L m o hm hL)
  | succ n ih =>
    intro L a w hs hL hSh hC h
    refine ⟨fun hn => absurd hn (ready_ne hlow L m o hm hL), fun i hi => ?_⟩
    have hq := h.2 i (by rw [hready]; exact hi)
    by_cases e : i = m
    · subst e
      have hall : Region.ready md ops (L.setIfInBounds i true) = [] := by
        apply List.eq_nil_iff_forall_not_mem.2
        intro j hj
        obtain ⟨hj1, x, hx, _⟩ := mem_ready.1 hj
        have hjl : j < ops.size := (Array.getElem?_eq_some_iff.1 hx).1
        obtain ⟨_, x', hx', hdep⟩ := mem_ready.1 hi
        rw [hm] at hx'
        cases hx'
        by_cases e : j = i
        · subst e; simp [hs, hjl] at hj1
        · have hall : ∀ d, ∀ j, i - j = d → j < i → L.getD j false = true := by
            intro d
            induction d using Nat.strongRecOn with
            | _ d ihd =>
              intro j hd hji
              obtain ⟨i', x', hx', hlt, e', he', hb', rfl⟩ := huse j (by omega) (by omega)
              have hi' : i' < ops.size := (Array.getElem?_eq_some_iff.1 hx').1
              by_cases ei : i' = i
              · subst ei
                rw [hm] at hx'
                cases hx'
                exact hdep e' he' hb'
              · exact hSh i' x' hx' (ihd (i - i') (by omega) i' rfl (by omega)) e' he' hb'
          have := hall _ j rfl (by omega)
          have hl : j < L.size := by omega
          simp [hl] at this
          simp [hl, Ne.symm e, this] at hj1
      have hQ0 : ∀ w', C w' → o.wp P a w' (fun a w => Q .normal a w) Q := by
        have hq' : wpAnyQ P md ops' C (fun a' => ∀ w', C w' → o.wp P a' w' (fun a w => Q .normal a w) Q) n (L.setIfInBounds i true) a := by
          unfold qOp at hq
          simp only [hm'] at hq
          have hw : Region.wanted o' (yielded ops' a.tmps) = true := by simp [Region.wanted, hg']
          simp only [hw, if_true] at hq
          obtain ⟨v, hv, hk⟩ := hq
          rw [hd'] at hk
          exact hk
        cases n with
        | zero => exact hq'.2
        | succ k => exact hq'.1 (by rw [hready]; exact hall)
      unfold wpOp
      simp only [hm]
      have hw : Region.wanted o (yielded ops a.tmps) = true := by simp [Region.wanted, hg i o hm]
      simp only [hw, if_true]
      left
      refine Oper.wp_mono (fun a' w' hk => ?_) (hQ0 w hC)
      cases n with
      | zero => exact ⟨hall, hk⟩
      | succ k => exact ⟨fun _ => hk, fun j hj => by rw [hall] at hj; cases hj⟩
    · have h1 : wpOp P ops' Q i (wpAny P md ops Q n (L.setIfInBounds i true)) a w := by
        refine wpOp_of_qOp hC (fun a' w' hc hk => ih _ a' w' (by simpa using hs) ?_ (hSh.set hi) hc hk) hq
        simp [e] at hL ⊢
        exact hL
      obtain ⟨_, x, hx, _⟩ := mem_ready.1 hi
      unfold wpOp at h1 ⊢
      rw [heq i e, hx] at h1
      rw [hx]
      have hw : ∀ ps : Array Oper, Region.wanted x (yielded ps a.tmps) = true := fun ps => by simp [Region.wanted, hg i x hx]
      simp only [hw, if_true] at h1 ⊢
      exact h1
end

def lastB2 (l : List Oper) (o : Oper) : Bool :=
  (l ++ [o]).all (fun x => x.guard.isNone) && (l ++ [o]).zipIdx.all (fun xi => xi.1.after.all fun e => !Region.binds .any e || decide (e.on < xi.2)) && (List.range l.length).all (fun j => (l ++ [o]).zipIdx.any fun xi => decide (j < xi.2) && xi.1.after.any fun e => Region.binds .any e && e.on == j) && Region.lexB .any (l ++ [struck o]).toArray

theorem wp_region_quiet_last2 {P : Program} {C : World → Prop} {id : Nat} {Q : Exit → Act → World → Prop} {a : Act} {w : World} (l : List Oper) (o : Oper) (hm : P.follows .mixedOrders = true) (hB : lastB2 l o = true) (hC : C { w with drawn := w.drawn + 1 })
    (h : wpQuiet P (l ++ [struck o]).toArray C (fun a' => ∀ w', C w' → o.wp P a' w' (fun a w => Q .normal a w) Q) l a) : (Code.region id (l ++ [o]).toArray true).wp P Q a w := by
  simp only [lastB2, Bool.and_eq_true] at hB
  obtain ⟨⟨⟨hB1, hB2⟩, hB3⟩, hB4⟩ := hB
  simp only [Region.lexB, Bool.and_eq_true] at hB4
  refine wp_region_any hm ?_
  have hlen : ((l ++ [o]).toArray).size = l.length + 1 := by simp
  refine wpAny_of_quiet_last2 (C := C) (ops := (l ++ [o]).toArray) (ops' := (l ++ [struck o]).toArray) (m := l.length) (o := o) (o' := struck o) (by simp) (by simp) ?_ (by simp) rfl ?_ ?_ rfl ?_ ?_ (by simp) _ _ a _ (by simp) (by simp) (settled2_none _) hC ?_
  · intro i hi
    simp only [List.getElem?_toArray]
    rcases Nat.lt_or_ge i l.length with h | h
    · rw [List.getElem?_append_left h, List.getElem?_append_left h]
    · rw [List.getElem?_append_right h, List.getElem?_append_right h]
      have : i - l.length ≠ 0 := by omega
      cases hk : i - l.length with
      | zero => omega
      | succ k => rfl
  · intro i x hx
    simp only [List.getElem?_toArray] at hx
    have := List.all_eq_true.1 hB1 x (List.mem_of_getElem? hx)
    simpa using this
  · have := List.all_eq_true.1 hB1 o (by simp)
    simpa [struck] using this
  · intro i x hx e he hb
    simp only [List.getElem?_toArray] at hx
    have h1 := List.all_eq_true.1 hB2 (x, i) (by rw [List.mem_zipIdx_iff_getElem?]; simpa using hx)
    have h2 := (Array.all_eq_true_iff_forall_mem.1 h1) e he
    simpa [hb] using h2
  · intro j hj hne
    have hj' : j < l.length := by simp at hj; omega
    have h1 := List.all_eq_true.1 hB3 j (List.mem_range.2 hj')
    obtain ⟨xi, hxi, hy⟩ := List.any_eq_true.1 h1
    rw [List.mem_zipIdx_iff_getElem?] at hxi
    simp only [Bool.and_eq_true, decide_eq_true_eq] at hy
    obtain ⟨k, hk, hx⟩ := Array.any_eq_true.1 hy.2
    simp at hx
    exact ⟨xi.2, xi.1, by simpa using hxi, hy.1, xi.1.after[k], Array.getElem_mem hk, hx.1, hx.2⟩
  · have hq : wpQuiet P (l ++ [struck o]).toArray C (fun a' => ∀ w', C w' → o.wp P a' w' (fun a w => Q .normal a w) Q) (l ++ [struck o]) a := by
      have hgs : (struck o).guard = none := by
        have := List.all_eq_true.1 hB1 o (by simp)
        simpa [struck] using this
      exact wpQuiet_struck hgs l a h
    have := wpAnyQ_lex (C := C) (md := .any) hB4.1 (l ++ [struck o]) 0 (Array.replicate (l ++ [o]).toArray.size false) a (by simp) (by simpa using hB4.2) hq
    simpa using this

theorem wp_region_last2_lit {P : Program} {S : World → Prop} {id : Nat} {Q : Exit → Act → World → Prop} {a : Act} {w : World} {l0 : List Oper} (hne : l0 ≠ []) (hm : P.follows .mixedOrders = true) (hB : lastB2 l0.dropLast (l0.getLast hne) = true) (hC : S { w with drawn := w.drawn + 1 })
    (h : wpQuiet P (l0.dropLast ++ [struck (l0.getLast hne)]).toArray (fun w' => ∃ u : Wof S, w' = u.val) (fun a' => ∀ w', (∃ u : Wof S, w' = u.val) → (l0.getLast hne).wp P a' w' (fun a w => Q .normal a w) Q) l0.dropLast a) : (Code.region id l0.toArray true).wp P Q a w := by
  have e := List.dropLast_concat_getLast hne
  have := wp_region_quiet_last2 (C := fun w' => ∃ u : Wof S, w' = u.val) (id := id) l0.dropLast (l0.getLast hne) hm hB ⟨⟨_, hC⟩, rfl⟩ h
  rwa [e] at this

end Go

namespace Go.Proofs.YtmebcdpdpcpnmaaGreatDoor
open Go.RowKit

theorem pdoT_same {p : Nat} {vb : Nat → Value} {M : Mk.Mkt} {w w' : World} {t : ByteArray} {e : Int} (hP : PM w p vb M) (hb : Below w.heap.size w w') : PDoT p vb (t, e, M) w (.returned (.tuple #[.string t, .int .i64 e])) w' :=
  ⟨rfl, vb, hP.below hb, Only.of_below hb, fun _ h => .inl h⟩

theorem pdoT_next {p : Nat} {vb : Nat → Value} {x : ByteArray × Int × Mk.Mkt} {w w1 w2 : World} {e : Ending} (hb : Below w.heap.size w w1) (h : PDoT p vb x w1 e w2) : PDoT p vb x w e w2 := by
  obtain ⟨he, b', hR, ho, hn⟩ := h
  refine ⟨he, b', hR, (Only.of_below hb).trans ho (fun _ _ h => h), fun k hk => ?_⟩
  rcases hn k hk with h | h
  · exact .inl h
  · exact .inr (Nat.le_trans hb.size h)

/-- a frame's two digits, as the program writes them -/
theorem frame_small {s : ByteArray} (h : s.size < 10) : (⟨#[48]⟩ : ByteArray) ++ Mk.dig s.size = Mk.frame s := by
  rw [Mk.dig_small h]
  unfold Mk.frame Mk.dg
  rw [show s.size / 10 = 0 by omega]
  exact Mk.bytes_eq (by simp)
theorem frame_great {s : ByteArray} (h : ¬ s.size < 10) (h2 : s.size ≤ 20) : Mk.dig s.size = Mk.frame s := by
  rw [Mk.dig_great h, Mk.dig_small (by omega)]
  unfold Mk.frame Mk.dg
  rw [Nat.mod_eq_of_lt (show s.size / 10 < 10 by omega)]
  exact Mk.bytes_eq (by simp)

set_option maxRecDepth 100000 in
set_option maxHeartbeats 2000000 in
theorem pframe_any (s : ByteArray) (w : World) (h20 : s.size ≤ 20) (hT : Tab w) :
    Calls Tryz.prog 77 #[.string s] w fun e w' => e = .returned (.string (Mk.frame s ++ s)) ∧ Below w.heap.size w w' := by
  have HI : Hid (Calls Tryz.prog 52 #[.int .i64 (s.size : Int)] w fun e w' => e = .returned (.string (Mk.dig s.size)) ∧ Below w.heap.size w w') := itoa_any s.size (by omega) w hT
  clear hT
  go_enter Tryz.func77, Tryz.ntmps77
  go_wp2_with fail
  refine HI.out.mono ?_
  rintro e w1 ⟨rfl, hb1⟩
  have HB1 : Hid (Below w.heap.size w w1) := hb1
  clear hb1 HI
  have hfs := frame_size s
  by_cases h : s.size < 10
  · have HF := (show Hid _ from frame_small h)
    have hz : (Mk.dig s.size).size = 1 := by rw [Mk.dig_small h]; rfl
    have hz' : ((Mk.dig s.size).size : Int) < 2 := by omega
    have ha1 : ∀ w : World, (Op.stringOp .add ⟨#[48]⟩ (Mk.dig s.size)).run Tryz.prog w = .ok (.string (Mk.frame s)) w := fun w => by
      rw [← HF.out]
      exact run_string_add_sum w _ _ (by have : (ByteArray.mk #[48]).size = 1 := rfl; omega)
    have ha2 : ∀ w : World, (Op.stringOp .add (Mk.frame s) s).run Tryz.prog w = .ok (.string (Mk.frame s ++ s)) w := fun w => run_string_add_sum w _ _ (by omega)
    generalize Mk.dig s.size = D at *
    clear h
    go_wp2
    go_ret
    exact ⟨rfl, HB1.out⟩
  · have HF := (show Hid _ from frame_great h h20)
    have ha2 : ∀ w : World, (Op.stringOp .add (Mk.frame s) s).run Tryz.prog w = .ok (.string (Mk.frame s ++ s)) w := fun w => run_string_add_sum w _ _ (by omega)
    rw [HF.out]
    have hz' : ¬ ((Mk.frame s).size : Int) < 2 := by omega
    clear h HF
    go_wp2
    go_ret
    exact ⟨rfl, HB1.out⟩

/-- the market with another log -/
abbrev Mk.onto (M : Mk.Mkt) (d : ByteArray) : Mk.Mkt := { M with disk := d }
theorem fine_onto {M : Mk.Mkt} (h : M.Fine) (d : ByteArray) : (Mk.onto M d).Fine := ⟨h.cf, h.ch, h.sf, h.sh, h.house, h.len, h.num, h.who, h.ord⟩

set_option maxRecDepth 100000 in
set_option maxHeartbeats 4000000 in
theorem pserve_any (p : Nat) (vb : Nat → Value) (M : Mk.Mkt) (c : Mk.Cmd) (s : ByteArray) (t : ByteArray) (er : Int) (M' : Mk.Mkt) (w : World) (hwho : c.who < 4) (h20 : s.size ≤ 20) (hd : M.disk.size ≤ 100000000) (hP : PM w p vb M) (hT : Tab w)
    (hX : ∀ W, PM W p vb (Mk.onto M (M.disk ++ (Mk.frame s ++ s))) → Tab W → Calls Tryz.prog 78 #[.pointer (some ⟨p, 0, none⟩), reqV c] W fun e w' => PDoT p vb (t, er, Mk.onto M' (M.disk ++ (Mk.frame s ++ s))) W e w') :
    Calls Tryz.prog 46 #[.pointer (some ⟨p, 0, none⟩), reqV c, .string s] w fun e w' =>
      PDoT p vb (t, er, { M' with ls := upd M'.ls c.who c.r, tx := upd M'.tx c.who t, er := upd M'.er c.who er, disk := M.disk ++ (Mk.frame s ++ s) }) w e w' := by
  have HX := (show Hid _ from hX)
  have hw' : (c.who : Int) < 4 := by omega
  have HB1 : Hid (Below w.heap.size w (w.alloc (rqO c.who c.r c.d.text c.voy c.amt c.pri c.qty c.ord c.mc))) := (Below.refl _ _).alloc (Nat.le_refl _) _
  have HP1 : Hid (PM (w.alloc (rqO c.who c.r c.d.text c.voy c.amt c.pri c.qty c.ord c.mc)) p vb M) := hP.below HB1.out
  have HT1 : Hid (Tab (w.alloc (rqO c.who c.r c.d.text c.voy c.amt c.pri c.qty c.ord c.mc))) := hT.next HB1.out
  have HC1 : Hid (∀ i u, (#[.int .i64 (c.who : Int), .int .i64 (c.r : Int), .string c.d.text, .int .i64 (c.voy : Int), .int .i64 (c.amt : Int), .int .i64 (c.pri : Int), .int .i64 (c.qty : Int), .int .i64 (c.ord : Int), .int .i64 (mdI c.mc)] : Array Value)[i]? = some u → (w.alloc (rqO c.who c.r c.d.text c.voy c.amt c.pri c.qty c.ord c.mc)).cell? ⟨w.heap.size, i, none⟩ = some u) := fun i u h => by simpa using h
  have hl1 : w.heap.size < (w.alloc (rqO c.who c.r c.d.text c.voy c.amt c.pri c.qty c.ord c.mc)).heap.size := by simp
  have hpB : p < w.heap.size := hP.box.lt
  have HLt : Hid (∀ k, PHas p vb k → k < w.heap.size) := fun k hk => hP.lt hk
  have hfs := frame_size s
  have hfs2 : (Mk.frame s ++ s).size ≤ 22 := by rw [ByteArray.size_append]; omega
  have HA : Hid (∀ w : World, (Op.stringOp .add M.disk (Mk.frame s ++ s)).run Tryz.prog w = .ok (.string (M.disk ++ (Mk.frame s ++ s))) w) := fun w => run_string_add_sum w _ _ (by omega)
  clear hP hT hX hfs hfs2 hd
  go_enter Tryz.func46, Tryz.ntmps46
  go_wp2_with fail
  generalize w.alloc (rqO c.who c.r c.d.text c.voy c.amt c.pri c.qty c.ord c.mc) = W1 at *
  have f1 := HP1.out.lg
  have l1 := HP1.out.box.lt
  have ha := HA.out
  generalize hFF : Mk.frame s ++ s = FS at *
  have HFF : Hid (Mk.frame s ++ s = FS) := hFF
  clear hFF
  have c1 : ∀ u : Wof (Below W1.heap.size W1), u.val.cell? ⟨p, 43, none⟩ = some (.string M.disk) := fun u => (u.ok.cell (p := ⟨p, 43, none⟩) l1).trans f1
  have z1 : ∀ u : Wof (Below W1.heap.size W1), u.val.frozen? ⟨p, 43, none⟩ = false := fun u => (u.ok.frozen (p := ⟨p, 43, none⟩) l1).trans (HP1.out.box.frozen _)
  have hne : Nonempty (Wof (Below W1.heap.size W1)) := ⟨⟨W1, Below.refl _ _⟩⟩
  clear f1
  refine wp_region_last2_lit (S := Below W1.heap.size W1) (by simp) (by kernel_rfl) (by kernel_rfl) (Below.refl _ _).drew ?_
  simp only [List.dropLast, List.getLast]
  repeat (quiet_step ((rename_i u; refine (pframe_any s _ h20 (HT1.out.next u.ok)).mono ?_; rintro e w3 ⟨rfl, hb3⟩; exact ⟨by rw [HFF.out], ⟨w3, u.ok.trans (hb3.mono u.ok.size)⟩, rfl⟩)))
  refine wpQuiet_nil ?_
  rintro _ ⟨u, rfl⟩
  unfold Oper.wp
  go_simp
  have HB2 := (show Hid _ from u.ok)
  have HP2 : Hid (PM (u.val.setCell ⟨p, 43, none⟩ (.string (M.disk ++ FS))) p vb (Mk.onto M (M.disk ++ FS))) := (HP1.out.below u.ok).setDisk _
  have HO2 : Hid (Only (One p) W1 (u.val.setCell ⟨p, 43, none⟩ (.string (M.disk ++ FS)))) := (Only.of_below u.ok).put _ _
  have HT2 : Hid (Tab (u.val.setCell ⟨p, 43, none⟩ (.string (M.disk ++ FS)))) := tab_only HT1.out HP1.out HO2.out
  clear c1 z1 hne ha
  generalize u.val.setCell ⟨p, 43, none⟩ (.string (M.disk ++ FS)) = W2 at *
  have HC2 : Hid (∀ i u, (#[.int .i64 (c.who : Int), .int .i64 (c.r : Int), .string c.d.text, .int .i64 (c.voy : Int), .int .i64 (c.amt : Int), .int .i64 (c.pri : Int), .int .i64 (c.qty : Int), .int .i64 (c.ord : Int), .int .i64 (mdI c.mc)] : Array Value)[i]? = some u → W2.cell? ⟨w.heap.size, i, none⟩ = some u) := fun i u h => (HO2.out.cell hl1 (fun e : w.heap.size = p => by omega)).trans (HC1.out i u h)
  have hl2 : w.heap.size < W2.heap.size := Nat.lt_of_lt_of_le hl1 HO2.out.size
  have x0 := HC2.out 0 _ rfl
  have x1 := HC2.out 1 _ rfl
  have x2 := HC2.out 2 _ rfl
  have x3 := HC2.out 3 _ rfl
  have x4 := HC2.out 4 _ rfl
  have x5 := HC2.out 5 _ rfl
  have x6 := HC2.out 6 _ rfl
  have x7 := HC2.out 7 _ rfl
  have x8 := HC2.out 8 _ rfl
  go_wp2_with fail
  refine (HX.out W2 HP2.out HT2.out).mono ?_
  rintro e W5 ⟨rfl, vb', hP5, ho5, hnew⟩
  have nB0 : ¬ PHas p vb w.heap.size := fun h => by have := HLt.out _ h; omega
  have HP5 : Hid (PM W5 p vb' (Mk.onto M' (M.disk ++ FS))) := hP5
  have HO5 : Hid (Only (PHas p vb) W2 W5) := ho5
  have HNew : Hid (∀ k, PHas p vb' k → PHas p vb k ∨ W2.heap.size ≤ k) := hnew
  have y0 : W5.cell? ⟨w.heap.size, 0, none⟩ = some (.int .i64 (c.who : Int)) := (ho5.cell hl2 nB0).trans x0
  have y1 : W5.cell? ⟨w.heap.size, 1, none⟩ = some (.int .i64 (c.r : Int)) := (ho5.cell hl2 nB0).trans x1
  have f0 := hP5.re hwho (k := 0) (by omega)
  have f1 := hP5.re hwho (k := 1) (by omega)
  have f2 := hP5.re hwho (k := 2) (by omega)
  simp only [reF, Nat.add_zero] at f0 f1 f2
  have z0 := hP5.box.frozen (31 + c.who * 3)
  have z1 := hP5.box.frozen (31 + c.who * 3 + 1)
  have z2 := hP5.box.frozen (31 + c.who * 3 + 2)
  clear hP5 ho5 hnew nB0 x0 x1 x2 x3 x4 x5 x6 x7 x8
  go_upto_region 3 with fail
  go_region
  have HP6 := (show Hid _ from (HP5.out.setRe hwho (c.r : Int) t er).below (Below.refl _ _).drew)
  have HO6 : Hid (Only (PHas p vb) W2 ((((W5.setCell ⟨p, 31 + c.who * 3, none⟩ (.int .i64 (c.r : Int))).setCell ⟨p, 31 + c.who * 3 + 1, none⟩ (.string t)).setCell ⟨p, 31 + c.who * 3 + 2, none⟩ (.int .i64 er)).drew)) := (((HO5.out.set (show PHas p vb p from .inl rfl) _).set (show PHas p vb p from .inl rfl) _).set (show PHas p vb p from .inl rfl) _).next (Below.refl _ _).drew
  go_wp2_with fail
  have hP6 := HP6.out
  rw [← HFF.out] at hP6
  refine bodyPost_ret (v := .tuple #[.string t, .int .i64 er]) ?_ rfl ⟨rfl, vb', hP6, ?_, fun k hk => ?_⟩
  · simp [results, Tryz.results46, go_sem]
  · exact (((Only.of_below HB1.out).trans (S := PHas p vb) (S' := One p) HO2.out (fun _ _ e => .inl e)).trans HO6.out (fun _ _ h => h))
  · rcases HNew.out k hk with h | h
    · exact .inl h
    · exact .inr (Nat.le_trans HB1.out.size (Nat.le_trans HO2.out.size h))

set_option maxRecDepth 100000 in
set_option maxHeartbeats 4000000 in
theorem pdo_any2 (p : Nat) (vb : Nat → Value) (M : Mk.Mkt) (s : ByteArray) (w : World) (X : Mk.Cmd → ByteArray × Int × Mk.Mkt) (hls : ∀ c, c < 4 → 0 ≤ M.ls c ∧ M.ls c ≤ 99) (hd : M.disk.size ≤ 100000000) (hP : PM w p vb M) (hT : Tab w)
    (hX : ∀ c, Mk.readP s = some c → (c.r : Int) = M.ls c.who + 1 → (X c).2.2.disk = M.disk ∧ ∀ d W, PM W p vb (Mk.onto M d) → Tab W → Calls Tryz.prog 78 #[.pointer (some ⟨p, 0, none⟩), reqV c] W fun e w' => PDoT p vb ((X c).1, (X c).2.1, Mk.onto (X c).2.2 d) W e w') :
    Calls Tryz.prog 31 #[.pointer (some ⟨p, 0, none⟩), .string s] w fun e w' => PDoT p vb (Mk.doM X M s) w e w' := by
  have HP : Hid (PM w p vb M) := hP
  have HT : Hid (Tab w) := hT
  have HX := (show Hid _ from hX)
  have HDk : Hid (M.disk.size ≤ 100000000) := hd
  clear hX hP hT hd
  go_enter Tryz.func31, Tryz.ntmps31
  go_wp2_with fail
  refine (readRequest_any s w).mono ?_
  rintro e w1 ⟨hb1, hm⟩
  have HB1 : Hid (Below w.heap.size w w1) := hb1
  cases hrd : Mk.readP s with
  | none =>
    rw [hrd] at hm
    obtain rfl := hm
    have HD : Hid (Mk.doM X M s = (⟨#[]⟩, 2, M)) := (by unfold Mk.doM; rw [hrd] : Mk.doM X M s = (⟨#[]⟩, 2, M))
    clear hrd hb1
    go_wp2_with fail
    rw [HD.out]
    refine bodyPost_ret (v := .tuple #[.string ⟨#[]⟩, .int .i64 2]) ?_ rfl (pdoT_same HP.out ?_)
    · simp [results, Tryz.results31, go_sem]
    · exact HB1.out.alloc HB1.out.size _
  | some c =>
    rw [hrd] at hm
    obtain rfl := hm
    obtain ⟨hok, h20⟩ := Mk.read_ok hrd
    have HC : Hid (Mk.readP s = some c) := hrd
    have hwho : c.who < 4 := hok.who
    have hr1 : 1 ≤ c.r ∧ c.r ≤ 99 := hok.r
    have hw' : (c.who : Int) < 4 := by omega
    have bl := hls c.who hwho
    have hq := HX.out c hrd
    have hD := (show Mk.doM X M s = (if (c.r : Int) = M.ls c.who then (M.tx c.who, M.er c.who, M)
      else if (c.r : Int) < M.ls c.who then (⟨#[]⟩, 3, M)
      else if M.ls c.who + 1 < (c.r : Int) then (⟨#[]⟩, 4, M)
      else ((X c).1, (X c).2.1, { (X c).2.2 with ls := upd (X c).2.2.ls c.who c.r, tx := upd (X c).2.2.tx c.who (X c).1, er := upd (X c).2.2.er c.who (X c).2.1, disk := (X c).2.2.disk ++ Mk.frame s ++ s })) from by unfold Mk.doM; rw [hrd])
    have HD := (show Hid _ from hD)
    have HQ := (show Hid _ from hq)
    clear hq hD hrd hok HX hb1
    have HB2 : Hid (Below w.heap.size w (w1.alloc (rqO c.who c.r c.d.text c.voy c.amt c.pri c.qty c.ord c.mc))) := HB1.out.alloc HB1.out.size _
    have HP2 : Hid (PM (w1.alloc (rqO c.who c.r c.d.text c.voy c.amt c.pri c.qty c.ord c.mc)) p vb M) := HP.out.below HB2.out
    have HC2 : Hid (∀ i u, (#[.int .i64 (c.who : Int), .int .i64 (c.r : Int), .string c.d.text, .int .i64 (c.voy : Int), .int .i64 (c.amt : Int), .int .i64 (c.pri : Int), .int .i64 (c.qty : Int), .int .i64 (c.ord : Int), .int .i64 (mdI c.mc)] : Array Value)[i]? = some u → (w1.alloc (rqO c.who c.r c.d.text c.voy c.amt c.pri c.qty c.ord c.mc)).cell? ⟨w1.heap.size, i, none⟩ = some u) := fun i u h => by simpa using h
    have hl2 : w1.heap.size < (w1.alloc (rqO c.who c.r c.d.text c.voy c.amt c.pri c.qty c.ord c.mc)).heap.size := by simp
    have hBw : w.heap.size ≤ w1.heap.size := HB1.out.size
    go_upto_region 4 with fail
    generalize w1.alloc (rqO c.who c.r c.d.text c.voy c.amt c.pri c.qty c.ord c.mc) = W2 at *
    generalize w1.heap.size = B at *
    have x0 := HC2.out 0 _ rfl
    have f0 := HP2.out.re hwho (k := 0) (by omega)
    have f1 := HP2.out.re hwho (k := 1) (by omega)
    have f2 := HP2.out.re hwho (k := 2) (by omega)
    simp only [reF, Nat.add_zero] at f0 f1 f2
    have hpl := HP2.out.box.lt
    go_region
    have hb3 : Below W2.heap.size W2 ((W2.alloc (.cells #[.int .i64 (M.ls c.who), .string (M.tx c.who), .int .i64 (M.er c.who)] 69)).drew) := ((Below.refl _ _).alloc (Nat.le_refl _) _).drew
    have HB3 : Hid (Below w.heap.size w ((W2.alloc (.cells #[.int .i64 (M.ls c.who), .string (M.tx c.who), .int .i64 (M.er c.who)] 69)).drew)) := HB2.out.trans (hb3.mono HB2.out.size)
    have HP3 : Hid (PM ((W2.alloc (.cells #[.int .i64 (M.ls c.who), .string (M.tx c.who), .int .i64 (M.er c.who)] 69)).drew) p vb M) := HP2.out.below hb3
    have HC3 : Hid (∀ i u, (#[.int .i64 (c.who : Int), .int .i64 (c.r : Int), .string c.d.text, .int .i64 (c.voy : Int), .int .i64 (c.amt : Int), .int .i64 (c.pri : Int), .int .i64 (c.qty : Int), .int .i64 (c.ord : Int), .int .i64 (mdI c.mc)] : Array Value)[i]? = some u → ((W2.alloc (.cells #[.int .i64 (M.ls c.who), .string (M.tx c.who), .int .i64 (M.er c.who)] 69)).drew).cell? ⟨B, i, none⟩ = some u) := fun i u h => (hb3.cell (p := ⟨B, i, none⟩) hl2).trans (HC2.out i u h)
    have l0 : ((W2.alloc (.cells #[.int .i64 (M.ls c.who), .string (M.tx c.who), .int .i64 (M.er c.who)] 69)).drew).cell? ⟨W2.heap.size, 0, none⟩ = some (.int .i64 (M.ls c.who)) := by simp
    have l1 : ((W2.alloc (.cells #[.int .i64 (M.ls c.who), .string (M.tx c.who), .int .i64 (M.er c.who)] 69)).drew).cell? ⟨W2.heap.size, 1, none⟩ = some (.string (M.tx c.who)) := by simp
    have l2 : ((W2.alloc (.cells #[.int .i64 (M.ls c.who), .string (M.tx c.who), .int .i64 (M.er c.who)] 69)).drew).cell? ⟨W2.heap.size, 2, none⟩ = some (.int .i64 (M.er c.who)) := by simp
    have HwB : Hid (B < ((W2.alloc (.cells #[.int .i64 (M.ls c.who), .string (M.tx c.who), .int .i64 (M.er c.who)] 69)).drew).heap.size) := Nat.lt_of_lt_of_le hl2 hb3.size
    clear hb3 f0 f1 f2 x0 hpl HC2 hl2
    generalize (W2.alloc (.cells #[.int .i64 (M.ls c.who), .string (M.tx c.who), .int .i64 (M.er c.who)] 69)).drew = W3 at *
    generalize W2.heap.size = L at *
    have x1 := HC3.out 1 _ rfl
    by_cases h1 : (c.r : Int) = M.ls c.who
    · have HE : Hid (Mk.doM X M s = (M.tx c.who, M.er c.who, M)) := HD.out.trans (if_pos h1)
      have h1' : ((c.r : Int) == M.ls c.who) = true := by rw [beq_iff_eq]; exact h1
      clear h1
      go_wp2_with fail
      go_quiet (fail)
      have HB4 : Hid (Below w.heap.size w (W3.drewN nq)) := below_drewN HB3.out nq
      generalize W3.drewN nq = W4 at *
      go_wp2_with fail
      rw [HE.out]
      refine bodyPost_ret (v := .tuple #[.string (M.tx c.who), .int .i64 (M.er c.who)]) ?_ rfl (pdoT_same HP.out HB4.out)
      simp [results, Tryz.results31, go_sem]
    · have h1' : ((c.r : Int) == M.ls c.who) = false := by rw [beq_eq_false_iff_ne]; exact h1
      by_cases h2 : (c.r : Int) < M.ls c.who
      · have HE : Hid (Mk.doM X M s = (⟨#[]⟩, 3, M)) := HD.out.trans ((if_neg h1).trans (if_pos h2))
        clear h1
        go_wp2_with fail
        rw [HE.out]
        refine bodyPost_ret (v := .tuple #[.string ⟨#[]⟩, .int .i64 3]) ?_ rfl (pdoT_same HP.out HB3.out)
        simp [results, Tryz.results31, go_sem]
      · by_cases h3 : M.ls c.who + 1 < (c.r : Int)
        · have HE : Hid (Mk.doM X M s = (⟨#[]⟩, 4, M)) := HD.out.trans ((if_neg h1).trans ((if_neg h2).trans (if_pos h3)))
          clear h1
          go_wp2_with fail
          rw [HE.out]
          refine bodyPost_ret (v := .tuple #[.string ⟨#[]⟩, .int .i64 4]) ?_ rfl (pdoT_same HP.out HB3.out)
          simp [results, Tryz.results31, go_sem]
        · have hnext : (c.r : Int) = M.ls c.who + 1 := by omega
          have hq := HQ.out hnext
          have hE := HD.out.trans ((if_neg h1).trans ((if_neg h2).trans (if_neg h3)))
          clear h1 hnext HQ HD
          generalize X c = x at *
          obtain ⟨t, er, M'⟩ := x
          obtain ⟨hdk, hq⟩ := hq
          have hdk' : M'.disk = M.disk := hdk
          have HE : Hid (Mk.doM X M s = (t, er, { M' with ls := upd M'.ls c.who c.r, tx := upd M'.tx c.who t, er := upd M'.er c.who er, disk := M.disk ++ (Mk.frame s ++ s) })) := (by rw [hE]; show (t, er, _) = (t, er, _); rw [← ByteArray.append_assoc, ← hdk'] : Mk.doM X M s = (t, er, { M' with ls := upd M'.ls c.who c.r, tx := upd M'.tx c.who t, er := upd M'.er c.who er, disk := M.disk ++ (Mk.frame s ++ s) }))
          have HQ : Hid (Calls Tryz.prog 46 #[.pointer (some ⟨p, 0, none⟩), reqV c, .string s] W3 fun e w' => PDoT p vb (t, er, { M' with ls := upd M'.ls c.who c.r, tx := upd M'.tx c.who t, er := upd M'.er c.who er, disk := M.disk ++ (Mk.frame s ++ s) }) W3 e w') := pserve_any p vb M c s t er M' W3 hwho h20 HDk.out HP3.out (HT.out.next HB3.out) (fun W hW hT => hq _ W hW hT)
          clear hq hE hdk hdk'
          have x0 := HC3.out 0 _ rfl
          have x2 := HC3.out 2 _ rfl
          have x3 := HC3.out 3 _ rfl
          have x4 := HC3.out 4 _ rfl
          have x5 := HC3.out 5 _ rfl
          have x6 := HC3.out 6 _ rfl
          have x7 := HC3.out 7 _ rfl
          have x8 := HC3.out 8 _ rfl
          go_wp2_with fail
          refine HQ.out.mono ?_
          rintro e W5 hD5
          have hD5' := pdoT_next HB3.out hD5
          obtain rfl := hD5.1
          have HD5 : Hid (PDoT p vb (t, er, { M' with ls := upd M'.ls c.who c.r, tx := upd M'.tx c.who t, er := upd M'.er c.who er, disk := M.disk ++ (Mk.frame s ++ s) }) w (.returned (.tuple #[.string t, .int .i64 er])) W5) := hD5'
          clear hD5'
          clear hD5 x0 x1 x2 x3 x4 x5 x6 x7 x8 l0 l1 l2
          go_wp2_with fail
          rw [HE.out]
          refine bodyPost_ret (v := .tuple #[.string t, .int .i64 er]) ?_ rfl HD5.out
          simp [results, Tryz.results31, go_sem]

end Go.Proofs.YtmebcdpdpcpnmaaGreatDoor
