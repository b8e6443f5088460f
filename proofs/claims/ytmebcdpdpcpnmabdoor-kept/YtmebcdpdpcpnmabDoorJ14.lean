import Derived.Orders
import Derived.Deep.Quiet
import Derived.Test.YtmebcdpdpcpnmabDoorJ13
import Derived.Deep.QuietTactic
/- A region in any order whose operations are quiet but for one that waits for all the others. -/
namespace Go
section
variable {P : Program} {md : Region.Mode} {C : World → Prop} {ops ops' : Array Oper} {m : Nat} {o o' : Oper}

theorem ready_ne (hlow : ∀ i x, ops[i]? = some x → ∀ e ∈ x.after, Region.binds md e = true → e.on < i) (L : Array Bool) : ∀ (j : Nat) (x : Oper), ops[j]? = some x → L.getD j true = false → Region.ready md ops L ≠ [] := by
  intro j
  induction j using Nat.strongRecOn with
  | _ j ih =>
    intro x hx hj hnil
    have hn : j ∉ Region.ready md ops L := by rw [hnil]; exact List.not_mem_nil
    rw [mem_ready] at hn
    apply hn
    refine ⟨hj, x, hx, fun e he hb => ?_⟩
    cases hv : L.getD e.on false with
    | true => rfl
    | false =>
      exfalso
      have hlt := hlow j x hx e he hb
      have hjl : j < ops.size := (Array.getElem?_eq_some_iff.1 hx).1
      have hel : e.on < ops.size := by omega
      have hL : e.on < L.size := by
        have : j < L.size := by
          rcases Nat.lt_or_ge j L.size with h | h
          · exact h
          · simp [Array.getElem?_eq_none h] at hj
        omega
      refine ih e.on hlt (ops[e.on]) (Array.getElem?_eq_getElem hel) ?_ hnil
      simp [hL] at hv ⊢
      exact hv

theorem wpAny_of_quiet_last {Q : Exit → Act → World → Prop} (hm : ops[m]? = some o) (hm' : ops'[m]? = some o') (heq : ∀ i, i ≠ m → ops'[i]? = ops[i]?) (hsz : ops'.size = ops.size) (haft : o'.after = o.after)
    (hg : ∀ (i : Nat) (x : Oper), ops[i]? = some x → x.guard = none) (hg' : o'.guard = none) (hd' : o'.dst = none)
    (hlow : ∀ i x, ops[i]? = some x → ∀ e ∈ x.after, Region.binds md e = true → e.on < i) (hlast : ∀ j, j < ops.size → j ≠ m → ∃ e ∈ o.after, Region.binds md e = true ∧ e.on = j) :
    ∀ n L a w, L.size = ops.size → L.getD m true = false → C w → wpAnyQ P md ops' C (fun a' => ∀ w', C w' → o.wp P a' w' (fun a w => Q .normal a w) Q) n L a → wpAny P md ops Q n L a w := by
  have hready : ∀ L, Region.ready md ops' L = Region.ready md ops L := by
    intro L
    unfold Region.ready
    rw [hsz]
    refine List.filter_congr (fun i _ => ?_)
    by_cases e : i = m
    · subst e; rw [hm, hm']; simp [haft]
    · rw [heq i e]
  intro n
  induction n with
  | zero =>
    intro L a w _ hL _ h
    exact absurd ((hready L).symm.trans h.1) (ready_ne hlow L m o hm hL)
  | succ n ih =>
    intro L a w hs hL hC h
    refine ⟨fun hn => absurd hn (ready_ne hlow L m o hm hL), fun i hi => ?_⟩
    have hq := h.2 i (by rw [hready]; exact hi)
    by_cases e : i = m
    · subst e
      have hall : Region.ready md ops (L.setIfInBounds i true) = [] := by
        apply List.eq_nil_iff_forall_not_mem.2
        intro j hj
        obtain ⟨hj1, x, hx, _⟩ := mem_ready.1 hj
        have hjl : j < ops.size := (Array.getElem?_eq_some_iff.1 hx).1
        obtain ⟨_, x', hx', hdep⟩ := mem_ready.1 hi
        rw [hm] at hx'
        cases hx'
        by_cases e : j = i
        · subst e; simp [hs, hjl] at hj1
        · obtain ⟨d, hd, hb, rfl⟩ := hlast j hjl e
          have := hdep d hd hb
          have hl : d.on < L.size := by omega
          simp [hl] at this
          simp [hl, Ne.symm e, this] at hj1
      have hQ0 : ∀ w', C w' → o.wp P a w' (fun a w => Q .normal a w) Q := by
        have hq' : wpAnyQ P md ops' C (fun a' => ∀ w', C w' → o.wp P a' w' (fun a w => Q .normal a w) Q) n (L.setIfInBounds i true) a := by
          unfold qOp at hq
          simp only [hm'] at hq
          have hw : Region.wanted o' (yielded ops' a.tmps) = true := by simp [Region.wanted, hg']
          simp only [hw, if_true] at hq
          obtain ⟨v, hv, hk⟩ := hq
          rw [hd'] at hk
          exact hk
        cases n with
        | zero => exact hq'.2
        | succ k => exact hq'.1 (by rw [hready]; exact hall)
      unfold wpOp
      simp only [hm]
      have hw : Region.wanted o (yielded ops a.tmps) = true := by simp [Region.wanted, hg i o hm]
      simp only [hw, if_true]
      left
      refine Oper.wp_mono (fun a' w' hk => ?_) (hQ0 w hC)
      cases n with
      | zero => exact ⟨hall, hk⟩
      | succ k => exact ⟨fun _ => hk, fun j hj => by rw [hall] at hj; cases hj⟩
    · have h1 : wpOp P ops' Q i (wpAny P md ops Q n (L.setIfInBounds i true)) a w := by
        refine wpOp_of_qOp hC (fun a' w' hc hk => ih _ a' w' (by simpa using hs) ?_ hc hk) hq
        simp [e] at hL ⊢
        exact hL
      obtain ⟨_, x, hx, _⟩ := mem_ready.1 hi
      unfold wpOp at h1 ⊢
      rw [heq i e, hx] at h1
      rw [hx]
      have hw : ∀ ps : Array Oper, Region.wanted x (yielded ps a.tmps) = true := fun ps => by simp [Region.wanted, hg i x hx]
      simp only [hw, if_true] at h1 ⊢
      exact h1
end
end Go

namespace Go

/-- the last operation struck -/
def struck (o : Oper) : Oper := { o with dst := none, op := .move (.const undef) }
def lastB (l : List Oper) (o : Oper) : Bool :=
  (l ++ [o]).all (fun x => x.guard.isNone) && (l ++ [o]).zipIdx.all (fun xi => xi.1.after.all fun e => !Region.binds .any e || decide (e.on < xi.2)) && (List.range l.length).all (fun j => o.after.any fun e => Region.binds .any e && e.on == j) && Region.lexB .any (l ++ [struck o]).toArray

theorem wpQuiet_struck {P : Program} {C : World → Prop} {ops : Array Oper} {Q : Act → Prop} {o : Oper} (hg : (struck o).guard = none) : ∀ (l : List Oper) (a : Act), wpQuiet P ops C Q l a → wpQuiet P ops C Q (l ++ [struck o]) a
  | [], a, h => by
    have hw : Region.wanted (struck o) (yielded ops a.tmps) = true := by simp [Region.wanted, hg]
    show (if Region.wanted (struck o) (yielded ops a.tmps) then (struck o).quiet P a C (wpQuiet P ops C Q []) else _)
    rw [if_pos hw]
    exact ⟨undef, fun w _ => ⟨rfl, rfl⟩, h⟩
  | x :: l, a, h => by
    show (if Region.wanted x (yielded ops a.tmps) then x.quiet P a C (wpQuiet P ops C Q (l ++ [struck o])) else wpQuiet P ops C Q (l ++ [struck o]) (a.put x.dst undef))
    have h' : (if Region.wanted x (yielded ops a.tmps) then x.quiet P a C (wpQuiet P ops C Q l) else wpQuiet P ops C Q l (a.put x.dst undef)) := h
    split
    · rename_i hw
      rw [if_pos hw] at h'
      exact Oper.quiet_mono (fun a => wpQuiet_struck hg l a) h'
    · rename_i hw
      rw [if_neg hw] at h'
      exact wpQuiet_struck hg l _ h'

theorem wp_region_quiet_last {P : Program} {C : World → Prop} {id : Nat} {Q : Exit → Act → World → Prop} {a : Act} {w : World} (l : List Oper) (o : Oper) (hm : P.follows .mixedOrders = true) (hB : lastB l o = true) (hC : C { w with drawn := w.drawn + 1 })
    (h : wpQuiet P (l ++ [struck o]).toArray C (fun a' => ∀ w', C w' → o.wp P a' w' (fun a w => Q .normal a w) Q) l a) : (Code.region id (l ++ [o]).toArray true).wp P Q a w := by
  simp only [lastB, Bool.and_eq_true] at hB
  obtain ⟨⟨⟨hB1, hB2⟩, hB3⟩, hB4⟩ := hB
  simp only [Region.lexB, Bool.and_eq_true] at hB4
  refine wp_region_any hm ?_
  have hlen : ((l ++ [o]).toArray).size = l.length + 1 := by simp
  refine wpAny_of_quiet_last (C := C) (ops := (l ++ [o]).toArray) (ops' := (l ++ [struck o]).toArray) (m := l.length) (o := o) (o' := struck o) (by simp) (by simp) ?_ (by simp) rfl ?_ ?_ rfl ?_ ?_ _ _ a _ (by simp) (by simp) hC ?_
  · intro i hi
    simp only [List.getElem?_toArray]
    rcases Nat.lt_or_ge i l.length with h | h
    · rw [List.getElem?_append_left h, List.getElem?_append_left h]
    · rw [List.getElem?_append_right h, List.getElem?_append_right h]
      have : i - l.length ≠ 0 := by omega
      cases hk : i - l.length with
      | zero => omega
      | succ k => rfl
  · intro i x hx
    simp only [List.getElem?_toArray] at hx
    have := List.all_eq_true.1 hB1 x (List.mem_of_getElem? hx)
    simpa using this
  · have := List.all_eq_true.1 hB1 o (by simp)
    simpa [struck] using this
  · intro i x hx e he hb
    simp only [List.getElem?_toArray] at hx
    have h1 := List.all_eq_true.1 hB2 (x, i) (by rw [List.mem_zipIdx_iff_getElem?]; simpa using hx)
    have h2 := (Array.all_eq_true_iff_forall_mem.1 h1) e he
    simpa [hb] using h2
  · intro j hj hne
    have hj' : j < l.length := by simp at hj; omega
    have h1 := List.all_eq_true.1 hB3 j (List.mem_range.2 hj')
    obtain ⟨k, hk, hx⟩ := Array.any_eq_true.1 h1
    simp at hx
    exact ⟨o.after[k], Array.getElem_mem hk, hx.1, hx.2⟩
  · have hq : wpQuiet P (l ++ [struck o]).toArray C (fun a' => ∀ w', C w' → o.wp P a' w' (fun a w => Q .normal a w) Q) (l ++ [struck o]) a := by
      have hgs : (struck o).guard = none := by
        have := List.all_eq_true.1 hB1 o (by simp)
        simpa [struck] using this
      exact wpQuiet_struck hgs l a h
    have := wpAnyQ_lex (C := C) (md := .any) hB4.1 (l ++ [struck o]) 0 (Array.replicate (l ++ [o]).toArray.size false) a (by simp) (by simpa using hB4.2) hq
    simpa using this

/-- the worlds of a class, as one type -/
structure Wof (S : World → Prop) where
  val : World
  ok : S val
/-- .. the operations written out; the worlds of the class as one type -/
theorem wp_region_last_lit {P : Program} {S : World → Prop} {id : Nat} {Q : Exit → Act → World → Prop} {a : Act} {w : World} {l0 : List Oper} (hne : l0 ≠ []) (hm : P.follows .mixedOrders = true) (hB : lastB l0.dropLast (l0.getLast hne) = true) (hC : S { w with drawn := w.drawn + 1 })
    (h : wpQuiet P (l0.dropLast ++ [struck (l0.getLast hne)]).toArray (fun w' => ∃ u : Wof S, w' = u.val) (fun a' => ∀ w', (∃ u : Wof S, w' = u.val) → (l0.getLast hne).wp P a' w' (fun a w => Q .normal a w) Q) l0.dropLast a) : (Code.region id l0.toArray true).wp P Q a w := by
  have e := List.dropLast_concat_getLast hne
  have := wp_region_quiet_last (C := fun w' => ∃ u : Wof S, w' = u.val) (id := id) l0.dropLast (l0.getLast hne) hm hB ⟨⟨_, hC⟩, rfl⟩ h
  rwa [e] at this

end Go

namespace Go.Proofs.YtmebcdpdpcpnmabDoor
open Go.RowKit

/-- an order's needs are held (k = 1), or let go (k = -1) -/
def Mk.holdM (M : Mk.Mkt) (v who : Nat) (o : Mk.Ord) (k : Int) : Mk.Mkt :=
  if o.sell then { M with sf := upd M.sf v (upd (M.sf v) who (M.sf v who - k * o.qty)), sh := upd M.sh v (upd (M.sh v) who (M.sh v who + k * o.qty)) }
  else { M with cf := upd M.cf who (M.cf who - k * o.price * o.qty), ch := upd M.ch who (M.ch who + k * o.price * o.qty) }

end Go.Proofs.YtmebcdpdpcpnmabDoor

namespace Go.Proofs.YtmebcdpdpcpnmabDoor
open Go.RowKit

end Go.Proofs.YtmebcdpdpcpnmabDoor

namespace Go.Proofs.YtmebcdpdpcpnmabDoor
open Go.RowKit

theorem wt_mode1 : ((Mk.Wd.text .mode).toList == [112, 97, 121]) = false := by simp [Mk.Wd.text]
theorem wt_mode2 : ((Mk.Wd.text .mode).toList == [100, 114, 97, 119]) = false := by simp [Mk.Wd.text]
theorem wt_mode3 : ((Mk.Wd.text .mode).toList == [98, 114, 105, 110, 103]) = false := by simp [Mk.Wd.text]
theorem wt_mode4 : ((Mk.Wd.text .mode).toList == [102, 101, 116, 99, 104]) = false := by simp [Mk.Wd.text]
theorem wt_mode5 : ((Mk.Wd.text .mode).toList == [98, 117, 121]) = false := by simp [Mk.Wd.text]
theorem wt_mode6 : ((Mk.Wd.text .mode).toList == [115, 101, 108, 108]) = false := by simp [Mk.Wd.text]
theorem wt_mode7 : ((Mk.Wd.text .mode).toList == [100, 114, 111, 112]) = false := by simp [Mk.Wd.text]
theorem wt_mode8 : ((Mk.Wd.text .mode).toList == [109, 111, 100, 101]) = true := by simp [Mk.Wd.text]

/-- P13 -/
def Mk.modeM (M : Mk.Mkt) (v : Nat) (mc : Bool) : Int × Mk.Mkt := if 0 < (M.bk v).length then (9, M) else (0, { M with md := upd M.md v mc })

end Go.Proofs.YtmebcdpdpcpnmabDoor

namespace Go.Proofs.YtmebcdpdpcpnmabDoor
open Go.RowKit

/-- P10, P13: what the words do that want no order (the others: nothing yet) -/
def Mk.acctM (M : Mk.Mkt) (c : Mk.Cmd) : ByteArray × Int × Mk.Mkt :=
  match c.d with
  | .pay => (⟨#[]⟩, Mk.payM M c.who (Mk.nth c.n 0 : Int))
  | .draw => (⟨#[]⟩, Mk.drawM M c.who (Mk.nth c.n 0 : Int))
  | .bring => (⟨#[]⟩, Mk.bringM M (Mk.nth c.n 0) c.who (Mk.nth c.n 1 : Int))
  | .fetch => (⟨#[]⟩, Mk.fetchM M (Mk.nth c.n 0) c.who (Mk.nth c.n 1 : Int))
  | .mode => (⟨#[]⟩, Mk.modeM M (Mk.nth c.n 0) c.mc)
  | _ => (⟨#[]⟩, 0, M)
def plainW : Mk.Wd → Bool
  | .pay => true
  | .draw => true
  | .bring => true
  | .fetch => true
  | .mode => true
  | _ => false

theorem acct_disk (M : Mk.Mkt) (c : Mk.Cmd) : (Mk.acctM M c).2.2.disk = M.disk := by
  unfold Mk.acctM
  split
  · unfold Mk.payM; split <;> rfl
  · unfold Mk.drawM; split <;> rfl
  · unfold Mk.bringM; split <;> rfl
  · unfold Mk.fetchM; split <;> rfl
  · unfold Mk.modeM; split <;> rfl
  · rfl

end Go.Proofs.YtmebcdpdpcpnmabDoor

namespace Go.Proofs.YtmebcdpdpcpnmabDoor

theorem totTo_ge {f h : Nat → Int} (hb : ∀ c, c < 4 → 0 ≤ f c ∧ 0 ≤ h c) {c : Nat} (hc : c < 4) : f c ≤ totTo f h 4 := by
  have b0 := hb 0 (by omega)
  have b1 := hb 1 (by omega)
  have b2 := hb 2 (by omega)
  have b3 := hb 3 (by omega)
  have e : totTo f h 4 = 0 + f 0 + h 0 + f 1 + h 1 + f 2 + h 2 + f 3 + h 3 := rfl
  rw [e]
  have : c = 0 ∨ c = 1 ∨ c = 2 ∨ c = 3 := by omega
  rcases this with rfl | rfl | rfl | rfl <;> omega

theorem Fine.cf {M : Mk.Mkt} (h : M.Fine) (c : Nat) (x : Int) (hx : 0 ≤ x ∧ x ≤ 9999) : Mk.Mkt.Fine { M with cf := upd M.cf c x } :=
  ⟨fun d hd => by
    show 0 ≤ upd M.cf c x d ∧ upd M.cf c x d ≤ 9999
    unfold upd; split
    · exact hx
    · exact h.cf d hd, h.ch, h.sf, h.sh, h.house, h.len, h.num, h.who, h.ord⟩
theorem Fine.sf {M : Mk.Mkt} (h : M.Fine) (v c : Nat) (x : Int) (hx : 0 ≤ x ∧ x ≤ 9999) : Mk.Mkt.Fine { M with sf := upd M.sf v (upd (M.sf v) c x) } :=
  ⟨h.cf, h.ch, fun u d hu hd => by
    show 0 ≤ upd M.sf v (upd (M.sf v) c x) u d ∧ upd M.sf v (upd (M.sf v) c x) u d ≤ 9999
    by_cases e : u = v
    · subst e
      rw [upd_self]
      unfold upd; split
      · exact hx
      · exact h.sf u d hu hd
    · rw [upd_ne _ _ e]; exact h.sf u d hu hd, h.sh, h.house, h.len, h.num, h.who, h.ord⟩
theorem Fine.md {M : Mk.Mkt} (h : M.Fine) (f : Nat → Bool) : Mk.Mkt.Fine { M with md := f } := ⟨h.cf, h.ch, h.sf, h.sh, h.house, h.len, h.num, h.who, h.ord⟩
theorem Fine.rest {M : Mk.Mkt} (h : M.Fine) (a : Nat → Int) (t : Nat → ByteArray) (e : Nat → Int) (d : ByteArray) : Mk.Mkt.Fine { M with ls := a, tx := t, er := e, disk := d } := ⟨h.cf, h.ch, h.sf, h.sh, h.house, h.len, h.num, h.who, h.ord⟩

/-- the words without orders keep the bounds -/
theorem acct_fine {M : Mk.Mkt} {c : Mk.Cmd} (hM : M.Fine) (hok : c.Ok) : (Mk.acctM M c).2.2.Fine := by
  obtain ⟨who, r, d, n, mc⟩ := c
  have hw : who < 4 := hok.who
  have hlen : n.length = d.lo.length := hok.len
  have hnum : ∀ i, i < n.length → Mk.nth d.lo i ≤ Mk.nth n i ∧ Mk.nth n i ≤ Mk.nth d.hi i := hok.num
  have hc := hM.cf who hw
  have tc := totTo_ge (f := M.cf) (h := M.ch) (fun c hc => ⟨(hM.cf c hc).1, (hM.ch c hc).1⟩) hw
  have hh := hM.house
  have ts : ∀ u, u < 2 → M.sf u who ≤ totTo (M.sf u) (M.sh u) 4 := fun u hu => totTo_ge (fun c hc => ⟨(hM.sf u c hu hc).1, (hM.sh u c hu hc).1⟩) hw
  have hs : ∀ u, u < 2 → 0 ≤ M.sf u who ∧ M.sf u who ≤ 9999 := fun u hu => hM.sf u who hu hw
  cases d
  case pay =>
    show (Mk.payM M who (Mk.nth n 0 : Int)).2.Fine
    unfold Mk.payM
    split
    · exact hM
    · exact Fine.cf hM who _ ⟨by omega, by omega⟩
  case draw =>
    show (Mk.drawM M who (Mk.nth n 0 : Int)).2.Fine
    unfold Mk.drawM
    split
    · exact hM
    · exact Fine.cf hM who _ ⟨by omega, by omega⟩
  case bring =>
    have h1 : 1 < n.length := by rw [hlen]; decide
    have q := (hnum 0 (by omega)).2
    have e : Mk.nth (Mk.Wd.hi .bring) 0 = 1 := rfl
    have t1 := ts (Mk.nth n 0) (by omega)
    have s1 := hs (Mk.nth n 0) (by omega)
    show (Mk.bringM M (Mk.nth n 0) who (Mk.nth n 1 : Int)).2.Fine
    unfold Mk.bringM
    split
    · exact hM
    · exact Fine.sf hM _ who _ ⟨by omega, by omega⟩
  case fetch =>
    have h1 : 1 < n.length := by rw [hlen]; decide
    have q := (hnum 0 (by omega)).2
    have e : Mk.nth (Mk.Wd.hi .fetch) 0 = 1 := rfl
    have s1 := hs (Mk.nth n 0) (by omega)
    show (Mk.fetchM M (Mk.nth n 0) who (Mk.nth n 1 : Int)).2.Fine
    unfold Mk.fetchM
    split
    · exact hM
    · exact Fine.sf hM _ who _ ⟨by omega, by omega⟩
  case mode =>
    show (Mk.modeM M (Mk.nth n 0) mc).2.Fine
    unfold Mk.modeM
    split
    · exact hM
    · exact Fine.md hM _
  all_goals exact hM

end Go.Proofs.YtmebcdpdpcpnmabDoor

namespace Go.Proofs.YtmebcdpdpcpnmabDoor

/-- a market after k commands: its bounds -/
structure Well (M : Mk.Mkt) (k : Nat) : Prop where
  fine : M.Fine
  ls : ∀ c, c < 4 → 0 ≤ M.ls c ∧ M.ls c ≤ 99
  disk : M.disk.size ≤ 22 * k

theorem new_well : Well Mk.Mkt.new 0 := by
  refine ⟨⟨?_, ?_, ?_, ?_, ?_, ?_, ?_, ?_, ?_⟩, ?_, ?_⟩ <;> simp [Mk.Mkt.new]
  rfl

theorem acct_ls (M : Mk.Mkt) (c : Mk.Cmd) : (Mk.acctM M c).2.2.ls = M.ls := by
  unfold Mk.acctM
  split
  · unfold Mk.payM; split <;> rfl
  · unfold Mk.drawM; split <;> rfl
  · unfold Mk.bringM; split <;> rfl
  · unfold Mk.fetchM; split <;> rfl
  · unfold Mk.modeM; split <;> rfl
  · rfl

theorem do_well {M : Mk.Mkt} {k : Nat} {X : Mk.Cmd → ByteArray × Int × Mk.Mkt} (s : ByteArray) (h : Well M k)
    (hX : ∀ c, Mk.readP s = some c → (X c).2.2.Fine ∧ (X c).2.2.ls = M.ls ∧ (X c).2.2.disk = M.disk) : Well (Mk.doM X M s).2.2 (k + 1) := by
  have h' : Well M (k + 1) := ⟨h.fine, h.ls, by have := h.disk; omega⟩
  unfold Mk.doM
  cases hr : Mk.readP s with
  | none => exact h'
  | some c =>
    obtain ⟨hok, h20⟩ := Mk.read_ok hr
    obtain ⟨hf, hl, hd⟩ := hX c hr
    show Well (if (c.r : Int) = M.ls c.who then (M.tx c.who, M.er c.who, M) else if (c.r : Int) < M.ls c.who then (⟨#[]⟩, 3, M) else if M.ls c.who + 1 < (c.r : Int) then (⟨#[]⟩, 4, M) else ((X c).1, (X c).2.1, { (X c).2.2 with ls := upd (X c).2.2.ls c.who c.r, tx := upd (X c).2.2.tx c.who (X c).1, er := upd (X c).2.2.er c.who (X c).2.1, disk := (X c).2.2.disk ++ Mk.frame s ++ s }) : ByteArray × Int × Mk.Mkt).2.2 (k + 1)
    split
    · exact h'
    · split
      · exact h'
      · split
        · exact h'
        · refine ⟨Fine.rest hf _ _ _ _, fun d hd' => ?_, ?_⟩
          · show 0 ≤ upd (X c).2.2.ls c.who (c.r : Int) d ∧ upd (X c).2.2.ls c.who (c.r : Int) d ≤ 99
            rw [hl]
            have := hok.r
            unfold upd; split
            · exact ⟨by omega, by omega⟩
            · exact h.ls d hd'
          · show ((X c).2.2.disk ++ Mk.frame s ++ s).size ≤ 22 * (k + 1)
            rw [ByteArray.size_append, ByteArray.size_append, frame_size, hd]
            have := h.disk
            omega

theorem acct_well {M : Mk.Mkt} {k : Nat} (s : ByteArray) (h : Well M k) : Well (Mk.doM (Mk.acctM M) M s).2.2 (k + 1) :=
  do_well s h (fun c hc => ⟨acct_fine h.fine (Mk.read_ok hc).1, acct_ls M c, acct_disk M c⟩)

end Go.Proofs.YtmebcdpdpcpnmabDoor

namespace Go.Proofs.YtmebcdpdpcpnmabDoor
open Go.RowKit

/-- stands an order of the client in the batch? -/
def Mk.whoIn (l : List Mk.Stand) (who : Nat) : Bool := l.any (fun x => x.who == (who : Int))
/-- is it the client's order with that number? -/
def Mk.hit (n : Int) (who : Nat) (x : Mk.Stand) : Bool := x.n == n && x.who == (who : Int)
/-- is too little free for the order? -/
def Mk.lacks (M : Mk.Mkt) (v who : Nat) (o : Mk.Ord) : Bool := if o.sell then decide (M.sf v who < o.qty) else decide (M.cf who < o.price * o.qty)
/-- the order comes into the batch -/
def Mk.putM (M : Mk.Mkt) (v who : Nat) (o : Mk.Ord) : Mk.Mkt := { Mk.holdM M v who o 1 with cm := upd M.cm v (M.cm v + 1), bk := upd M.bk v (M.bk v ++ [⟨M.cm v, (who : Int), o⟩]) }
/-- P11 -/
def Mk.orderM (M : Mk.Mkt) (v who : Nat) (o : Mk.Ord) : ByteArray × Int × Mk.Mkt :=
  if (M.md v && (decide (o.qty ≠ 1) || Mk.whoIn (M.bk v) who)) = true then (⟨#[]⟩, 8, M)
  else if 12 ≤ M.cm v then (⟨#[]⟩, 7, M)
  else if Mk.lacks M v who o = true then (⟨#[]⟩, 5, M)
  else (Mk.digI (M.cm v), 0, Mk.putM M v who o)
/-- the order goes -/
def Mk.outM (M : Mk.Mkt) (v who : Nat) (n : Int) (x : Mk.Stand) : Mk.Mkt := { Mk.holdM M v who x.o (-1) with bk := upd M.bk v ((M.bk v).filter (fun y => !Mk.hit n who y)) }
/-- P12 -/
def Mk.dropM (M : Mk.Mkt) (v who : Nat) (n : Int) : Int × Mk.Mkt :=
  match (M.bk v).find? (Mk.hit n who) with
  | none => (10, M)
  | some x => (0, Mk.outM M v who n x)

end Go.Proofs.YtmebcdpdpcpnmabDoor
