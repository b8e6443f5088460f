import Derived.Test.YtljeahgpkeohlaaGreatDoorJ16
namespace Go.Proofs.YtljeahgpkeohlaaGreatDoor
open Go.RowKit

/-- P10, P13: what the words do that want no order (the others: nothing yet) -/
def Mk.acctM (M : Mk.Mkt) (c : Mk.Cmd) : ByteArray × Int × Mk.Mkt :=
  match c.d with
  | .pay => (⟨#[]⟩, Mk.payM M c.who (Mk.nth c.n 0 : Int))
  | .draw => (⟨#[]⟩, Mk.drawM M c.who (Mk.nth c.n 0 : Int))
  | .bring => (⟨#[]⟩, Mk.bringM M (Mk.nth c.n 0) c.who (Mk.nth c.n 1 : Int))
  | .fetch => (⟨#[]⟩, Mk.fetchM M (Mk.nth c.n 0) c.who (Mk.nth c.n 1 : Int))
  | .mode => (⟨#[]⟩, Mk.modeM M (Mk.nth c.n 0) c.mc)
  | _ => (⟨#[]⟩, 0, M)
def plainW : Mk.Wd → Bool
  | .pay => true
  | .draw => true
  | .bring => true
  | .fetch => true
  | .mode => true
  | _ => false

theorem acct_does (p : Nat) (b : RB) (M : Mk.Mkt) (c : Mk.Cmd) (hM : M.Fine) (hok : c.Ok) (hd : plainW c.d = true) (W : World) (g cap : Nat) (hR : Ref W p b M) (hc : ∀ (i : Nat) (h : i < c.n.length), W.cell? ⟨g, i, none⟩ = some (.int .i64 (c.n[i] : Int))) :
    Calls Tryz.prog 44 #[.pointer (some ⟨p, 0, none⟩), cmdV c.who c.r c.d (.slice (some ⟨g, 0, none⟩) c.n.length cap) c.mc] W fun e w' => DoT p b (Mk.acctM M c) W e w' := by
  have hcell : ∀ i, i < c.n.length → W.cell? ⟨g, i, none⟩ = some (.int .i64 (Mk.nth c.n i : Int)) := fun i hi => by rw [Mk.nth_at hi]; exact hc i hi
  obtain ⟨who, r, d, n, mc⟩ := c
  have hw : who < 4 := hok.who
  have hlen : n.length = d.lo.length := hok.len
  have hnum : ∀ i, i < n.length → Mk.nth d.lo i ≤ Mk.nth n i ∧ Mk.nth n i ≤ Mk.nth d.hi i := hok.num
  have hcell' : ∀ i, i < n.length → W.cell? ⟨g, i, none⟩ = some (.int .i64 (Mk.nth n i : Int)) := hcell
  cases d
  case pay =>
    have h0 : 0 < n.length := by rw [hlen]; decide
    have q := (hnum 0 h0).2
    have e : Mk.nth (Mk.Wd.hi .pay) 0 = 9999 := rfl
    exact does_pay p g n.length cap b M who r (Mk.nth n 0 : Int) mc W hM hR hw ⟨by omega, by omega⟩ (by omega) (hcell' 0 h0)
  case draw =>
    have h0 : 0 < n.length := by rw [hlen]; decide
    have q := (hnum 0 h0).2
    have e : Mk.nth (Mk.Wd.hi .draw) 0 = 9999 := rfl
    exact does_draw p g n.length cap b M who r (Mk.nth n 0 : Int) mc W hM hR hw ⟨by omega, by omega⟩ (by omega) (hcell' 0 h0)
  case bring =>
    have h1 : 1 < n.length := by rw [hlen]; decide
    have q := (hnum 0 (by omega)).2
    have q1 := (hnum 1 h1).2
    have e : Mk.nth (Mk.Wd.hi .bring) 0 = 1 := rfl
    have e1 : Mk.nth (Mk.Wd.hi .bring) 1 = 999 := rfl
    exact does_bring p g n.length cap b M who (Mk.nth n 0) r (Mk.nth n 1 : Int) mc W hM hR hw (by omega) ⟨by omega, by omega⟩ (by omega) (hcell' 0 (by omega)) (hcell' 1 h1)
  case fetch =>
    have h1 : 1 < n.length := by rw [hlen]; decide
    have q := (hnum 0 (by omega)).2
    have q1 := (hnum 1 h1).2
    have e : Mk.nth (Mk.Wd.hi .fetch) 0 = 1 := rfl
    have e1 : Mk.nth (Mk.Wd.hi .fetch) 1 = 999 := rfl
    exact does_fetch p g n.length cap b M who (Mk.nth n 0) r (Mk.nth n 1 : Int) mc W hM hR hw (by omega) ⟨by omega, by omega⟩ (by omega) (hcell' 0 (by omega)) (hcell' 1 h1)
  case mode =>
    have h0 : 0 < n.length := by rw [hlen]; decide
    have q := (hnum 0 h0).2
    have e : Mk.nth (Mk.Wd.hi .mode) 0 = 1 := rfl
    exact does_mode p g n.length cap b M who (Mk.nth n 0) r mc W hM hR (by omega) (by omega) (hcell' 0 h0)
  all_goals simp [plainW] at hd

theorem acct_disk (M : Mk.Mkt) (c : Mk.Cmd) : (Mk.acctM M c).2.2.disk = M.disk := by
  unfold Mk.acctM
  split
  · unfold Mk.payM; split <;> rfl
  · unfold Mk.drawM; split <;> rfl
  · unfold Mk.bringM; split <;> rfl
  · unfold Mk.fetchM; split <;> rfl
  · unfold Mk.modeM; split <;> rfl
  · rfl

end Go.Proofs.YtljeahgpkeohlaaGreatDoor

namespace Go.Proofs.YtljeahgpkeohlaaGreatDoor

theorem totTo_ge {f h : Nat → Int} (hb : ∀ c, c < 4 → 0 ≤ f c ∧ 0 ≤ h c) {c : Nat} (hc : c < 4) : f c ≤ totTo f h 4 := by
  have b0 := hb 0 (by omega)
  have b1 := hb 1 (by omega)
  have b2 := hb 2 (by omega)
  have b3 := hb 3 (by omega)
  have e : totTo f h 4 = 0 + f 0 + h 0 + f 1 + h 1 + f 2 + h 2 + f 3 + h 3 := rfl
  rw [e]
  have : c = 0 ∨ c = 1 ∨ c = 2 ∨ c = 3 := by omega
  rcases this with rfl | rfl | rfl | rfl <;> omega

theorem Fine.cf {M : Mk.Mkt} (h : M.Fine) (c : Nat) (x : Int) (hx : 0 ≤ x ∧ x ≤ 9999) : Mk.Mkt.Fine { M with cf := upd M.cf c x } :=
  ⟨fun d hd => by
    show 0 ≤ upd M.cf c x d ∧ upd M.cf c x d ≤ 9999
    unfold upd; split
    · exact hx
    · exact h.cf d hd, h.ch, h.sf, h.sh, h.house, h.len, h.num, h.who, h.ord⟩
theorem Fine.sf {M : Mk.Mkt} (h : M.Fine) (v c : Nat) (x : Int) (hx : 0 ≤ x ∧ x ≤ 9999) : Mk.Mkt.Fine { M with sf := upd M.sf v (upd (M.sf v) c x) } :=
  ⟨h.cf, h.ch, fun u d hu hd => by
    show 0 ≤ upd M.sf v (upd (M.sf v) c x) u d ∧ upd M.sf v (upd (M.sf v) c x) u d ≤ 9999
    by_cases e : u = v
    · subst e
      rw [upd_self]
      unfold upd; split
      · exact hx
      · exact h.sf u d hu hd
    · rw [upd_ne _ _ e]; exact h.sf u d hu hd, h.sh, h.house, h.len, h.num, h.who, h.ord⟩
theorem Fine.md {M : Mk.Mkt} (h : M.Fine) (f : Nat → Bool) : Mk.Mkt.Fine { M with md := f } := ⟨h.cf, h.ch, h.sf, h.sh, h.house, h.len, h.num, h.who, h.ord⟩
theorem Fine.rest {M : Mk.Mkt} (h : M.Fine) (a : Nat → Int) (t : Nat → ByteArray) (e : Nat → Int) (d : ByteArray) : Mk.Mkt.Fine { M with ls := a, tx := t, er := e, disk := d } := ⟨h.cf, h.ch, h.sf, h.sh, h.house, h.len, h.num, h.who, h.ord⟩

/-- the words without orders keep the bounds -/
theorem acct_fine {M : Mk.Mkt} {c : Mk.Cmd} (hM : M.Fine) (hok : c.Ok) : (Mk.acctM M c).2.2.Fine := by
  obtain ⟨who, r, d, n, mc⟩ := c
  have hw : who < 4 := hok.who
  have hlen : n.length = d.lo.length := hok.len
  have hnum : ∀ i, i < n.length → Mk.nth d.lo i ≤ Mk.nth n i ∧ Mk.nth n i ≤ Mk.nth d.hi i := hok.num
  have hc := hM.cf who hw
  have tc := totTo_ge (f := M.cf) (h := M.ch) (fun c hc => ⟨(hM.cf c hc).1, (hM.ch c hc).1⟩) hw
  have hh := hM.house
  have ts : ∀ u, u < 2 → M.sf u who ≤ totTo (M.sf u) (M.sh u) 4 := fun u hu => totTo_ge (fun c hc => ⟨(hM.sf u c hu hc).1, (hM.sh u c hu hc).1⟩) hw
  have hs : ∀ u, u < 2 → 0 ≤ M.sf u who ∧ M.sf u who ≤ 9999 := fun u hu => hM.sf u who hu hw
  cases d
  case pay =>
    show (Mk.payM M who (Mk.nth n 0 : Int)).2.Fine
    unfold Mk.payM
    split
    · exact hM
    · exact Fine.cf hM who _ ⟨by omega, by omega⟩
  case draw =>
    show (Mk.drawM M who (Mk.nth n 0 : Int)).2.Fine
    unfold Mk.drawM
    split
    · exact hM
    · exact Fine.cf hM who _ ⟨by omega, by omega⟩
  case bring =>
    have h1 : 1 < n.length := by rw [hlen]; decide
    have q := (hnum 0 (by omega)).2
    have e : Mk.nth (Mk.Wd.hi .bring) 0 = 1 := rfl
    have t1 := ts (Mk.nth n 0) (by omega)
    have s1 := hs (Mk.nth n 0) (by omega)
    show (Mk.bringM M (Mk.nth n 0) who (Mk.nth n 1 : Int)).2.Fine
    unfold Mk.bringM
    split
    · exact hM
    · exact Fine.sf hM _ who _ ⟨by omega, by omega⟩
  case fetch =>
    have h1 : 1 < n.length := by rw [hlen]; decide
    have q := (hnum 0 (by omega)).2
    have e : Mk.nth (Mk.Wd.hi .fetch) 0 = 1 := rfl
    have s1 := hs (Mk.nth n 0) (by omega)
    show (Mk.fetchM M (Mk.nth n 0) who (Mk.nth n 1 : Int)).2.Fine
    unfold Mk.fetchM
    split
    · exact hM
    · exact Fine.sf hM _ who _ ⟨by omega, by omega⟩
  case mode =>
    show (Mk.modeM M (Mk.nth n 0) mc).2.Fine
    unfold Mk.modeM
    split
    · exact hM
    · exact Fine.md hM _
  all_goals exact hM

end Go.Proofs.YtljeahgpkeohlaaGreatDoor

namespace Go.Proofs.YtljeahgpkeohlaaGreatDoor

/-- a market after k commands: its bounds -/
structure Well (M : Mk.Mkt) (k : Nat) : Prop where
  fine : M.Fine
  ls : ∀ c, c < 4 → 0 ≤ M.ls c ∧ M.ls c ≤ 99
  disk : M.disk.size ≤ 22 * k

theorem new_well : Well Mk.Mkt.new 0 := by
  refine ⟨⟨?_, ?_, ?_, ?_, ?_, ?_, ?_, ?_, ?_⟩, ?_, ?_⟩ <;> simp [Mk.Mkt.new]
  rfl

theorem acct_ls (M : Mk.Mkt) (c : Mk.Cmd) : (Mk.acctM M c).2.2.ls = M.ls := by
  unfold Mk.acctM
  split
  · unfold Mk.payM; split <;> rfl
  · unfold Mk.drawM; split <;> rfl
  · unfold Mk.bringM; split <;> rfl
  · unfold Mk.fetchM; split <;> rfl
  · unfold Mk.modeM; split <;> rfl
  · rfl

theorem do_well {M : Mk.Mkt} {k : Nat} {X : Mk.Cmd → ByteArray × Int × Mk.Mkt} (s : ByteArray) (h : Well M k)
    (hX : ∀ c, Mk.readP s = some c → (X c).2.2.Fine ∧ (X c).2.2.ls = M.ls ∧ (X c).2.2.disk = M.disk) : Well (Mk.doM X M s).2.2 (k + 1) := by
  have h' : Well M (k + 1) := ⟨h.fine, h.ls, by have := h.disk; omega⟩
  unfold Mk.doM
  cases hr : Mk.readP s with
  | none => exact h'
  | some c =>
    obtain ⟨hok, h20⟩ := Mk.read_ok hr
    obtain ⟨hf, hl, hd⟩ := hX c hr
    show Well (if (c.r : Int) = M.ls c.who then (M.tx c.who, M.er c.who, M) else if (c.r : Int) < M.ls c.who then (⟨#[]⟩, 3, M) else if M.ls c.who + 1 < (c.r : Int) then (⟨#[]⟩, 4, M) else ((X c).1, (X c).2.1, { (X c).2.2 with ls := upd (X c).2.2.ls c.who c.r, tx := upd (X c).2.2.tx c.who (X c).1, er := upd (X c).2.2.er c.who (X c).2.1, disk := (X c).2.2.disk ++ Mk.frame s ++ s }) : ByteArray × Int × Mk.Mkt).2.2 (k + 1)
    split
    · exact h'
    · split
      · exact h'
      · split
        · exact h'
        · refine ⟨Fine.rest hf _ _ _ _, fun d hd' => ?_, ?_⟩
          · show 0 ≤ upd (X c).2.2.ls c.who (c.r : Int) d ∧ upd (X c).2.2.ls c.who (c.r : Int) d ≤ 99
            rw [hl]
            have := hok.r
            unfold upd; split
            · exact ⟨by omega, by omega⟩
            · exact h.ls d hd'
          · show ((X c).2.2.disk ++ Mk.frame s ++ s).size ≤ 22 * (k + 1)
            rw [ByteArray.size_append, ByteArray.size_append, frame_size, hd]
            have := h.disk
            omega

/-- DO, OF THE DOCUMENT, at a text whose word (if it is a command) wants no order -/
theorem acct_do (p : Nat) (b : RB) (M : Mk.Mkt) (k : Nat) (s : ByteArray) (w : World) (h : Well M k) (hk : k ≤ 1048576) (hs : s.size ≤ 2000000) (hR : Ref w p b M) (hp : ∀ c, Mk.readP s = some c → plainW c.d = true) :
    Calls Tryz.prog 26 #[.pointer (some ⟨p, 0, none⟩), .string s] w fun e w' => DoT p b (Mk.doM (Mk.acctM M) M s) w e w' :=
  do_any p b M s w (Mk.acctM M) h.ls (by have := h.disk; omega) hs hR (fun c hc _ => ⟨acct_disk M c, fun W g cap hW hn => acct_does p b M c h.fine (Mk.read_ok hc).1 (hp c hc) W g cap hW hn⟩)
theorem acct_well {M : Mk.Mkt} {k : Nat} (s : ByteArray) (h : Well M k) : Well (Mk.doM (Mk.acctM M) M s).2.2 (k + 1) :=
  do_well s h (fun c hc => ⟨acct_fine h.fine (Mk.read_ok hc).1, acct_ls M c, acct_disk M c⟩)

end Go.Proofs.YtljeahgpkeohlaaGreatDoor

namespace Go.Proofs.YtljeahgpkeohlaaGreatDoor
open Go.RowKit

/-- stands an order of the client in the batch? -/
def Mk.whoIn (l : List Mk.Stand) (who : Nat) : Bool := l.any (fun x => x.who == (who : Int))
/-- is it the client's order with that number? -/
def Mk.hit (n : Int) (who : Nat) (x : Mk.Stand) : Bool := x.n == n && x.who == (who : Int)
/-- is too little free for the order? -/
def Mk.lacks (M : Mk.Mkt) (v who : Nat) (o : Mk.Ord) : Bool := if o.sell then decide (M.sf v who < o.qty) else decide (M.cf who < o.price * o.qty)
/-- the order comes into the batch -/
def Mk.putM (M : Mk.Mkt) (v who : Nat) (o : Mk.Ord) : Mk.Mkt := { Mk.holdM M v who o 1 with cm := upd M.cm v (M.cm v + 1), bk := upd M.bk v (M.bk v ++ [⟨M.cm v, (who : Int), o⟩]) }
/-- P11 -/
def Mk.orderM (M : Mk.Mkt) (v who : Nat) (o : Mk.Ord) : ByteArray × Int × Mk.Mkt :=
  if (M.md v && (decide (o.qty ≠ 1) || Mk.whoIn (M.bk v) who)) = true then (⟨#[]⟩, 8, M)
  else if 12 ≤ M.cm v then (⟨#[]⟩, 7, M)
  else if Mk.lacks M v who o = true then (⟨#[]⟩, 5, M)
  else (Mk.digI (M.cm v), 0, Mk.putM M v who o)
/-- the order goes -/
def Mk.outM (M : Mk.Mkt) (v who : Nat) (n : Int) (x : Mk.Stand) : Mk.Mkt := { Mk.holdM M v who x.o (-1) with bk := upd M.bk v ((M.bk v).filter (fun y => !Mk.hit n who y)) }
/-- P12 -/
def Mk.dropM (M : Mk.Mkt) (v who : Nat) (n : Int) : Int × Mk.Mkt :=
  match (M.bk v).find? (Mk.hit n who) with
  | none => (10, M)
  | some x => (0, Mk.outM M v who n x)

end Go.Proofs.YtljeahgpkeohlaaGreatDoor
