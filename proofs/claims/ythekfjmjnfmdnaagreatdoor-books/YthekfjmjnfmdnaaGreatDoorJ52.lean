import Derived.Test.YthekfjmjnfmdnaaGreatDoorJ21
import Derived.Test.YthekfjmjnfmdnaaGreatDoorJ51
namespace Go.Proofs.YthekfjmjnfmdnaaGreatDoor
open Go.ChangeShapes Go.WideShapes Go.ChangeAt Go.RowKit Go.Deep

/-- every command but close -/
def Mk.bookM (M : Mk.Mkt) (c : Mk.Cmd) : ByteArray × Int × Mk.Mkt :=
  match c.d with
  | .buy => Mk.orderM M (Mk.nth c.n 0) c.who ⟨false, (Mk.nth c.n 1 : Int), (Mk.nth c.n 2 : Int)⟩
  | .sell => Mk.orderM M (Mk.nth c.n 0) c.who ⟨true, (Mk.nth c.n 1 : Int), (Mk.nth c.n 2 : Int)⟩
  | .drop => (⟨#[]⟩, (Mk.dropM M (Mk.nth c.n 0) c.who (Mk.nth c.n 1 : Int)).1, (Mk.dropM M (Mk.nth c.n 0) c.who (Mk.nth c.n 1 : Int)).2)
  | _ => Mk.acctM M c
def noClose : Mk.Wd → Bool
  | .close => false
  | _ => true

theorem order_ls (M : Mk.Mkt) (v who : Nat) (o : Mk.Ord) : (Mk.orderM M v who o).2.2.ls = M.ls ∧ (Mk.orderM M v who o).2.2.disk = M.disk := by
  unfold Mk.orderM
  split
  · exact ⟨rfl, rfl⟩
  · split
    · exact ⟨rfl, rfl⟩
    · split
      · exact ⟨rfl, rfl⟩
      · exact ⟨hold_ls M v who o 1, hold_disk M v who o 1⟩
theorem drop_ls (M : Mk.Mkt) (v who : Nat) (n : Int) : (Mk.dropM M v who n).2.ls = M.ls ∧ (Mk.dropM M v who n).2.disk = M.disk := by
  unfold Mk.dropM
  split
  · exact ⟨rfl, rfl⟩
  · exact ⟨hold_ls M v who _ (-1), hold_disk M v who _ (-1)⟩
theorem book_ls (M : Mk.Mkt) (c : Mk.Cmd) : (Mk.bookM M c).2.2.ls = M.ls ∧ (Mk.bookM M c).2.2.disk = M.disk := by
  unfold Mk.bookM
  split
  · exact order_ls M _ _ _
  · exact order_ls M _ _ _
  · exact drop_ls M _ _ _
  · exact ⟨acct_ls M c, acct_disk M c⟩
theorem Mk.Sound.rest {M : Mk.Mkt} (h : Mk.Sound M) (a : Nat → Int) (t : Nat → ByteArray) (e : Nat → Int) (d : ByteArray) : Mk.Sound { M with ls := a, tx := t, er := e, disk := d } :=
  ⟨h.cm, h.ln, h.inc, h.low, h.who, h.ord, h.ch, h.sh, h.cf, h.sf, h.house, h.tot, h.tos⟩

theorem book_sound {M : Mk.Mkt} {c : Mk.Cmd} (h : Mk.Sound M) (hok : c.Ok) : Mk.Sound (Mk.bookM M c).2.2 := by
  obtain ⟨who, r, d, n, mc⟩ := c
  have hw : who < 4 := hok.who
  have hlen : n.length = d.lo.length := hok.len
  have hnum : ∀ i, i < n.length → Mk.nth d.lo i ≤ Mk.nth n i ∧ Mk.nth n i ≤ Mk.nth d.hi i := hok.num
  cases d
  case pay => exact h.pay hw (by omega)
  case draw => exact h.draw hw (by omega)
  case bring =>
    have h0 : 0 < n.length := by rw [hlen]; decide
    have q := (hnum 0 h0).2
    have e : Mk.nth (Mk.Wd.hi .bring) 0 = 1 := rfl
    exact h.bring (show Mk.nth n 0 < 2 by omega) hw (by omega)
  case fetch =>
    have h0 : 0 < n.length := by rw [hlen]; decide
    have q := (hnum 0 h0).2
    have e : Mk.nth (Mk.Wd.hi .fetch) 0 = 1 := rfl
    exact h.fetch (show Mk.nth n 0 < 2 by omega) hw (by omega)
  case mode => exact h.mode _ _
  case buy =>
    have h0 : 2 < n.length := by rw [hlen]; decide
    have q0 := (hnum 0 (by omega)).2
    have q1 := hnum 1 (by omega)
    have q2 := hnum 2 h0
    simp only [Mk.Wd.lo, Mk.Wd.hi, Mk.nth, List.getD_cons_zero, List.getD_cons_succ] at q0 q1 q2
    exact h.order (by simp only [Mk.nth]; omega) hw ⟨false, _, _⟩ ⟨by simp only [Mk.nth]; omega, by simp only [Mk.nth]; omega, by simp only [Mk.nth]; omega, by simp only [Mk.nth]; omega⟩
  case sell =>
    have h0 : 2 < n.length := by rw [hlen]; decide
    have q0 := (hnum 0 (by omega)).2
    have q1 := hnum 1 (by omega)
    have q2 := hnum 2 h0
    simp only [Mk.Wd.lo, Mk.Wd.hi, Mk.nth, List.getD_cons_zero, List.getD_cons_succ] at q0 q1 q2
    exact h.order (by simp only [Mk.nth]; omega) hw ⟨true, _, _⟩ ⟨by simp only [Mk.nth]; omega, by simp only [Mk.nth]; omega, by simp only [Mk.nth]; omega, by simp only [Mk.nth]; omega⟩
  case drop =>
    have h0 : 0 < n.length := by rw [hlen]; decide
    have q := (hnum 0 h0).2
    have e : Mk.nth (Mk.Wd.hi .drop) 0 = 1 := rfl
    exact h.drop (show Mk.nth n 0 < 2 by omega) hw _
  case close => exact h

/-- what the document does at a command -/
theorem book_does (p : Nat) (b : RB) (M : Mk.Mkt) (c : Mk.Cmd) (hM : Mk.Sound M) (hok : c.Ok) (hd : noClose c.d = true) (W : World) (g cap : Nat) (hR : Ref W p b M) (hc : ∀ (i : Nat) (h : i < c.n.length), W.cell? ⟨g, i, none⟩ = some (.int .i64 (c.n[i] : Int))) (hgn : ¬ b.has p g) :
    Calls Tryz.prog 44 #[.pointer (some ⟨p, 0, none⟩), cmdV c.who c.r c.d (.slice (some ⟨g, 0, none⟩) c.n.length cap) c.mc] W fun e w' => DoT p b (Mk.bookM M c) W e w' := by
  by_cases hp : plainW c.d = true
  · have e : Mk.bookM M c = Mk.acctM M c := by
      unfold Mk.bookM
      split <;> first | rfl | (rename_i h; rw [h] at hp; cases hp)
    rw [e]
    exact acct_does p b M c hM.fine hok hp W g cap hR hc
  have hcell : ∀ i, i < c.n.length → W.cell? ⟨g, i, none⟩ = some (.int .i64 (Mk.nth c.n i : Int)) := fun i hi => by rw [Mk.nth_at hi]; exact hc i hi
  obtain ⟨who, r, d, n, mc⟩ := c
  have hw : who < 4 := hok.who
  have hlen : n.length = d.lo.length := hok.len
  have hnum : ∀ i, i < n.length → Mk.nth d.lo i ≤ Mk.nth n i ∧ Mk.nth n i ≤ Mk.nth d.hi i := hok.num
  have hcell' : ∀ i, i < n.length → W.cell? ⟨g, i, none⟩ = some (.int .i64 (Mk.nth n i : Int)) := hcell
  cases d
  case buy =>
    have hl : n.length = 3 := hlen
    have q0 := (hnum 0 (by omega)).2
    have q1 := hnum 1 (by omega)
    have q2 := hnum 2 (by omega)
    have e0 : Mk.nth (Mk.Wd.hi .buy) 0 = 1 := rfl
    have e1 : Mk.nth (Mk.Wd.hi .buy) 1 = 99 := rfl
    have e2 : Mk.nth (Mk.Wd.hi .buy) 2 = 20 := rfl
    have e3 : Mk.nth (Mk.Wd.lo .buy) 1 = 1 := rfl
    have e4 : Mk.nth (Mk.Wd.lo .buy) 2 = 1 := rfl
    show Calls Tryz.prog 44 #[.pointer (some ⟨p, 0, none⟩), cmdV who r .buy (.slice (some ⟨g, 0, none⟩) n.length cap) mc] W fun e w' => DoT p b (Mk.orderM M (Mk.nth n 0) who ⟨false, (Mk.nth n 1 : Int), (Mk.nth n 2 : Int)⟩) W e w'
    rw [hl]
    exact does_buy p g cap b M who (Mk.nth n 0) r _ _ mc W hM.fine hR hw (by omega) ⟨by omega, by omega⟩ ⟨by omega, by omega⟩ (hM.cm _ (by omega)) (hcell' 0 (by omega)) (hcell' 1 (by omega)) (hcell' 2 (by omega))
  case sell =>
    have hl : n.length = 3 := hlen
    have q0 := (hnum 0 (by omega)).2
    have q1 := hnum 1 (by omega)
    have q2 := hnum 2 (by omega)
    have e0 : Mk.nth (Mk.Wd.hi .sell) 0 = 1 := rfl
    have e1 : Mk.nth (Mk.Wd.hi .sell) 1 = 99 := rfl
    have e2 : Mk.nth (Mk.Wd.hi .sell) 2 = 20 := rfl
    have e3 : Mk.nth (Mk.Wd.lo .sell) 1 = 1 := rfl
    have e4 : Mk.nth (Mk.Wd.lo .sell) 2 = 1 := rfl
    show Calls Tryz.prog 44 #[.pointer (some ⟨p, 0, none⟩), cmdV who r .sell (.slice (some ⟨g, 0, none⟩) n.length cap) mc] W fun e w' => DoT p b (Mk.orderM M (Mk.nth n 0) who ⟨true, (Mk.nth n 1 : Int), (Mk.nth n 2 : Int)⟩) W e w'
    rw [hl]
    exact does_sell p g cap b M who (Mk.nth n 0) r _ _ mc W hM.fine hR hw (by omega) ⟨by omega, by omega⟩ ⟨by omega, by omega⟩ (hM.cm _ (by omega)) (hcell' 0 (by omega)) (hcell' 1 (by omega)) (hcell' 2 (by omega))
  case drop =>
    have hl : n.length = 2 := hlen
    have q0 := (hnum 0 (by omega)).2
    have e0 : Mk.nth (Mk.Wd.hi .drop) 0 = 1 := rfl
    show Calls Tryz.prog 44 #[.pointer (some ⟨p, 0, none⟩), cmdV who r .drop (.slice (some ⟨g, 0, none⟩) n.length cap) mc] W fun e w' => DoT p b (⟨#[]⟩, (Mk.dropM M (Mk.nth n 0) who (Mk.nth n 1 : Int)).1, (Mk.dropM M (Mk.nth n 0) who (Mk.nth n 1 : Int)).2) W e w'
    rw [hl]
    exact does_drop p g cap b M who (Mk.nth n 0) r _ mc W hM hR hw (by omega) (hcell' 0 (by omega)) (hcell' 1 (by omega)) hgn
  case close => cases hd
  all_goals exact absurd rfl hp

/-- what the program does at a command -/
theorem book_carry (p : Nat) (vb : Nat → Value) (M : Mk.Mkt) (c : Mk.Cmd) (hM : Mk.Sound M) (hok : c.Ok) (hd : noClose c.d = true) (W : World) (hP : PM W p vb M) (hT : Tab W) :
    Calls Tryz.prog 46 #[.pointer (some ⟨p, 0, none⟩), reqV c] W fun e w' => PDoT p vb (Mk.bookM M c) W e w' := by
  by_cases hp : plainW c.d = true
  · have e : Mk.bookM M c = Mk.acctM M c := by
      unfold Mk.bookM
      split <;> first | rfl | (rename_i h; rw [h] at hp; cases hp)
    rw [e]
    exact acct_carry p vb M c hM.fine hok hp W hP
  obtain ⟨who, r, d, n, mc⟩ := c
  have hw : who < 4 := hok.who
  have hlen : n.length = d.lo.length := hok.len
  have hnum : ∀ i, i < n.length → Mk.nth d.lo i ≤ Mk.nth n i ∧ Mk.nth n i ≤ Mk.nth d.hi i := hok.num
  cases d
  case buy =>
    have hl : n.length = 3 := hlen
    have q0 := (hnum 0 (by omega)).2
    have q1 := hnum 1 (by omega)
    have q2 := hnum 2 (by omega)
    have e0 : Mk.nth (Mk.Wd.hi .buy) 0 = 1 := rfl
    have e1 : Mk.nth (Mk.Wd.hi .buy) 1 = 99 := rfl
    have e2 : Mk.nth (Mk.Wd.hi .buy) 2 = 20 := rfl
    have e3 : Mk.nth (Mk.Wd.lo .buy) 1 = 1 := rfl
    have e4 : Mk.nth (Mk.Wd.lo .buy) 2 = 1 := rfl
    exact carry_buy p vb M who r (Mk.nth n 0) _ (Mk.nth n 1 : Int) (Mk.nth n 2 : Int) _ mc W hM.fine hP hw (by omega) ⟨by omega, by omega⟩ ⟨by omega, by omega⟩ (hM.cm _ (by omega)) hT
  case sell =>
    have hl : n.length = 3 := hlen
    have q0 := (hnum 0 (by omega)).2
    have q1 := hnum 1 (by omega)
    have q2 := hnum 2 (by omega)
    have e0 : Mk.nth (Mk.Wd.hi .sell) 0 = 1 := rfl
    have e1 : Mk.nth (Mk.Wd.hi .sell) 1 = 99 := rfl
    have e2 : Mk.nth (Mk.Wd.hi .sell) 2 = 20 := rfl
    have e3 : Mk.nth (Mk.Wd.lo .sell) 1 = 1 := rfl
    have e4 : Mk.nth (Mk.Wd.lo .sell) 2 = 1 := rfl
    exact carry_sell p vb M who r (Mk.nth n 0) _ (Mk.nth n 1 : Int) (Mk.nth n 2 : Int) _ mc W hM.fine hP hw (by omega) ⟨by omega, by omega⟩ ⟨by omega, by omega⟩ (hM.cm _ (by omega)) hT
  case drop =>
    have hl : n.length = 2 := hlen
    have q0 := (hnum 0 (by omega)).2
    have e0 : Mk.nth (Mk.Wd.hi .drop) 0 = 1 := rfl
    exact carry_drop p vb M who r (Mk.nth n 0) _ _ _ (Mk.nth n 1 : Int) mc W hM hP hw (by omega)
  case close => cases hd
  all_goals exact absurd rfl hp

/-- a market after k commands -/
structure BInv (M : Mk.Mkt) (k : Nat) : Prop where
  well : Well M k
  sound : Mk.Sound M
theorem do_sound {M : Mk.Mkt} {X : Mk.Cmd → ByteArray × Int × Mk.Mkt} (s : ByteArray) (h : Mk.Sound M) (hX : ∀ c, Mk.readP s = some c → Mk.Sound (X c).2.2) : Mk.Sound (Mk.doM X M s).2.2 := by
  unfold Mk.doM
  cases hr : Mk.readP s with
  | none => exact h
  | some c =>
    show Mk.Sound (if (c.r : Int) = M.ls c.who then (M.tx c.who, M.er c.who, M) else if (c.r : Int) < M.ls c.who then (⟨#[]⟩, 3, M) else if M.ls c.who + 1 < (c.r : Int) then (⟨#[]⟩, 4, M) else ((X c).1, (X c).2.1, { (X c).2.2 with ls := upd (X c).2.2.ls c.who c.r, tx := upd (X c).2.2.tx c.who (X c).1, er := upd (X c).2.2.er c.who (X c).2.1, disk := (X c).2.2.disk ++ Mk.frame s ++ s }) : ByteArray × Int × Mk.Mkt).2.2
    split
    · exact h
    · split
      · exact h
      · split
        · exact h
        · exact (hX c hr).rest _ _ _ _

def bookOk (t : ByteArray) : Prop := ∀ c, Mk.readP t = some c → noClose c.d = true
theorem book_doing : Doing (fun M s => Mk.doM (Mk.bookM M) M s) BInv bookOk where
  fine := fun _ _ h => h.well.fine
  new := ⟨new_well, new_sound⟩
  up := fun _ _ h => ⟨⟨h.well.fine, h.well.ls, by have := h.well.disk; omega⟩, h.sound⟩
  step := fun M k s h _ => ⟨do_well s h.well (fun c hc => ⟨(book_sound h.sound (Mk.read_ok hc).1).fine, (book_ls M c).1, (book_ls M c).2⟩), do_sound s h.sound (fun c hc => book_sound h.sound (Mk.read_ok hc).1)⟩
  p := fun p vb M k s w h hk hs ho hP hT => pdo_any2 p vb M s w (Mk.bookM M) h.well.ls hP (fun c hc _ W hb hW => book_carry p vb M c h.sound (Mk.read_ok hc).1 (ho c hc) W hW (hT.next hb))
  r := fun p b M k s w h hk hs ho hR => do_any2 p b M s w (Mk.bookM M) h.well.ls (by have := h.well.disk; omega) (by omega) hR (fun c hc _ => ⟨(book_ls M c).2, fun W g cap hW hn hgn => book_does p b M c h.sound (Mk.read_ok hc).1 (ho c hc) W g cap hW hn hgn⟩)

/-- the word that Books leaves out -/
def bookWs : List ByteArray := [⟨#[99, 108, 111, 115, 101]⟩]
theorem book_words (t : ByteArray) (h : Mk.hasAny t bookWs = false) : bookOk t := by
  intro c hc
  have hh := Mk.read_has hc
  unfold Mk.hasAny at h
  rw [List.any_eq_false] at h
  have each : ∀ x ∈ bookWs, Mk.has t x = false := fun x hx => by have := h x hx; simpa using this
  cases hd : c.d
  case close =>
    rw [hd] at hh
    have := each (Mk.Wd.text .close) (by simp [bookWs, Mk.Wd.text])
    rw [hh] at this
    cases this
  all_goals rfl

set_option maxRecDepth 100000 in
set_option maxHeartbeats 1000000 in
theorem books_law (a : Option Addr) (cap : Nat) (l : List OpD) (w : World) (hf : ∀ x ∈ l, x.Fits) (hR : RdOps w a l) (hT : Tab w) :
    Calls Tryz.prog 5 #[.slice a l.length cap] w fun e w' => e = .returned (.bool true) ∧ Below w.heap.size w w' := by
  have HF : Hid (∀ x ∈ l, x.Fits) := hf
  have HB : Hid (∀ ob, Below w.heap.size w (w.alloc ob)) := fun ob => (Below.refl _ _).alloc (Nat.le_refl _) ob
  have HR : Hid (∀ ob, RdOps (w.alloc ob) a l) := fun ob => hR.below (HB.out ob)
  have HT : Hid (∀ ob, Tab (w.alloc ob)) := fun ob => hT.next (HB.out ob)
  clear hf hR hT
  go_enter Tryz.func5, Tryz.ntmps5
  go_wp2_with fail
  refine (plays_markets book_doing a cap w.heap.size 1 bookWs l _ HF.out (HR.out _) (HT.out _) (by decide) (by decide) ?_ (by simp) book_words).mono ?_
  · intro i hi
    match i, hi with
    | 0, _ => simp [Mk.wordAt, bookWs]
  · rintro e w1 ⟨rfl, hb1⟩
    have HB1 : Hid (Below w.heap.size w w1) := (HB.out _).trans (hb1.mono (by simp))
    clear hb1
    go_wp2
    go_ret
    exact ⟨rfl, HB1.out⟩

end Go.Proofs.YthekfjmjnfmdnaaGreatDoor
