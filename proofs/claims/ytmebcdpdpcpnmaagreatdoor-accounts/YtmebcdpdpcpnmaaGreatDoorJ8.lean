import Derived.Test.YtmebcdpdpcpnmaaGreatDoorJ7
import Derived.BigRegion
import Derived.Test.YtmebcdpdpcpnmaaGreatDoorJ4
import Derived.Lib.Strings
import Derived.Shelf.LaysM
import Derived.Shelf.Strconv.Itoa3
import Derived.Test.YtmebcdpdpcpnmaaGreatDoorProg
namespace Go.Proofs.YtmebcdpdpcpnmaaGreatDoor
open Go.RowKit

/-- what a block is a row of -/
def Kind (w : World) (k t : Nat) : Prop := ∃ c, w.heap[k]? = some (.cells c t (0, 0))
theorem Kind.ne {w : World} {k k' t t' : Nat} (h : Kind w k t) (h' : Kind w k' t') (hne : t ≠ t') : k ≠ k' := by
  rintro rfl
  obtain ⟨c, hc⟩ := h
  obtain ⟨c', hc'⟩ := h'
  rw [hc] at hc'
  simp at hc'
  exact hne hc'.2
theorem row_kind {w : World} {k t n : Nat} {f : Nat → Value} (h : w.rowIs k t n f) : Kind w k t := by obtain ⟨c, hc, _⟩ := h; exact ⟨c, hc⟩
theorem own_kind' {w : World} {base e size n : Nat} {v : Value} {xs : List Value} (h : w.ownsRow base e size v n xs) {g : Nat} (hg : v.ownBlock = some g) : Kind w g e := own_kind h hg
theorem own_set {w : World} {base e size n k i t : Nat} {v u : Value} {xs : List Value} (h : w.ownsRow base e size v n xs) (hk : Kind w k t) (hne : t ≠ e) : (w.setCell ⟨k, i, none⟩ u).ownsRow base e size v n xs :=
  own_block h (fun g hg => Below.heap_setCell w _ u g (fun e' => hk.ne (own_kind' h hg) hne e'.symm))

def upd {α : Type} (f : Nat → α) (i : Nat) (x : α) (j : Nat) : α := if j = i then x else f j
theorem purse_set0 (f h : Nat → Int) (c : Nat) (x : Int) (j : Nat) : (if j = c * 2 then Value.int .i64 x else purseF f h j) = purseF (upd f c x) h j := by
  unfold purseF upd
  by_cases e : j = c * 2
  · rw [if_pos e, if_pos (by omega), if_pos (by omega)]
  · rw [if_neg e]
    by_cases m : j % 2 = 0
    · rw [if_pos m, if_pos m, if_neg (by omega)]
    · rw [if_neg m, if_neg m]
theorem purse_set1 (f h : Nat → Int) (c : Nat) (x : Int) (j : Nat) : (if j = c * 2 + 1 then Value.int .i64 x else purseF f h j) = purseF f (upd h c x) j := by
  unfold purseF upd
  by_cases e : j = c * 2 + 1
  · rw [if_pos e, if_neg (by omega), if_pos (by omega)]
  · rw [if_neg e]
    by_cases m : j % 2 = 0
    · rw [if_pos m, if_pos m]
    · rw [if_neg m, if_neg m, if_neg (by omega)]

section
variable {w : World} {p : Nat} {b : RB} {M : Mk.Mkt}
theorem Ref.setHouse (h : Ref w p b M) (x : Int) : Ref (w.setCell ⟨p, 2, none⟩ (.int .i64 x)) p b { M with house := x } :=
  ⟨(h.box.set 2 _).congr (fun j _ => by match j with | 0 => rfl | 1 => rfl | 2 => rfl | 3 => rfl | 4 => rfl | 5 => rfl | 6 => rfl | 7 => rfl | 8 => rfl | _ + 9 => rfl), h.cash.setOther (Ne.symm ((row_kind h.box).ne (row_kind h.cash) (by decide))) _, h.slots.setOther (Ne.symm ((row_kind h.box).ne (row_kind h.slots) (by decide))) _, fun v hv => (h.sl v hv).setOther (Ne.symm ((row_kind h.box).ne (row_kind (h.sl v hv)) (by decide))) _, h.modes.setOther (Ne.symm ((row_kind h.box).ne (row_kind h.modes) (by decide))) _, h.books.setOther (Ne.symm ((row_kind h.box).ne (row_kind h.books) (by decide))) _, fun v hv => own_set (h.bk v hv) (row_kind h.box) (by decide), h.came.setOther (Ne.symm ((row_kind h.box).ne (row_kind h.came) (by decide))) _, h.lasts.setOther (Ne.symm ((row_kind h.box).ne (row_kind h.lasts) (by decide))) _, h.texts.setOther (Ne.symm ((row_kind h.box).ne (row_kind h.texts) (by decide))) _, h.errs.setOther (Ne.symm ((row_kind h.box).ne (row_kind h.errs) (by decide))) _, h.d1, h.d2, h.e1, h.e2, h.e3, h.vv⟩
theorem Ref.setDisk (h : Ref w p b M) (x : ByteArray) : Ref (w.setCell ⟨p, 9, none⟩ (.string x)) p b { M with disk := x } :=
  ⟨(h.box.set 9 _).congr (fun j hj => by match j, hj with | 0, _ => rfl | 1, _ => rfl | 2, _ => rfl | 3, _ => rfl | 4, _ => rfl | 5, _ => rfl | 6, _ => rfl | 7, _ => rfl | 8, _ => rfl | 9, _ => rfl), h.cash.setOther (Ne.symm ((row_kind h.box).ne (row_kind h.cash) (by decide))) _, h.slots.setOther (Ne.symm ((row_kind h.box).ne (row_kind h.slots) (by decide))) _, fun v hv => (h.sl v hv).setOther (Ne.symm ((row_kind h.box).ne (row_kind (h.sl v hv)) (by decide))) _, h.modes.setOther (Ne.symm ((row_kind h.box).ne (row_kind h.modes) (by decide))) _, h.books.setOther (Ne.symm ((row_kind h.box).ne (row_kind h.books) (by decide))) _, fun v hv => own_set (h.bk v hv) (row_kind h.box) (by decide), h.came.setOther (Ne.symm ((row_kind h.box).ne (row_kind h.came) (by decide))) _, h.lasts.setOther (Ne.symm ((row_kind h.box).ne (row_kind h.lasts) (by decide))) _, h.texts.setOther (Ne.symm ((row_kind h.box).ne (row_kind h.texts) (by decide))) _, h.errs.setOther (Ne.symm ((row_kind h.box).ne (row_kind h.errs) (by decide))) _, h.d1, h.d2, h.e1, h.e2, h.e3, h.vv⟩
theorem Ref.setCf (h : Ref w p b M) (c : Nat) (x : Int) : Ref (w.setCell ⟨b.bC, c * 2, none⟩ (.int .i64 x)) p b { M with cf := upd M.cf c x } :=
  ⟨h.box.setOther (Ne.symm ((row_kind h.cash).ne (row_kind h.box) (by decide))) _, (h.cash.set (c * 2) _).congr (fun j _ => purse_set0 _ _ c x j), h.slots.setOther (Ne.symm ((row_kind h.cash).ne (row_kind h.slots) (by decide))) _, fun v hv => (h.sl v hv).setOther (fun e => h.d1 v hv e.symm) _, h.modes.setOther (Ne.symm ((row_kind h.cash).ne (row_kind h.modes) (by decide))) _, h.books.setOther (Ne.symm ((row_kind h.cash).ne (row_kind h.books) (by decide))) _, fun v hv => own_set (h.bk v hv) (row_kind h.cash) (by decide), h.came.setOther (Ne.symm ((row_kind h.cash).ne (row_kind h.came) (by decide))) _, h.lasts.setOther (Ne.symm ((row_kind h.cash).ne (row_kind h.lasts) (by decide))) _, h.texts.setOther (Ne.symm ((row_kind h.cash).ne (row_kind h.texts) (by decide))) _, h.errs.setOther (Ne.symm ((row_kind h.cash).ne (row_kind h.errs) (by decide))) _, h.d1, h.d2, h.e1, h.e2, h.e3, h.vv⟩
theorem Ref.setCh (h : Ref w p b M) (c : Nat) (x : Int) : Ref (w.setCell ⟨b.bC, c * 2 + 1, none⟩ (.int .i64 x)) p b { M with ch := upd M.ch c x } :=
  ⟨h.box.setOther (Ne.symm ((row_kind h.cash).ne (row_kind h.box) (by decide))) _, (h.cash.set (c * 2 + 1) _).congr (fun j _ => purse_set1 _ _ c x j), h.slots.setOther (Ne.symm ((row_kind h.cash).ne (row_kind h.slots) (by decide))) _, fun v hv => (h.sl v hv).setOther (fun e => h.d1 v hv e.symm) _, h.modes.setOther (Ne.symm ((row_kind h.cash).ne (row_kind h.modes) (by decide))) _, h.books.setOther (Ne.symm ((row_kind h.cash).ne (row_kind h.books) (by decide))) _, fun v hv => own_set (h.bk v hv) (row_kind h.cash) (by decide), h.came.setOther (Ne.symm ((row_kind h.cash).ne (row_kind h.came) (by decide))) _, h.lasts.setOther (Ne.symm ((row_kind h.cash).ne (row_kind h.lasts) (by decide))) _, h.texts.setOther (Ne.symm ((row_kind h.cash).ne (row_kind h.texts) (by decide))) _, h.errs.setOther (Ne.symm ((row_kind h.cash).ne (row_kind h.errs) (by decide))) _, h.d1, h.d2, h.e1, h.e2, h.e3, h.vv⟩
theorem Ref.setSf (h : Ref w p b M) (v0 : Nat) (hv0 : v0 < 2) (c : Nat) (x : Int) : Ref (w.setCell ⟨b.sb v0, c * 2, none⟩ (.int .i64 x)) p b { M with sf := upd M.sf v0 (upd (M.sf v0) c x) } :=
  ⟨h.box.setOther (Ne.symm ((row_kind (h.sl v0 hv0)).ne (row_kind h.box) (by decide))) _, h.cash.setOther (h.d1 v0 hv0) _, h.slots.setOther (Ne.symm ((row_kind (h.sl v0 hv0)).ne (row_kind h.slots) (by decide))) _, fun v hv => by
    by_cases e : v = v0
    · subst e
      refine ((h.sl v hv).set (c * 2) _).congr (fun j _ => ?_)
      rw [purse_set0]
      simp [upd]
    · refine ((h.sl v hv).setOther (show b.sb v ≠ b.sb v0 from fun e' => ?_) _).congr (fun j _ => by simp [upd, e])
      rcases (show v = 0 ∧ v0 = 1 ∨ v = 1 ∧ v0 = 0 by omega) with ⟨rfl, rfl⟩ | ⟨rfl, rfl⟩
      · exact h.d2 e'
      · exact h.d2 e'.symm, h.modes.setOther (Ne.symm ((row_kind (h.sl v0 hv0)).ne (row_kind h.modes) (by decide))) _, h.books.setOther (Ne.symm ((row_kind (h.sl v0 hv0)).ne (row_kind h.books) (by decide))) _, fun v hv => own_set (h.bk v hv) (row_kind (h.sl v0 hv0)) (by decide), h.came.setOther (Ne.symm ((row_kind (h.sl v0 hv0)).ne (row_kind h.came) (by decide))) _, h.lasts.setOther (Ne.symm ((row_kind (h.sl v0 hv0)).ne (row_kind h.lasts) (by decide))) _, h.texts.setOther (Ne.symm ((row_kind (h.sl v0 hv0)).ne (row_kind h.texts) (by decide))) _, h.errs.setOther (Ne.symm ((row_kind (h.sl v0 hv0)).ne (row_kind h.errs) (by decide))) _, h.d1, h.d2, h.e1, h.e2, h.e3, h.vv⟩
theorem Ref.setSh (h : Ref w p b M) (v0 : Nat) (hv0 : v0 < 2) (c : Nat) (x : Int) : Ref (w.setCell ⟨b.sb v0, c * 2 + 1, none⟩ (.int .i64 x)) p b { M with sh := upd M.sh v0 (upd (M.sh v0) c x) } :=
  ⟨h.box.setOther (Ne.symm ((row_kind (h.sl v0 hv0)).ne (row_kind h.box) (by decide))) _, h.cash.setOther (h.d1 v0 hv0) _, h.slots.setOther (Ne.symm ((row_kind (h.sl v0 hv0)).ne (row_kind h.slots) (by decide))) _, fun v hv => by
    by_cases e : v = v0
    · subst e
      refine ((h.sl v hv).set (c * 2 + 1) _).congr (fun j _ => ?_)
      rw [purse_set1]
      simp [upd]
    · refine ((h.sl v hv).setOther (show b.sb v ≠ b.sb v0 from fun e' => ?_) _).congr (fun j _ => by simp [upd, e])
      rcases (show v = 0 ∧ v0 = 1 ∨ v = 1 ∧ v0 = 0 by omega) with ⟨rfl, rfl⟩ | ⟨rfl, rfl⟩
      · exact h.d2 e'
      · exact h.d2 e'.symm, h.modes.setOther (Ne.symm ((row_kind (h.sl v0 hv0)).ne (row_kind h.modes) (by decide))) _, h.books.setOther (Ne.symm ((row_kind (h.sl v0 hv0)).ne (row_kind h.books) (by decide))) _, fun v hv => own_set (h.bk v hv) (row_kind (h.sl v0 hv0)) (by decide), h.came.setOther (Ne.symm ((row_kind (h.sl v0 hv0)).ne (row_kind h.came) (by decide))) _, h.lasts.setOther (Ne.symm ((row_kind (h.sl v0 hv0)).ne (row_kind h.lasts) (by decide))) _, h.texts.setOther (Ne.symm ((row_kind (h.sl v0 hv0)).ne (row_kind h.texts) (by decide))) _, h.errs.setOther (Ne.symm ((row_kind (h.sl v0 hv0)).ne (row_kind h.errs) (by decide))) _, h.d1, h.d2, h.e1, h.e2, h.e3, h.vv⟩
theorem Ref.setMd (h : Ref w p b M) (v : Nat) (x : Bool) : Ref (w.setCell ⟨b.bM, v, none⟩ (.bool x)) p b { M with md := upd M.md v x } :=
  ⟨h.box.setOther (Ne.symm ((row_kind h.modes).ne (row_kind h.box) (by decide))) _, h.cash.setOther (Ne.symm ((row_kind h.modes).ne (row_kind h.cash) (by decide))) _, h.slots.setOther (Ne.symm ((row_kind h.modes).ne (row_kind h.slots) (by decide))) _, fun v hv => (h.sl v hv).setOther (Ne.symm ((row_kind h.modes).ne (row_kind (h.sl v hv)) (by decide))) _, (h.modes.set v _).congr (fun j _ => by by_cases e : j = v <;> simp [upd, e]), h.books.setOther (Ne.symm ((row_kind h.modes).ne (row_kind h.books) (by decide))) _, fun v hv => own_set (h.bk v hv) (row_kind h.modes) (by decide), h.came.setOther (Ne.symm ((row_kind h.modes).ne (row_kind h.came) (by decide))) _, h.lasts.setOther (Ne.symm ((row_kind h.modes).ne (row_kind h.lasts) (by decide))) _, h.texts.setOther (Ne.symm ((row_kind h.modes).ne (row_kind h.texts) (by decide))) _, h.errs.setOther (Ne.symm ((row_kind h.modes).ne (row_kind h.errs) (by decide))) _, h.d1, h.d2, h.e1, h.e2, h.e3, h.vv⟩
theorem Ref.setCm (h : Ref w p b M) (v : Nat) (x : Int) : Ref (w.setCell ⟨b.bCm, v, none⟩ (.int .i64 x)) p b { M with cm := upd M.cm v x } :=
  ⟨h.box.setOther (Ne.symm ((row_kind h.came).ne (row_kind h.box) (by decide))) _, h.cash.setOther (Ne.symm ((row_kind h.came).ne (row_kind h.cash) (by decide))) _, h.slots.setOther (Ne.symm ((row_kind h.came).ne (row_kind h.slots) (by decide))) _, fun v hv => (h.sl v hv).setOther (Ne.symm ((row_kind h.came).ne (row_kind (h.sl v hv)) (by decide))) _, h.modes.setOther (Ne.symm ((row_kind h.came).ne (row_kind h.modes) (by decide))) _, h.books.setOther (Ne.symm ((row_kind h.came).ne (row_kind h.books) (by decide))) _, fun v hv => own_set (h.bk v hv) (row_kind h.came) (by decide), (h.came.set v _).congr (fun j _ => by by_cases e : j = v <;> simp [upd, e]), h.lasts.setOther (Ne.symm h.e1) _, h.texts.setOther (Ne.symm ((row_kind h.came).ne (row_kind h.texts) (by decide))) _, h.errs.setOther (Ne.symm h.e2) _, h.d1, h.d2, h.e1, h.e2, h.e3, h.vv⟩
theorem Ref.setLs (h : Ref w p b M) (c : Nat) (x : Int) : Ref (w.setCell ⟨b.bL, c, none⟩ (.int .i64 x)) p b { M with ls := upd M.ls c x } :=
  ⟨h.box.setOther (Ne.symm ((row_kind h.lasts).ne (row_kind h.box) (by decide))) _, h.cash.setOther (Ne.symm ((row_kind h.lasts).ne (row_kind h.cash) (by decide))) _, h.slots.setOther (Ne.symm ((row_kind h.lasts).ne (row_kind h.slots) (by decide))) _, fun v hv => (h.sl v hv).setOther (Ne.symm ((row_kind h.lasts).ne (row_kind (h.sl v hv)) (by decide))) _, h.modes.setOther (Ne.symm ((row_kind h.lasts).ne (row_kind h.modes) (by decide))) _, h.books.setOther (Ne.symm ((row_kind h.lasts).ne (row_kind h.books) (by decide))) _, fun v hv => own_set (h.bk v hv) (row_kind h.lasts) (by decide), h.came.setOther (h.e1) _, (h.lasts.set c _).congr (fun j _ => by by_cases e : j = c <;> simp [upd, e]), h.texts.setOther (Ne.symm ((row_kind h.lasts).ne (row_kind h.texts) (by decide))) _, h.errs.setOther (Ne.symm h.e3) _, h.d1, h.d2, h.e1, h.e2, h.e3, h.vv⟩
theorem Ref.setTx (h : Ref w p b M) (c : Nat) (x : ByteArray) : Ref (w.setCell ⟨b.bT, c, none⟩ (.string x)) p b { M with tx := upd M.tx c x } :=
  ⟨h.box.setOther (Ne.symm ((row_kind h.texts).ne (row_kind h.box) (by decide))) _, h.cash.setOther (Ne.symm ((row_kind h.texts).ne (row_kind h.cash) (by decide))) _, h.slots.setOther (Ne.symm ((row_kind h.texts).ne (row_kind h.slots) (by decide))) _, fun v hv => (h.sl v hv).setOther (Ne.symm ((row_kind h.texts).ne (row_kind (h.sl v hv)) (by decide))) _, h.modes.setOther (Ne.symm ((row_kind h.texts).ne (row_kind h.modes) (by decide))) _, h.books.setOther (Ne.symm ((row_kind h.texts).ne (row_kind h.books) (by decide))) _, fun v hv => own_set (h.bk v hv) (row_kind h.texts) (by decide), h.came.setOther (Ne.symm ((row_kind h.texts).ne (row_kind h.came) (by decide))) _, h.lasts.setOther (Ne.symm ((row_kind h.texts).ne (row_kind h.lasts) (by decide))) _, (h.texts.set c _).congr (fun j _ => by by_cases e : j = c <;> simp [upd, e]), h.errs.setOther (Ne.symm ((row_kind h.texts).ne (row_kind h.errs) (by decide))) _, h.d1, h.d2, h.e1, h.e2, h.e3, h.vv⟩
theorem Ref.setEr (h : Ref w p b M) (c : Nat) (x : Int) : Ref (w.setCell ⟨b.bE, c, none⟩ (.int .i64 x)) p b { M with er := upd M.er c x } :=
  ⟨h.box.setOther (Ne.symm ((row_kind h.errs).ne (row_kind h.box) (by decide))) _, h.cash.setOther (Ne.symm ((row_kind h.errs).ne (row_kind h.cash) (by decide))) _, h.slots.setOther (Ne.symm ((row_kind h.errs).ne (row_kind h.slots) (by decide))) _, fun v hv => (h.sl v hv).setOther (Ne.symm ((row_kind h.errs).ne (row_kind (h.sl v hv)) (by decide))) _, h.modes.setOther (Ne.symm ((row_kind h.errs).ne (row_kind h.modes) (by decide))) _, h.books.setOther (Ne.symm ((row_kind h.errs).ne (row_kind h.books) (by decide))) _, fun v hv => own_set (h.bk v hv) (row_kind h.errs) (by decide), h.came.setOther (h.e2) _, h.lasts.setOther (h.e3) _, h.texts.setOther (Ne.symm ((row_kind h.errs).ne (row_kind h.texts) (by decide))) _, (h.errs.set c _).congr (fun j _ => by by_cases e : j = c <;> simp [upd, e]), h.d1, h.d2, h.e1, h.e2, h.e3, h.vv⟩
end

end Go.Proofs.YtmebcdpdpcpnmaaGreatDoor

namespace Go.Proofs.YtmebcdpdpcpnmaaGreatDoor
open Go.RowKit

/-- but for the blocks in S nothing that was there has turned -/
structure Only (S : Nat → Prop) (w w' : World) : Prop where
  os : w'.os = w.os
  tape : w'.tape = w.tape
  output : w'.output = w.output
  size : w.heap.size ≤ w'.heap.size
  block : ∀ k, k < w.heap.size → ¬ S k → w'.heap[k]? = w.heap[k]?
section
variable {S S' : Nat → Prop} {w w1 w2 : World}
theorem Only.refl (S : Nat → Prop) (w : World) : Only S w w := ⟨rfl, rfl, rfl, Nat.le_refl _, fun _ _ _ => rfl⟩
theorem Only.of_below (h : Below w.heap.size w w1) : Only S w w1 := ⟨h.os, h.tape, h.output, h.size, fun k hk _ => h.block k hk⟩
theorem Only.trans (h : Only S w w1) (h' : Only S' w1 w2) (hS : ∀ k, k < w.heap.size → S' k → S k) : Only S w w2 :=
  ⟨h'.os.trans h.os, h'.tape.trans h.tape, h'.output.trans h.output, Nat.le_trans h.size h'.size, fun k hk hn => (h'.block k (Nat.lt_of_lt_of_le hk h.size) (fun hs => hn (hS k hk hs))).trans (h.block k hk hn)⟩
theorem Only.next (h : Only S w w1) (hb : Below w1.heap.size w1 w2) : Only S w w2 := h.trans (S' := S) (Only.of_below hb) (fun _ _ h => h)
theorem Only.set (h : Only S w w1) {k i : Nat} (hk : S k) (u : Value) : Only S w (w1.setCell ⟨k, i, none⟩ u) :=
  ⟨h.os, h.tape, h.output, by simpa using h.size, fun j hj hn => (Below.heap_setCell w1 _ u j (fun e => hn (by rw [e]; exact hk))).trans (h.block j hj hn)⟩
end

/-- the four arms of P10 -/
def Mk.payM (M : Mk.Mkt) (c : Nat) (n : Int) : Int × Mk.Mkt := if 9999 < totTo M.cf M.ch 4 + M.house + n then (6, M) else (0, { M with cf := upd M.cf c (M.cf c + n) })
def Mk.drawM (M : Mk.Mkt) (c : Nat) (n : Int) : Int × Mk.Mkt := if M.cf c < n then (5, M) else (0, { M with cf := upd M.cf c (M.cf c - n) })
def Mk.bringM (M : Mk.Mkt) (v c : Nat) (n : Int) : Int × Mk.Mkt := if 999 < totTo (M.sf v) (M.sh v) 4 + n then (6, M) else (0, { M with sf := upd M.sf v (upd (M.sf v) c (M.sf v c + n)) })
def Mk.fetchM (M : Mk.Mkt) (v c : Nat) (n : Int) : Int × Mk.Mkt := if M.sf v c < n then (5, M) else (0, { M with sf := upd M.sf v (upd (M.sf v) c (M.sf v c - n)) })

/-- a command, as a value -/
abbrev cmdV (who r : Int) (d : Mk.Wd) (v : Value) (mc : Bool) : Value := .agg #[.int .i64 who, .int .i64 r, .string d.text, v, .bool mc]

/-- what a method of the market leaves -/
def Does (p : Nat) (b : RB) (x : Int × Mk.Mkt) (w : World) (e : Ending) (w' : World) : Prop := e = .returned (.int .i64 x.1) ∧ Ref w' p b x.2 ∧ Only (b.has p) w w'

theorem txt_pay : ((Mk.Wd.text .pay).toList == [112, 97, 121]) = true := by simp [Mk.Wd.text]
theorem txt_draw : ((Mk.Wd.text .draw).toList == [112, 97, 121]) = false := by simp [Mk.Wd.text]
theorem txt_bring : ((Mk.Wd.text .bring).toList == [98, 114, 105, 110, 103]) = true := by simp [Mk.Wd.text]
theorem txt_fetch : ((Mk.Wd.text .fetch).toList == [98, 114, 105, 110, 103]) = false := by simp [Mk.Wd.text]

set_option maxRecDepth 100000 in
set_option maxHeartbeats 2000000 in
theorem money_pay (p g len cap : Nat) (b : RB) (M : Mk.Mkt) (who : Nat) (r n : Int) (mc : Bool) (w : World) (hM : M.Fine) (hR : Ref w p b M) (hw : who < 4) (hn : 0 ≤ n ∧ n ≤ 9999) (hl : 1 ≤ len) (hg : w.cell? ⟨g, 0, none⟩ = some (.int .i64 n)) :
    Calls Tryz.prog 79 #[.pointer (some ⟨p, 0, none⟩), cmdV who r .pay (.slice (some ⟨g, 0, none⟩) len cap) mc] w fun e w' => Does p b (Mk.payM M who n) w e w' := by
  have HM : Hid M.Fine := hM
  have HR : Hid (Ref w p b M) := hR
  have hgl := blk_lt hg
  have hpl := hR.box.lt
  have hl' : (0 : Int) < (len : Int) := by omega
  have hw' : (who : Int) < 4 := by omega
  have f0 := hR.box.cell (i := 0) (by omega)
  have f2 := hR.box.cell (i := 2) (by omega)
  simp only [mktF] at f0 f2
  have hcl := hR.cash.lt
  have HBd : Hid (∀ c, c < 4 → 0 ≤ M.cf c ∧ M.cf c ≤ 9999 ∧ 0 ≤ M.ch c ∧ M.ch c ≤ 9999) := fun c hc => ⟨(hM.cf c hc).1, (hM.cf c hc).2, (hM.ch c hc).1, (hM.ch c hc).2⟩
  have tb := totTo_bd HBd.out 4 (by omega)
  have hb := hM.house
  have HAl : Hid (∀ ob, Below w.heap.size w (w.alloc ob)) := fun ob => (Below.refl _ _).alloc (Nat.le_refl _) ob
  have ht := txt_pay
  clear hM hR
  go_enter Tryz.func79, Tryz.ntmps79
  go_wp2_with fail
  have HR1 : Hid (Ref (w.alloc (.cells #[.int .i64 (who : Int), .int .i64 r, .string (Mk.Wd.text .pay), .slice (some ⟨g, 0, none⟩) len cap, .bool mc] 83)) p b M) := HR.out.below (HAl.out _)
  refine (total_any b.bC M.cf M.ch _ HBd.out HR1.out.cash).mono ?_
  rintro e w2 ⟨rfl, m, hw2⟩
  have hb2 : Below w.heap.size w w2 := by rw [hw2]; exact below_drewN (HAl.out _) m
  have x0 : w2.cell? ⟨w.heap.size, 0, none⟩ = some (.int .i64 (who : Int)) := by rw [hw2]; simp
  have HR2 : Hid (Ref w2 p b M) := HR.out.below hb2
  have HB2 : Hid (Below w.heap.size w w2) := hb2
  clear hw2 hb2 f0 f2
  have f0 := HR2.out.box.cell (i := 0) (by omega)
  have f2 := HR2.out.box.cell (i := 2) (by omega)
  simp only [mktF] at f0 f2
  have a0 := HR2.out.cash.cell (i := who * 2) (by omega)
  rw [purseF_0] at a0
  have z0 := HR2.out.cash.frozen (who * 2)
  have bf := HM.out.cf who hw
  by_cases hbig : 9999 < totTo M.cf M.ch 4 + M.house + n
  · have HX : Hid (Mk.payM M who n = (6, M)) := if_pos hbig
    go_wp2_with fail
    go_ret
    exact ⟨by rw [HX.out]; rfl, by rw [HX.out]; exact HR2.out, Only.of_below HB2.out⟩
  · have HX : Hid (Mk.payM M who n = (0, { M with cf := upd M.cf who (M.cf who + n) })) := if_neg hbig
    go_wp2_with fail
    go_region
    go_wp2_with fail
    go_ret
    refine ⟨by rw [HX.out]; rfl, by rw [HX.out]; exact (HR2.out.setCf who _).below (Below.refl _ _).drew, ?_⟩
    exact ((Only.of_below HB2.out).set (.inr (.inl rfl)) _).next (Below.refl _ _).drew

end Go.Proofs.YtmebcdpdpcpnmaaGreatDoor

/- Plain mathematics of the document's market: what a command that was read is like. -/
namespace Mk

theorem fitTo_yes {l : List ByteArray} {d : Wd} : ∀ {m k : Nat}, fitTo l d m = true → k < m → numB (wrd l k) (nth d.lo k) (nth d.hi k) = true
  | 0, k, _, hk => by omega
  | m + 1, k, h, hk => by
    simp only [fitTo, Bool.and_eq_true] at h
    by_cases e : k = m
    · subst e; exact h.2
    · exact fitTo_yes h.1 (by omega)
theorem numB_le {s : ByteArray} {lo hi : Nat} (h : numB s lo hi = true) : lo ≤ numV s ∧ numV s ≤ hi := by
  simp only [numB, Bool.and_eq_true, decide_eq_true_eq] at h
  exact ⟨h.1.2, h.2⟩

structure Cmd.Ok (c : Cmd) : Prop where
  who : c.who < 4
  r : 1 ≤ c.r ∧ c.r ≤ 99
  len : c.n.length = c.d.lo.length
  num : ∀ i, i < c.n.length → nth c.d.lo i ≤ nth c.n i ∧ nth c.n i ≤ nth c.d.hi i

theorem read_ok {s : ByteArray} {c : Cmd} (h : readP s = some c) : c.Ok ∧ s.size ≤ 20 := by
  unfold readP at h
  split at h
  · cases h
  · rename_i h20
    split at h
    · cases h
    · split at h
      · cases h
      · rename_i d hd
        split at h
        · rename_i hc
          simp only [Bool.and_eq_true] at hc
          obtain ⟨⟨⟨h0, h1⟩, _⟩, hf⟩ := hc
          cases h
          simp only [fits, Bool.and_eq_true, decide_eq_true_eq] at hf
          refine ⟨⟨?_, ?_, ?_, ?_⟩, by omega⟩
          · have := numB_le h0; show numV _ < 4; omega
          · exact numB_le h1
          · show (List.map numV _).length = _; rw [List.length_map]; exact hf.1
          · intro i hi
            have hi' : i < (args d ((words s).drop 3)).length := by simpa using hi
            have := numB_le (fitTo_yes hf.2 hi')
            rw [wrd_at hi'] at this
            show nth d.lo i ≤ nth (List.map numV _) i ∧ nth (List.map numV _) i ≤ nth d.hi i
            rw [nth_at (l := List.map numV (args d ((words s).drop 3))) (by rw [List.length_map]; exact hi')]
            simpa using this
        · cases h

end Mk

/- Plain mathematics of the law: does a text have a word in it? -/
namespace Mk

def hasAt (s w : ByteArray) (i : Nat) : Bool := (s.extract i (i + w.size)).toList == w.toList
def hasTo (s w : ByteArray) : Nat → Bool
  | 0 => false
  | k + 1 => hasTo s w k || hasAt s w k
/-- does a text have a word in it? -/
def has (s w : ByteArray) : Bool := decide (w.size ≤ s.size) && hasTo s w (s.size - w.size + 1)

theorem hasTo_at {s w : ByteArray} : ∀ {k i : Nat}, i < k → hasAt s w i = true → hasTo s w k = true
  | 0, i, h, _ => by omega
  | k + 1, i, h, hi => by
    simp only [hasTo, Bool.or_eq_true]
    by_cases e : i = k
    · subst e; exact .inr hi
    · exact .inl (hasTo_at (by omega) hi)

/-- a piece of a text -/
def Piece (s x : ByteArray) : Prop := ∃ a, a + x.size ≤ s.size ∧ s.extract a (a + x.size) = x
theorem piece_extract (s : ByteArray) {a b : Nat} (h : a ≤ b) (hb : b ≤ s.size) : Piece s (s.extract a b) := by
  have e : (s.extract a b).size = b - a := by rw [ByteArray.size_extract]; omega
  exact ⟨a, by omega, by rw [e, show a + (b - a) = b by omega]⟩
theorem cutTo_piece (s : ByteArray) : ∀ k, k ≤ s.size → ∀ x ∈ (cutTo s k).1, Piece s x
  | 0, _, x, hx => by simp [cutTo] at hx
  | k + 1, hk, x, hx => by
    simp only [cutTo] at hx
    split at hx
    · rcases List.mem_append.1 hx with h | h
      · exact cutTo_piece s k (by omega) x h
      · rw [List.mem_singleton.1 h]; exact piece_extract s (cutTo_le s k).1 (by omega)
    · exact cutTo_piece s k (by omega) x hx
theorem words_piece {s x : ByteArray} (h : x ∈ words s) : Piece s x := by
  rcases List.mem_append.1 h with h | h
  · exact cutTo_piece s _ (Nat.le_refl _) x h
  · rw [List.mem_singleton.1 h]; exact piece_extract s (cutTo_le s _).1 (Nat.le_refl _)
theorem Piece.has {s x w : ByteArray} (h : Piece s x) (hw : x.toList = w.toList) : has s w = true := by
  obtain ⟨a, ha, he⟩ := h
  have hsz : x.size = w.size := by
    have h1 : x.toList.length = w.toList.length := by rw [hw]
    rw [Go.Lib.toList_data, Go.Lib.toList_data] at h1
    simpa using h1
  have h1 : hasAt s w a = true := by
    unfold hasAt
    rw [← hsz, he, hw]
    simp
  unfold Mk.has
  rw [Bool.and_eq_true, decide_eq_true_eq]
  exact ⟨by omega, hasTo_at (by omega) h1⟩
theorem wd_is {s : ByteArray} {d : Wd} (h : wd s = some d) : isW s d = true := by
  unfold wd at h
  repeat (split at h; · rename_i hh; cases h; exact hh)
  cases h
/-- a text that is a command has its word in it -/
theorem read_has {s : ByteArray} {c : Cmd} (h : readP s = some c) : has s c.d.text = true := by
  have h0 := h
  unfold readP at h
  split at h
  · cases h
  · split at h
    · cases h
    · rename_i hl
      split at h
      · cases h
      · rename_i d hd
        split at h
        · cases h
          have h2 : 2 < (words s).length := by omega
          have hp : Piece s (wrd (words s) 2) := by rw [wrd_at h2]; exact words_piece (List.getElem_mem h2)
          have hw := wd_is hd
          simp only [isW, beq_iff_eq] at hw
          exact hp.has hw
        · cases h

end Mk

/- Plain mathematics of the program's way of reading a command: word by word. -/
namespace Mk

theorem bt_extract {s : ByteArray} {a k : Nat} (h : a + k < s.size) : bt (s.extract a s.size) k = bt s (a + k) := by
  have h1 : k < (s.extract a s.size).size := by rw [ByteArray.size_extract]; omega
  rw [← bt_at h1, ← bt_at h, ByteArray.getElem_extract]
theorem extract_two (s : ByteArray) (a b c : Nat) (h : a + c ≤ s.size) : (s.extract a s.size).extract b c = s.extract (a + b) (a + c) := by
  rw [ByteArray.extract_extract, Nat.min_eq_left h]
theorem cutTo_none {s : ByteArray} : ∀ k, (∀ j, j < k → bt s j ≠ 32) → cutTo s k = ([], 0)
  | 0, _ => rfl
  | k + 1, h => by rw [cutTo_no (h k (by omega))]; exact cutTo_none k (fun j hj => h j (by omega))
theorem cutTo_behind {s : ByteArray} {i : Nat} (hb : bt s i = 32) (hn : ∀ j, j < i → bt s j ≠ 32) : ∀ k, i + 1 + k ≤ s.size →
    cutTo s (i + 1 + k) = (s.extract 0 i :: (cutTo (s.extract (i + 1) s.size) k).1, i + 1 + (cutTo (s.extract (i + 1) s.size) k).2)
  | 0, _ => by
    show cutTo s (i + 1) = _
    rw [cutTo_yes hb, cutTo_none i hn]
    rfl
  | k + 1, h => by
    have ih := cutTo_behind hb hn k (by omega)
    have e : bt (s.extract (i + 1) s.size) k = bt s (i + 1 + k) := bt_extract (by omega)
    have hle := (cutTo_le (s.extract (i + 1) s.size) k).1
    by_cases h32 : bt s (i + 1 + k) = 32
    · rw [show i + 1 + (k + 1) = (i + 1 + k) + 1 by omega, cutTo_yes h32, ih, cutTo_yes (s := s.extract (i + 1) s.size) (e.trans h32), extract_two s (i + 1) _ k (by omega)]
      simp
      omega
    · rw [show i + 1 + (k + 1) = (i + 1 + k) + 1 by omega, cutTo_no h32, ih, cutTo_no (s := s.extract (i + 1) s.size) (by rw [e]; exact h32)]
/-- the words of a text whose first blank is at i -/
theorem words_at {s : ByteArray} {i : Nat} (hi : i < s.size) (hb : bt s i = 32) (hn : ∀ j, j < i → bt s j ≠ 32) : words s = s.extract 0 i :: words (s.extract (i + 1) s.size) := by
  have hz : (s.extract (i + 1) s.size).size = s.size - (i + 1) := by rw [ByteArray.size_extract]; omega
  have h := cutTo_behind hb hn (s.size - (i + 1)) (by omega)
  rw [show i + 1 + (s.size - (i + 1)) = s.size by omega] at h
  have hle := (cutTo_le (s.extract (i + 1) s.size) (s.size - (i + 1))).1
  unfold words
  rw [hz, h, extract_two s (i + 1) _ _ (by omega), show i + 1 + (s.size - (i + 1)) = s.size by omega]
  simp
/-- .. that has none -/
theorem words_one {s : ByteArray} (hn : ∀ j, j < s.size → bt s j ≠ 32) : words s = [s] := by
  unfold words
  rw [cutTo_none s.size hn]
  simp

theorem numTo_mono (s : ByteArray) (j : Nat) : ∀ k, j ≤ k → numTo s j ≤ numTo s k
  | 0, h => by have : j = 0 := by omega
               subst this; exact Nat.le_refl _
  | k + 1, h => by
    by_cases e : j = k + 1
    · subst e; exact Nat.le_refl _
    · have := numTo_mono s j k (by omega)
      simp only [numTo]
      omega
theorem numTo_ge {s : ByteArray} (h0 : 49 ≤ bt s 0) : ∀ k, 10 ^ k ≤ numTo s (k + 1)
  | 0 => by simp [numTo]; omega
  | k + 1 => by
    have ih := numTo_ge h0 k
    show 10 ^ (k + 1) ≤ numTo s (k + 1) * 10 + (bt s (k + 1) - 48)
    rw [Nat.pow_succ]
    omega
/-- digits that tell no more than 9999, and no nought ahead: a number -/
theorem numOk_of {s : ByteArray} (h1 : 1 ≤ s.size) (h3 : ¬ (bt s 0 = 48 ∧ 1 < s.size)) (h4 : digs s s.size = true) (h9 : numTo s s.size ≤ 9999) : numOk s = true := by
  refine numOk_yes h1 ?_ h3 h4
  refine Nat.le_of_not_lt (fun h5 => ?_)
  have hd : ∀ k, 1 ≤ k → digs s k = true → isD s 0 = true := by
    intro k
    induction k with
    | zero => intro h _; omega
    | succ k ih =>
      intro _ h
      simp only [digs, Bool.and_eq_true] at h
      by_cases e : k = 0
      · subst e; exact h.2
      · exact ih (by omega) h.1
  have h0 := hd s.size h1 h4
  simp only [isD, Bool.and_eq_true, decide_eq_true_eq] at h0
  have h49 : 49 ≤ bt s 0 := by
    have : bt s 0 ≠ 48 := fun e => h3 ⟨e, by omega⟩
    omega
  have hge : 10 ^ 4 ≤ numTo s 5 := numTo_ge h49 4
  have := numTo_mono s 5 s.size (by omega)
  omega

/-- what the program's readNumber answers -/
def rdOk (s : ByteArray) (hi : Nat) : Bool := numOk s && decide (numTo s s.size ≤ hi)
def rdV (s : ByteArray) (hi : Nat) : Nat := if rdOk s hi then numTo s s.size else 0
theorem rd_numB (s : ByteArray) (lo hi : Nat) : numB s lo hi = (rdOk s hi && decide (lo ≤ rdV s hi)) ∧ (numB s lo hi = true → rdV s hi = numV s) := by
  unfold numB rdV rdOk numV
  by_cases h : numOk s = true
  · simp only [h, Bool.true_and, if_true]
    by_cases h2 : numTo s s.size ≤ hi
    · simp [h2]
    · simp [h2]
  · have h' : numOk s = false := by simpa using h
    simp [h']
theorem rd_long {s : ByteArray} {hi k : Nat} (hk : k ≤ s.size) (h : hi < numTo s k) : rdOk s hi = false := by
  have := numTo_mono s k s.size hk
  unfold rdOk
  have : decide (numTo s s.size ≤ hi) = false := by rw [decide_eq_false_iff_not]; omega
  rw [this, Bool.and_false]
theorem rd_no {s : ByteArray} {hi : Nat} (h : numOk s = false) : rdOk s hi = false := by unfold rdOk; rw [h, Bool.false_and]

/-- the first of some words -/
def hd (l : List ByteArray) : ByteArray := l.headD ⟨#[]⟩
/-- a number, read off the first word: is it one; which -/
def ng (l : List ByteArray) (lo hi : Nat) : Bool := numB (hd l) lo hi
def nv (l : List ByteArray) (lo hi : Nat) : Nat := if ng l lo hi then numV (hd l) else 0
/-- a mode's letter -/
def mg (l : List ByteArray) : Bool := isU (hd l) || isM (hd l)
def mv (l : List ByteArray) : Bool := isM (hd l)
def some' (l : List ByteArray) : Bool := !l.isEmpty
theorem ng_nil (lo hi : Nat) : ng [] lo hi = false := by
  unfold ng numB
  rw [numOk_no (.inl rfl)]
  rfl
theorem mg_nil : mg [] = false := by
  unfold mg isU isM hd
  simp [bu, bm]

/-- what belongs to a word: the good of it, and what is left behind it -/
def rG (d : Wd) (l : List ByteArray) : Bool :=
  match d with
  | .pay => ng l 1 9999
  | .draw => ng l 1 9999
  | .bring => ng l 0 1 && ng l.tail 1 999
  | .fetch => ng l 0 1 && ng l.tail 1 999
  | .buy => ng l 0 1 && ng l.tail 1 99 && ng l.tail.tail 1 20
  | .sell => ng l 0 1 && ng l.tail 1 99 && ng l.tail.tail 1 20
  | .drop => ng l 0 1 && ng l.tail 0 11
  | .mode => ng l 0 1 && mg l.tail
  | .close => ng l 0 1
def rL (d : Wd) (l : List ByteArray) : List ByteArray :=
  match d with
  | .pay => l.tail
  | .draw => l.tail
  | .bring => l.tail.tail
  | .fetch => l.tail.tail
  | .buy => l.tail.tail.tail
  | .sell => l.tail.tail.tail
  | .drop => l.tail.tail
  | .mode => l.tail.tail
  | .close => l.tail
/-- the numbers of a request: voyage, amount, price, quantity, order; its mode -/
def rV (d : Wd) (l : List ByteArray) : Nat :=
  match d with
  | .pay => 0
  | .draw => 0
  | _ => nv l 0 1
def rA (d : Wd) (l : List ByteArray) : Nat :=
  match d with
  | .pay => nv l 1 9999
  | .draw => nv l 1 9999
  | .bring => nv l.tail 1 999
  | .fetch => nv l.tail 1 999
  | _ => 0
def rP (d : Wd) (l : List ByteArray) : Nat :=
  match d with
  | .buy => nv l.tail 1 99
  | .sell => nv l.tail 1 99
  | _ => 0
def rQ (d : Wd) (l : List ByteArray) : Nat :=
  match d with
  | .buy => nv l.tail.tail 1 20
  | .sell => nv l.tail.tail 1 20
  | _ => 0
def rO (d : Wd) (l : List ByteArray) : Nat :=
  match d with
  | .drop => nv l.tail 0 11
  | _ => 0
def rM (d : Wd) (l : List ByteArray) : Bool :=
  match d with
  | .mode => mv l.tail
  | _ => false

/-- the same of a command that was read -/
def Cmd.voy (c : Cmd) : Nat :=
  match c.d with
  | .pay => 0
  | .draw => 0
  | _ => nth c.n 0
def Cmd.amt (c : Cmd) : Nat :=
  match c.d with
  | .pay => nth c.n 0
  | .draw => nth c.n 0
  | .bring => nth c.n 1
  | .fetch => nth c.n 1
  | _ => 0
def Cmd.pri (c : Cmd) : Nat :=
  match c.d with
  | .buy => nth c.n 1
  | .sell => nth c.n 1
  | _ => 0
def Cmd.qty (c : Cmd) : Nat :=
  match c.d with
  | .buy => nth c.n 2
  | .sell => nth c.n 2
  | _ => 0
def Cmd.ord (c : Cmd) : Nat :=
  match c.d with
  | .drop => nth c.n 1
  | _ => 0

/-- is the whole a command? -/
def okY (d : Wd) (l : List ByteArray) : Bool := ng l 0 3 && ng l.tail 1 99 && some' l.tail.tail && rG d l.tail.tail.tail && (rL d l.tail.tail.tail).isEmpty

theorem hd_cons (x : ByteArray) (l : List ByteArray) : hd (x :: l) = x := rfl
theorem ng_cons (x : ByteArray) (l : List ByteArray) (lo hi : Nat) : ng (x :: l) lo hi = numB x lo hi := rfl
theorem mg_cons (x : ByteArray) (l : List ByteArray) : mg (x :: l) = (isU x || isM x) := rfl
theorem wrd0 (x : ByteArray) (l : List ByteArray) : wrd (x :: l) 0 = x := rfl
theorem wrd1 (x y : ByteArray) (l : List ByteArray) : wrd (x :: y :: l) 1 = y := rfl
theorem wrd2 (x y z : ByteArray) (l : List ByteArray) : wrd (x :: y :: z :: l) 2 = z := rfl

/-- the document's and the program's view of what stands behind a word -/
theorem rest_same (d : Wd) (l : List ByteArray) : (modeOk d l && fits (args d l) d) = (rG d l && (rL d l).isEmpty) := by
  have hn := fun lo hi => ng_nil lo hi
  have hm := mg_nil
  cases d
  all_goals
    rcases l with _ | ⟨a, _ | ⟨b, _ | ⟨c, _ | ⟨e, l⟩⟩⟩⟩
    all_goals first
      | (simp [modeOk, fits, args, fitTo, Wd.isMode, Wd.lo, Wd.hi, rG, rL, hn, hm, ng_cons, mg_cons, wrd0, wrd1, wrd2, nth]; done)
      | (simp [modeOk, fits, args, fitTo, Wd.isMode, Wd.lo, Wd.hi, rG, rL, ng_cons, mg_cons, wrd0, wrd1, nth]; rw [Bool.and_comm])
theorem rest_c (a b : ByteArray) : modeIs .mode [a, b] = isM b := rfl

/-- a text whose third word is a word of the document's -/
theorem read_as {s : ByteArray} {d : Wd} (h20 : s.size ≤ 20) (hd' : wd (hd (words s).tail.tail) = some d) (h3 : some' (words s).tail.tail = true) :
    (okY d (words s) = false → readP s = none) ∧ (okY d (words s) = true → ∃ c, readP s = some c ∧ c.d = d ∧ c.who = nv (words s) 0 3 ∧ c.r = nv (words s).tail 1 99 ∧
      c.voy = rV d (words s).tail.tail.tail ∧ c.amt = rA d (words s).tail.tail.tail ∧ c.pri = rP d (words s).tail.tail.tail ∧ c.qty = rQ d (words s).tail.tail.tail ∧ c.ord = rO d (words s).tail.tail.tail ∧ c.mc = rM d (words s).tail.tail.tail) := by
  have h0 : ¬ 20 < s.size := by omega
  rcases hw : words s with _ | ⟨x, _ | ⟨y, _ | ⟨z, l⟩⟩⟩
  · rw [hw] at h3; cases h3
  · rw [hw] at h3; cases h3
  · rw [hw] at h3; cases h3
  · rw [hw] at hd'
    have hd2 : wd (wrd (words s) 2) = some d := by rw [hw]; exact hd'
    have h1 : ¬ (words s).length < 3 := by rw [hw]; simp
    have he : (numB (wrd (words s) 0) 0 3 && numB (wrd (words s) 1) 1 99 && modeOk d ((words s).drop 3) && fits (args d ((words s).drop 3)) d) = okY d (words s) := by
      rw [hw]
      show (numB x 0 3 && numB y 1 99 && modeOk d l && fits (args d l) d) = (numB x 0 3 && numB y 1 99 && true && rG d l && (rL d l).isEmpty)
      rw [Bool.and_assoc, rest_same, Bool.and_true, Bool.and_assoc, Bool.and_assoc, Bool.and_assoc]
    rw [hw] at he
    refine ⟨fun hf => read_no hd2 (by rw [hw, he]; exact hf), fun ht => ?_⟩
    have hr := read_yes h0 h1 hd2 (by rw [hw, he]; exact ht)
    rw [hw] at hr
    refine ⟨_, hr, rfl, ?_⟩
    have ht' : (numB x 0 3 && numB y 1 99 && true && rG d l && (rL d l).isEmpty) = true := ht
    simp only [Bool.and_eq_true] at ht'
    obtain ⟨⟨⟨⟨q0, q1⟩, _⟩, qg⟩, ql⟩ := ht'
    have e0 : nv (x :: y :: z :: l) 0 3 = numV x := if_pos q0
    have e1 : nv (y :: z :: l) 1 99 = numV y := if_pos q1
    refine ⟨e0.symm, e1.symm, ?_⟩
    show _ ∧ _ ∧ _ ∧ _ ∧ _ ∧ _
    clear hr he hd2 h1 hw ht e0 e1
    cases d
    all_goals
      rcases l with _ | ⟨a, _ | ⟨b, _ | ⟨c, _ | ⟨e, l⟩⟩⟩⟩
      all_goals simp [rG, rL, ng_nil, mg_nil, ng_cons, mg_cons] at qg ql
      all_goals simp [Cmd.voy, Cmd.amt, Cmd.pri, Cmd.qty, Cmd.ord, rV, rA, rP, rQ, rO, rM, nv, ng, hd_cons, mv, modeIs, Wd.isMode, args, nth, wrd, qg]
/-- .. is none -/
theorem read_word {s : ByteArray} (hd' : wd (hd (words s).tail.tail) = none) : readP s = none := by
  rcases hw : words s with _ | ⟨x, _ | ⟨y, _ | ⟨z, l⟩⟩⟩
  · exact read_few (by rw [hw]; simp)
  · exact read_few (by rw [hw]; simp)
  · exact read_few (by rw [hw]; simp)
  · rw [hw] at hd'
    exact read_noword (by rw [hw]; exact hd')
theorem read_short {s : ByteArray} (h : some' (words s).tail.tail = false) : readP s = none := by
  rcases hw : words s with _ | ⟨x, _ | ⟨y, _ | ⟨z, l⟩⟩⟩
  · exact read_few (by rw [hw]; simp)
  · exact read_few (by rw [hw]; simp)
  · exact read_few (by rw [hw]; simp)
  · rw [hw] at h; cases h

end Mk

/- strconv.Itoa at this dump: laid by program. -/
namespace Go.Proofs
open Go.Shelf
def Tryz.laysM171_ren : Go.Shelf.Ren := ⟨fun | 171 => 52 | 243 => 85 | 246 => 111 | 283 => 127 | 284 => 128 | 285 => 129 | 286 => 130 | 129 => 133 | 317 => 132 | 318 => 134 | 319 => 135 | 320 => 136 | 337 => 137 | 338 => 138 | n => n, fun | 3 => 3 | 9 => 9 | 2 => 2 | 4 => 4 | 171 => 184 | 0 => 0 | 53 => 185 | 37 => 114 | 5 => 5 | 173 => 188 | 212 => 192 | 51 => 193 | 20 => 20 | 213 => 194 | 46 => 195 | 232 => 198 | 233 => 199 | n => n, fun | 17 => 0 | 18 => 1 | 19 => 2 | n => n⟩
theorem Tryz.laysM171 : Go.Proofs.LaysM.n171 Tryz.prog Tryz.laysM171_ren := {
  mixed := by kernel_rfl
  f129 := Tryz.func133.trans (congrArg some (by kernel_rfl))
  f171 := Tryz.func52.trans (congrArg some (by kernel_rfl))
  f243 := Tryz.func85.trans (congrArg some (by kernel_rfl))
  f246 := Tryz.func111.trans (congrArg some (by kernel_rfl))
  f283 := Tryz.func127.trans (congrArg some (by kernel_rfl))
  f284 := Tryz.func128.trans (congrArg some (by kernel_rfl))
  f285 := Tryz.func129.trans (congrArg some (by kernel_rfl))
  f286 := Tryz.func130.trans (congrArg some (by kernel_rfl))
  f317 := Tryz.func132.trans (congrArg some (by kernel_rfl))
  f318 := Tryz.func134.trans (congrArg some (by kernel_rfl))
  f319 := Tryz.func135.trans (congrArg some (by kernel_rfl))
  f320 := Tryz.func136.trans (congrArg some (by kernel_rfl))
  f337 := Tryz.func137.trans (congrArg some (by kernel_rfl))
  f338 := Tryz.func138.trans (congrArg some (by kernel_rfl))
  t0 := Tryz.underlying0
  a0 := Tryz.isAgg0
  z0 := Tryz.sizeOf0
  v0 := Tryz.zeroValue0
  t2 := Tryz.underlying2
  a2 := Tryz.isAgg2
  z2 := Tryz.sizeOf2
  v2 := Tryz.zeroValue2
  t3 := Tryz.underlying3
  a3 := Tryz.isAgg3
  z3 := Tryz.sizeOf3
  v3 := Tryz.zeroValue3
  t4 := Tryz.underlying4
  a4 := Tryz.isAgg4
  z4 := Tryz.sizeOf4
  v4 := Tryz.zeroValue4
  t5 := Tryz.underlying5
  a5 := Tryz.isAgg5
  z5 := Tryz.sizeOf5
  v5 := Tryz.zeroValue5
  t9 := Tryz.underlying9
  a9 := Tryz.isAgg9
  z9 := Tryz.sizeOf9
  v9 := Tryz.zeroValue9
  t20 := Tryz.underlying20
  a20 := Tryz.isAgg20
  z20 := Tryz.sizeOf20
  v20 := Tryz.zeroValue20
  t37 := Tryz.underlying114
  a37 := Tryz.isAgg114
  z37 := Tryz.sizeOf114
  v37 := Tryz.zeroValue114
  t46 := Tryz.underlying195
  a46 := Tryz.isAgg195
  z46 := Tryz.sizeOf195
  v46 := Tryz.zeroValue195
  t51 := Tryz.underlying193
  a51 := Tryz.isAgg193
  z51 := Tryz.sizeOf193
  v51 := Tryz.zeroValue193
  t53 := Tryz.underlying185
  a53 := Tryz.isAgg185
  z53 := Tryz.sizeOf185
  v53 := Tryz.zeroValue185
  t171 := Tryz.underlying184
  a171 := Tryz.isAgg184
  z171 := Tryz.sizeOf184
  v171 := Tryz.zeroValue184
  t173 := Tryz.underlying188
  a173 := Tryz.isAgg188
  z173 := Tryz.sizeOf188
  v173 := Tryz.zeroValue188
  t212 := Tryz.underlying192
  a212 := Tryz.isAgg192
  z212 := Tryz.sizeOf192
  v212 := Tryz.zeroValue192
  t213 := Tryz.underlying194
  a213 := Tryz.isAgg194
  z213 := Tryz.sizeOf194
  t232 := Tryz.underlying198
  a232 := Tryz.isAgg198
  z232 := Tryz.sizeOf198
  v232 := Tryz.zeroValue198
  t233 := Tryz.underlying199
  a233 := Tryz.isAgg199
  z233 := Tryz.sizeOf199
  v233 := Tryz.zeroValue199
  g17 := by kernel_rfl
  g18 := by kernel_rfl
  g19 := by kernel_rfl
  i0 := by kernel_rfl
  i2 := by kernel_rfl
  i3 := by kernel_rfl
  i4 := by kernel_rfl
  i5 := by kernel_rfl
  i9 := by kernel_rfl
  i20 := by kernel_rfl
  i37 := by kernel_rfl
  i46 := by kernel_rfl
  i51 := by kernel_rfl
  i53 := by kernel_rfl
  i171 := by kernel_rfl
  i173 := by kernel_rfl
  i212 := by kernel_rfl
  i232 := by kernel_rfl
  i233 := by kernel_rfl
  m17 := by kernel_rfl
  m18 := by kernel_rfl
  m19 := by kernel_rfl }
open Go.RowKit Go.Sort Go.Lib in
theorem Tryz.strconv_Itoa (n : Int) (h0 : -9223372036854775808 ≤ n) (h1 : n ≤ 9223372036854775807) (w : World) (htab : Lib.TabIs Tryz.prog w "internal/strconv.uint64pow10" .u64 Lib.pow10Tab) :
    Calls Tryz.prog 52 #[.int .i64 n] w fun e w' => e = .returned (.string ⟨(Lib.itoa n).toArray⟩) ∧ ∃ k os, w' = grow (w.drewN k) os := Any.strconv_Itoa Tryz.laysM171 n h0 h1 w htab
end Go.Proofs
