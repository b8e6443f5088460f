import Derived.Test.YtmebcdpdpcpnmaaGreatDoorJ9
import Derived.BigRegion
namespace Go.Proofs.YtmebcdpdpcpnmaaGreatDoor
open Go.RowKit

/-- what a block is a row of -/
def Kind (w : World) (k t : Nat) : Prop := ∃ c, w.heap[k]? = some (.cells c t (0, 0))
theorem Kind.ne {w : World} {k k' t t' : Nat} (h : Kind w k t) (h' : Kind w k' t') (hne : t ≠ t') : k ≠ k' := by
  rintro rfl
  obtain ⟨c, hc⟩ := h
  obtain ⟨c', hc'⟩ := h'
  rw [hc] at hc'
  simp at hc'
  exact hne hc'.2
theorem row_kind {w : World} {k t n : Nat} {f : Nat → Value} (h : w.rowIs k t n f) : Kind w k t := by obtain ⟨c, hc, _⟩ := h; exact ⟨c, hc⟩
theorem own_kind' {w : World} {base e size n : Nat} {v : Value} {xs : List Value} (h : w.ownsRow base e size v n xs) {g : Nat} (hg : v.ownBlock = some g) : Kind w g e := own_kind h hg
theorem own_set {w : World} {base e size n k i t : Nat} {v u : Value} {xs : List Value} (h : w.ownsRow base e size v n xs) (hk : Kind w k t) (hne : t ≠ e) : (w.setCell ⟨k, i, none⟩ u).ownsRow base e size v n xs :=
  own_block h (fun g hg => Below.heap_setCell w _ u g (fun e' => hk.ne (own_kind' h hg) hne e'.symm))

def upd {α : Type} (f : Nat → α) (i : Nat) (x : α) (j : Nat) : α := if j = i then x else f j
theorem purse_set0 (f h : Nat → Int) (c : Nat) (x : Int) (j : Nat) : (if j = c * 2 then Value.int .i64 x else purseF f h j) = purseF (upd f c x) h j := by
  unfold purseF upd
  by_cases e : j = c * 2
  · rw [if_pos e, if_pos (by omega), if_pos (by omega)]
  · rw [if_neg e]
    by_cases m : j % 2 = 0
    · rw [if_pos m, if_pos m, if_neg (by omega)]
    · rw [if_neg m, if_neg m]
theorem purse_set1 (f h : Nat → Int) (c : Nat) (x : Int) (j : Nat) : (if j = c * 2 + 1 then Value.int .i64 x else purseF f h j) = purseF f (upd h c x) j := by
  unfold purseF upd
  by_cases e : j = c * 2 + 1
  · rw [if_pos e, if_neg (by omega), if_pos (by omega)]
  · rw [if_neg e]
    by_cases m : j % 2 = 0
    · rw [if_pos m, if_pos m]
    · rw [if_neg m, if_neg m, if_neg (by omega)]

section
variable {w : World} {p : Nat} {b : RB} {M : Mk.Mkt}
theorem Ref.setHouse (h : Ref w p b M) (x : Int) : Ref (w.setCell ⟨p, 2, none⟩ (.int .i64 x)) p b { M with house := x } :=
  ⟨(h.box.set 2 _).congr (fun j _ => by match j with | 0 => rfl | 1 => rfl | 2 => rfl | 3 => rfl | 4 => rfl | 5 => rfl | 6 => rfl | 7 => rfl | 8 => rfl | _ + 9 => rfl), h.cash.setOther (Ne.symm ((row_kind h.box).ne (row_kind h.cash) (by decide))) _, h.slots.setOther (Ne.symm ((row_kind h.box).ne (row_kind h.slots) (by decide))) _, fun v hv => (h.sl v hv).setOther (Ne.symm ((row_kind h.box).ne (row_kind (h.sl v hv)) (by decide))) _, h.modes.setOther (Ne.symm ((row_kind h.box).ne (row_kind h.modes) (by decide))) _, h.books.setOther (Ne.symm ((row_kind h.box).ne (row_kind h.books) (by decide))) _, fun v hv => own_set (h.bk v hv) (row_kind h.box) (by decide), h.came.setOther (Ne.symm ((row_kind h.box).ne (row_kind h.came) (by decide))) _, h.lasts.setOther (Ne.symm ((row_kind h.box).ne (row_kind h.lasts) (by decide))) _, h.texts.setOther (Ne.symm ((row_kind h.box).ne (row_kind h.texts) (by decide))) _, h.errs.setOther (Ne.symm ((row_kind h.box).ne (row_kind h.errs) (by decide))) _, h.d1, h.d2, h.e1, h.e2, h.e3, h.vv⟩
theorem Ref.setDisk (h : Ref w p b M) (x : ByteArray) : Ref (w.setCell ⟨p, 9, none⟩ (.string x)) p b { M with disk := x } :=
  ⟨(h.box.set 9 _).congr (fun j hj => by match j, hj with | 0, _ => rfl | 1, _ => rfl | 2, _ => rfl | 3, _ => rfl | 4, _ => rfl | 5, _ => rfl | 6, _ => rfl | 7, _ => rfl | 8, _ => rfl | 9, _ => rfl), h.cash.setOther (Ne.symm ((row_kind h.box).ne (row_kind h.cash) (by decide))) _, h.slots.setOther (Ne.symm ((row_kind h.box).ne (row_kind h.slots) (by decide))) _, fun v hv => (h.sl v hv).setOther (Ne.symm ((row_kind h.box).ne (row_kind (h.sl v hv)) (by decide))) _, h.modes.setOther (Ne.symm ((row_kind h.box).ne (row_kind h.modes) (by decide))) _, h.books.setOther (Ne.symm ((row_kind h.box).ne (row_kind h.books) (by decide))) _, fun v hv => own_set (h.bk v hv) (row_kind h.box) (by decide), h.came.setOther (Ne.symm ((row_kind h.box).ne (row_kind h.came) (by decide))) _, h.lasts.setOther (Ne.symm ((row_kind h.box).ne (row_kind h.lasts) (by decide))) _, h.texts.setOther (Ne.symm ((row_kind h.box).ne (row_kind h.texts) (by decide))) _, h.errs.setOther (Ne.symm ((row_kind h.box).ne (row_kind h.errs) (by decide))) _, h.d1, h.d2, h.e1, h.e2, h.e3, h.vv⟩
theorem Ref.setCf (h : Ref w p b M) (c : Nat) (x : Int) : Ref (w.setCell ⟨b.bC, c * 2, none⟩ (.int .i64 x)) p b { M with cf := upd M.cf c x } :=
  ⟨h.box.setOther (Ne.symm ((row_kind h.cash).ne (row_kind h.box) (by decide))) _, (h.cash.set (c * 2) _).congr (fun j _ => purse_set0 _ _ c x j), h.slots.setOther (Ne.symm ((row_kind h.cash).ne (row_kind h.slots) (by decide))) _, fun v hv => (h.sl v hv).setOther (fun e => h.d1 v hv e.symm) _, h.modes.setOther (Ne.symm ((row_kind h.cash).ne (row_kind h.modes) (by decide))) _, h.books.setOther (Ne.symm ((row_kind h.cash).ne (row_kind h.books) (by decide))) _, fun v hv => own_set (h.bk v hv) (row_kind h.cash) (by decide), h.came.setOther (Ne.symm ((row_kind h.cash).ne (row_kind h.came) (by decide))) _, h.lasts.setOther (Ne.symm ((row_kind h.cash).ne (row_kind h.lasts) (by decide))) _, h.texts.setOther (Ne.symm ((row_kind h.cash).ne (row_kind h.texts) (by decide))) _, h.errs.setOther (Ne.symm ((row_kind h.cash).ne (row_kind h.errs) (by decide))) _, h.d1, h.d2, h.e1, h.e2, h.e3, h.vv⟩
theorem Ref.setCh (h : Ref w p b M) (c : Nat) (x : Int) : Ref (w.setCell ⟨b.bC, c * 2 + 1, none⟩ (.int .i64 x)) p b { M with ch := upd M.ch c x } :=
  ⟨h.box.setOther (Ne.symm ((row_kind h.cash).ne (row_kind h.box) (by decide))) _, (h.cash.set (c * 2 + 1) _).congr (fun j _ => purse_set1 _ _ c x j), h.slots.setOther (Ne.symm ((row_kind h.cash).ne (row_kind h.slots) (by decide))) _, fun v hv => (h.sl v hv).setOther (fun e => h.d1 v hv e.symm) _, h.modes.setOther (Ne.symm ((row_kind h.cash).ne (row_kind h.modes) (by decide))) _, h.books.setOther (Ne.symm ((row_kind h.cash).ne (row_kind h.books) (by decide))) _, fun v hv => own_set (h.bk v hv) (row_kind h.cash) (by decide), h.came.setOther (Ne.symm ((row_kind h.cash).ne (row_kind h.came) (by decide))) _, h.lasts.setOther (Ne.symm ((row_kind h.cash).ne (row_kind h.lasts) (by decide))) _, h.texts.setOther (Ne.symm ((row_kind h.cash).ne (row_kind h.texts) (by decide))) _, h.errs.setOther (Ne.symm ((row_kind h.cash).ne (row_kind h.errs) (by decide))) _, h.d1, h.d2, h.e1, h.e2, h.e3, h.vv⟩
theorem Ref.setSf (h : Ref w p b M) (v0 : Nat) (hv0 : v0 < 2) (c : Nat) (x : Int) : Ref (w.setCell ⟨b.sb v0, c * 2, none⟩ (.int .i64 x)) p b { M with sf := upd M.sf v0 (upd (M.sf v0) c x) } :=
  ⟨h.box.setOther (Ne.symm ((row_kind (h.sl v0 hv0)).ne (row_kind h.box) (by decide))) _, h.cash.setOther (h.d1 v0 hv0) _, h.slots.setOther (Ne.symm ((row_kind (h.sl v0 hv0)).ne (row_kind h.slots) (by decide))) _, fun v hv => by
    by_cases e : v = v0
    · subst e
      refine ((h.sl v hv).set (c * 2) _).congr (fun j _ => ?_)
      rw [purse_set0]
      simp [upd]
    · refine ((h.sl v hv).setOther (show b.sb v ≠ b.sb v0 from fun e' => ?_) _).congr (fun j _ => by simp [upd, e])
      rcases (show v = 0 ∧ v0 = 1 ∨ v = 1 ∧ v0 = 0 by omega) with ⟨rfl, rfl⟩ | ⟨rfl, rfl⟩
      · exact h.d2 e'
      · exact h.d2 e'.symm, h.modes.setOther (Ne.symm ((row_kind (h.sl v0 hv0)).ne (row_kind h.modes) (by decide))) _, h.books.setOther (Ne.symm ((row_kind (h.sl v0 hv0)).ne (row_kind h.books) (by decide))) _, fun v hv => own_set (h.bk v hv) (row_kind (h.sl v0 hv0)) (by decide), h.came.setOther (Ne.symm ((row_kind (h.sl v0 hv0)).ne (row_kind h.came) (by decide))) _, h.lasts.setOther (Ne.symm ((row_kind (h.sl v0 hv0)).ne (row_kind h.lasts) (by decide))) _, h.texts.setOther (Ne.symm ((row_kind (h.sl v0 hv0)).ne (row_kind h.texts) (by decide))) _, h.errs.setOther (Ne.symm ((row_kind (h.sl v0 hv0)).ne (row_kind h.errs) (by decide))) _, h.d1, h.d2, h.e1, h.e2, h.e3, h.vv⟩
theorem Ref.setSh (h : Ref w p b M) (v0 : Nat) (hv0 : v0 < 2) (c : Nat) (x : Int) : Ref (w.setCell ⟨b.sb v0, c * 2 + 1, none⟩ (.int .i64 x)) p b { M with sh := upd M.sh v0 (upd (M.sh v0) c x) } :=
  ⟨h.box.setOther (Ne.symm ((row_kind (h.sl v0 hv0)).ne (row_kind h.box) (by decide))) _, h.cash.setOther (h.d1 v0 hv0) _, h.slots.setOther (Ne.symm ((row_kind (h.sl v0 hv0)).ne (row_kind h.slots) (by decide))) _, fun v hv => by
    by_cases e : v = v0
    · subst e
      refine ((h.sl v hv).set (c * 2 + 1) _).congr (fun j _ => ?_)
      rw [purse_set1]
      simp [upd]
    · refine ((h.sl v hv).setOther (show b.sb v ≠ b.sb v0 from fun e' => ?_) _).congr (fun j _ => by simp [upd, e])
      rcases (show v = 0 ∧ v0 = 1 ∨ v = 1 ∧ v0 = 0 by omega) with ⟨rfl, rfl⟩ | ⟨rfl, rfl⟩
      · exact h.d2 e'
      · exact h.d2 e'.symm, h.modes.setOther (Ne.symm ((row_kind (h.sl v0 hv0)).ne (row_kind h.modes) (by decide))) _, h.books.setOther (Ne.symm ((row_kind (h.sl v0 hv0)).ne (row_kind h.books) (by decide))) _, fun v hv => own_set (h.bk v hv) (row_kind (h.sl v0 hv0)) (by decide), h.came.setOther (Ne.symm ((row_kind (h.sl v0 hv0)).ne (row_kind h.came) (by decide))) _, h.lasts.setOther (Ne.symm ((row_kind (h.sl v0 hv0)).ne (row_kind h.lasts) (by decide))) _, h.texts.setOther (Ne.symm ((row_kind (h.sl v0 hv0)).ne (row_kind h.texts) (by decide))) _, h.errs.setOther (Ne.symm ((row_kind (h.sl v0 hv0)).ne (row_kind h.errs) (by decide))) _, h.d1, h.d2, h.e1, h.e2, h.e3, h.vv⟩
theorem Ref.setMd (h : Ref w p b M) (v : Nat) (x : Bool) : Ref (w.setCell ⟨b.bM, v, none⟩ (.bool x)) p b { M with md := upd M.md v x } :=
  ⟨h.box.setOther (Ne.symm ((row_kind h.modes).ne (row_kind h.box) (by decide))) _, h.cash.setOther (Ne.symm ((row_kind h.modes).ne (row_kind h.cash) (by decide))) _, h.slots.setOther (Ne.symm ((row_kind h.modes).ne (row_kind h.slots) (by decide))) _, fun v hv => (h.sl v hv).setOther (Ne.symm ((row_kind h.modes).ne (row_kind (h.sl v hv)) (by decide))) _, (h.modes.set v _).congr (fun j _ => by by_cases e : j = v <;> simp [upd, e]), h.books.setOther (Ne.symm ((row_kind h.modes).ne (row_kind h.books) (by decide))) _, fun v hv => own_set (h.bk v hv) (row_kind h.modes) (by decide), h.came.setOther (Ne.symm ((row_kind h.modes).ne (row_kind h.came) (by decide))) _, h.lasts.setOther (Ne.symm ((row_kind h.modes).ne (row_kind h.lasts) (by decide))) _, h.texts.setOther (Ne.symm ((row_kind h.modes).ne (row_kind h.texts) (by decide))) _, h.errs.setOther (Ne.symm ((row_kind h.modes).ne (row_kind h.errs) (by decide))) _, h.d1, h.d2, h.e1, h.e2, h.e3, h.vv⟩
theorem Ref.setCm (h : Ref w p b M) (v : Nat) (x : Int) : Ref (w.setCell ⟨b.bCm, v, none⟩ (.int .i64 x)) p b { M with cm := upd M.cm v x } :=
  ⟨h.box.setOther (Ne.symm ((row_kind h.came).ne (row_kind h.box) (by decide))) _, h.cash.setOther (Ne.symm ((row_kind h.came).ne (row_kind h.cash) (by decide))) _, h.slots.setOther (Ne.symm ((row_kind h.came).ne (row_kind h.slots) (by decide))) _, fun v hv => (h.sl v hv).setOther (Ne.symm ((row_kind h.came).ne (row_kind (h.sl v hv)) (by decide))) _, h.modes.setOther (Ne.symm ((row_kind h.came).ne (row_kind h.modes) (by decide))) _, h.books.setOther (Ne.symm ((row_kind h.came).ne (row_kind h.books) (by decide))) _, fun v hv => own_set (h.bk v hv) (row_kind h.came) (by decide), (h.came.set v _).congr (fun j _ => by by_cases e : j = v <;> simp [upd, e]), h.lasts.setOther (Ne.symm h.e1) _, h.texts.setOther (Ne.symm ((row_kind h.came).ne (row_kind h.texts) (by decide))) _, h.errs.setOther (Ne.symm h.e2) _, h.d1, h.d2, h.e1, h.e2, h.e3, h.vv⟩
theorem Ref.setLs (h : Ref w p b M) (c : Nat) (x : Int) : Ref (w.setCell ⟨b.bL, c, none⟩ (.int .i64 x)) p b { M with ls := upd M.ls c x } :=
  ⟨h.box.setOther (Ne.symm ((row_kind h.lasts).ne (row_kind h.box) (by decide))) _, h.cash.setOther (Ne.symm ((row_kind h.lasts).ne (row_kind h.cash) (by decide))) _, h.slots.setOther (Ne.symm ((row_kind h.lasts).ne (row_kind h.slots) (by decide))) _, fun v hv => (h.sl v hv).setOther (Ne.symm ((row_kind h.lasts).ne (row_kind (h.sl v hv)) (by decide))) _, h.modes.setOther (Ne.symm ((row_kind h.lasts).ne (row_kind h.modes) (by decide))) _, h.books.setOther (Ne.symm ((row_kind h.lasts).ne (row_kind h.books) (by decide))) _, fun v hv => own_set (h.bk v hv) (row_kind h.lasts) (by decide), h.came.setOther (h.e1) _, (h.lasts.set c _).congr (fun j _ => by by_cases e : j = c <;> simp [upd, e]), h.texts.setOther (Ne.symm ((row_kind h.lasts).ne (row_kind h.texts) (by decide))) _, h.errs.setOther (Ne.symm h.e3) _, h.d1, h.d2, h.e1, h.e2, h.e3, h.vv⟩
theorem Ref.setTx (h : Ref w p b M) (c : Nat) (x : ByteArray) : Ref (w.setCell ⟨b.bT, c, none⟩ (.string x)) p b { M with tx := upd M.tx c x } :=
  ⟨h.box.setOther (Ne.symm ((row_kind h.texts).ne (row_kind h.box) (by decide))) _, h.cash.setOther (Ne.symm ((row_kind h.texts).ne (row_kind h.cash) (by decide))) _, h.slots.setOther (Ne.symm ((row_kind h.texts).ne (row_kind h.slots) (by decide))) _, fun v hv => (h.sl v hv).setOther (Ne.symm ((row_kind h.texts).ne (row_kind (h.sl v hv)) (by decide))) _, h.modes.setOther (Ne.symm ((row_kind h.texts).ne (row_kind h.modes) (by decide))) _, h.books.setOther (Ne.symm ((row_kind h.texts).ne (row_kind h.books) (by decide))) _, fun v hv => own_set (h.bk v hv) (row_kind h.texts) (by decide), h.came.setOther (Ne.symm ((row_kind h.texts).ne (row_kind h.came) (by decide))) _, h.lasts.setOther (Ne.symm ((row_kind h.texts).ne (row_kind h.lasts) (by decide))) _, (h.texts.set c _).congr (fun j _ => by by_cases e : j = c <;> simp [upd, e]), h.errs.setOther (Ne.symm ((row_kind h.texts).ne (row_kind h.errs) (by decide))) _, h.d1, h.d2, h.e1, h.e2, h.e3, h.vv⟩
theorem Ref.setEr (h : Ref w p b M) (c : Nat) (x : Int) : Ref (w.setCell ⟨b.bE, c, none⟩ (.int .i64 x)) p b { M with er := upd M.er c x } :=
  ⟨h.box.setOther (Ne.symm ((row_kind h.errs).ne (row_kind h.box) (by decide))) _, h.cash.setOther (Ne.symm ((row_kind h.errs).ne (row_kind h.cash) (by decide))) _, h.slots.setOther (Ne.symm ((row_kind h.errs).ne (row_kind h.slots) (by decide))) _, fun v hv => (h.sl v hv).setOther (Ne.symm ((row_kind h.errs).ne (row_kind (h.sl v hv)) (by decide))) _, h.modes.setOther (Ne.symm ((row_kind h.errs).ne (row_kind h.modes) (by decide))) _, h.books.setOther (Ne.symm ((row_kind h.errs).ne (row_kind h.books) (by decide))) _, fun v hv => own_set (h.bk v hv) (row_kind h.errs) (by decide), h.came.setOther (h.e2) _, h.lasts.setOther (h.e3) _, h.texts.setOther (Ne.symm ((row_kind h.errs).ne (row_kind h.texts) (by decide))) _, (h.errs.set c _).congr (fun j _ => by by_cases e : j = c <;> simp [upd, e]), h.d1, h.d2, h.e1, h.e2, h.e3, h.vv⟩
end

end Go.Proofs.YtmebcdpdpcpnmaaGreatDoor

namespace Go.Proofs.YtmebcdpdpcpnmaaGreatDoor
open Go.RowKit

/-- but for the blocks in S nothing that was there has turned -/
structure Only (S : Nat → Prop) (w w' : World) : Prop where
  os : w'.os = w.os
  tape : w'.tape = w.tape
  output : w'.output = w.output
  size : w.heap.size ≤ w'.heap.size
  block : ∀ k, k < w.heap.size → ¬ S k → w'.heap[k]? = w.heap[k]?
section
variable {S S' : Nat → Prop} {w w1 w2 : World}
theorem Only.refl (S : Nat → Prop) (w : World) : Only S w w := ⟨rfl, rfl, rfl, Nat.le_refl _, fun _ _ _ => rfl⟩
theorem Only.of_below (h : Below w.heap.size w w1) : Only S w w1 := ⟨h.os, h.tape, h.output, h.size, fun k hk _ => h.block k hk⟩
theorem Only.trans (h : Only S w w1) (h' : Only S' w1 w2) (hS : ∀ k, k < w.heap.size → S' k → S k) : Only S w w2 :=
  ⟨h'.os.trans h.os, h'.tape.trans h.tape, h'.output.trans h.output, Nat.le_trans h.size h'.size, fun k hk hn => (h'.block k (Nat.lt_of_lt_of_le hk h.size) (fun hs => hn (hS k hk hs))).trans (h.block k hk hn)⟩
theorem Only.next (h : Only S w w1) (hb : Below w1.heap.size w1 w2) : Only S w w2 := h.trans (S' := S) (Only.of_below hb) (fun _ _ h => h)
theorem Only.set (h : Only S w w1) {k i : Nat} (hk : S k) (u : Value) : Only S w (w1.setCell ⟨k, i, none⟩ u) :=
  ⟨h.os, h.tape, h.output, by simpa using h.size, fun j hj hn => (Below.heap_setCell w1 _ u j (fun e => hn (by rw [e]; exact hk))).trans (h.block j hj hn)⟩
end

/-- the four arms of P10 -/
def Mk.payM (M : Mk.Mkt) (c : Nat) (n : Int) : Int × Mk.Mkt := if 9999 < totTo M.cf M.ch 4 + M.house + n then (6, M) else (0, { M with cf := upd M.cf c (M.cf c + n) })
def Mk.drawM (M : Mk.Mkt) (c : Nat) (n : Int) : Int × Mk.Mkt := if M.cf c < n then (5, M) else (0, { M with cf := upd M.cf c (M.cf c - n) })
def Mk.bringM (M : Mk.Mkt) (v c : Nat) (n : Int) : Int × Mk.Mkt := if 999 < totTo (M.sf v) (M.sh v) 4 + n then (6, M) else (0, { M with sf := upd M.sf v (upd (M.sf v) c (M.sf v c + n)) })
def Mk.fetchM (M : Mk.Mkt) (v c : Nat) (n : Int) : Int × Mk.Mkt := if M.sf v c < n then (5, M) else (0, { M with sf := upd M.sf v (upd (M.sf v) c (M.sf v c - n)) })

/-- a command, as a value -/
abbrev cmdV (who r : Int) (d : Mk.Wd) (v : Value) (mc : Bool) : Value := .agg #[.int .i64 who, .int .i64 r, .string d.text, v, .bool mc]

/-- what a method of the market leaves -/
def Does (p : Nat) (b : RB) (x : Int × Mk.Mkt) (w : World) (e : Ending) (w' : World) : Prop := e = .returned (.int .i64 x.1) ∧ Ref w' p b x.2 ∧ Only (b.has p) w w'

theorem txt_pay : ((Mk.Wd.text .pay).toList == [112, 97, 121]) = true := by simp [Mk.Wd.text]
theorem txt_draw : ((Mk.Wd.text .draw).toList == [112, 97, 121]) = false := by simp [Mk.Wd.text]
theorem txt_bring : ((Mk.Wd.text .bring).toList == [98, 114, 105, 110, 103]) = true := by simp [Mk.Wd.text]
theorem txt_fetch : ((Mk.Wd.text .fetch).toList == [98, 114, 105, 110, 103]) = false := by simp [Mk.Wd.text]

set_option maxRecDepth 100000 in
set_option maxHeartbeats 2000000 in
theorem money_pay (p g len cap : Nat) (b : RB) (M : Mk.Mkt) (who : Nat) (r n : Int) (mc : Bool) (w : World) (hM : M.Fine) (hR : Ref w p b M) (hw : who < 4) (hn : 0 ≤ n ∧ n ≤ 9999) (hl : 1 ≤ len) (hg : w.cell? ⟨g, 0, none⟩ = some (.int .i64 n)) :
    Calls Tryz.prog 79 #[.pointer (some ⟨p, 0, none⟩), cmdV who r .pay (.slice (some ⟨g, 0, none⟩) len cap) mc] w fun e w' => Does p b (Mk.payM M who n) w e w' := by
  have HM : Hid M.Fine := hM
  have HR : Hid (Ref w p b M) := hR
  have hgl := blk_lt hg
  have hpl := hR.box.lt
  have hl' : (0 : Int) < (len : Int) := by omega
  have hw' : (who : Int) < 4 := by omega
  have f0 := hR.box.cell (i := 0) (by omega)
  have f2 := hR.box.cell (i := 2) (by omega)
  simp only [mktF] at f0 f2
  have hcl := hR.cash.lt
  have HBd : Hid (∀ c, c < 4 → 0 ≤ M.cf c ∧ M.cf c ≤ 9999 ∧ 0 ≤ M.ch c ∧ M.ch c ≤ 9999) := fun c hc => ⟨(hM.cf c hc).1, (hM.cf c hc).2, (hM.ch c hc).1, (hM.ch c hc).2⟩
  have tb := totTo_bd HBd.out 4 (by omega)
  have hb := hM.house
  have HAl : Hid (∀ ob, Below w.heap.size w (w.alloc ob)) := fun ob => (Below.refl _ _).alloc (Nat.le_refl _) ob
  have ht := txt_pay
  clear hM hR
  go_enter Tryz.func79, Tryz.ntmps79
  go_wp2_with fail
  have HR1 : Hid (Ref (w.alloc (.cells #[.int .i64 (who : Int), .int .i64 r, .string (Mk.Wd.text .pay), .slice (some ⟨g, 0, none⟩) len cap, .bool mc] 83)) p b M) := HR.out.below (HAl.out _)
  refine (total_any b.bC M.cf M.ch _ HBd.out HR1.out.cash).mono ?_
  rintro e w2 ⟨rfl, m, hw2⟩
  have hb2 : Below w.heap.size w w2 := by rw [hw2]; exact below_drewN (HAl.out _) m
  have x0 : w2.cell? ⟨w.heap.size, 0, none⟩ = some (.int .i64 (who : Int)) := by rw [hw2]; simp
  have HR2 : Hid (Ref w2 p b M) := HR.out.below hb2
  have HB2 : Hid (Below w.heap.size w w2) := hb2
  clear hw2 hb2 f0 f2
  have f0 := HR2.out.box.cell (i := 0) (by omega)
  have f2 := HR2.out.box.cell (i := 2) (by omega)
  simp only [mktF] at f0 f2
  have a0 := HR2.out.cash.cell (i := who * 2) (by omega)
  rw [purseF_0] at a0
  have z0 := HR2.out.cash.frozen (who * 2)
  have bf := HM.out.cf who hw
  by_cases hbig : 9999 < totTo M.cf M.ch 4 + M.house + n
  · have HX : Hid (Mk.payM M who n = (6, M)) := if_pos hbig
    go_wp2_with fail
    go_ret
    exact ⟨by rw [HX.out]; rfl, by rw [HX.out]; exact HR2.out, Only.of_below HB2.out⟩
  · have HX : Hid (Mk.payM M who n = (0, { M with cf := upd M.cf who (M.cf who + n) })) := if_neg hbig
    go_wp2_with fail
    go_region
    go_wp2_with fail
    go_ret
    refine ⟨by rw [HX.out]; rfl, by rw [HX.out]; exact (HR2.out.setCf who _).below (Below.refl _ _).drew, ?_⟩
    exact ((Only.of_below HB2.out).set (.inr (.inl rfl)) _).next (Below.refl _ _).drew

end Go.Proofs.YtmebcdpdpcpnmaaGreatDoor

namespace Go.Proofs.YtmebcdpdpcpnmaaGreatDoor
open Go.RowKit

set_option maxRecDepth 100000 in
set_option maxHeartbeats 2000000 in
theorem money_draw (p g len cap : Nat) (b : RB) (M : Mk.Mkt) (who : Nat) (r n : Int) (mc : Bool) (w : World) (hM : M.Fine) (hR : Ref w p b M) (hw : who < 4) (hn : 0 ≤ n ∧ n ≤ 9999) (hl : 1 ≤ len) (hg : w.cell? ⟨g, 0, none⟩ = some (.int .i64 n)) :
    Calls Tryz.prog 79 #[.pointer (some ⟨p, 0, none⟩), cmdV who r .draw (.slice (some ⟨g, 0, none⟩) len cap) mc] w fun e w' => Does p b (Mk.drawM M who n) w e w' := by
  have HM : Hid M.Fine := hM
  have HR : Hid (Ref w p b M) := hR
  have hgl := blk_lt hg
  have hl' : (0 : Int) < (len : Int) := by omega
  have hw' : (who : Int) < 4 := by omega
  have HB2 : Hid (Below w.heap.size w (w.alloc (.cells #[.int .i64 (who : Int), .int .i64 r, .string (Mk.Wd.text .draw), .slice (some ⟨g, 0, none⟩) len cap, .bool mc] 83))) := (Below.refl _ _).alloc (Nat.le_refl _) _
  have HR2 : Hid (Ref (w.alloc (.cells #[.int .i64 (who : Int), .int .i64 r, .string (Mk.Wd.text .draw), .slice (some ⟨g, 0, none⟩) len cap, .bool mc] 83)) p b M) := HR.out.below HB2.out
  have x0 : (w.alloc (.cells #[.int .i64 (who : Int), .int .i64 r, .string (Mk.Wd.text .draw), .slice (some ⟨g, 0, none⟩) len cap, .bool mc] 83)).cell? ⟨w.heap.size, 0, none⟩ = some (.int .i64 (who : Int)) := by simp
  have ht := txt_draw
  have bf := hM.cf who hw
  clear hM hR
  go_enter Tryz.func79, Tryz.ntmps79
  go_wp2_with fail
  generalize w.alloc (.cells #[.int .i64 (who : Int), .int .i64 r, .string (Mk.Wd.text .draw), .slice (some ⟨g, 0, none⟩) len cap, .bool mc] 83) = W1 at *
  have f0 := HR2.out.box.cell (i := 0) (by omega)
  simp only [mktF] at f0
  have a0 := HR2.out.cash.cell (i := who * 2) (by omega)
  rw [purseF_0] at a0
  go_quiet (fail)
  have hbq : Below W1.heap.size W1 (W1.drewN nq) := below_drewN (Below.refl _ _) nq
  have HB3 : Hid (Below w.heap.size w (W1.drewN nq)) := HB2.out.trans (hbq.mono HB2.out.size)
  have HR3 : Hid (Ref (W1.drewN nq) p b M) := HR2.out.below hbq
  have x3 : (W1.drewN nq).cell? ⟨w.heap.size, 0, none⟩ = some (.int .i64 (who : Int)) := by simpa using x0
  generalize W1.drewN nq = W3 at *
  clear hbq f0 a0 x0
  have f0 := HR3.out.box.cell (i := 0) (by omega)
  simp only [mktF] at f0
  have a0 := HR3.out.cash.cell (i := who * 2) (by omega)
  rw [purseF_0] at a0
  have z0 := HR3.out.cash.frozen (who * 2)
  by_cases hbig : M.cf who < n
  · have HX : Hid (Mk.drawM M who n = (5, M)) := if_pos hbig
    go_wp2_with fail
    go_ret
    exact ⟨by rw [HX.out]; rfl, by rw [HX.out]; exact HR3.out, Only.of_below HB3.out⟩
  · have HX : Hid (Mk.drawM M who n = (0, { M with cf := upd M.cf who (M.cf who - n) })) := if_neg hbig
    go_wp2_with fail
    go_region
    go_wp2_with fail
    go_ret
    refine ⟨by rw [HX.out]; rfl, by rw [HX.out]; exact (HR3.out.setCf who _).below (Below.refl _ _).drew, ?_⟩
    exact ((Only.of_below HB3.out).set (.inr (.inl rfl)) _).next (Below.refl _ _).drew

set_option maxRecDepth 100000 in
set_option maxHeartbeats 2000000 in
theorem goods_bring (p g len cap : Nat) (b : RB) (M : Mk.Mkt) (who v : Nat) (r n : Int) (mc : Bool) (w : World) (hM : M.Fine) (hR : Ref w p b M) (hw : who < 4) (hv : v < 2) (hn : 0 ≤ n ∧ n ≤ 9999) (hl : 2 ≤ len) (hg0 : w.cell? ⟨g, 0, none⟩ = some (.int .i64 (v : Int))) (hg : w.cell? ⟨g, 1, none⟩ = some (.int .i64 n)) :
    Calls Tryz.prog 80 #[.pointer (some ⟨p, 0, none⟩), cmdV who r .bring (.slice (some ⟨g, 0, none⟩) len cap) mc] w fun e w' => Does p b (Mk.bringM M v who n) w e w' := by
  have HM : Hid M.Fine := hM
  have HR : Hid (Ref w p b M) := hR
  have hgl := blk_lt hg
  have hpl := hR.box.lt
  have hl' : (0 : Int) < (len : Int) := by omega
  have hl1 : (1 : Int) < (len : Int) := by omega
  have hw' : (who : Int) < 4 := by omega
  have hv' : (v : Int) < 2 := by omega
  have f1 := hR.box.cell (i := 1) (by omega)
  have g1 := hR.slots.cell hv
  have hsl := hR.slots.lt
  simp only [mktF] at f1
  have HBd : Hid (∀ c, c < 4 → 0 ≤ M.sf v c ∧ M.sf v c ≤ 9999 ∧ 0 ≤ M.sh v c ∧ M.sh v c ≤ 9999) := fun c hc => ⟨(hM.sf v c hv hc).1, (hM.sf v c hv hc).2, (hM.sh v c hv hc).1, (hM.sh v c hv hc).2⟩
  have tb := totTo_bd HBd.out 4 (by omega)
  have HAl : Hid (∀ ob, Below w.heap.size w (w.alloc ob)) := fun ob => (Below.refl _ _).alloc (Nat.le_refl _) ob
  have ht := txt_bring
  have HV : Hid (v < 2) := hv
  clear hM hR
  go_enter Tryz.func80, Tryz.ntmps80
  go_wp2_with fail
  have HR1 : Hid (Ref (w.alloc (.cells #[.int .i64 (who : Int), .int .i64 r, .string (Mk.Wd.text .bring), .slice (some ⟨g, 0, none⟩) len cap, .bool mc] 83)) p b M) := HR.out.below (HAl.out _)
  refine (total_any (b.sb v) (M.sf v) (M.sh v) _ HBd.out (HR1.out.sl v hv)).mono ?_
  rintro e w2 ⟨rfl, m, hw2⟩
  have hb2 : Below w.heap.size w w2 := by rw [hw2]; exact below_drewN (HAl.out _) m
  have x0 : w2.cell? ⟨w.heap.size, 0, none⟩ = some (.int .i64 (who : Int)) := by rw [hw2]; simp
  have HR2 : Hid (Ref w2 p b M) := HR.out.below hb2
  have HB2 : Hid (Below w.heap.size w w2) := hb2
  clear hw2 hb2 f1 g1
  have f1 := HR2.out.box.cell (i := 1) (by omega)
  have g1 := HR2.out.slots.cell hv
  simp only [mktF] at f1
  have a0 := (HR2.out.sl v hv).cell (i := who * 2) (by omega)
  rw [purseF_0] at a0
  have z0 := (HR2.out.sl v hv).frozen (who * 2)
  have bf := HM.out.sf v who hv hw
  by_cases hbig : 999 < totTo (M.sf v) (M.sh v) 4 + n
  · have HX : Hid (Mk.bringM M v who n = (6, M)) := if_pos hbig
    go_wp2_with fail
    go_ret
    exact ⟨by rw [HX.out]; rfl, by rw [HX.out]; exact HR2.out, Only.of_below HB2.out⟩
  · have HX : Hid (Mk.bringM M v who n = (0, { M with sf := upd M.sf v (upd (M.sf v) who (M.sf v who + n)) })) := if_neg hbig
    go_wp2_with fail
    go_region
    go_wp2_with fail
    go_ret
    refine ⟨by rw [HX.out]; rfl, by rw [HX.out]; exact (HR2.out.setSf v HV.out who _).below (Below.refl _ _).drew, ?_⟩
    exact ((Only.of_below HB2.out).set (.inr (.inr (.inr (.inl ⟨v, HV.out, rfl⟩)))) _).next (Below.refl _ _).drew

set_option maxRecDepth 100000 in
set_option maxHeartbeats 2000000 in
theorem goods_fetch (p g len cap : Nat) (b : RB) (M : Mk.Mkt) (who v : Nat) (r n : Int) (mc : Bool) (w : World) (hM : M.Fine) (hR : Ref w p b M) (hw : who < 4) (hv : v < 2) (hn : 0 ≤ n ∧ n ≤ 9999) (hl : 2 ≤ len) (hg0 : w.cell? ⟨g, 0, none⟩ = some (.int .i64 (v : Int))) (hg : w.cell? ⟨g, 1, none⟩ = some (.int .i64 n)) :
    Calls Tryz.prog 80 #[.pointer (some ⟨p, 0, none⟩), cmdV who r .fetch (.slice (some ⟨g, 0, none⟩) len cap) mc] w fun e w' => Does p b (Mk.fetchM M v who n) w e w' := by
  have HM : Hid M.Fine := hM
  have HR : Hid (Ref w p b M) := hR
  have hgl := blk_lt hg
  have hl' : (0 : Int) < (len : Int) := by omega
  have hl1 : (1 : Int) < (len : Int) := by omega
  have hw' : (who : Int) < 4 := by omega
  have hv' : (v : Int) < 2 := by omega
  have HV : Hid (v < 2) := hv
  have HB2 : Hid (Below w.heap.size w (w.alloc (.cells #[.int .i64 (who : Int), .int .i64 r, .string (Mk.Wd.text .fetch), .slice (some ⟨g, 0, none⟩) len cap, .bool mc] 83))) := (Below.refl _ _).alloc (Nat.le_refl _) _
  have HR2 : Hid (Ref (w.alloc (.cells #[.int .i64 (who : Int), .int .i64 r, .string (Mk.Wd.text .fetch), .slice (some ⟨g, 0, none⟩) len cap, .bool mc] 83)) p b M) := HR.out.below HB2.out
  have x0 : (w.alloc (.cells #[.int .i64 (who : Int), .int .i64 r, .string (Mk.Wd.text .fetch), .slice (some ⟨g, 0, none⟩) len cap, .bool mc] 83)).cell? ⟨w.heap.size, 0, none⟩ = some (.int .i64 (who : Int)) := by simp
  have ht := txt_fetch
  have bf := hM.sf v who hv hw
  clear hM hR
  go_enter Tryz.func80, Tryz.ntmps80
  go_wp2_with fail
  generalize w.alloc (.cells #[.int .i64 (who : Int), .int .i64 r, .string (Mk.Wd.text .fetch), .slice (some ⟨g, 0, none⟩) len cap, .bool mc] 83) = W1 at *
  have f1 := HR2.out.box.cell (i := 1) (by omega)
  have g1 := HR2.out.slots.cell hv
  simp only [mktF] at f1
  have a0 := (HR2.out.sl v hv).cell (i := who * 2) (by omega)
  rw [purseF_0] at a0
  go_quiet (fail)
  have hbq : Below W1.heap.size W1 (W1.drewN nq) := below_drewN (Below.refl _ _) nq
  have HB3 : Hid (Below w.heap.size w (W1.drewN nq)) := HB2.out.trans (hbq.mono HB2.out.size)
  have HR3 : Hid (Ref (W1.drewN nq) p b M) := HR2.out.below hbq
  have x3 : (W1.drewN nq).cell? ⟨w.heap.size, 0, none⟩ = some (.int .i64 (who : Int)) := by simpa using x0
  generalize W1.drewN nq = W3 at *
  clear hbq f1 g1 a0 x0
  have f1 := HR3.out.box.cell (i := 1) (by omega)
  have g1 := HR3.out.slots.cell hv
  simp only [mktF] at f1
  have a0 := (HR3.out.sl v hv).cell (i := who * 2) (by omega)
  rw [purseF_0] at a0
  have z0 := (HR3.out.sl v hv).frozen (who * 2)
  by_cases hbig : M.sf v who < n
  · have HX : Hid (Mk.fetchM M v who n = (5, M)) := if_pos hbig
    go_wp2_with fail
    go_ret
    exact ⟨by rw [HX.out]; rfl, by rw [HX.out]; exact HR3.out, Only.of_below HB3.out⟩
  · have HX : Hid (Mk.fetchM M v who n = (0, { M with sf := upd M.sf v (upd (M.sf v) who (M.sf v who - n)) })) := if_neg hbig
    go_wp2_with fail
    go_region
    go_wp2_with fail
    go_ret
    refine ⟨by rw [HX.out]; rfl, by rw [HX.out]; exact (HR3.out.setSf v HV.out who _).below (Below.refl _ _).drew, ?_⟩
    exact ((Only.of_below HB3.out).set (.inr (.inr (.inr (.inl ⟨v, HV.out, rfl⟩)))) _).next (Below.refl _ _).drew

end Go.Proofs.YtmebcdpdpcpnmaaGreatDoor
