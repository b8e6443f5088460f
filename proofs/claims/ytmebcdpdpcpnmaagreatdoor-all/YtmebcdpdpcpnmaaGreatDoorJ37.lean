import Derived.Test.YtmebcdpdpcpnmaaGreatDoorJ29
import Derived.Test.YtmebcdpdpcpnmaaGreatDoorJ36
namespace Go.Proofs.YtmebcdpdpcpnmaaGreatDoor
open Go.ChangeShapes Go.WideShapes Go.ChangeAt Go.RowKit Go.Deep

theorem wt_close1 : ((Mk.Wd.text .close).toList == [112, 97, 121]) = false := by simp [Mk.Wd.text]
theorem wt_close2 : ((Mk.Wd.text .close).toList == [100, 114, 97, 119]) = false := by simp [Mk.Wd.text]
theorem wt_close3 : ((Mk.Wd.text .close).toList == [98, 114, 105, 110, 103]) = false := by simp [Mk.Wd.text]
theorem wt_close4 : ((Mk.Wd.text .close).toList == [102, 101, 116, 99, 104]) = false := by simp [Mk.Wd.text]
theorem wt_close5 : ((Mk.Wd.text .close).toList == [98, 117, 121]) = false := by simp [Mk.Wd.text]
theorem wt_close6 : ((Mk.Wd.text .close).toList == [115, 101, 108, 108]) = false := by simp [Mk.Wd.text]
theorem wt_close7 : ((Mk.Wd.text .close).toList == [100, 114, 111, 112]) = false := by simp [Mk.Wd.text]
theorem wt_close8 : ((Mk.Wd.text .close).toList == [109, 111, 100, 101]) = false := by simp [Mk.Wd.text]

set_option maxRecDepth 100000 in
set_option maxHeartbeats 2000000 in
theorem does_close (p g cap : Nat) (b : RB) (M : Mk.Mkt) (who v : Nat) (r : Int) (mc : Bool) (w : World) (hS : Mk.Sound M) (h1 : Mk.One M) (hR : Ref w p b M) (hv : v < 2) (g0 : w.cell? ⟨g, 0, none⟩ = some (.int .i64 (v : Int))) :
    Calls Tryz.prog 50 #[.pointer (some ⟨p, 0, none⟩), cmdV who r .close (.slice (some ⟨g, 0, none⟩) 1 cap) mc] w fun e w' => DoT p b ((Mk.shutM M v).1, 0, (Mk.shutM M v).2) w e w' := by
  have HS : Hid (Mk.Sound M) := hS
  have HO1 : Hid (Mk.One M) := h1
  have HR : Hid (Ref w p b M) := hR
  have hgl := blk_lt g0
  have HB : Hid (∀ ob, Below w.heap.size w (w.alloc ob)) := fun ob => (Below.refl _ _).alloc (Nat.le_refl _) ob
  have t0 := wt_close1
  have t1 := wt_close2
  have t2 := wt_close3
  have t3 := wt_close4
  have t4 := wt_close5
  have t5 := wt_close6
  have t6 := wt_close7
  have t7 := wt_close8
  clear hS h1 hR
  go_enter Tryz.func50, Tryz.ntmps50
  go_wp2_with fail
  refine (shut_any p b M v _ HS.out HO1.out (HR.out.below (HB.out _)) hv).mono ?_
  rintro e w2 ⟨rfl, hD⟩
  have HD : Hid (DoT p b ((Mk.shutM M v).1, 0, (Mk.shutM M v).2) w (.returned (.tuple #[.string (Mk.shutM M v).1, .int .i64 0])) w2) := doT_next (HB.out _) ⟨rfl, hD⟩
  clear hD
  go_wp2_with fail
  refine bodyPost_ret (v := .tuple #[.string (Mk.shutM M v).1, .int .i64 0]) ?_ rfl HD.out
  simp [results, Tryz.results50, go_sem]

/-- every command -/
def Mk.allM (M : Mk.Mkt) (c : Mk.Cmd) : ByteArray × Int × Mk.Mkt :=
  match c.d with
  | .close => ((Mk.shutM M (Mk.nth c.n 0)).1, 0, (Mk.shutM M (Mk.nth c.n 0)).2)
  | _ => Mk.bookM M c
theorem all_book {M : Mk.Mkt} {c : Mk.Cmd} (h : noClose c.d = true) : Mk.allM M c = Mk.bookM M c := by
  unfold Mk.allM
  split
  · rename_i e; rw [e] at h; cases h
  · rfl
theorem all_close {M : Mk.Mkt} {c : Mk.Cmd} (h : c.d = .close) : Mk.allM M c = ((Mk.shutM M (Mk.nth c.n 0)).1, 0, (Mk.shutM M (Mk.nth c.n 0)).2) := by
  unfold Mk.allM
  rw [h]
theorem close_or (d : Mk.Wd) : d = .close ∨ noClose d = true := by cases d <;> first | exact .inl rfl | exact .inr rfl
theorem close_v {c : Mk.Cmd} (hok : c.Ok) (h : c.d = .close) : Mk.nth c.n 0 < 2 ∧ c.n.length = 1 := by
  obtain ⟨who, r, d, n, mc⟩ := c
  obtain rfl : d = .close := h
  have hlen : n.length = 1 := hok.len
  have q := (hok.num 0 (show 0 < n.length by omega)).2
  have e : Mk.nth (Mk.Wd.hi .close) 0 = 1 := rfl
  exact ⟨show Mk.nth n 0 < 2 from by have q' : Mk.nth n 0 ≤ Mk.nth (Mk.Wd.hi .close) 0 := q; omega, hlen⟩
theorem acct_one {M : Mk.Mkt} {c : Mk.Cmd} (h : Mk.One M) : Mk.One (Mk.acctM M c).2.2 := by
  unfold Mk.acctM
  split
  · unfold Mk.payM; split <;> exact h
  · unfold Mk.drawM; split <;> exact h
  · unfold Mk.bringM; split <;> exact h
  · unfold Mk.fetchM; split <;> exact h
  · exact h.mode _ _
  · exact h
theorem book_one {M : Mk.Mkt} {c : Mk.Cmd} (h : Mk.One M) : Mk.One (Mk.bookM M c).2.2 := by
  unfold Mk.bookM
  split
  · exact h.order _
  · exact h.order _
  · exact h.drop _
  · exact acct_one h
theorem all_sound {M : Mk.Mkt} {c : Mk.Cmd} (h : Mk.Sound M) (h1 : Mk.One M) (hok : c.Ok) : Mk.Sound (Mk.allM M c).2.2 := by
  rcases close_or c.d with e | e
  · rw [all_close e]; exact h.shut h1 (close_v hok e).1
  · rw [all_book e]; exact book_sound h hok
theorem all_one {M : Mk.Mkt} {c : Mk.Cmd} (h : Mk.Sound M) (h1 : Mk.One M) (hok : c.Ok) : Mk.One (Mk.allM M c).2.2 := by
  rcases close_or c.d with e | e
  · rw [all_close e]; exact Mk.One.shut h h1 (close_v hok e).1
  · rw [all_book e]; exact book_one h1
theorem all_ls {M : Mk.Mkt} {c : Mk.Cmd} (h : Mk.Sound M) (h1 : Mk.One M) (hok : c.Ok) : (Mk.allM M c).2.2.ls = M.ls ∧ (Mk.allM M c).2.2.disk = M.disk := by
  rcases close_or c.d with e | e
  · rw [all_close e]
    have := shut_same M h h1 (close_v hok e).1
    exact ⟨this.1, this.2.1⟩
  · rw [all_book e]; exact book_ls M c

/-- what the document does at any command -/
theorem all_does (p : Nat) (b : RB) (M : Mk.Mkt) (c : Mk.Cmd) (hM : Mk.Sound M) (h1 : Mk.One M) (hok : c.Ok) (W : World) (g cap : Nat) (hR : Ref W p b M) (hc : ∀ (i : Nat) (h : i < c.n.length), W.cell? ⟨g, i, none⟩ = some (.int .i64 (c.n[i] : Int))) (hgn : ¬ b.has p g) :
    Calls Tryz.prog 50 #[.pointer (some ⟨p, 0, none⟩), cmdV c.who c.r c.d (.slice (some ⟨g, 0, none⟩) c.n.length cap) c.mc] W fun e w' => DoT p b (Mk.allM M c) W e w' := by
  rcases close_or c.d with e | e
  · rw [all_close e, e, (close_v hok e).2]
    have h0 : 0 < c.n.length := by rw [(close_v hok e).2]; omega
    have hc0 := hc 0 h0
    rw [← Mk.nth_at h0] at hc0
    exact does_close p g cap b M c.who (Mk.nth c.n 0) c.r c.mc W hM h1 hR (close_v hok e).1 hc0
  · rw [all_book e]
    exact book_does p b M c hM hok e W g cap hR hc hgn

/-- a market after k commands of any kind -/
structure AInv (M : Mk.Mkt) (k : Nat) : Prop where
  well : Well M k
  sound : Mk.Sound M
  one : Mk.One M
theorem do_one {M : Mk.Mkt} {X : Mk.Cmd → ByteArray × Int × Mk.Mkt} (s : ByteArray) (h : Mk.One M) (hX : ∀ c, Mk.readP s = some c → Mk.One (X c).2.2) : Mk.One (Mk.doM X M s).2.2 := by
  unfold Mk.doM
  cases hr : Mk.readP s with
  | none => exact h
  | some c =>
    show Mk.One (if (c.r : Int) = M.ls c.who then (M.tx c.who, M.er c.who, M) else if (c.r : Int) < M.ls c.who then (⟨#[]⟩, 3, M) else if M.ls c.who + 1 < (c.r : Int) then (⟨#[]⟩, 4, M) else ((X c).1, (X c).2.1, { (X c).2.2 with ls := upd (X c).2.2.ls c.who c.r, tx := upd (X c).2.2.tx c.who (X c).1, er := upd (X c).2.2.er c.who (X c).2.1, disk := (X c).2.2.disk ++ Mk.frame s ++ s }) : ByteArray × Int × Mk.Mkt).2.2
    split
    · exact h
    · split
      · exact h
      · split
        · exact h
        · exact hX c hr
theorem all_new : AInv Mk.Mkt.new 0 := ⟨new_well, new_sound, fun _ _ h => by cases h⟩
theorem all_step {M : Mk.Mkt} {k : Nat} (s : ByteArray) (h : AInv M k) : AInv (Mk.doM (Mk.allM M) M s).2.2 (k + 1) :=
  ⟨do_well s h.well (fun _ hc => ⟨(all_sound h.sound h.one (Mk.read_ok hc).1).fine, (all_ls h.sound h.one (Mk.read_ok hc).1).1, (all_ls h.sound h.one (Mk.read_ok hc).1).2⟩), do_sound s h.sound (fun _ hc => all_sound h.sound h.one (Mk.read_ok hc).1), do_one s h.one (fun _ hc => all_one h.sound h.one (Mk.read_ok hc).1)⟩

end Go.Proofs.YtmebcdpdpcpnmaaGreatDoor

namespace Go.Proofs.YtmebcdpdpcpnmaaGreatDoor
open Go.RowKit

/-- the program closes a batch as the document does -/
def CloseOk : Prop := ∀ (p : Nat) (vb : Nat → Value) (M : Mk.Mkt) (c : Mk.Cmd) (W : World), Mk.Sound M → Mk.One M → c.Ok → c.d = .close → PM W p vb M → Tab W →
  Calls Tryz.prog 78 #[.pointer (some ⟨p, 0, none⟩), reqV c] W fun e w' => PDoT p vb ((Mk.shutM M (Mk.nth c.n 0)).1, 0, (Mk.shutM M (Mk.nth c.n 0)).2) W e w'
theorem all_carry (hC : CloseOk) (p : Nat) (vb : Nat → Value) (M : Mk.Mkt) (c : Mk.Cmd) (hM : Mk.Sound M) (h1 : Mk.One M) (hok : c.Ok) (W : World) (hP : PM W p vb M) (hT : Tab W) :
    Calls Tryz.prog 78 #[.pointer (some ⟨p, 0, none⟩), reqV c] W fun e w' => PDoT p vb (Mk.allM M c) W e w' := by
  rcases close_or c.d with e | e
  · rw [all_close e]; exact hC p vb M c W hM h1 hok e hP hT
  · rw [all_book e]; exact book_carry p vb M c hM hok e W hP hT
theorem deal_onto (M : Mk.Mkt) (d : ByteArray) (v who : Nat) (o : Mk.Ord) (n pay get : Int) : Mk.dealM (Mk.onto M d) v who o n pay get = Mk.onto (Mk.dealM M v who o n pay get) d := by
  obtain ⟨sell, pr, q⟩ := o
  cases sell <;> rfl
theorem dealTo_onto (M : Mk.Mkt) (d : ByteArray) (v : Nat) (b : List Mk.Stand) (f : Nat → Int) (pay get : Int) : ∀ k, Mk.dealTo (Mk.onto M d) v b f pay get k = Mk.onto (Mk.dealTo M v b f pay get k) d
  | 0 => rfl
  | k + 1 => by
    show Mk.dealM (Mk.dealTo (Mk.onto M d) v b f pay get k) v _ _ _ pay get = Mk.onto (Mk.dealM (Mk.dealTo M v b f pay get k) v _ _ _ pay get) d
    rw [dealTo_onto M d v b f pay get k, deal_onto]
theorem shut_onto (M : Mk.Mkt) (d : ByteArray) (v : Nat) : Mk.shutM (Mk.onto M d) v = ((Mk.shutM M v).1, Mk.onto (Mk.shutM M v).2 d) := by
  unfold Mk.shutM
  show (_, { Mk.dealTo (Mk.onto M d) v (M.bk v) (Mk.sF M v) (Mk.sPay M v) (Mk.sGet M v) (M.bk v).length with bk := upd M.bk v [], cm := upd M.cm v 0 }) = _
  rw [dealTo_onto]
theorem all_onto (M : Mk.Mkt) (d : ByteArray) (c : Mk.Cmd) : Mk.allM (Mk.onto M d) c = ((Mk.allM M c).1, (Mk.allM M c).2.1, Mk.onto (Mk.allM M c).2.2 d) := by
  rcases close_or c.d with e | e
  · rw [all_close e, all_close e, shut_onto]
  · rw [all_book e, all_book e, book_onto]
/-- carryOut at any command, whatever the log says -/
theorem all_carry_onto (hC : CloseOk) {p : Nat} {vb : Nat → Value} {M : Mk.Mkt} {k : Nat} (h : AInv M k) {c : Mk.Cmd} (hok : c.Ok) (d : ByteArray) (W : World) (hP : PM W p vb (Mk.onto M d)) (hT : Tab W) :
    Calls Tryz.prog 78 #[.pointer (some ⟨p, 0, none⟩), reqV c] W fun e w' => PDoT p vb ((Mk.allM M c).1, (Mk.allM M c).2.1, Mk.onto (Mk.allM M c).2.2 d) W e w' := by
  rw [← all_onto]
  exact all_carry hC p vb (Mk.onto M d) c (sound_onto h.sound d) h.one hok W hP hT
theorem all_dos (hC : CloseOk) (p : Nat) (vb : Nat → Value) (M : Mk.Mkt) (k : Nat) (s : ByteArray) (w : World) (h : AInv M k) (hk : k ≤ 1200000) (hP : PM w p vb M) (hT : Tab w) :
    Calls Tryz.prog 31 #[.pointer (some ⟨p, 0, none⟩), .string s] w fun e w' => PDoT p vb (Mk.doM (Mk.allM M) M s) w e w' :=
  pdo_any2 p vb M s w (Mk.allM M) h.well.ls (by have := h.well.disk; omega) hP hT (fun c hc _ => ⟨(all_ls h.sound h.one (Mk.read_ok hc).1).2, fun d W hW hT' => all_carry_onto hC h (Mk.read_ok hc).1 d W hW hT'⟩)

end Go.Proofs.YtmebcdpdpcpnmaaGreatDoor
