import Derived.Test.YtmebcdpdpcpnmaaGreatDoorJ13
namespace Go.Proofs.YtmebcdpdpcpnmaaGreatDoor

theorem totTo_ge {f h : Nat → Int} (hb : ∀ c, c < 4 → 0 ≤ f c ∧ 0 ≤ h c) {c : Nat} (hc : c < 4) : f c ≤ totTo f h 4 := by
  have b0 := hb 0 (by omega)
  have b1 := hb 1 (by omega)
  have b2 := hb 2 (by omega)
  have b3 := hb 3 (by omega)
  have e : totTo f h 4 = 0 + f 0 + h 0 + f 1 + h 1 + f 2 + h 2 + f 3 + h 3 := rfl
  rw [e]
  have : c = 0 ∨ c = 1 ∨ c = 2 ∨ c = 3 := by omega
  rcases this with rfl | rfl | rfl | rfl <;> omega

theorem Fine.cf {M : Mk.Mkt} (h : M.Fine) (c : Nat) (x : Int) (hx : 0 ≤ x ∧ x ≤ 9999) : Mk.Mkt.Fine { M with cf := upd M.cf c x } :=
  ⟨fun d hd => by
    show 0 ≤ upd M.cf c x d ∧ upd M.cf c x d ≤ 9999
    unfold upd; split
    · exact hx
    · exact h.cf d hd, h.ch, h.sf, h.sh, h.house, h.len, h.num, h.who, h.ord⟩
theorem Fine.sf {M : Mk.Mkt} (h : M.Fine) (v c : Nat) (x : Int) (hx : 0 ≤ x ∧ x ≤ 9999) : Mk.Mkt.Fine { M with sf := upd M.sf v (upd (M.sf v) c x) } :=
  ⟨h.cf, h.ch, fun u d hu hd => by
    show 0 ≤ upd M.sf v (upd (M.sf v) c x) u d ∧ upd M.sf v (upd (M.sf v) c x) u d ≤ 9999
    by_cases e : u = v
    · subst e
      rw [upd_self]
      unfold upd; split
      · exact hx
      · exact h.sf u d hu hd
    · rw [upd_ne _ _ e]; exact h.sf u d hu hd, h.sh, h.house, h.len, h.num, h.who, h.ord⟩
theorem Fine.md {M : Mk.Mkt} (h : M.Fine) (f : Nat → Bool) : Mk.Mkt.Fine { M with md := f } := ⟨h.cf, h.ch, h.sf, h.sh, h.house, h.len, h.num, h.who, h.ord⟩
theorem Fine.rest {M : Mk.Mkt} (h : M.Fine) (a : Nat → Int) (t : Nat → ByteArray) (e : Nat → Int) (d : ByteArray) : Mk.Mkt.Fine { M with ls := a, tx := t, er := e, disk := d } := ⟨h.cf, h.ch, h.sf, h.sh, h.house, h.len, h.num, h.who, h.ord⟩

/-- the words without orders keep the bounds -/
theorem acct_fine {M : Mk.Mkt} {c : Mk.Cmd} (hM : M.Fine) (hok : c.Ok) : (Mk.acctM M c).2.2.Fine := by
  obtain ⟨who, r, d, n, mc⟩ := c
  have hw : who < 4 := hok.who
  have hlen : n.length = d.lo.length := hok.len
  have hnum : ∀ i, i < n.length → Mk.nth d.lo i ≤ Mk.nth n i ∧ Mk.nth n i ≤ Mk.nth d.hi i := hok.num
  have hc := hM.cf who hw
  have tc := totTo_ge (f := M.cf) (h := M.ch) (fun c hc => ⟨(hM.cf c hc).1, (hM.ch c hc).1⟩) hw
  have hh := hM.house
  have ts : ∀ u, u < 2 → M.sf u who ≤ totTo (M.sf u) (M.sh u) 4 := fun u hu => totTo_ge (fun c hc => ⟨(hM.sf u c hu hc).1, (hM.sh u c hu hc).1⟩) hw
  have hs : ∀ u, u < 2 → 0 ≤ M.sf u who ∧ M.sf u who ≤ 9999 := fun u hu => hM.sf u who hu hw
  cases d
  case pay =>
    show (Mk.payM M who (Mk.nth n 0 : Int)).2.Fine
    unfold Mk.payM
    split
    · exact hM
    · exact Fine.cf hM who _ ⟨by omega, by omega⟩
  case draw =>
    show (Mk.drawM M who (Mk.nth n 0 : Int)).2.Fine
    unfold Mk.drawM
    split
    · exact hM
    · exact Fine.cf hM who _ ⟨by omega, by omega⟩
  case bring =>
    have h1 : 1 < n.length := by rw [hlen]; decide
    have q := (hnum 0 (by omega)).2
    have e : Mk.nth (Mk.Wd.hi .bring) 0 = 1 := rfl
    have t1 := ts (Mk.nth n 0) (by omega)
    have s1 := hs (Mk.nth n 0) (by omega)
    show (Mk.bringM M (Mk.nth n 0) who (Mk.nth n 1 : Int)).2.Fine
    unfold Mk.bringM
    split
    · exact hM
    · exact Fine.sf hM _ who _ ⟨by omega, by omega⟩
  case fetch =>
    have h1 : 1 < n.length := by rw [hlen]; decide
    have q := (hnum 0 (by omega)).2
    have e : Mk.nth (Mk.Wd.hi .fetch) 0 = 1 := rfl
    have s1 := hs (Mk.nth n 0) (by omega)
    show (Mk.fetchM M (Mk.nth n 0) who (Mk.nth n 1 : Int)).2.Fine
    unfold Mk.fetchM
    split
    · exact hM
    · exact Fine.sf hM _ who _ ⟨by omega, by omega⟩
  case mode =>
    show (Mk.modeM M (Mk.nth n 0) mc).2.Fine
    unfold Mk.modeM
    split
    · exact hM
    · exact Fine.md hM _
  all_goals exact hM

end Go.Proofs.YtmebcdpdpcpnmaaGreatDoor

namespace Go.Proofs.YtmebcdpdpcpnmaaGreatDoor

/-- a market after k commands: its bounds -/
structure Well (M : Mk.Mkt) (k : Nat) : Prop where
  fine : M.Fine
  ls : ∀ c, c < 4 → 0 ≤ M.ls c ∧ M.ls c ≤ 99
  disk : M.disk.size ≤ 22 * k

theorem new_well : Well Mk.Mkt.new 0 := by
  refine ⟨⟨?_, ?_, ?_, ?_, ?_, ?_, ?_, ?_, ?_⟩, ?_, ?_⟩ <;> simp [Mk.Mkt.new]
  rfl

theorem acct_ls (M : Mk.Mkt) (c : Mk.Cmd) : (Mk.acctM M c).2.2.ls = M.ls := by
  unfold Mk.acctM
  split
  · unfold Mk.payM; split <;> rfl
  · unfold Mk.drawM; split <;> rfl
  · unfold Mk.bringM; split <;> rfl
  · unfold Mk.fetchM; split <;> rfl
  · unfold Mk.modeM; split <;> rfl
  · rfl

theorem do_well {M : Mk.Mkt} {k : Nat} {X : Mk.Cmd → ByteArray × Int × Mk.Mkt} (s : ByteArray) (h : Well M k)
    (hX : ∀ c, Mk.readP s = some c → (X c).2.2.Fine ∧ (X c).2.2.ls = M.ls ∧ (X c).2.2.disk = M.disk) : Well (Mk.doM X M s).2.2 (k + 1) := by
  have h' : Well M (k + 1) := ⟨h.fine, h.ls, by have := h.disk; omega⟩
  unfold Mk.doM
  cases hr : Mk.readP s with
  | none => exact h'
  | some c =>
    obtain ⟨hok, h20⟩ := Mk.read_ok hr
    obtain ⟨hf, hl, hd⟩ := hX c hr
    show Well (if (c.r : Int) = M.ls c.who then (M.tx c.who, M.er c.who, M) else if (c.r : Int) < M.ls c.who then (⟨#[]⟩, 3, M) else if M.ls c.who + 1 < (c.r : Int) then (⟨#[]⟩, 4, M) else ((X c).1, (X c).2.1, { (X c).2.2 with ls := upd (X c).2.2.ls c.who c.r, tx := upd (X c).2.2.tx c.who (X c).1, er := upd (X c).2.2.er c.who (X c).2.1, disk := (X c).2.2.disk ++ Mk.frame s ++ s }) : ByteArray × Int × Mk.Mkt).2.2 (k + 1)
    split
    · exact h'
    · split
      · exact h'
      · split
        · exact h'
        · refine ⟨Fine.rest hf _ _ _ _, fun d hd' => ?_, ?_⟩
          · show 0 ≤ upd (X c).2.2.ls c.who (c.r : Int) d ∧ upd (X c).2.2.ls c.who (c.r : Int) d ≤ 99
            rw [hl]
            have := hok.r
            unfold upd; split
            · exact ⟨by omega, by omega⟩
            · exact h.ls d hd'
          · show ((X c).2.2.disk ++ Mk.frame s ++ s).size ≤ 22 * (k + 1)
            rw [ByteArray.size_append, ByteArray.size_append, frame_size, hd]
            have := h.disk
            omega

/-- DO, OF THE DOCUMENT, at a text whose word (if it is a command) wants no order -/
theorem acct_do (p : Nat) (b : RB) (M : Mk.Mkt) (k : Nat) (s : ByteArray) (w : World) (h : Well M k) (hk : k ≤ 1048576) (hs : s.size ≤ 2000000) (hR : Ref w p b M) (hp : ∀ c, Mk.readP s = some c → plainW c.d = true) :
    Calls Tryz.prog 30 #[.pointer (some ⟨p, 0, none⟩), .string s] w fun e w' => DoT p b (Mk.doM (Mk.acctM M) M s) w e w' :=
  do_any p b M s w (Mk.acctM M) h.ls (by have := h.disk; omega) hs hR (fun c hc _ => ⟨acct_disk M c, fun W g cap hW hn => acct_does p b M c h.fine (Mk.read_ok hc).1 (hp c hc) W g cap hW hn⟩)
theorem acct_well {M : Mk.Mkt} {k : Nat} (s : ByteArray) (h : Well M k) : Well (Mk.doM (Mk.acctM M) M s).2.2 (k + 1) :=
  do_well s h (fun c hc => ⟨acct_fine h.fine (Mk.read_ok hc).1, acct_ls M c, acct_disk M c⟩)

end Go.Proofs.YtmebcdpdpcpnmaaGreatDoor

namespace Go.Proofs.YtmebcdpdpcpnmaaGreatDoor
open Go.RowKit

/-- stands an order of the client in the batch? -/
def Mk.whoIn (l : List Mk.Stand) (who : Nat) : Bool := l.any (fun x => x.who == (who : Int))
/-- is it the client's order with that number? -/
def Mk.hit (n : Int) (who : Nat) (x : Mk.Stand) : Bool := x.n == n && x.who == (who : Int)
/-- is too little free for the order? -/
def Mk.lacks (M : Mk.Mkt) (v who : Nat) (o : Mk.Ord) : Bool := if o.sell then decide (M.sf v who < o.qty) else decide (M.cf who < o.price * o.qty)
/-- the order comes into the batch -/
def Mk.putM (M : Mk.Mkt) (v who : Nat) (o : Mk.Ord) : Mk.Mkt := { Mk.holdM M v who o 1 with cm := upd M.cm v (M.cm v + 1), bk := upd M.bk v (M.bk v ++ [⟨M.cm v, (who : Int), o⟩]) }
/-- P11 -/
def Mk.orderM (M : Mk.Mkt) (v who : Nat) (o : Mk.Ord) : ByteArray × Int × Mk.Mkt :=
  if (M.md v && (decide (o.qty ≠ 1) || Mk.whoIn (M.bk v) who)) = true then (⟨#[]⟩, 8, M)
  else if 12 ≤ M.cm v then (⟨#[]⟩, 7, M)
  else if Mk.lacks M v who o = true then (⟨#[]⟩, 5, M)
  else (Mk.digI (M.cm v), 0, Mk.putM M v who o)
/-- the order goes -/
def Mk.outM (M : Mk.Mkt) (v who : Nat) (n : Int) (x : Mk.Stand) : Mk.Mkt := { Mk.holdM M v who x.o (-1) with bk := upd M.bk v ((M.bk v).filter (fun y => !Mk.hit n who y)) }
/-- P12 -/
def Mk.dropM (M : Mk.Mkt) (v who : Nat) (n : Int) : Int × Mk.Mkt :=
  match (M.bk v).find? (Mk.hit n who) with
  | none => (10, M)
  | some x => (0, Mk.outM M v who n x)

end Go.Proofs.YtmebcdpdpcpnmaaGreatDoor

namespace Go.Proofs.YtmebcdpdpcpnmaaGreatDoor

theorem upd_same {α : Type} (f : Nat → α) (i : Nat) : upd f i (f i) = f := by
  funext j
  unfold upd
  split
  · rename_i h; rw [h]
  · rfl
theorem totTo_f {f h : Nat → Int} {c : Nat} (hc : c < 4) (x : Int) : totTo (upd f c x) h 4 = totTo f h 4 + x - f c := by
  have e : ∀ g : Nat → Int, totTo g h 4 = 0 + g 0 + h 0 + g 1 + h 1 + g 2 + h 2 + g 3 + h 3 := fun _ => rfl
  rw [e, e]
  have : c = 0 ∨ c = 1 ∨ c = 2 ∨ c = 3 := by omega
  rcases this with rfl | rfl | rfl | rfl <;> simp [upd] <;> omega
theorem totTo_h {f h : Nat → Int} {c : Nat} (hc : c < 4) (x : Int) : totTo f (upd h c x) 4 = totTo f h 4 + x - h c := by
  have e : ∀ g : Nat → Int, totTo f g 4 = 0 + f 0 + g 0 + f 1 + g 1 + f 2 + g 2 + f 3 + g 3 := fun _ => rfl
  rw [e, e]
  have : c = 0 ∨ c = 1 ∨ c = 2 ∨ c = 3 := by omega
  rcases this with rfl | rfl | rfl | rfl <;> simp [upd] <;> omega
theorem totTo_le2 {f h : Nat → Int} (hb : ∀ c, c < 4 → 0 ≤ f c ∧ 0 ≤ h c) {c : Nat} (hc : c < 4) : f c + h c ≤ totTo f h 4 := by
  have b0 := hb 0 (by omega)
  have b1 := hb 1 (by omega)
  have b2 := hb 2 (by omega)
  have b3 := hb 3 (by omega)
  have e : totTo f h 4 = 0 + f 0 + h 0 + f 1 + h 1 + f 2 + h 2 + f 3 + h 3 := rfl
  rw [e]
  have : c = 0 ∨ c = 1 ∨ c = 2 ∨ c = 3 := by omega
  rcases this with rfl | rfl | rfl | rfl <;> omega

/-- what an order needs of a client's cash, of his slots -/
def Mk.nC (c : Nat) (x : Mk.Stand) : Int := if x.o.sell = false ∧ x.who = (c : Int) then x.o.price * x.o.qty else 0
def Mk.nS (c : Nat) (x : Mk.Stand) : Int := if x.o.sell = true ∧ x.who = (c : Int) then x.o.qty else 0
def Mk.sumF (f : Mk.Stand → Int) : List Mk.Stand → Int
  | [] => 0
  | x :: t => f x + Mk.sumF f t
theorem sumF_append (f : Mk.Stand → Int) : ∀ l m, Mk.sumF f (l ++ m) = Mk.sumF f l + Mk.sumF f m
  | [], m => by simp [Mk.sumF]
  | x :: t, m => by simp only [List.cons_append, Mk.sumF, sumF_append f t m]; omega
theorem sumF_nonneg {f : Mk.Stand → Int} : ∀ l, (∀ x ∈ l, 0 ≤ f x) → 0 ≤ Mk.sumF f l
  | [], _ => by simp [Mk.sumF]
  | x :: t, h => by
    have h1 := h x (by simp)
    have h2 := sumF_nonneg t (fun y hy => h y (by simp [hy]))
    simp only [Mk.sumF]
    omega

/-- what is true of a market whenever a command is done -/
structure Mk.Sound (M : Mk.Mkt) : Prop where
  cm : ∀ v, v < 2 → 0 ≤ M.cm v ∧ M.cm v ≤ 12
  ln : ∀ v, v < 2 → ((M.bk v).length : Int) ≤ M.cm v
  inc : ∀ v, v < 2 → (M.bk v).Pairwise (fun x y => x.n < y.n)
  low : ∀ v, v < 2 → ∀ x ∈ M.bk v, 0 ≤ x.n ∧ x.n < M.cm v
  who : ∀ v, v < 2 → ∀ x ∈ M.bk v, 0 ≤ x.who ∧ x.who ≤ 3
  ord : ∀ v, v < 2 → ∀ x ∈ M.bk v, 1 ≤ x.o.price ∧ x.o.price ≤ 99 ∧ 1 ≤ x.o.qty ∧ x.o.qty ≤ 20
  ch : ∀ c, c < 4 → M.ch c = Mk.sumF (Mk.nC c) (M.bk 0) + Mk.sumF (Mk.nC c) (M.bk 1)
  sh : ∀ v c, v < 2 → c < 4 → M.sh v c = Mk.sumF (Mk.nS c) (M.bk v)
  cf : ∀ c, c < 4 → 0 ≤ M.cf c
  sf : ∀ v c, v < 2 → c < 4 → 0 ≤ M.sf v c
  house : 0 ≤ M.house
  tot : totTo M.cf M.ch 4 + M.house ≤ 9999
  tos : ∀ v, v < 2 → totTo (M.sf v) (M.sh v) 4 ≤ 999

theorem nC_nonneg {c : Nat} {x : Mk.Stand} (h : 1 ≤ x.o.price ∧ x.o.price ≤ 99 ∧ 1 ≤ x.o.qty ∧ x.o.qty ≤ 20) : 0 ≤ Mk.nC c x := by
  unfold Mk.nC
  split
  · exact Int.mul_nonneg (by omega) (by omega)
  · exact Int.le_refl _
theorem nS_nonneg {c : Nat} {x : Mk.Stand} (h : 1 ≤ x.o.price ∧ x.o.price ≤ 99 ∧ 1 ≤ x.o.qty ∧ x.o.qty ≤ 20) : 0 ≤ Mk.nS c x := by
  unfold Mk.nS
  split
  · omega
  · exact Int.le_refl _
theorem Mk.Sound.ch0 {M : Mk.Mkt} (h : Mk.Sound M) (c : Nat) (hc : c < 4) : 0 ≤ M.ch c := by
  have h0 := sumF_nonneg (f := Mk.nC c) (M.bk 0) (fun x hx => nC_nonneg (h.ord 0 (by omega) x hx))
  have h1 := sumF_nonneg (f := Mk.nC c) (M.bk 1) (fun x hx => nC_nonneg (h.ord 1 (by omega) x hx))
  have := h.ch c hc
  omega
theorem Mk.Sound.sh0 {M : Mk.Mkt} (h : Mk.Sound M) (v c : Nat) (hv : v < 2) (hc : c < 4) : 0 ≤ M.sh v c := by
  have h0 := sumF_nonneg (f := Mk.nS c) (M.bk v) (fun x hx => nS_nonneg (h.ord v hv x hx))
  have := h.sh v c hv hc
  omega
theorem Mk.Sound.fine {M : Mk.Mkt} (h : Mk.Sound M) : M.Fine := by
  have hh := h.house
  have ht := h.tot
  have hz : ∀ c, c < 4 → 0 ≤ M.cf c ∧ 0 ≤ M.ch c := fun c hc => ⟨h.cf c hc, h.ch0 c hc⟩
  have hy : ∀ v, v < 2 → ∀ c, c < 4 → 0 ≤ M.sf v c ∧ 0 ≤ M.sh v c := fun v hv c hc => ⟨h.sf v c hv hc, h.sh0 v c hv hc⟩
  have t0 : 0 ≤ totTo M.cf M.ch 4 := by
    have := totTo_le2 hz (c := 0) (by omega)
    have := hz 0 (by omega)
    omega
  refine ⟨fun c hc => ?_, fun c hc => ?_, fun v c hv hc => ?_, fun v c hv hc => ?_, ⟨hh, by omega⟩, fun v hv => ?_, fun v hv x hx => ?_, h.who, h.ord⟩
  · have := totTo_le2 hz hc; have := hz c hc; omega
  · have := totTo_le2 hz hc; have := hz c hc; omega
  · have := totTo_le2 (hy v hv) hc; have := hy v hv c hc; have := h.tos v hv; omega
  · have := totTo_le2 (hy v hv) hc; have := hy v hv c hc; have := h.tos v hv; omega
  · have := h.ln v hv; have := h.cm v hv; omega
  · have := h.low v hv x hx; have := h.cm v hv; omega

theorem new_sound : Mk.Sound Mk.Mkt.new := by
  refine ⟨?_, ?_, ?_, ?_, ?_, ?_, ?_, ?_, ?_, ?_, ?_, ?_, ?_⟩ <;> simp [Mk.Mkt.new, Mk.sumF, totTo]

theorem Mk.Sound.pay {M : Mk.Mkt} (h : Mk.Sound M) {who : Nat} (hw : who < 4) {n : Int} (hn : 0 ≤ n) : Mk.Sound (Mk.payM M who n).2 := by
  unfold Mk.payM
  split
  · exact h
  · rename_i hc
    refine ⟨h.cm, h.ln, h.inc, h.low, h.who, h.ord, h.ch, h.sh, fun c hc' => ?_, h.sf, h.house, ?_, h.tos⟩
    · show 0 ≤ upd M.cf who (M.cf who + n) c
      have := h.cf c hc'
      have := h.cf who hw
      unfold upd; split <;> omega
    · show totTo (upd M.cf who (M.cf who + n)) M.ch 4 + M.house ≤ 9999
      rw [totTo_f hw]
      omega
theorem Mk.Sound.draw {M : Mk.Mkt} (h : Mk.Sound M) {who : Nat} (hw : who < 4) {n : Int} (hn : 0 ≤ n) : Mk.Sound (Mk.drawM M who n).2 := by
  unfold Mk.drawM
  split
  · exact h
  · rename_i hc
    refine ⟨h.cm, h.ln, h.inc, h.low, h.who, h.ord, h.ch, h.sh, fun c hc' => ?_, h.sf, h.house, ?_, h.tos⟩
    · show 0 ≤ upd M.cf who (M.cf who - n) c
      have := h.cf c hc'
      unfold upd; split <;> omega
    · show totTo (upd M.cf who (M.cf who - n)) M.ch 4 + M.house ≤ 9999
      rw [totTo_f hw]
      have := h.tot
      omega
theorem Mk.Sound.bring {M : Mk.Mkt} (h : Mk.Sound M) {v who : Nat} (hv : v < 2) (hw : who < 4) {n : Int} (hn : 0 ≤ n) : Mk.Sound (Mk.bringM M v who n).2 := by
  unfold Mk.bringM
  split
  · exact h
  · rename_i hc
    refine ⟨h.cm, h.ln, h.inc, h.low, h.who, h.ord, h.ch, h.sh, h.cf, fun u c hu hc' => ?_, h.house, h.tot, fun u hu => ?_⟩
    · show 0 ≤ upd M.sf v (upd (M.sf v) who (M.sf v who + n)) u c
      have := h.sf u c hu hc'
      have := h.sf v who hv hw
      have := h.sf v c hv hc'
      by_cases e : u = v
      · subst e
        rw [upd_self]
        unfold upd; split <;> omega
      · rw [upd_ne _ _ e]; omega
    · show totTo (upd M.sf v (upd (M.sf v) who (M.sf v who + n)) u) (M.sh u) 4 ≤ 999
      by_cases e : u = v
      · subst e
        rw [upd_self, totTo_f hw]
        omega
      · rw [upd_ne _ _ e]; exact h.tos u hu
theorem Mk.Sound.fetch {M : Mk.Mkt} (h : Mk.Sound M) {v who : Nat} (hv : v < 2) (hw : who < 4) {n : Int} (hn : 0 ≤ n) : Mk.Sound (Mk.fetchM M v who n).2 := by
  unfold Mk.fetchM
  split
  · exact h
  · rename_i hc
    refine ⟨h.cm, h.ln, h.inc, h.low, h.who, h.ord, h.ch, h.sh, h.cf, fun u c hu hc' => ?_, h.house, h.tot, fun u hu => ?_⟩
    · show 0 ≤ upd M.sf v (upd (M.sf v) who (M.sf v who - n)) u c
      have := h.sf u c hu hc'
      have := h.sf v c hv hc'
      by_cases e : u = v
      · subst e
        rw [upd_self]
        unfold upd; split <;> omega
      · rw [upd_ne _ _ e]; omega
    · show totTo (upd M.sf v (upd (M.sf v) who (M.sf v who - n)) u) (M.sh u) 4 ≤ 999
      by_cases e : u = v
      · subst e
        rw [upd_self, totTo_f hw]
        have := h.tos u hu
        omega
      · rw [upd_ne _ _ e]; exact h.tos u hu
theorem Mk.Sound.mode {M : Mk.Mkt} (h : Mk.Sound M) (v : Nat) (mc : Bool) : Mk.Sound (Mk.modeM M v mc).2 := by
  unfold Mk.modeM
  split
  · exact h
  · exact ⟨h.cm, h.ln, h.inc, h.low, h.who, h.ord, h.ch, h.sh, h.cf, h.sf, h.house, h.tot, h.tos⟩

/-- another batch, with what it needs held -/
theorem Mk.Sound.hold {M : Mk.Mkt} (h : Mk.Sound M) {v who : Nat} (hv : v < 2) (hw : who < 4) (o : Mk.Ord) (k : Int) (l : List Mk.Stand) (n : Int)
    (hC : ∀ c, c < 4 → Mk.sumF (Mk.nC c) l = Mk.sumF (Mk.nC c) (M.bk v) + if o.sell = false ∧ c = who then k * o.price * o.qty else 0)
    (hS : ∀ c, c < 4 → Mk.sumF (Mk.nS c) l = Mk.sumF (Mk.nS c) (M.bk v) + if o.sell = true ∧ c = who then k * o.qty else 0)
    (hf : o.sell = true → 0 ≤ M.sf v who - k * o.qty) (hg : o.sell = false → 0 ≤ M.cf who - k * o.price * o.qty)
    (hn : 0 ≤ n ∧ n ≤ 12) (hl : (l.length : Int) ≤ n) (hinc : l.Pairwise (fun x y => x.n < y.n)) (hlow : ∀ x ∈ l, 0 ≤ x.n ∧ x.n < n)
    (hwho : ∀ x ∈ l, 0 ≤ x.who ∧ x.who ≤ 3) (hord : ∀ x ∈ l, 1 ≤ x.o.price ∧ x.o.price ≤ 99 ∧ 1 ≤ x.o.qty ∧ x.o.qty ≤ 20) :
    Mk.Sound { Mk.holdM M v who o k with cm := upd M.cm v n, bk := upd M.bk v l } := by
  have A1 : ∀ u, u < 2 → 0 ≤ upd M.cm v n u ∧ upd M.cm v n u ≤ 12 := fun u hu => by
    have := h.cm u hu
    unfold upd; split <;> omega
  have A2 : ∀ u, u < 2 → ((upd M.bk v l u).length : Int) ≤ upd M.cm v n u := fun u hu => by
    by_cases e : u = v
    · subst e; rw [upd_self, upd_self]; exact hl
    · rw [upd_ne _ _ e, upd_ne _ _ e]; exact h.ln u hu
  have A3 : ∀ u, u < 2 → (upd M.bk v l u).Pairwise (fun x y => x.n < y.n) := fun u hu => by
    by_cases e : u = v
    · subst e; rw [upd_self]; exact hinc
    · rw [upd_ne _ _ e]; exact h.inc u hu
  have A4 : ∀ u, u < 2 → ∀ x ∈ upd M.bk v l u, 0 ≤ x.n ∧ x.n < upd M.cm v n u := fun u hu => by
    by_cases e : u = v
    · subst e; rw [upd_self, upd_self]; exact hlow
    · rw [upd_ne _ _ e, upd_ne _ _ e]; exact h.low u hu
  have A5 : ∀ u, u < 2 → ∀ x ∈ upd M.bk v l u, 0 ≤ x.who ∧ x.who ≤ 3 := fun u hu => by
    by_cases e : u = v
    · subst e; rw [upd_self]; exact hwho
    · rw [upd_ne _ _ e]; exact h.who u hu
  have A6 : ∀ u, u < 2 → ∀ x ∈ upd M.bk v l u, 1 ≤ x.o.price ∧ x.o.price ≤ 99 ∧ 1 ≤ x.o.qty ∧ x.o.qty ≤ 20 := fun u hu => by
    by_cases e : u = v
    · subst e; rw [upd_self]; exact hord
    · rw [upd_ne _ _ e]; exact h.ord u hu
  have B1 : ∀ c, c < 4 → Mk.sumF (Mk.nC c) (upd M.bk v l 0) + Mk.sumF (Mk.nC c) (upd M.bk v l 1) = M.ch c + if o.sell = false ∧ c = who then k * o.price * o.qty else 0 := fun c hc => by
    have h1 := hC c hc
    have h2 := h.ch c hc
    rcases (show v = 0 ∨ v = 1 by omega) with rfl | rfl
    · rw [upd_self, upd_ne _ _ (by omega), h1, h2]; omega
    · rw [upd_self, upd_ne _ _ (by omega), h1, h2]; omega
  have B2 : ∀ u c, u < 2 → c < 4 → Mk.sumF (Mk.nS c) (upd M.bk v l u) = M.sh u c + if o.sell = true ∧ c = who ∧ u = v then k * o.qty else 0 := fun u c hu hc => by
    have h1 := hS c hc
    have h2 := h.sh u c hu hc
    by_cases e : u = v
    · subst e
      rw [upd_self, h1, h2]
      simp
    · rw [upd_ne _ _ e, h2, if_neg (fun h => e h.2.2)]; omega
  obtain ⟨sell, price, qty⟩ := o
  cases sell
  · have hg' := hg rfl
    have T0 := h.tot
    refine ⟨A1, A2, A3, A4, A5, A6, fun c hc => ?_, fun u c hu hc => ?_, fun c hc => ?_, h.sf, h.house, ?_, h.tos⟩
    · show upd M.ch who (M.ch who + k * price * qty) c = Mk.sumF (Mk.nC c) (upd M.bk v l 0) + Mk.sumF (Mk.nC c) (upd M.bk v l 1)
      rw [B1 c hc]
      by_cases e : c = who
      · subst e; rw [upd_self, if_pos ⟨rfl, rfl⟩]
      · rw [upd_ne _ _ e, if_neg (fun h => e h.2)]; omega
    · show M.sh u c = Mk.sumF (Mk.nS c) (upd M.bk v l u)
      rw [B2 u c hu hc, if_neg (fun h => by cases h.1)]; omega
    · show 0 ≤ upd M.cf who (M.cf who - k * price * qty) c
      have := h.cf c hc
      unfold upd; split
      · exact hg'
      · exact this
    · show totTo (upd M.cf who (M.cf who - k * price * qty)) (upd M.ch who (M.ch who + k * price * qty)) 4 + M.house ≤ 9999
      rw [totTo_f hw, totTo_h hw]
      omega
  · have hf' := hf rfl
    refine ⟨A1, A2, A3, A4, A5, A6, fun c hc => ?_, fun u c hu hc => ?_, h.cf, fun u c hu hc => ?_, h.house, h.tot, fun u hu => ?_⟩
    · show M.ch c = Mk.sumF (Mk.nC c) (upd M.bk v l 0) + Mk.sumF (Mk.nC c) (upd M.bk v l 1)
      rw [B1 c hc, if_neg (fun h => by cases h.1)]; omega
    · show upd M.sh v (upd (M.sh v) who (M.sh v who + k * qty)) u c = Mk.sumF (Mk.nS c) (upd M.bk v l u)
      rw [B2 u c hu hc]
      by_cases e : u = v
      · subst e
        rw [upd_self]
        by_cases e2 : c = who
        · subst e2; rw [upd_self, if_pos ⟨rfl, rfl, rfl⟩]
        · rw [upd_ne _ _ e2, if_neg (fun h => e2 h.2.1)]; omega
      · rw [upd_ne _ _ e, if_neg (fun h => e h.2.2)]; omega
    · show 0 ≤ upd M.sf v (upd (M.sf v) who (M.sf v who - k * qty)) u c
      have := h.sf u c hu hc
      by_cases e : u = v
      · subst e
        rw [upd_self]
        unfold upd; split
        · exact hf'
        · exact this
      · rw [upd_ne _ _ e]; exact this
    · show totTo (upd M.sf v (upd (M.sf v) who (M.sf v who - k * qty)) u) (upd M.sh v (upd (M.sh v) who (M.sh v who + k * qty)) u) 4 ≤ 999
      by_cases e : u = v
      · subst e
        rw [upd_self, upd_self, totTo_f hw, totTo_h hw]
        have := h.tos u hu
        omega
      · rw [upd_ne _ _ e, upd_ne _ _ e]; exact h.tos u hu

theorem hold_cm (M : Mk.Mkt) (v who : Nat) (o : Mk.Ord) (k : Int) : (Mk.holdM M v who o k).cm = M.cm := by unfold Mk.holdM; split <;> rfl
theorem hold_bk (M : Mk.Mkt) (v who : Nat) (o : Mk.Ord) (k : Int) : (Mk.holdM M v who o k).bk = M.bk := by unfold Mk.holdM; split <;> rfl
theorem hold_ls (M : Mk.Mkt) (v who : Nat) (o : Mk.Ord) (k : Int) : (Mk.holdM M v who o k).ls = M.ls := by unfold Mk.holdM; split <;> rfl
theorem hold_disk (M : Mk.Mkt) (v who : Nat) (o : Mk.Ord) (k : Int) : (Mk.holdM M v who o k).disk = M.disk := by unfold Mk.holdM; split <;> rfl

theorem Mk.Sound.put {M : Mk.Mkt} (h : Mk.Sound M) {v who : Nat} (hv : v < 2) (hw : who < 4) (o : Mk.Ord) (ho : 1 ≤ o.price ∧ o.price ≤ 99 ∧ 1 ≤ o.qty ∧ o.qty ≤ 20) (h12 : M.cm v < 12) (hk : Mk.lacks M v who o = false) : Mk.Sound (Mk.putM M v who o) := by
  have hn := h.cm v hv
  have hl := h.ln v hv
  unfold Mk.lacks at hk
  refine h.hold hv hw o 1 (M.bk v ++ [⟨M.cm v, (who : Int), o⟩]) (M.cm v + 1) (fun c hc => ?_) (fun c hc => ?_) (fun e => ?_) (fun e => ?_) ⟨by omega, by omega⟩ (by simp; omega) ?_ (fun x hx => ?_) (fun x hx => ?_) (fun x hx => ?_)
  · rw [sumF_append]
    simp only [Mk.sumF, Mk.nC]
    by_cases e : o.sell = false ∧ c = who
    · rw [if_pos e, if_pos ⟨e.1, by rw [e.2]⟩]; rw [Int.one_mul]; omega
    · rw [if_neg e, if_neg (fun h => e ⟨h.1, by have := h.2; omega⟩)]; omega
  · rw [sumF_append]
    simp only [Mk.sumF, Mk.nS]
    by_cases e : o.sell = true ∧ c = who
    · rw [if_pos e, if_pos ⟨e.1, by rw [e.2]⟩]; omega
    · rw [if_neg e, if_neg (fun h => e ⟨h.1, by have := h.2; omega⟩)]; omega
  · rw [if_pos e] at hk
    have := of_decide_eq_false hk
    omega
  · rw [if_neg (by rw [e]; decide)] at hk
    have := of_decide_eq_false hk
    rw [Int.one_mul]
    omega
  · rw [List.pairwise_append]
    refine ⟨h.inc v hv, by simp, fun x hx y hy => ?_⟩
    obtain rfl : y = ⟨M.cm v, (who : Int), o⟩ := by simpa using hy
    exact (h.low v hv x hx).2
  · rcases List.mem_append.1 hx with hx | hx
    · have := h.low v hv x hx; exact ⟨this.1, by omega⟩
    · obtain rfl : x = ⟨M.cm v, (who : Int), o⟩ := by simpa using hx
      exact ⟨hn.1, by show M.cm v < M.cm v + 1; omega⟩
  · rcases List.mem_append.1 hx with hx | hx
    · exact h.who v hv x hx
    · obtain rfl : x = ⟨M.cm v, (who : Int), o⟩ := by simpa using hx
      exact ⟨by show (0 : Int) ≤ (who : Int); omega, by show (who : Int) ≤ 3; omega⟩
  · rcases List.mem_append.1 hx with hx | hx
    · exact h.ord v hv x hx
    · obtain rfl : x = ⟨M.cm v, (who : Int), o⟩ := by simpa using hx
      exact ho
theorem Mk.Sound.order {M : Mk.Mkt} (h : Mk.Sound M) {v who : Nat} (hv : v < 2) (hw : who < 4) (o : Mk.Ord) (ho : 1 ≤ o.price ∧ o.price ≤ 99 ∧ 1 ≤ o.qty ∧ o.qty ≤ 20) : Mk.Sound (Mk.orderM M v who o).2.2 := by
  unfold Mk.orderM
  split
  · exact h
  · split
    · exact h
    · split
      · exact h
      · rename_i h1 h2 h3
        exact h.put hv hw o ho (by omega) (by simpa using h3)

/-- numbers are told apart -/
theorem pair_idx {l : List Mk.Stand} (h : l.Pairwise (fun x y => x.n < y.n)) {i j : Nat} (hi : i < l.length) (hj : j < l.length) (e : (Mk.std l i).n = (Mk.std l j).n) : i = j := by
  rw [Mk.std_at hi, Mk.std_at hj] at e
  rw [List.pairwise_iff_getElem] at h
  by_cases h1 : i < j
  · have := h i j hi hj h1; omega
  · by_cases h2 : j < i
    · have := h j i hj hi h2; omega
    · omega
theorem hit_idx {l : List Mk.Stand} {n : Int} {who : Nat} (h : l.Pairwise (fun x y => x.n < y.n)) : ∀ i j, i < l.length → j < l.length → Mk.hit n who (Mk.std l i) = true → Mk.hit n who (Mk.std l j) = true → i = j := by
  intro i j hi hj h1 h2
  unfold Mk.hit at h1 h2
  simp at h1 h2
  exact pair_idx h hi hj (by rw [h1.1, h2.1])
theorem hit_same {l : List Mk.Stand} {n : Int} {who : Nat} (h : l.Pairwise (fun x y => x.n < y.n)) : ∀ x, l.find? (Mk.hit n who) = some x → l.filter (fun y => !(y.n == n)) = l.filter (fun y => !Mk.hit n who y) := by
  intro x hx
  have hm := List.mem_of_find?_eq_some hx
  have hh := List.find?_some hx
  refine List.filter_congr (fun y hy => ?_)
  congr 1
  by_cases e : y.n = n
  · obtain ⟨i, hi, rfl⟩ := List.mem_iff_getElem.1 hm
    obtain ⟨j, hj, rfl⟩ := List.mem_iff_getElem.1 hy
    have h1 : (l[i]).n = n := by
      unfold Mk.hit at hh
      simp at hh
      exact hh.1
    have : j = i := pair_idx h hj hi (by rw [Mk.std_at hi, Mk.std_at hj, e, h1])
    subst this
    rw [hh]
    simp [e]
  · unfold Mk.hit
    have e' : (y.n == n) = false := by simpa using e
    rw [e']
    rfl
/-- what the one that goes had needed -/
theorem sum_out {f : Mk.Stand → Int} {n : Int} {who : Nat} : ∀ {l : List Mk.Stand}, l.Pairwise (fun x y => x.n < y.n) → ∀ {x}, l.find? (Mk.hit n who) = some x → Mk.sumF f (l.filter (fun y => !Mk.hit n who y)) = Mk.sumF f l - f x
  | [], _, x, hx => by simp at hx
  | y :: t, h, x, hx => by
    rw [List.pairwise_cons] at h
    by_cases e : Mk.hit n who y = true
    · have ex : y = x := by simpa [List.find?_cons, e] using hx
      subst ex
      have hall : t.filter (fun z => !Mk.hit n who z) = t := by
        rw [List.filter_eq_self]
        intro z hz
        have h1 := h.1 z hz
        have e1 : y.n = n := by unfold Mk.hit at e; simp at e; exact e.1
        have : (z.n == n) = false := by rw [beq_eq_false_iff_ne]; omega
        unfold Mk.hit
        rw [this]
        rfl
      rw [List.filter_cons, e]
      simp only [Bool.not_true, Bool.false_eq_true, if_false, hall, Mk.sumF]
      omega
    · have e' : Mk.hit n who y = false := by simpa using e
      have hx' : t.find? (Mk.hit n who) = some x := by simpa [List.find?_cons, e'] using hx
      have ih := sum_out (f := f) h.2 hx'
      rw [List.filter_cons, e']
      simp only [Bool.not_false, if_true, Mk.sumF, ih]
      omega
theorem Mk.Sound.out {M : Mk.Mkt} (h : Mk.Sound M) {v who : Nat} (hv : v < 2) (hw : who < 4) (n : Int) {x : Mk.Stand} (hx : (M.bk v).find? (Mk.hit n who) = some x) : Mk.Sound (Mk.outM M v who n x) := by
  have hm := List.mem_of_find?_eq_some hx
  have hh := List.find?_some hx
  have hxw : x.who = (who : Int) := by unfold Mk.hit at hh; simp at hh; exact hh.2
  have ho := h.ord v hv x hm
  have hp : 0 ≤ x.o.price * x.o.qty := Int.mul_nonneg (by omega) (by omega)
  have e0 : Mk.outM M v who n x = { Mk.holdM M v who x.o (-1) with cm := upd M.cm v (M.cm v), bk := upd M.bk v ((M.bk v).filter (fun y => !Mk.hit n who y)) } := by
    unfold Mk.outM
    rw [upd_same, ← hold_cm M v who x.o (-1)]
  have em : -1 * x.o.price * x.o.qty = -(x.o.price * x.o.qty) := by rw [Int.neg_mul, Int.one_mul, Int.neg_mul]
  have hsub : ∀ y ∈ (M.bk v).filter (fun y => !Mk.hit n who y), y ∈ M.bk v := fun y hy => (List.mem_filter.1 hy).1
  rw [e0]
  refine h.hold hv hw x.o (-1) _ _ (fun c hc => ?_) (fun c hc => ?_) (fun e => ?_) (fun e => ?_) (h.cm v hv) ?_ ((h.inc v hv).filter _) (fun y hy => h.low v hv y (hsub y hy)) (fun y hy => h.who v hv y (hsub y hy)) (fun y hy => h.ord v hv y (hsub y hy))
  · rw [sum_out (h.inc v hv) hx, em]
    unfold Mk.nC
    by_cases e : x.o.sell = false ∧ c = who
    · rw [if_pos e, if_pos ⟨e.1, by rw [e.2]; exact hxw⟩]; omega
    · rw [if_neg e, if_neg (fun h => e ⟨h.1, by have := h.2; omega⟩)]; omega
  · rw [sum_out (h.inc v hv) hx]
    unfold Mk.nS
    by_cases e : x.o.sell = true ∧ c = who
    · rw [if_pos e, if_pos ⟨e.1, by rw [e.2]; exact hxw⟩]; omega
    · rw [if_neg e, if_neg (fun h => e ⟨h.1, by have := h.2; omega⟩)]; omega
  · have := h.sf v who hv hw; omega
  · have := h.cf who hw
    rw [em]; omega
  · have h1 := List.length_filter_le (fun y : Mk.Stand => !Mk.hit n who y) (M.bk v)
    have := h.ln v hv
    omega
theorem Mk.Sound.drop {M : Mk.Mkt} (h : Mk.Sound M) {v who : Nat} (hv : v < 2) (hw : who < 4) (n : Int) : Mk.Sound (Mk.dropM M v who n).2 := by
  unfold Mk.dropM
  cases hx : (M.bk v).find? (Mk.hit n who) with
  | none => exact h
  | some x => exact h.out hv hw n hx

end Go.Proofs.YtmebcdpdpcpnmaaGreatDoor
