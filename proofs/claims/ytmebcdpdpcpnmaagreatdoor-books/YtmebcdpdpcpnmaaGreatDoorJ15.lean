import Derived.Test.YtmebcdpdpcpnmaaGreatDoorJ5
import Derived.Test.YtmebcdpdpcpnmaaGreatDoorJ14
import Derived.Test.YtmebcdpdpcpnmaaGreatDoorJ1
import Derived.Test.YtmebcdpdpcpnmaaGreatDoorJ3
import Derived.Test.YtmebcdpdpcpnmaaGreatDoorJ4
namespace Go.Proofs.YtmebcdpdpcpnmaaGreatDoor

/-- in McAfee's mode every order is of one slot -/
def Mk.One (M : Mk.Mkt) : Prop := ∀ v, v < 2 → M.md v = true → ∀ x ∈ M.bk v, x.o.qty = 1

def Mk.ords (b : List Mk.Stand) : List Mk.Ord := b.map (·.o)
theorem ords_len (b : List Mk.Stand) : (Mk.ords b).length = b.length := by simp [Mk.ords]
theorem ords_at {b : List Mk.Stand} {i : Nat} (h : i < b.length) : (Mk.ords b).getD i Mk.ozero = (Mk.std b i).o := by
  rw [Mk.std_at h]
  simp [Mk.ords, List.getD, h]

/-- one order is settled -/
def Mk.dealM (M : Mk.Mkt) (v who : Nat) (o : Mk.Ord) (n pay get : Int) : Mk.Mkt :=
  if o.sell then { Mk.holdM M v who o (-1) with
      sf := upd (Mk.holdM M v who o (-1)).sf v (upd ((Mk.holdM M v who o (-1)).sf v) who ((Mk.holdM M v who o (-1)).sf v who - n)),
      cf := upd (Mk.holdM M v who o (-1)).cf who ((Mk.holdM M v who o (-1)).cf who + n * get), house := (Mk.holdM M v who o (-1)).house - n * get }
  else { Mk.holdM M v who o (-1) with
      sf := upd (Mk.holdM M v who o (-1)).sf v (upd ((Mk.holdM M v who o (-1)).sf v) who ((Mk.holdM M v who o (-1)).sf v who + n)),
      cf := upd (Mk.holdM M v who o (-1)).cf who ((Mk.holdM M v who o (-1)).cf who - n * pay), house := (Mk.holdM M v who o (-1)).house + n * pay }
/-- the first k are -/
def Mk.dealTo (M : Mk.Mkt) (v : Nat) (b : List Mk.Stand) (f : Nat → Int) (pay get : Int) : Nat → Mk.Mkt
  | 0 => M
  | k + 1 => Mk.dealM (Mk.dealTo M v b f pay get k) v (Mk.std b k).who.toNat (Mk.std b k).o (f k) pay get
/-- how much a side of the first k got -/
def Mk.gotTo (b : List Mk.Stand) (f : Nat → Int) (s : Bool) : Nat → Int
  | 0 => 0
  | k + 1 => Mk.gotTo b f s k + if (Mk.std b k).o.sell = s then f k else 0
theorem got_sum (b : List Mk.Stand) (f : Nat → Int) (s : Bool) : Mk.gotTo b f s b.length = Mk.sideSum (Mk.ords b) s f := by
  have h : ∀ k, k ≤ b.length → Mk.gotTo b f s k = Mk.sumn (fun i => if ((Mk.ords b).getD i Mk.ozero).sell = s then f i else 0) k := by
    intro k
    induction k with
    | zero => intro _; rfl
    | succ k ih =>
      intro hk
      simp only [Mk.gotTo, Mk.sumn]
      rw [ih (by omega), ords_at (by omega)]
  rw [h _ (Nat.le_refl _)]
  unfold Mk.sideSum
  rw [ords_len]

theorem drop_std {l : List Mk.Stand} {k : Nat} (h : k < l.length) : l.drop k = Mk.std l k :: l.drop (k + 1) := by
  rw [List.drop_eq_getElem_cons h, Mk.std_at h]

/-- where the settling stands when k orders were settled -/
structure Mk.Dealt (M : Mk.Mkt) (v : Nat) (f : Nat → Int) (pay get : Int) (k : Nat) (A : Mk.Mkt) : Prop where
  ch : ∀ c, c < 4 → A.ch c = Mk.sumF (Mk.nC c) (M.bk (1 - v)) + Mk.sumF (Mk.nC c) ((M.bk v).drop k)
  sh : ∀ c, c < 4 → A.sh v c = Mk.sumF (Mk.nS c) ((M.bk v).drop k)
  other : ∀ u, u ≠ v → A.sf u = M.sf u ∧ A.sh u = M.sh u
  cf : ∀ c, c < 4 → M.cf c ≤ A.cf c
  sf : ∀ c, c < 4 → M.sf v c ≤ A.sf v c
  tot : totTo A.cf A.ch 4 + A.house = totTo M.cf M.ch 4 + M.house
  house : A.house = M.house + pay * Mk.gotTo (M.bk v) f false k - get * Mk.gotTo (M.bk v) f true k
  tos : totTo (A.sf v) (A.sh v) 4 = totTo (M.sf v) (M.sh v) 4 + Mk.gotTo (M.bk v) f false k - Mk.gotTo (M.bk v) f true k
  same : A.bk = M.bk ∧ A.cm = M.cm ∧ A.md = M.md ∧ A.ls = M.ls ∧ A.tx = M.tx ∧ A.er = M.er ∧ A.disk = M.disk

theorem cost_le {n q p pay : Int} (h : 0 ≤ n ∧ n ≤ q) (hp : 0 ≤ p) (hb : n ≠ 0 → pay ≤ p) : 0 ≤ p * q - n * pay := by
  by_cases e : n = 0
  · subst e
    have := Int.mul_nonneg hp (show 0 ≤ q by omega)
    omega
  · have h1 : n * pay ≤ n * p := Int.mul_le_mul_of_nonneg_left (hb e) h.1
    have h2 : p * n ≤ p * q := Int.mul_le_mul_of_nonneg_left h.2 hp
    rw [Int.mul_comm p n] at h2
    omega

theorem Mk.Dealt.next {M A : Mk.Mkt} {v : Nat} {f : Nat → Int} {pay get V : Int} {k : Nat} (hS : Mk.Sound M) (hv : v < 2) (hf : Mk.Fill (Mk.ords (M.bk v)) f pay get V) (hk : k < (M.bk v).length) (h : Mk.Dealt M v f pay get k A) :
    Mk.Dealt M v f pay get (k + 1) (Mk.dealM A v (Mk.std (M.bk v) k).who.toNat (Mk.std (M.bk v) k).o (f k) pay get) := by
  have hmem : Mk.std (M.bk v) k ∈ M.bk v := by rw [Mk.std_at hk]; exact List.getElem_mem _
  have hwho := hS.who v hv _ hmem
  have hord := hS.ord v hv _ hmem
  have hbd := hf.bd k (by rw [ords_len]; exact hk)
  have hbuy := hf.buy k (by rw [ords_len]; exact hk)
  have hpr := hf.price
  rw [ords_at hk] at hbd hbuy
  have hdr := drop_std hk
  have hch := h.ch
  have hsh := h.sh
  simp only [hdr, Mk.sumF] at hch hsh
  generalize hx : Mk.std (M.bk v) k = x at *
  have hw : x.who.toNat < 4 := by omega
  have hwx : x.who = ((x.who.toNat : Nat) : Int) := by omega
  have g0 : ∀ s, Mk.gotTo (M.bk v) f s (k + 1) = Mk.gotTo (M.bk v) f s k + if x.o.sell = s then f k else 0 := fun s => by rw [← hx]; rfl
  have hcost := cost_le (n := f k) (q := x.o.qty) (p := x.o.price) (pay := pay) hbd (by omega)
  have hget : 0 ≤ f k * get := Int.mul_nonneg hbd.1 hpr.1
  generalize hW : x.who.toNat = who at *
  have nC0 : ∀ c, Mk.nC c x = if x.o.sell = false ∧ c = who then x.o.price * x.o.qty else 0 := fun c => by
    unfold Mk.nC
    by_cases e : x.o.sell = false ∧ c = who
    · rw [if_pos e, if_pos ⟨e.1, by rw [hwx, e.2]⟩]
    · rw [if_neg e, if_neg (fun h => e ⟨h.1, by have := h.2; omega⟩)]
  have nS0 : ∀ c, Mk.nS c x = if x.o.sell = true ∧ c = who then x.o.qty else 0 := fun c => by
    unfold Mk.nS
    by_cases e : x.o.sell = true ∧ c = who
    · rw [if_pos e, if_pos ⟨e.1, by rw [hwx, e.2]⟩]
    · rw [if_neg e, if_neg (fun h => e ⟨h.1, by have := h.2; omega⟩)]
  obtain ⟨xn, xw, sell, price, qty⟩ := x
  simp only at *
  clear hx hdr hmem
  have em : ∀ a b : Int, -1 * a * b = -(a * b) := fun a b => by rw [Int.neg_mul, Int.one_mul, Int.neg_mul]
  cases sell
  · have hc := hcost (fun e => hbuy rfl e)
    have eD : Mk.dealM A v who ⟨false, price, qty⟩ (f k) pay get = { A with
        sf := upd A.sf v (upd (A.sf v) who (A.sf v who + f k)), cf := upd A.cf who (A.cf who + price * qty - f k * pay), ch := upd A.ch who (A.ch who - price * qty), house := A.house + f k * pay } := by
      unfold Mk.dealM Mk.holdM
      simp only [Bool.false_eq_true, if_false, upd_self, em]
      congr 1
      · funext j
        unfold upd
        split
        · omega
        · rfl
    rw [eD]
    have t1 := h.tot
    have t2 := h.house
    have t3 := h.tos
    have g1 := g0 false
    have g2 := g0 true
    simp only [if_true, Bool.false_eq_true, if_false, Int.add_zero] at g1 g2
    refine ⟨fun c hc' => ?_, fun c hc' => ?_, fun u hu => ?_, fun c hc' => ?_, fun c hc' => ?_, ?_, ?_, ?_, h.same⟩
    · show upd A.ch who (A.ch who - price * qty) c = _
      have h1 := hch c hc'
      rw [nC0] at h1
      by_cases e : c = who
      · subst e
        rw [upd_self]
        simp only [true_and, if_true] at h1
        omega
      · rw [upd_ne _ _ e]
        rw [if_neg (fun h => e h.2)] at h1
        omega
    · have h1 := hsh c hc'
      rw [nS0, if_neg (fun h => by cases h.1)] at h1
      show A.sh v c = _
      omega
    · refine ⟨?_, (h.other u hu).2⟩
      show upd A.sf v _ u = _
      rw [upd_ne _ _ hu]; exact (h.other u hu).1
    · show M.cf c ≤ upd A.cf who (A.cf who + price * qty - f k * pay) c
      have h1 := h.cf c hc'
      by_cases e : c = who
      · subst e; rw [upd_self]; omega
      · rw [upd_ne _ _ e]; exact h1
    · show M.sf v c ≤ upd A.sf v (upd (A.sf v) who (A.sf v who + f k)) v c
      have h1 := h.sf c hc'
      rw [upd_self]
      by_cases e : c = who
      · subst e; rw [upd_self]; omega
      · rw [upd_ne _ _ e]; exact h1
    · show totTo (upd A.cf who (A.cf who + price * qty - f k * pay)) (upd A.ch who (A.ch who - price * qty)) 4 + (A.house + f k * pay) = _
      rw [totTo_f hw, totTo_h hw]
      omega
    · show A.house + f k * pay = _
      rw [g1, g2, t2, Int.mul_add, Int.mul_comm pay (f k)]
      omega
    · show totTo (upd A.sf v (upd (A.sf v) who (A.sf v who + f k)) v) (A.sh v) 4 = _
      rw [upd_self, totTo_f hw, g1, g2, t3]
      omega
  · have eD : Mk.dealM A v who ⟨true, price, qty⟩ (f k) pay get = { A with
        sf := upd A.sf v (upd (A.sf v) who (A.sf v who + qty - f k)), sh := upd A.sh v (upd (A.sh v) who (A.sh v who - qty)), cf := upd A.cf who (A.cf who + f k * get), house := A.house - f k * get } := by
      unfold Mk.dealM Mk.holdM
      simp only [if_true, upd_self]
      congr 1
      · funext u
        unfold upd
        split
        · funext c
          split
          · omega
          · rfl
        · rfl
      · funext u
        unfold upd
        split
        · funext c
          split
          · omega
          · rfl
        · rfl
    rw [eD]
    have t1 := h.tot
    have t2 := h.house
    have t3 := h.tos
    have g1 := g0 false
    have g2 := g0 true
    simp only [if_true, Bool.true_eq_false, if_false, Int.add_zero] at g1 g2
    refine ⟨fun c hc' => ?_, fun c hc' => ?_, fun u hu => ?_, fun c hc' => ?_, fun c hc' => ?_, ?_, ?_, ?_, h.same⟩
    · have h1 := hch c hc'
      rw [nC0, if_neg (fun h => by cases h.1)] at h1
      show A.ch c = _
      omega
    · show upd A.sh v (upd (A.sh v) who (A.sh v who - qty)) v c = _
      have h1 := hsh c hc'
      rw [nS0] at h1
      rw [upd_self]
      by_cases e : c = who
      · subst e
        rw [upd_self]
        simp only [true_and, if_true] at h1
        omega
      · rw [upd_ne _ _ e]
        rw [if_neg (fun h => e h.2)] at h1
        omega
    · refine ⟨?_, ?_⟩
      · show upd A.sf v _ u = _
        rw [upd_ne _ _ hu]; exact (h.other u hu).1
      · show upd A.sh v _ u = _
        rw [upd_ne _ _ hu]; exact (h.other u hu).2
    · show M.cf c ≤ upd A.cf who (A.cf who + f k * get) c
      have h1 := h.cf c hc'
      by_cases e : c = who
      · subst e; rw [upd_self]; omega
      · rw [upd_ne _ _ e]; exact h1
    · show M.sf v c ≤ upd A.sf v (upd (A.sf v) who (A.sf v who + qty - f k)) v c
      have h1 := h.sf c hc'
      rw [upd_self]
      by_cases e : c = who
      · subst e; rw [upd_self]; omega
      · rw [upd_ne _ _ e]; exact h1
    · show totTo (upd A.cf who (A.cf who + f k * get)) A.ch 4 + (A.house - f k * get) = _
      rw [totTo_f hw]
      omega
    · show A.house - f k * get = _
      rw [g1, g2, t2, Int.mul_add, Int.mul_comm get (f k)]
      omega
    · show totTo (upd A.sf v (upd (A.sf v) who (A.sf v who + qty - f k)) v) (upd A.sh v (upd (A.sh v) who (A.sh v who - qty)) v) 4 = _
      rw [upd_self, upd_self, totTo_f hw, totTo_h hw, g1, g2, t3]
      omega
theorem Mk.dealt {M : Mk.Mkt} {v : Nat} {f : Nat → Int} {pay get V : Int} (hS : Mk.Sound M) (hv : v < 2) (hf : Mk.Fill (Mk.ords (M.bk v)) f pay get V) : ∀ k, k ≤ (M.bk v).length → Mk.Dealt M v f pay get k (Mk.dealTo M v (M.bk v) f pay get k)
  | 0, _ => ⟨fun c hc => by
      have := hS.ch c hc
      rcases (show v = 0 ∨ v = 1 by omega) with rfl | rfl
      · show M.ch c = Mk.sumF (Mk.nC c) (M.bk 1) + Mk.sumF (Mk.nC c) (M.bk 0)
        omega
      · show M.ch c = Mk.sumF (Mk.nC c) (M.bk 0) + Mk.sumF (Mk.nC c) (M.bk 1)
        omega, fun c hc => by simp only [Mk.dealTo, List.drop_zero]; exact hS.sh v c hv hc, fun _ _ => ⟨rfl, rfl⟩, fun _ _ => Int.le_refl _, fun _ _ => Int.le_refl _, rfl, by simp [Mk.dealTo, Mk.gotTo], by simp [Mk.dealTo, Mk.gotTo], ⟨rfl, rfl, rfl, rfl, rfl, rfl, rfl⟩⟩
  | k + 1, hk => (Mk.dealt hS hv hf k (by omega)).next hS hv hf (by omega)

end Go.Proofs.YtmebcdpdpcpnmaaGreatDoor

namespace Go.Proofs.YtmebcdpdpcpnmaaGreatDoor

theorem Mk.Sound.valid {M : Mk.Mkt} (h : Mk.Sound M) {v : Nat} (hv : v < 2) : Mk.validB 20 (Mk.ords (M.bk v)) = true := by
  refine Mk.valid_yes ?_ ?_
  · rw [ords_len]; exact h.fine.len v hv
  · rw [List.take_length, List.all_eq_true]
    intro o ho
    obtain ⟨x, hx, rfl⟩ := List.mem_map.1 ho
    have := h.ord v hv x hx
    simp [Mk.okB]
    omega
theorem Mk.Sound.valid1 {M : Mk.Mkt} (h : Mk.Sound M) (h1 : Mk.One M) {v : Nat} (hv : v < 2) (hm : M.md v = true) : Mk.validB 1 (Mk.ords (M.bk v)) = true := by
  refine Mk.valid_yes ?_ ?_
  · rw [ords_len]; exact h.fine.len v hv
  · rw [List.take_length, List.all_eq_true]
    intro o ho
    obtain ⟨x, hx, rfl⟩ := List.mem_map.1 ho
    have := h.ord v hv x hx
    have := h1 v hv hm x hx
    simp [Mk.okB]
    omega

/-- what a batch comes to, of a market -/
abbrev Mk.sF (M : Mk.Mkt) (v : Nat) : Nat → Int := Mk.clF (M.md v) (Mk.ords (M.bk v))
abbrev Mk.sPay (M : Mk.Mkt) (v : Nat) : Int := Mk.clPay (M.md v) (Mk.ords (M.bk v))
abbrev Mk.sGet (M : Mk.Mkt) (v : Nat) : Int := Mk.clGet (M.md v) (Mk.ords (M.bk v))
abbrev Mk.sV (M : Mk.Mkt) (v : Nat) : Int := Mk.clV (M.md v) (Mk.ords (M.bk v))
theorem Mk.Sound.fill {M : Mk.Mkt} (h : Mk.Sound M) (h1 : Mk.One M) {v : Nat} (hv : v < 2) : Mk.Fill (Mk.ords (M.bk v)) (Mk.sF M v) (Mk.sPay M v) (Mk.sGet M v) (Mk.sV M v) :=
  Mk.cl_fill (h.valid hv) (fun e => h.valid1 h1 hv e)

/-- the text of a closing -/
def Mk.shutT (V pay get : Int) : ByteArray := if V = 0 then ⟨#[48]⟩ else Mk.digI V ++ ⟨#[64]⟩ ++ Mk.digI pay ++ ⟨#[47]⟩ ++ Mk.digI get
/-- P14, P15 -/
def Mk.shutM (M : Mk.Mkt) (v : Nat) : ByteArray × Mk.Mkt :=
  (Mk.shutT (Mk.sV M v) (Mk.sPay M v) (Mk.sGet M v), { Mk.dealTo M v (M.bk v) (Mk.sF M v) (Mk.sPay M v) (Mk.sGet M v) (M.bk v).length with bk := upd M.bk v [], cm := upd M.cm v 0 })

theorem got_bd {b : List Mk.Stand} {f : Nat → Int} {pay get V : Int} (hf : Mk.Fill (Mk.ords b) f pay get V) (hq : ∀ x ∈ b, x.o.qty ≤ 20) (s : Bool) : ∀ k, k ≤ b.length → 0 ≤ Mk.gotTo b f s k ∧ Mk.gotTo b f s k ≤ 20 * k
  | 0, _ => by simp [Mk.gotTo]
  | k + 1, hk => by
    have ih := got_bd hf hq s k (by omega)
    have h1 := hf.bd k (by rw [ords_len]; omega)
    rw [ords_at (by omega)] at h1
    have h2 := hq (Mk.std b k) (by rw [Mk.std_at (by omega)]; exact List.getElem_mem _)
    simp only [Mk.gotTo]
    split <;> omega
theorem mul_bd3 {a b A B : Int} (ha : 0 ≤ a ∧ a ≤ A) (hb : 0 ≤ b ∧ b ≤ B) : 0 ≤ a * b ∧ a * b ≤ A * B := by
  refine ⟨Int.mul_nonneg ha.1 hb.1, ?_⟩
  exact Int.le_trans (Int.mul_le_mul_of_nonneg_right ha.2 hb.1) (Int.mul_le_mul_of_nonneg_left hb.2 (by omega))

/-- bounds while it is settled -/
structure Mk.Mid (A : Mk.Mkt) (v : Nat) : Prop where
  cf : ∀ c, c < 4 → 0 ≤ A.cf c ∧ A.cf c ≤ 40000
  ch : ∀ c, c < 4 → 0 ≤ A.ch c ∧ A.ch c ≤ 40000
  sf : ∀ c, c < 4 → 0 ≤ A.sf v c ∧ A.sf v c ≤ 2000
  sh : ∀ c, c < 4 → 0 ≤ A.sh v c ∧ A.sh v c ≤ 2000
  house : -24000 ≤ A.house ∧ A.house ≤ 40000
theorem Mk.Dealt.mid {M A : Mk.Mkt} {v : Nat} {f : Nat → Int} {pay get V : Int} {k : Nat} (hS : Mk.Sound M) (hv : v < 2) (hf : Mk.Fill (Mk.ords (M.bk v)) f pay get V) (hk : k ≤ (M.bk v).length) (h : Mk.Dealt M v f pay get k A) : Mk.Mid A v := by
  have h12 := hS.fine.len v hv
  have g0 := got_bd hf (fun x hx => (hS.ord v hv x hx).2.2.2) false k hk
  have g1 := got_bd hf (fun x hx => (hS.ord v hv x hx).2.2.2) true k hk
  have hp := hf.price
  have m0 := mul_bd3 (a := pay) (b := Mk.gotTo (M.bk v) f false k) (A := 100) (B := 240) ⟨by omega, by omega⟩ ⟨by omega, by omega⟩
  have m1 := mul_bd3 (a := get) (b := Mk.gotTo (M.bk v) f true k) (A := 100) (B := 240) ⟨by omega, by omega⟩ ⟨by omega, by omega⟩
  have hh := h.house
  have hh0 := hS.fine.house
  have ht := h.tot
  have ht0 := hS.tot
  have hts := h.tos
  have hts0 := hS.tos v hv
  have ch0 : ∀ c, c < 4 → 0 ≤ A.ch c := fun c hc => by
    have e := h.ch c hc
    have a0 := sumF_nonneg (f := Mk.nC c) (M.bk (1 - v)) (fun x hx => nC_nonneg (hS.ord (1 - v) (by omega) x hx))
    have a1 := sumF_nonneg (f := Mk.nC c) ((M.bk v).drop k) (fun x hx => nC_nonneg (hS.ord v hv x (List.mem_of_mem_drop hx)))
    omega
  have sh0 : ∀ c, c < 4 → 0 ≤ A.sh v c := fun c hc => by
    have e := h.sh c hc
    have a1 := sumF_nonneg (f := Mk.nS c) ((M.bk v).drop k) (fun x hx => nS_nonneg (hS.ord v hv x (List.mem_of_mem_drop hx)))
    omega
  have cf0 : ∀ c, c < 4 → 0 ≤ A.cf c := fun c hc => Int.le_trans (hS.cf c hc) (h.cf c hc)
  have sf0 : ∀ c, c < 4 → 0 ≤ A.sf v c := fun c hc => Int.le_trans (hS.sf v c hv hc) (h.sf c hc)
  have l1 : ∀ c, c < 4 → A.cf c + A.ch c ≤ totTo A.cf A.ch 4 := fun c hc => totTo_le2 (fun d hd => ⟨cf0 d hd, ch0 d hd⟩) hc
  have l2 : ∀ c, c < 4 → A.sf v c + A.sh v c ≤ totTo (A.sf v) (A.sh v) 4 := fun c hc => totTo_le2 (fun d hd => ⟨sf0 d hd, sh0 d hd⟩) hc
  refine ⟨fun c hc => ?_, fun c hc => ?_, fun c hc => ?_, fun c hc => ?_, by omega, by omega⟩
  · have := l1 c hc; have := cf0 c hc; have := ch0 c hc; omega
  · have := l1 c hc; have := cf0 c hc; have := ch0 c hc; omega
  · have := l2 c hc; have := sf0 c hc; have := sh0 c hc; omega
  · have := l2 c hc; have := sf0 c hc; have := sh0 c hc; omega

theorem Mk.Sound.shut {M : Mk.Mkt} (hS : Mk.Sound M) (h1 : Mk.One M) {v : Nat} (hv : v < 2) : Mk.Sound (Mk.shutM M v).2 := by
  have hf := hS.fill h1 hv
  have hD := Mk.dealt hS hv hf (M.bk v).length (Nat.le_refl _)
  have hm := hD.mid hS hv hf (Nat.le_refl _)
  have e0 : Mk.gotTo (M.bk v) (Mk.sF M v) false (M.bk v).length = Mk.sV M v := by rw [got_sum]; exact hf.side false
  have e1 : Mk.gotTo (M.bk v) (Mk.sF M v) true (M.bk v).length = Mk.sV M v := by rw [got_sum]; exact hf.side true
  have hV : 0 ≤ Mk.sV M v := by
    have := got_bd hf (fun x hx => (hS.ord v hv x hx).2.2.2) false _ (Nat.le_refl _)
    omega
  have hb0 : ∀ {P : List Mk.Stand → Prop}, P [] → (∀ u, u < 2 → P (M.bk u)) → ∀ u, u < 2 → P (upd M.bk v [] u) := by
    intro P h0 h2 u hu
    by_cases e : u = v
    · subst e; rw [upd_self]; exact h0
    · rw [upd_ne _ _ e]; exact h2 u hu
  unfold Mk.shutM
  generalize Mk.dealTo M v (M.bk v) (Mk.sF M v) (Mk.sPay M v) (Mk.sGet M v) (M.bk v).length = A at *
  have hcc := hD.ch
  have hss := hD.sh
  rw [List.drop_length] at hcc hss
  have hho := hD.house
  have hts := hD.tos
  rw [e0, e1] at hho hts
  have hpr := hf.price
  have hge : 0 ≤ (Mk.sPay M v - Mk.sGet M v) * Mk.sV M v := Int.mul_nonneg (by omega) hV
  rw [Int.sub_mul] at hge
  refine ⟨fun u hu => ?_, fun u hu => ?_, hb0 (P := fun l => l.Pairwise (fun x y => x.n < y.n)) List.Pairwise.nil hS.inc, fun u hu => ?_, hb0 (P := fun l => ∀ x ∈ l, 0 ≤ x.who ∧ x.who ≤ 3) (fun _ h => by cases h) hS.who, hb0 (P := fun l => ∀ x ∈ l, 1 ≤ x.o.price ∧ x.o.price ≤ 99 ∧ 1 ≤ x.o.qty ∧ x.o.qty ≤ 20) (fun _ h => by cases h) hS.ord, fun c hc => ?_, fun u c hu hc => ?_, fun c hc => (hm.cf c hc).1, fun u c hu hc => ?_, ?_, ?_, fun u hu => ?_⟩
  · show 0 ≤ upd M.cm v 0 u ∧ upd M.cm v 0 u ≤ 12
    have := hS.cm u hu
    unfold upd; split <;> omega
  · show ((upd M.bk v [] u).length : Int) ≤ upd M.cm v 0 u
    by_cases e : u = v
    · subst e; rw [upd_self, upd_self]; simp
    · rw [upd_ne _ _ e, upd_ne _ _ e]; exact hS.ln u hu
  · show ∀ x ∈ upd M.bk v [] u, 0 ≤ x.n ∧ x.n < upd M.cm v 0 u
    by_cases e : u = v
    · subst e; rw [upd_self]; simp
    · rw [upd_ne _ _ e, upd_ne _ _ e]; exact hS.low u hu
  · show A.ch c = Mk.sumF (Mk.nC c) (upd M.bk v [] 0) + Mk.sumF (Mk.nC c) (upd M.bk v [] 1)
    have := hcc c hc
    rcases (show v = 0 ∨ v = 1 by omega) with rfl | rfl
    · rw [upd_self, upd_ne _ _ (by omega)]
      have e : Mk.sumF (Mk.nC c) (M.bk (1 - 0)) = Mk.sumF (Mk.nC c) (M.bk 1) := rfl
      omega
    · rw [upd_self, upd_ne _ _ (by omega)]
      have e : Mk.sumF (Mk.nC c) (M.bk (1 - 1)) = Mk.sumF (Mk.nC c) (M.bk 0) := rfl
      omega
  · show A.sh u c = Mk.sumF (Mk.nS c) (upd M.bk v [] u)
    by_cases e : u = v
    · subst e; rw [upd_self]; exact hss c hc
    · rw [upd_ne _ _ e, (hD.other u e).2]; exact hS.sh u c hu hc
  · show 0 ≤ A.sf u c
    by_cases e : u = v
    · subst e; exact (hm.sf c hc).1
    · rw [(hD.other u e).1]; exact hS.sf u c hu hc
  · show 0 ≤ A.house
    have := hS.house
    omega
  · show totTo A.cf A.ch 4 + A.house ≤ 9999
    have := hD.tot
    have := hS.tot
    omega
  · show totTo (A.sf u) (A.sh u) 4 ≤ 999
    have := hS.tos u hu
    by_cases e : u = v
    · subst e; omega
    · rw [(hD.other u e).1, (hD.other u e).2]; exact this
theorem shut_same (M : Mk.Mkt) (hS : Mk.Sound M) (h1 : Mk.One M) {v : Nat} (hv : v < 2) : (Mk.shutM M v).2.ls = M.ls ∧ (Mk.shutM M v).2.disk = M.disk ∧ (Mk.shutM M v).2.md = M.md := by
  have hD := (Mk.dealt hS hv (hS.fill h1 hv) (M.bk v).length (Nat.le_refl _)).same
  exact ⟨hD.2.2.2.1, hD.2.2.2.2.2.2, hD.2.2.1⟩

/-- one slot each, kept -/
theorem Mk.One.of {M M' : Mk.Mkt} (h : Mk.One M) (e1 : M'.md = M.md) (e2 : M'.bk = M.bk) : Mk.One M' := by
  intro v hv hm x hx
  rw [e1] at hm
  rw [e2] at hx
  exact h v hv hm x hx
theorem Mk.One.order {M : Mk.Mkt} (h : Mk.One M) {v who : Nat} (o : Mk.Ord) : Mk.One (Mk.orderM M v who o).2.2 := by
  unfold Mk.orderM
  split
  · exact h
  · split
    · exact h
    · split
      · exact h
      · rename_i h1 h2 h3
        intro u hu hm x hx
        have hm' : M.md u = true := by
          have e : (Mk.holdM M v who o 1).md = M.md := by unfold Mk.holdM; split <;> rfl
          rw [← e]; exact hm
        have hx' : x ∈ upd M.bk v (M.bk v ++ [⟨M.cm v, (who : Int), o⟩]) u := hx
        by_cases e : u = v
        · subst e
          rw [upd_self] at hx'
          rcases List.mem_append.1 hx' with hx' | hx'
          · exact h u hu hm' x hx'
          · obtain rfl : x = ⟨M.cm u, (who : Int), o⟩ := by simpa using hx'
            by_cases e : o.qty = 1
            · exact e
            · exact absurd (by rw [hm']; simp [e]) h1
        · rw [upd_ne _ _ e] at hx'
          exact h u hu hm' x hx'
theorem Mk.One.drop {M : Mk.Mkt} (h : Mk.One M) {v who : Nat} (n : Int) : Mk.One (Mk.dropM M v who n).2 := by
  unfold Mk.dropM
  split
  · exact h
  · rename_i y _
    intro u hu hm x hx
    have hm' : M.md u = true := by
      have e : (Mk.holdM M v who y.o (-1)).md = M.md := by unfold Mk.holdM; split <;> rfl
      rw [← e]; exact hm
    have hx' : x ∈ upd M.bk v ((M.bk v).filter (fun y => !Mk.hit n who y)) u := hx
    by_cases e : u = v
    · subst e
      rw [upd_self] at hx'
      exact h u hu hm' x (List.mem_filter.1 hx').1
    · rw [upd_ne _ _ e] at hx'
      exact h u hu hm' x hx'
theorem Mk.One.mode {M : Mk.Mkt} (h : Mk.One M) (v : Nat) (mc : Bool) : Mk.One (Mk.modeM M v mc).2 := by
  unfold Mk.modeM
  split
  · exact h
  · rename_i h0
    intro u hu hm x hx
    have hx' : x ∈ M.bk u := hx
    have hm' : upd M.md v mc u = true := hm
    by_cases e : u = v
    · subst e
      have : (M.bk u).length = 0 := by omega
      rw [List.length_eq_zero_iff] at this
      rw [this] at hx'
      cases hx'
    · rw [upd_ne _ _ e] at hm'
      exact h u hu hm' x hx'
theorem Mk.One.shut {M : Mk.Mkt} (hS : Mk.Sound M) (h : Mk.One M) {v : Nat} (hv : v < 2) : Mk.One (Mk.shutM M v).2 := by
  intro u hu hm x hx
  rw [(shut_same M hS h hv).2.2] at hm
  have hx' : x ∈ upd M.bk v [] u := hx
  by_cases e : u = v
  · subst e; rw [upd_self] at hx'; cases hx'
  · rw [upd_ne _ _ e] at hx'; exact h u hu hm x hx'

end Go.Proofs.YtmebcdpdpcpnmaaGreatDoor

namespace Go.Proofs.YtmebcdpdpcpnmaaGreatDoor
open Go.RowKit

set_option maxHeartbeats 400000 in
theorem rwilling_any (s : Bool) (p q c : Int) (w : World) :
    Calls Tryz.prog 63 #[.agg #[.bool s, .int .i64 p, .int .i64 q], .int .i64 c] w fun e w' =>
      e = .returned (.bool (Mk.willB s p c)) ∧ w' = w.alloc (.cells #[.bool s, .int .i64 p, .int .i64 q] 120) := by
  cases s
  all_goals
    go_enter Tryz.func63, Tryz.ntmps63
    go_wp2
    go_ret
    exact ⟨by simp [Mk.willB], rfl⟩

set_option maxHeartbeats 400000 in
theorem lesser_any (d s : Int) (w : World) (h1 : 0 ≤ d ∧ d ≤ 240) (h2 : 0 ≤ s ∧ s ≤ 240) :
    Calls Tryz.prog 93 #[.int .i64 d, .int .i64 s] w fun e w' => e = .returned (.tuple #[.int .i64 (Mk.less d s), .int .i64 (Mk.apart d s)]) ∧ w' = w := by
  by_cases h : d < s
  · have e1 : Hid (Mk.less d s = d) := (by simp [Mk.less, h] : Mk.less d s = d)
    have e2 : Hid (Mk.apart d s = s - d) := (by simp [Mk.apart, h] : Mk.apart d s = s - d)
    go_enter Tryz.func93, Tryz.ntmps93
    go_wp2
    go_ret2
    exact ⟨by rw [e1.out, e2.out]; rfl, rfl⟩
  · have e1 : Hid (Mk.less d s = s) := (by simp [Mk.less, h] : Mk.less d s = s)
    have e2 : Hid (Mk.apart d s = d - s) := (by simp [Mk.apart, h] : Mk.apart d s = d - s)
    go_enter Tryz.func93, Tryz.ntmps93
    go_wp2
    go_ret2
    exact ⟨by rw [e1.out, e2.out]; rfl, rfl⟩

set_option maxHeartbeats 1000000 in
theorem are_some (b off cap : Nat) (l : List Mk.Ord) (w : World) (h12 : l.length ≤ 12) (hR : At w b off l) :
    Calls Tryz.prog 61 #[.slice (some ⟨b, off, none⟩) l.length cap] w fun e w' => e = .returned (.bool (Mk.validB 20 l)) ∧ w' = w := by
  have HR : Hid (At w b off l) := hR
  clear hR
  go_enter Tryz.func61, Tryz.ntmps61
  go_wp2
  go_loop [3] (fun i => ∃ k : Nat, k ≤ l.length ∧ i = .int .i64 k ∧ (l.take k).all (Mk.okB 20) = true) (fun i => l.length - (intOf i).toNat)
  case atStart => exact ⟨0, Nat.zero_le _, rfl, by simp⟩
  case round =>
    obtain ⟨k, hk, rfl, hall⟩ := hrel
    have Hall := (show Hid _ from hall)
    clear hall
    by_cases hlt : k < l.length
    · obtain ⟨c0, c1, c2⟩ := HR.out k hlt
      go_wp2
      all_goals first
        | (go_ret; exact ⟨ret_bool (Mk.valid_no hlt (by simp only [Mk.okB, Bool.and_eq_false_iff, decide_eq_false_iff_not]; omega)).symm, rfl⟩)
        | (go_round
           case rel => exact ⟨k + 1, by omega, by go_num, by rw [Mk.all_take_succ _ _ _ hlt, Hall.out, Bool.true_and]; simp only [Mk.okB, Bool.and_eq_true, decide_eq_true_eq]; omega⟩
           case measure => simp [intOf]; omega)
    · go_wp2
      go_ret
      have : k = l.length := by omega
      subst this
      exact ⟨ret_bool (Mk.valid_yes h12 Hall.out).symm, rfl⟩

set_option maxHeartbeats 1000000 in
theorem are_nil (a : Option Addr) (cap : Nat) (w : World) :
    Calls Tryz.prog 61 #[.slice a 0 cap] w fun e w' => e = .returned (.bool true) ∧ w' = w := by
  go_enter Tryz.func61, Tryz.ntmps61
  go_wp2
  go_loop [3] (fun i => i = .int .i64 0) (fun i => 0)
  case atStart => rfl
  case round =>
    subst hrel
    go_wp2
    go_ret
    exact ⟨rfl, rfl⟩

set_option maxHeartbeats 1000000 in
theorem are_long (a : Option Addr) (len cap : Nat) (w : World) (h : ¬ len ≤ 12) :
    Calls Tryz.prog 61 #[.slice a len cap] w fun e w' => e = .returned (.bool false) ∧ w' = w := by
  have h' : (12 : Int) < (len : Int) := by omega
  go_enter Tryz.func61, Tryz.ntmps61
  go_wp2
  go_ret
  exact ⟨rfl, rfl⟩

theorem are_any (a : Option Addr) (cap : Nat) (l : List Mk.Ord) (w : World) (hR : Rd w a l) :
    Calls Tryz.prog 61 #[.slice a l.length cap] w fun e w' => e = .returned (.bool (Mk.validB 20 l)) ∧ w' = w := by
  by_cases h12 : l.length ≤ 12
  · rcases hR with rfl | ⟨b, off, rfl, hR⟩
    · exact are_nil a cap w
    · exact are_some b off cap l w h12 hR
  · rw [Mk.valid_long h12]; exact are_long a l.length cap w h12

set_option maxHeartbeats 1000000 in
theorem rsum_some (b off cap : Nat) (l : List Mk.Ord) (sell : Bool) (p : Int) (w : World) (hv : Mk.validB 20 l = true) (hR : At w b off l) :
    Calls Tryz.prog 64 #[.slice (some ⟨b, off, none⟩) l.length cap, .bool sell, .int .i64 p] w fun e w' => e = .returned (.int .i64 (Mk.side l sell p)) ∧ Below w.heap.size w w' := by
  obtain ⟨h12, hok⟩ := Mk.ok_of_valid hv
  have HV : Hid (Mk.validB 20 l = true) := hv
  have HO : Hid (∀ o ∈ l, 1 ≤ o.price ∧ o.price ≤ 99 ∧ 1 ≤ o.qty ∧ o.qty ≤ 20) := hok
  have HR : Hid (At w b off l) := hR
  clear hv hok hR
  go_enter Tryz.func64, Tryz.ntmps64
  go_wp2
  go_loopw [7, 8] (fun n i wr => ∃ k : Nat, k ≤ l.length ∧ i = .int .i64 k ∧ n = .int .i64 (Mk.sumf (Mk.sideq sell p) (l.take k)) ∧ Below w.heap.size w wr) (fun _ i _ => l.length - (intOf i).toNat)
  case atStart => exact ⟨0, Nat.zero_le _, rfl, rfl, Below.refl _ _⟩
  case round =>
    obtain ⟨k, hk, rfl, rfl, hb⟩ := hrel
    have Hb : Hid (Below w.heap.size w wr) := hb
    clear hb
    have bd := Mk.side_take_bd HV.out sell p k
    by_cases hlt : k < l.length
    · obtain ⟨c0, c1, c2⟩ := At.below HR.out Hb.out k hlt
      have hbl := blk_lt c0
      have hd := Mk.sumf_take_succ (Mk.sideq sell p) l k hlt
      have hq := HO.out _ (List.getElem_mem hlt)
      have hlt' : (k : Int) < (l.length : Int) := by omega
      revert c0 c1 c2 hd hq
      generalize l[k] = o
      obtain ⟨s, pr, q⟩ := o
      intro c0 c1 c2 hd hq
      simp only at c0 c1 c2 hq
      obtain ⟨q1, q2⟩ : 0 ≤ q ∧ q ≤ 20 := by omega
      clear hq
      rw [Mk.sideq_mk] at hd
      rcases Bool.eq_false_or_eq_true (Mk.willB s pr p) with hw | hw <;> rcases Bool.eq_false_or_eq_true (s == sell) with hs | hs <;> rw [hw, hs] at hd <;> simp at hd
      all_goals
        have HD := (show Hid _ from hd)
        clear hd
        go_wp2_with (go_at_call 63; refine (rwilling_any _ _ _ _ _).mono ?_; rintro e w' ⟨rfl, rfl⟩)
        go_roundw
        case rel => exact ⟨k + 1, by omega, by go_num, by rw [HD.out], Hb.out.alloc Hb.out.size _⟩
        case measure => simp [intOf]; omega
    · go_wp2
      go_ret
      have : k = l.length := by omega
      subst this
      exact ⟨ret_int (by rw [List.take_length]; rfl), Hb.out⟩

set_option maxHeartbeats 1000000 in
theorem rsum_nil (a : Option Addr) (cap : Nat) (sell : Bool) (p : Int) (w : World) :
    Calls Tryz.prog 64 #[.slice a 0 cap, .bool sell, .int .i64 p] w fun e w' => e = .returned (.int .i64 0) ∧ Below w.heap.size w w' := by
  go_enter Tryz.func64, Tryz.ntmps64
  go_wp2
  go_loop [7, 8] (fun n i => i = .int .i64 0 ∧ n = .int .i64 0) (fun _ i => 0)
  case atStart => exact ⟨rfl, rfl⟩
  case round =>
    obtain ⟨rfl, rfl⟩ := hrel
    go_wp2
    go_ret
    exact ⟨rfl, Below.refl _ _⟩

theorem rsum_any (a : Option Addr) (cap : Nat) (l : List Mk.Ord) (sell : Bool) (p : Int) (w : World) (hv : Mk.validB 20 l = true) (hR : Rd w a l) :
    Calls Tryz.prog 64 #[.slice a l.length cap, .bool sell, .int .i64 p] w fun e w' => e = .returned (.int .i64 (Mk.side l sell p)) ∧ Below w.heap.size w w' := by
  rcases hR with rfl | ⟨b, off, rfl, hR⟩
  · exact rsum_nil a cap sell p w
  · exact rsum_some b off cap l sell p w hv hR

end Go.Proofs.YtmebcdpdpcpnmaaGreatDoor

/- Plain mathematics: the document's share is the program's. -/
namespace Mk

def aheadN (a b : Int) (i k : Nat) : Bool := decide (b < a) || (decide (a = b) && decide (i < k))
def inSide (l : List Ord) (p : Int) (b : Bool) (j : Nat) : Bool := willB (l.getD j ozero).sell (l.getD j ozero).price p && (l.getD j ozero).sell == b
def rpart (l : List Ord) (p v t : Int) (b : Bool) (j : Nat) : Int := if inSide l p b j then v * (l.getD j ozero).qty / t else 0
def rahead (l : List Ord) (p v t : Int) (i j : Nat) : Bool := inSide l p (l.getD i ozero).sell j && aheadN (v * (l.getD j ozero).qty % t) (v * (l.getD i ozero).qty % t) j i
def rshare (l : List Ord) (p v t : Int) (i : Nat) : Int :=
  v * (l.getD i ozero).qty / t + if (cnt (rahead l p v t i) l.length : Int) < v - sumn (rpart l p v t (l.getD i ozero).sell) l.length then 1 else 0

section
variable {l : List Ord} {p : Int}

theorem L0_unwilling (i : Nat) (h : willB (l.getD i ozero).sell (l.getD i ozero).price p = false) : L0 l (dem l p) (sup l p) p i = 0 ∧ G0 l (dem l p) (sup l p) p i = 0 := by
  obtain ⟨e1, e2⟩ := share_no (d := dem l p) (s := sup l p) (p := p) (o := l.getD i ozero) (.inr h)
  exact ⟨e2, e1⟩
theorem L0_willing (hV : 1 ≤ vol l p) (i : Nat) (h : willB (l.getD i ozero).sell (l.getD i ozero).price p = true) :
    L0 l (dem l p) (sup l p) p i = vol l p * (l.getD i ozero).qty % sideT (dem l p) (sup l p) (l.getD i ozero).sell ∧ G0 l (dem l p) (sup l p) p i = vol l p * (l.getD i ozero).qty / sideT (dem l p) (sup l p) (l.getD i ozero).sell := by
  obtain ⟨h1, h2⟩ := one_le hV
  obtain ⟨e1, e2⟩ := share_yes (d := dem l p) (s := sup l p) (p := p) (o := l.getD i ozero) (by rw [tot_of]; unfold sideT; split <;> assumption) h
  exact ⟨e2, e1⟩

theorem part_sum (hV : 1 ≤ vol l p) (b : Bool) : sumn (rpart l p (vol l p) (sideT (dem l p) (sup l p) b) b) l.length = sideSum l b (G0 l (dem l p) (sup l p) p) := by
  unfold sideSum
  refine sumn_congr (fun j _ => ?_)
  unfold rpart inSide
  rcases Bool.eq_false_or_eq_true (willB (l.getD j ozero).sell (l.getD j ozero).price p) with hw | hw
  · by_cases hs : (l.getD j ozero).sell = b
    · rw [hw, if_pos hs, (L0_willing hV j hw).2, hs]; simp
    · rw [hw, if_neg hs]
      have : ((l.getD j ozero).sell == b) = false := by simpa using hs
      rw [this]; simp
  · rw [hw, (L0_unwilling j hw).2]; simp

/-- THE DOCUMENT's SHARE of a willing order is the program's -/
theorem rshare_is (hV : 1 ≤ vol l p) {i : Nat} (hw : willB (l.getD i ozero).sell (l.getD i ozero).price p = true) :
    rshare l p (vol l p) (sideT (dem l p) (sup l p) (l.getD i ozero).sell) i = getsf l (dem l p) (sup l p) p i := by
  obtain ⟨eL, eG⟩ := L0_willing hV i hw
  unfold rshare getsf
  rw [← eG, part_sum hV]
  congr 1
  by_cases hb : (l.getD i ozero).sell = long l p
  · rw [hb, ← left_is hV]
    by_cases hz : 0 < L0 l (dem l p) (sup l p) p i
    · have e : cnt (rahead l p (vol l p) (sideT (dem l p) (sup l p) (long l p)) i) l.length = place (L0 l (dem l p) (sup l p) p) l.length i := by
        unfold place
        refine cnt_congr (fun j _ => ?_)
        unfold rahead inSide
        rcases Bool.eq_false_or_eq_true (willB (l.getD j ozero).sell (l.getD j ozero).price p) with hwj | hwj
        · by_cases hs : (l.getD j ozero).sell = (l.getD i ozero).sell
          · have eLj := (L0_willing hV j hwj).1
            rw [hs, hb] at eLj
            rw [hb] at eL
            rw [hwj, hs, ← eLj, ← eL]
            simp only [beq_self_eq_true, Bool.and_self, Bool.true_and]
            rw [Bool.eq_iff_iff, ahead_iff]
            simp [aheadN]
          · have hs' : ((l.getD j ozero).sell == (l.getD i ozero).sell) = false := by simpa using hs
            have h0 : L0 l (dem l p) (sup l p) p j = 0 := L0_short j (by revert hs hb; cases (l.getD j ozero).sell <;> cases (l.getD i ozero).sell <;> cases long l p <;> simp)
            rw [hs', Bool.and_false, Bool.false_and]
            symm
            rw [← Bool.not_eq_true, ahead_iff]
            omega
        · rw [hwj, Bool.false_and, Bool.false_and]
          have h0 := (L0_unwilling j hwj).1
          symm
          rw [← Bool.not_eq_true, ahead_iff]
          omega
      rw [e]
    · have h1 : ¬ (place (L0 l (dem l p) (sup l p) p) l.length i : Int) < left0 l (dem l p) (sup l p) p := fun h => hz (more_lost hV h)
      have h2 : ¬ (cnt (rahead l p (vol l p) (sideT (dem l p) (sup l p) (long l p)) i) l.length : Int) < left0 l (dem l p) (sup l p) p := by
        intro h
        have h3 : losers l p ≤ cnt (rahead l p (vol l p) (sideT (dem l p) (sup l p) (long l p)) i) l.length := by
          unfold losers
          refine cnt_mono (fun j _ hj => ?_)
          have hj' : 0 < L0 l (dem l p) (sup l p) p j := by simpa using hj
          have hwj : willB (l.getD j ozero).sell (l.getD j ozero).price p = true := by
            rcases Bool.eq_false_or_eq_true (willB (l.getD j ozero).sell (l.getD j ozero).price p) with h' | h'
            · exact h'
            · have := (L0_unwilling j h').1; omega
          have hs : (l.getD j ozero).sell = long l p := by
            apply Classical.byContradiction
            intro hne
            have := L0_short j (show (l.getD j ozero).sell = !long l p by revert hne; cases (l.getD j ozero).sell <;> cases long l p <;> simp)
            omega
          have eLj := (L0_willing hV j hwj).1
          rw [hs] at eLj
          rw [hb] at eL
          unfold rahead inSide
          rw [hwj, hs, hb, ← eLj, ← eL]
          have hb' := (L0_bd hV i).1
          simp [aheadN]
          omega
        have h4 := (left_bd hV).2
        omega
      rw [if_neg h1, if_neg h2]
  · have hb' : (l.getD i ozero).sell = !long l p := by revert hb; cases (l.getD i ozero).sell <;> cases long l p <;> simp
    have h0 := L0_short i hb'
    have h1 : ¬ (place (L0 l (dem l p) (sup l p) p) l.length i : Int) < left0 l (dem l p) (sup l p) p := fun h => by have := more_lost hV h; omega
    rw [if_neg h1, hb', short_sum hV, if_neg (by omega)]

end
end Mk
