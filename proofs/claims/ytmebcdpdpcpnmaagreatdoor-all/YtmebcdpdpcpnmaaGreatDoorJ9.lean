import Derived.Test.YtmebcdpdpcpnmaaGreatDoorJ6
import Derived.Test.YtmebcdpdpcpnmaaGreatDoorJ1
import Derived.Test.YtmebcdpdpcpnmaaGreatDoorJ8
import Derived.Deep.OwnRows
/- Plain mathematics of the document's market: its state; Show. -/
namespace Mk

structure Stand where
  n : Int
  who : Int
  o : Ord

/-- THE STATE of a market: by client, by voyage -/
structure Mkt where
  cf : Nat → Int
  ch : Nat → Int
  sf : Nat → Nat → Int
  sh : Nat → Nat → Int
  house : Int
  md : Nat → Bool
  bk : Nat → List Stand
  cm : Nat → Int
  ls : Nat → Int
  tx : Nat → ByteArray
  er : Nat → Int
  disk : ByteArray

/-- a new one -/
def Mkt.new : Mkt := ⟨fun _ => 0, fun _ => 0, fun _ _ => 0, fun _ _ => 0, 0, fun _ => false, fun _ => [], fun _ => 0, fun _ => 0, fun _ => ⟨#[]⟩, fun _ => 0, ⟨#[]⟩⟩

def digI (x : Int) : ByteArray := dig x.toNat
def purseI (f h : Int) : ByteArray := purseT f.toNat h.toNat
def standI (s : Stand) : ByteArray := standT s.n.toNat s.o.sell s.who.toNat s.o.price.toNat s.o.qty.toNat
def s0 : Stand := ⟨0, 0, ⟨false, 0, 0⟩⟩
def std (l : List Stand) (i : Nat) : Stand := l.getD i s0
theorem std_at {l : List Stand} {i : Nat} (h : i < l.length) : std l i = l[i] := by simp [std, List.getD, List.getElem?_eq_getElem h]

def addV (M : Mkt) (c : Nat) (s : ByteArray) : Nat → ByteArray
  | 0 => s
  | v + 1 => addV M c s v ++ ⟨#[32]⟩ ++ purseI (M.sf v c) (M.sh v c)
def addC (M : Mkt) : Nat → ByteArray
  | 0 => ⟨#[]⟩
  | c + 1 => addV M c (addC M c ++ purseI (M.cf c) (M.ch c)) 2 ++ ⟨#[59]⟩
def comma (i : Nat) (s : ByteArray) : ByteArray := if 0 < i then s ++ ⟨#[44]⟩ else s
def addB (l : List Stand) (s : ByteArray) : Nat → ByteArray
  | 0 => s
  | i + 1 => comma i (addB l s i) ++ standI (std l i)
def modeT (b : Bool) : ByteArray := if b then ⟨#[59, 109]⟩ else ⟨#[59, 117]⟩
def addM (M : Mkt) (s : ByteArray) : Nat → ByteArray
  | 0 => s
  | v + 1 => addB (M.bk v) (addM M s v ++ modeT (M.md v)) (M.bk v).length
/-- what Show writes -/
def showM (M : Mkt) : ByteArray := addM M (addC M 4 ++ digI M.house) 2

/-- the bounds of a market's numbers -/
structure Mkt.Fine (M : Mkt) : Prop where
  cf : ∀ c, c < 4 → 0 ≤ M.cf c ∧ M.cf c ≤ 9999
  ch : ∀ c, c < 4 → 0 ≤ M.ch c ∧ M.ch c ≤ 9999
  sf : ∀ v c, v < 2 → c < 4 → 0 ≤ M.sf v c ∧ M.sf v c ≤ 9999
  sh : ∀ v c, v < 2 → c < 4 → 0 ≤ M.sh v c ∧ M.sh v c ≤ 9999
  house : 0 ≤ M.house ∧ M.house ≤ 9999
  len : ∀ v, v < 2 → (M.bk v).length ≤ 12
  num : ∀ v, v < 2 → ∀ x ∈ M.bk v, 0 ≤ x.n ∧ x.n ≤ 11
  who : ∀ v, v < 2 → ∀ x ∈ M.bk v, 0 ≤ x.who ∧ x.who ≤ 3
  ord : ∀ v, v < 2 → ∀ x ∈ M.bk v, 1 ≤ x.o.price ∧ x.o.price ≤ 99 ∧ 1 ≤ x.o.qty ∧ x.o.qty ≤ 20

theorem dig_le4 {n : Nat} (h : n ≤ 9999) : (dig n).size ≤ 4 := dig_size 3 n (by omega)
theorem digI_le {x : Int} (h : x ≤ 9999) : (digI x).size ≤ 4 := dig_le4 (by omega)
theorem purseI_le {f h : Int} (hf : f ≤ 9999) (hh : h ≤ 9999) : (purseI f h).size ≤ 9 := by
  unfold purseI purseT
  rw [ByteArray.size_append, ByteArray.size_append]
  have a := dig_le4 (n := f.toNat) (by omega)
  have b := dig_le4 (n := h.toNat) (by omega)
  have c : (ByteArray.mk #[43]).size = 1 := rfl
  omega
theorem standI_le {s : Stand} (h1 : s.n ≤ 9999) (h2 : s.who ≤ 9999) (h3 : s.o.price ≤ 9999) (h4 : s.o.qty ≤ 9999) : (standI s).size ≤ 19 := by
  unfold standI standT
  simp only [ByteArray.size_append]
  have a := dig_le4 (n := s.n.toNat) (by omega)
  have b := dig_le4 (n := s.who.toNat) (by omega)
  have c := dig_le4 (n := s.o.price.toNat) (by omega)
  have d := dig_le4 (n := s.o.qty.toNat) (by omega)
  have e : (ByteArray.mk #[64]).size = 1 := rfl
  have f : (ByteArray.mk #[120]).size = 1 := rfl
  have g : (if s.o.sell then chS else chB).size = 1 := by split <;> rfl
  omega
section
variable {M : Mkt}
theorem addV_le (hM : M.Fine) {c : Nat} (hc : c < 4) (s : ByteArray) : ∀ v, v ≤ 2 → (addV M c s v).size ≤ s.size + 10 * v
  | 0, _ => by simp [addV]
  | v + 1, hv => by
    have ih := addV_le hM hc s v (by omega)
    have p := purseI_le (hM.sf v c (by omega) hc).2 (hM.sh v c (by omega) hc).2
    simp only [addV, ByteArray.size_append]
    have e : (ByteArray.mk #[32]).size = 1 := rfl
    omega
theorem addC_le (hM : M.Fine) : ∀ c, c ≤ 4 → (addC M c).size ≤ 40 * c
  | 0, _ => by simp [addC]; rfl
  | c + 1, hc => by
    have ih := addC_le hM c (by omega)
    have p := purseI_le (hM.cf c (by omega)).2 (hM.ch c (by omega)).2
    have q := addV_le hM (c := c) (by omega) (addC M c ++ purseI (M.cf c) (M.ch c)) 2 (by omega)
    simp only [addC, ByteArray.size_append] at q ⊢
    have e : (ByteArray.mk #[59]).size = 1 := rfl
    omega
theorem addB_le (hM : M.Fine) {v : Nat} (hv : v < 2) (s : ByteArray) : ∀ i, i ≤ (M.bk v).length → (addB (M.bk v) s i).size ≤ s.size + 20 * i
  | 0, _ => by simp [addB]
  | i + 1, hi => by
    have ih := addB_le hM hv s i (by omega)
    have hm : std (M.bk v) i ∈ M.bk v := by rw [std_at (by omega)]; exact List.getElem_mem _
    have a := hM.num v hv _ hm
    have b := hM.who v hv _ hm
    have c := hM.ord v hv _ hm
    have p := standI_le (s := std (M.bk v) i) (by omega) (by omega) (by omega) (by omega)
    have q : (comma i (addB (M.bk v) s i)).size ≤ (addB (M.bk v) s i).size + 1 := by
      unfold comma
      split
      · rw [ByteArray.size_append]; exact Nat.le_refl _
      · omega
    simp only [addB, ByteArray.size_append]
    omega
theorem addM_le (hM : M.Fine) (s : ByteArray) : ∀ v, v ≤ 2 → (addM M s v).size ≤ s.size + 242 * v
  | 0, _ => by simp [addM]
  | v + 1, hv => by
    have ih := addM_le hM s v (by omega)
    have q := addB_le hM (v := v) (by omega) (addM M s v ++ modeT (M.md v)) (M.bk v).length (Nat.le_refl _)
    have l := hM.len v (by omega)
    have e : (modeT (M.md v)).size = 2 := by unfold modeT; split <;> rfl
    rw [ByteArray.size_append] at q
    simp only [addM]
    omega
end
end Mk

namespace Go.Proofs.YtmebcdpdpcpnmaaGreatDoor
open Go.RowKit

theorem read_any (s : ByteArray) (w : World) (hs : s.size ≤ 2000000) : Calls Tryz.prog 29 #[.string s] w fun e w' => ReadIs s w e w' := by
  by_cases h : 20 < s.size
  · exact read_long s w hs h
  · exact read_short s w (by omega)

theorem digI_any (x : Int) (w : World) (h0 : 0 ≤ x) (h1 : x ≤ 9999) : Calls Tryz.prog 55 #[.int .i64 x] w fun e w' => e = .returned (.string (Mk.digI x)) ∧ Below w.heap.size w w' := by
  have := dig_any x.toNat w (by omega)
  rw [Int.toNat_of_nonneg h0] at this
  exact this
theorem purseI_any (f h : Int) (w : World) (hf : 0 ≤ f ∧ f ≤ 9999) (hh : 0 ≤ h ∧ h ≤ 9999) : Calls Tryz.prog 54 #[.agg #[.int .i64 f, .int .i64 h]] w fun e w' => e = .returned (.string (Mk.purseI f h)) ∧ Below w.heap.size w w' := by
  have := purse_any f.toNat h.toNat w (by omega) (by omega)
  rw [Int.toNat_of_nonneg hf.1, Int.toNat_of_nonneg hh.1] at this
  exact this

set_option maxRecDepth 100000 in
set_option maxHeartbeats 1000000 in
theorem standI_any (s : Mk.Stand) (w : World) (h1 : 0 ≤ s.n ∧ s.n ≤ 9999) (h2 : 0 ≤ s.who ∧ s.who ≤ 9999) (h3 : 0 ≤ s.o.price ∧ s.o.price ≤ 9999) (h4 : 0 ≤ s.o.qty ∧ s.o.qty ≤ 9999) :
    Calls Tryz.prog 56 #[.agg #[.int .i64 s.n, .int .i64 s.who, .bool s.o.sell, .int .i64 s.o.price, .int .i64 s.o.qty]] w fun e w' => e = .returned (.string (Mk.standI s)) ∧ Below w.heap.size w w' := by
  have t1 := Mk.digI_le h1.2
  have t2 := Mk.digI_le h2.2
  have t3 := Mk.digI_le h3.2
  have t4 := Mk.digI_le h4.2
  have HI : Hid (Mk.standI s = Mk.digI s.n ++ (if s.o.sell then Mk.chS else Mk.chB) ++ Mk.digI s.who ++ ⟨#[64]⟩ ++ Mk.digI s.o.price ++ ⟨#[120]⟩ ++ Mk.digI s.o.qty) := rfl
  have HX : Hid (∀ i u, (#[.int .i64 s.n, .int .i64 s.who, .bool s.o.sell, .int .i64 s.o.price, .int .i64 s.o.qty] : Array Value)[i]? = some u → (w.alloc (.cells #[.int .i64 s.n, .int .i64 s.who, .bool s.o.sell, .int .i64 s.o.price, .int .i64 s.o.qty] 122)).cell? ⟨w.heap.size, i, none⟩ = some u) := fun i u h => by simpa using h
  go_enter Tryz.func56, Tryz.ntmps56
  go_wp2_with fail
  refine (digI_any s.n _ h1.1 h1.2).mono ?_
  rintro e w2 ⟨rfl, hb2⟩
  have x1 : w2.cell? ⟨w.heap.size, 1, none⟩ = some (.int .i64 s.who) := (hb2.cell (p := ⟨w.heap.size, 1, none⟩) (by simp)).trans (HX.out 1 _ rfl)
  have x2 : w2.cell? ⟨w.heap.size, 2, none⟩ = some (.bool s.o.sell) := (hb2.cell (p := ⟨w.heap.size, 2, none⟩) (by simp)).trans (HX.out 2 _ rfl)
  have x3 : w2.cell? ⟨w.heap.size, 3, none⟩ = some (.int .i64 s.o.price) := (hb2.cell (p := ⟨w.heap.size, 3, none⟩) (by simp)).trans (HX.out 3 _ rfl)
  have x4 : w2.cell? ⟨w.heap.size, 4, none⟩ = some (.int .i64 s.o.qty) := (hb2.cell (p := ⟨w.heap.size, 4, none⟩) (by simp)).trans (HX.out 4 _ rfl)
  have hsz : w.heap.size < w2.heap.size := by have := hb2.size; simp at this; omega
  have HB2 : Hid (Below w.heap.size w w2) := ((Below.refl _ _).alloc (Nat.le_refl _) _).trans (hb2.mono (by simp))
  clear hb2
  rcases Bool.eq_false_or_eq_true s.o.sell with hs | hs
  all_goals
    rw [hs] at x2 HI
    clear hs
    go_wp2_with fail
    refine (digI_any s.who _ h2.1 h2.2).mono ?_
    rintro e w3 ⟨rfl, hb3⟩
    have y3 : w3.cell? ⟨w.heap.size, 3, none⟩ = some (.int .i64 s.o.price) := (hb3.cell (p := ⟨w.heap.size, 3, none⟩) hsz).trans x3
    have y4 : w3.cell? ⟨w.heap.size, 4, none⟩ = some (.int .i64 s.o.qty) := (hb3.cell (p := ⟨w.heap.size, 4, none⟩) hsz).trans x4
    have hsz3 : w.heap.size < w3.heap.size := by have := hb3.size; omega
    have HB3 : Hid (Below w.heap.size w w3) := HB2.out.trans (hb3.mono HB2.out.size)
    clear hb3
    go_wp2_with fail
    refine (digI_any s.o.price _ h3.1 h3.2).mono ?_
    rintro e w4 ⟨rfl, hb4⟩
    have z4 : w4.cell? ⟨w.heap.size, 4, none⟩ = some (.int .i64 s.o.qty) := (hb4.cell (p := ⟨w.heap.size, 4, none⟩) hsz3).trans y4
    have HB4 : Hid (Below w.heap.size w w4) := HB3.out.trans (hb4.mono HB3.out.size)
    clear hb4
    go_wp2_with fail
    refine (digI_any s.o.qty _ h4.1 h4.2).mono ?_
    rintro e w5 ⟨rfl, hb5⟩
    have HB5 : Hid (Below w.heap.size w w5) := HB4.out.trans (hb5.mono HB4.out.size)
    clear hb5
    go_wp2_with fail
    go_ret
    exact ⟨by rw [HI.out]; rfl, HB5.out⟩

end Go.Proofs.YtmebcdpdpcpnmaaGreatDoor

namespace Go.Proofs.YtmebcdpdpcpnmaaGreatDoor
open Go.RowKit

/-- the blocks of a market of the document's -/
structure RB where
  bC : Nat
  bS : Nat
  sb : Nat → Nat
  bM : Nat
  bB : Nat
  bCm : Nat
  bL : Nat
  bT : Nat
  bE : Nat
  bv : Nat → Value

/-- cell j of a row of purses -/
def purseF (f h : Nat → Int) (j : Nat) : Value := .int .i64 (if j % 2 = 0 then f (j / 2) else h (j / 2))
theorem purseF_0 (f h : Nat → Int) (c : Nat) : purseF f h (c * 2) = .int .i64 (f c) := by unfold purseF; rw [if_pos (by omega), show c * 2 / 2 = c by omega]
theorem purseF_1 (f h : Nat → Int) (c : Nat) : purseF f h (c * 2 + 1) = .int .i64 (h c) := by unfold purseF; rw [if_neg (by omega), show (c * 2 + 1) / 2 = c by omega]
/-- field i of the market's struct -/
def mktF (b : RB) (M : Mk.Mkt) : Nat → Value
  | 0 => .slice (some ⟨b.bC, 0, none⟩) 4 4
  | 1 => .slice (some ⟨b.bS, 0, none⟩) 2 2
  | 2 => .int .i64 M.house
  | 3 => .slice (some ⟨b.bM, 0, none⟩) 2 2
  | 4 => .slice (some ⟨b.bB, 0, none⟩) 2 2
  | 5 => .slice (some ⟨b.bCm, 0, none⟩) 2 2
  | 6 => .slice (some ⟨b.bL, 0, none⟩) 4 4
  | 7 => .slice (some ⟨b.bT, 0, none⟩) 4 4
  | 8 => .slice (some ⟨b.bE, 0, none⟩) 4 4
  | _ => .string M.disk
/-- cell j of the orders of a batch -/
def standF (l : List Mk.Stand) (j : Nat) : Value :=
  if j % 5 = 0 then .int .i64 (Mk.std l (j / 5)).n else if j % 5 = 1 then .int .i64 (Mk.std l (j / 5)).who else if j % 5 = 2 then .bool (Mk.std l (j / 5)).o.sell else if j % 5 = 3 then .int .i64 (Mk.std l (j / 5)).o.price else .int .i64 (Mk.std l (j / 5)).o.qty
def standC (l : List Mk.Stand) : List Value := (List.range (l.length * 5)).map (standF l)
theorem standC_get (l : List Mk.Stand) {j : Nat} (h : j < l.length * 5) : (standC l)[j]? = some (standF l j) := by
  unfold standC; simp [List.getElem?_map, List.getElem?_range h]

/-- THE DOCUMENT's MARKET in memory -/
structure Ref (w : World) (p : Nat) (b : RB) (M : Mk.Mkt) : Prop where
  box : w.rowIs p 78 10 (mktF b M)
  cash : w.rowIs b.bC 117 8 (purseF M.cf M.ch)
  slots : w.rowIs b.bS 73 2 (fun v => .slice (some ⟨b.sb v, 0, none⟩) 4 4)
  sl : ∀ v, v < 2 → w.rowIs (b.sb v) 117 8 (purseF (M.sf v) (M.sh v))
  modes : w.rowIs b.bM 4 2 (fun v => .bool (M.md v))
  books : w.rowIs b.bB 118 2 b.bv
  bk : ∀ v, v < 2 → w.ownsRow 0 122 5 (b.bv v) (M.bk v).length (standC (M.bk v))
  came : w.rowIs b.bCm 3 2 (fun v => .int .i64 (M.cm v))
  lasts : w.rowIs b.bL 3 4 (fun c => .int .i64 (M.ls c))
  texts : w.rowIs b.bT 9 4 (fun c => .string (M.tx c))
  errs : w.rowIs b.bE 3 4 (fun c => .int .i64 (M.er c))
  d1 : ∀ v, v < 2 → b.bC ≠ b.sb v
  d2 : b.sb 0 ≠ b.sb 1
  e1 : b.bCm ≠ b.bL
  e2 : b.bCm ≠ b.bE
  e3 : b.bL ≠ b.bE
  vv : ∀ k, (b.bv 0).ownBlock = some k → (b.bv 1).ownBlock ≠ some k

/-- the blocks that a market owns -/
def RB.has (b : RB) (p k : Nat) : Prop := k = p ∨ k = b.bC ∨ k = b.bS ∨ (∃ v, v < 2 ∧ k = b.sb v) ∨ k = b.bM ∨ k = b.bB ∨ k = b.bCm ∨ k = b.bL ∨ k = b.bT ∨ k = b.bE ∨ ∃ v, v < 2 ∧ (b.bv v).ownBlock = some k

theorem own_block {w w' : World} {base e size n : Nat} {v : Value} {xs : List Value} (h : w.ownsRow base e size v n xs) (hk : ∀ k, v.ownBlock = some k → w'.heap[k]? = w.heap[k]?) : w'.ownsRow base e size v n xs := by
  refine ⟨h.1, ?_⟩
  rcases h.2 with h0 | ⟨g, cap, cur, rfl, hg, hh, hr⟩
  · exact .inl h0
  · exact .inr ⟨g, cap, cur, rfl, hg, (hk g rfl).trans hh, hr⟩

section
variable {w w' : World} {p : Nat} {b : RB} {M : Mk.Mkt}
theorem Ref.lt (h : Ref w p b M) {k : Nat} (hk : b.has p k) : k < w.heap.size := by
  rcases hk with rfl | rfl | rfl | ⟨v, hv, rfl⟩ | rfl | rfl | rfl | rfl | rfl | rfl | ⟨v, hv, hk⟩
  · exact h.box.lt
  · exact h.cash.lt
  · exact h.slots.lt
  · exact (h.sl v hv).lt
  · exact h.modes.lt
  · exact h.books.lt
  · exact h.came.lt
  · exact h.lasts.lt
  · exact h.texts.lt
  · exact h.errs.lt
  · exact ((h.bk v hv).lt k hk).2
/-- a market stays as it is where its blocks do -/
theorem Ref.blocks (h : Ref w p b M) (hk : ∀ k, b.has p k → w'.heap[k]? = w.heap[k]?) : Ref w' p b M := by
  have h0 : b.has p p := .inl rfl
  have h1 : b.has p b.bC := .inr (.inl rfl)
  have h2 : b.has p b.bS := .inr (.inr (.inl rfl))
  have h3 : ∀ v, v < 2 → b.has p (b.sb v) := fun v hv => .inr (.inr (.inr (.inl ⟨v, hv, rfl⟩)))
  have h4 : b.has p b.bM := .inr (.inr (.inr (.inr (.inl rfl))))
  have h5 : b.has p b.bB := .inr (.inr (.inr (.inr (.inr (.inl rfl)))))
  have h6 : b.has p b.bCm := .inr (.inr (.inr (.inr (.inr (.inr (.inl rfl))))))
  have h7 : b.has p b.bL := .inr (.inr (.inr (.inr (.inr (.inr (.inr (.inl rfl)))))))
  have h8 : b.has p b.bT := .inr (.inr (.inr (.inr (.inr (.inr (.inr (.inr (.inl rfl))))))))
  have h9 : b.has p b.bE := .inr (.inr (.inr (.inr (.inr (.inr (.inr (.inr (.inr (.inl rfl)))))))))
  have h10 : ∀ v k, v < 2 → (b.bv v).ownBlock = some k → b.has p k := fun v k hv hk => .inr (.inr (.inr (.inr (.inr (.inr (.inr (.inr (.inr (.inr ⟨v, hv, hk⟩)))))))))
  exact ⟨h.box.of_block (hk _ h0), h.cash.of_block (hk _ h1), h.slots.of_block (hk _ h2), fun v hv => (h.sl v hv).of_block (hk _ (h3 v hv)), h.modes.of_block (hk _ h4), h.books.of_block (hk _ h5),
    fun v hv => own_block (h.bk v hv) (fun k hk' => hk _ (h10 v k hv hk')), h.came.of_block (hk _ h6), h.lasts.of_block (hk _ h7), h.texts.of_block (hk _ h8), h.errs.of_block (hk _ h9), h.d1, h.d2, h.e1, h.e2, h.e3, h.vv⟩
theorem Ref.below (h : Ref w p b M) (hb : Below w.heap.size w w') : Ref w' p b M := h.blocks (fun k hk => hb.block k (h.lt hk))
end

/-- Last: P9 -/
def Mk.lastM (M : Mk.Mkt) (c : Int) : Int := if 0 ≤ c ∧ c < 4 then M.ls c.toNat else 0

set_option maxRecDepth 100000 in
set_option maxHeartbeats 1000000 in
theorem rlast_any (p : Nat) (b : RB) (M : Mk.Mkt) (c : Int) (w : World) (hR : Ref w p b M) :
    Calls Tryz.prog 35 #[.pointer (some ⟨p, 0, none⟩), .int .i64 c] w fun e w' => e = .returned (.int .i64 (Mk.lastM M c)) ∧ w' = w := by
  by_cases h : 0 ≤ c ∧ c < 4
  · obtain ⟨n, rfl⟩ := Int.eq_ofNat_of_zero_le h.1
    have hn : n < 4 := by omega
    have HL : Hid (Mk.lastM M (n : Int) = M.ls n) := (by unfold Mk.lastM; rw [if_pos h]; simp : Mk.lastM M (n : Int) = M.ls n)
    have c6 := hR.box.cell (i := 6) (by omega)
    have cl := hR.lasts.cell hn
    have h1 : ¬ (n : Int) < 0 := by omega
    have h2 : ¬ (4 : Int) ≤ (n : Int) := by omega
    have h3 : (n : Int) < 4 := by omega
    have hd : decide ((4 : Int) ≤ (n : Int)) = false := by rw [decide_eq_false_iff_not]; exact h2
    simp only [mktF] at c6
    clear hR h
    go_enter Tryz.func35, Tryz.ntmps35
    go_wp2
    go_ret
    exact ⟨ret_int HL.out.symm, rfl⟩
  · have HL : Hid (Mk.lastM M c = 0) := (by unfold Mk.lastM; rw [if_neg h] : Mk.lastM M c = 0)
    by_cases h1 : c < 0
    · clear hR h
      go_enter Tryz.func35, Tryz.ntmps35
      go_wp2
      go_ret
      exact ⟨ret_int HL.out.symm, rfl⟩
    · have h2 : 4 ≤ c := by omega
      clear hR h
      go_enter Tryz.func35, Tryz.ntmps35
      go_wp2
      go_ret
      exact ⟨ret_int HL.out.symm, rfl⟩

/-- what the first k purses hold in all -/
def totTo (f h : Nat → Int) : Nat → Int
  | 0 => 0
  | k + 1 => totTo f h k + f k + h k
theorem totTo_bd {f h : Nat → Int} (hb : ∀ c, c < 4 → 0 ≤ f c ∧ f c ≤ 9999 ∧ 0 ≤ h c ∧ h c ≤ 9999) : ∀ k, k ≤ 4 → 0 ≤ totTo f h k ∧ totTo f h k ≤ 19998 * k
  | 0, _ => by simp [totTo]
  | k + 1, hk => by
    have := totTo_bd hb k (by omega)
    have := hb k (by omega)
    simp only [totTo]
    omega

set_option maxRecDepth 100000 in
set_option maxHeartbeats 1000000 in
theorem total_any (g : Nat) (f h : Nat → Int) (w : World) (hb : ∀ c, c < 4 → 0 ≤ f c ∧ f c ≤ 9999 ∧ 0 ≤ h c ∧ h c ≤ 9999) (hrow : w.rowIs g 117 8 (purseF f h)) :
    Calls Tryz.prog 108 #[.slice (some ⟨g, 0, none⟩) 4 4] w fun e w' => e = .returned (.int .i64 (totTo f h 4)) ∧ ∃ m, w' = w.drewN m := by
  have HRow : Hid (w.rowIs g 117 8 (purseF f h)) := hrow
  have HBd : Hid (∀ c, c < 4 → 0 ≤ f c ∧ f c ≤ 9999 ∧ 0 ≤ h c ∧ h c ≤ 9999) := hb
  clear hrow hb
  go_enter Tryz.func108, Tryz.ntmps108
  go_wp2
  go_loopw [3, 4] (fun n i wr => ∃ k : Nat, k ≤ 4 ∧ i = .int .i64 k ∧ n = .int .i64 (totTo f h k) ∧ ∃ m, wr = w.drewN m) (fun _ i _ => 4 - (intOf i).toNat)
  case atStart => exact ⟨0, by omega, rfl, rfl, 0, rfl⟩
  case round =>
    obtain ⟨k, hk, rfl, rfl, m, rfl⟩ := hrel
    have tb := totTo_bd HBd.out k hk
    by_cases hlt : k < 4
    · have c0 := World.rowIs.cell HRow.out (i := k * 2) (by omega)
      have c1 := World.rowIs.cell HRow.out (i := k * 2 + 1) (by omega)
      rw [purseF_0] at c0
      rw [purseF_1] at c1
      have pb := HBd.out k hlt
      have hlt' : (k : Int) < 4 := by omega
      have HE : Hid (totTo f h (k + 1) = totTo f h k + f k + h k) := rfl
      go_wp2
      go_quiet (fail)
      go_wp2
      go_roundw
      case rel => exact ⟨k + 1, by omega, by go_num, by rw [HE.out], _, rfl⟩
      case measure => simp [intOf]; omega
    · obtain rfl : k = 4 := by omega
      go_wp2
      go_ret
      exact ⟨rfl, _, rfl⟩

end Go.Proofs.YtmebcdpdpcpnmaaGreatDoor

namespace Go.Proofs.YtmebcdpdpcpnmaaGreatDoor
open Go.RowKit

theorem standF_at (l : List Mk.Stand) (i : Nat) : standF l (i * 5) = .int .i64 (Mk.std l i).n ∧ standF l (i * 5 + 1) = .int .i64 (Mk.std l i).who ∧ standF l (i * 5 + 2) = .bool (Mk.std l i).o.sell ∧ standF l (i * 5 + 3) = .int .i64 (Mk.std l i).o.price ∧ standF l (i * 5 + 4) = .int .i64 (Mk.std l i).o.qty := by
  unfold standF
  refine ⟨?_, ?_, ?_, ?_, ?_⟩
  · rw [if_pos (by omega), show i * 5 / 5 = i by omega]
  · rw [if_neg (by omega), if_pos (by omega), show (i * 5 + 1) / 5 = i by omega]
  · rw [if_neg (by omega), if_neg (by omega), if_pos (by omega), show (i * 5 + 2) / 5 = i by omega]
  · rw [if_neg (by omega), if_neg (by omega), if_neg (by omega), if_pos (by omega), show (i * 5 + 3) / 5 = i by omega]
  · rw [if_neg (by omega), if_neg (by omega), if_neg (by omega), if_neg (by omega), show (i * 5 + 4) / 5 = i by omega]
/-- order i of a batch, in memory -/
theorem stand_cells {w : World} {g n c : Nat} {l : List Mk.Stand} (h : w.ownsRow 0 122 5 (.slice (some ⟨g, 0, none⟩) n c) n (standC l)) (hn : n = l.length) {i : Nat} (hi : i < n) :
    w.cell? ⟨g, i * 5, none⟩ = some (.int .i64 (Mk.std l i).n) ∧ w.cell? ⟨g, i * 5 + 1, none⟩ = some (.int .i64 (Mk.std l i).who) ∧ w.cell? ⟨g, i * 5 + 2, none⟩ = some (.bool (Mk.std l i).o.sell) ∧ w.cell? ⟨g, i * 5 + 3, none⟩ = some (.int .i64 (Mk.std l i).o.price) ∧ w.cell? ⟨g, i * 5 + 4, none⟩ = some (.int .i64 (Mk.std l i).o.qty) := by
  have hf := standF_at l i
  have hj : ∀ j, j < n * 5 → w.cell? ⟨g, j, none⟩ = some (standF l j) := fun j hj => by rw [h.cellAt j hj, standC_get l (by omega)]
  refine ⟨?_, ?_, ?_, ?_, ?_⟩
  · rw [hj _ (by omega), hf.1]
  · rw [hj _ (by omega), hf.2.1]
  · rw [hj _ (by omega), hf.2.2.1]
  · rw [hj _ (by omega), hf.2.2.2.1]
  · rw [hj _ (by omega), hf.2.2.2.2]

set_option maxRecDepth 100000 in
set_option maxHeartbeats 4000000 in
theorem rshow_any (p : Nat) (b : RB) (M : Mk.Mkt) (w : World) (hM : M.Fine) (hR : Ref w p b M) :
    Calls Tryz.prog 33 #[.pointer (some ⟨p, 0, none⟩)] w fun e w' => e = .returned (.string (Mk.showM M)) ∧ Below w.heap.size w w' := by
  have HM : Hid M.Fine := hM
  have HR : Hid (Ref w p b M) := hR
  clear hM hR
  go_enter Tryz.func33, Tryz.ntmps33
  go_wp2
  go_loopw [3, 4] (fun x j wr => ∃ c : Nat, c ≤ 4 ∧ j = .int .i64 c ∧ x = .string (Mk.addC M c) ∧ Below w.heap.size w wr) (fun _ j _ => 4 - (intOf j).toNat)
  case atStart => exact ⟨0, by omega, rfl, rfl, Below.refl _ _⟩
  case round =>
    obtain ⟨c, hc, rfl, rfl, hb⟩ := hrel
    have Hb : Hid (Below w.heap.size w wr) := hb
    clear hb
    have HRr : Hid (Ref wr p b M) := HR.out.below Hb.out
    have qc := Mk.addC_le HM.out c hc
    by_cases hlt : c < 4
    · have hlt' : (c : Int) < 4 := by omega
      have f0 := HRr.out.box.cell (i := 0) (by omega)
      have a0 := HRr.out.cash.cell (i := c * 2) (by omega)
      have a1 := HRr.out.cash.cell (i := c * 2 + 1) (by omega)
      simp only [mktF] at f0
      rw [purseF_0] at a0
      rw [purseF_1] at a1
      have bf := HM.out.cf c hlt
      have bh := HM.out.ch c hlt
      have qp := Mk.purseI_le bf.2 bh.2
      go_wp2_with fail
      refine (purseI_any _ _ _ bf bh).mono ?_
      rintro e w2 ⟨rfl, hb2⟩
      have Hb2 : Hid (Below w.heap.size w w2) := Hb.out.trans (hb2.mono Hb.out.size)
      clear hb2 f0 a0 a1
      go_wp2_with fail
      go_loopw [3, 6] (fun x j wr => ∃ v : Nat, v ≤ 2 ∧ j = .int .i64 v ∧ x = .string (Mk.addV M c (Mk.addC M c ++ Mk.purseI (M.cf c) (M.ch c)) v) ∧ Below w.heap.size w wr) (fun _ j _ => 2 - (intOf j).toNat)
      case atStart => exact ⟨0, by omega, rfl, rfl, Hb2.out⟩
      case round =>
        obtain ⟨v, hv, rfl, rfl, hb⟩ := hrel
        have Hb3 : Hid (Below w.heap.size w wr) := hb
        clear hb
        have HRv : Hid (Ref wr p b M) := HR.out.below Hb3.out
        have qv := Mk.addV_le HM.out hlt (Mk.addC M c ++ Mk.purseI (M.cf c) (M.ch c)) v hv
        rw [ByteArray.size_append] at qv
        have HE : Hid (Mk.addV M c (Mk.addC M c ++ Mk.purseI (M.cf c) (M.ch c)) (v + 1) = Mk.addV M c (Mk.addC M c ++ Mk.purseI (M.cf c) (M.ch c)) v ++ ⟨#[32]⟩ ++ Mk.purseI (M.sf v c) (M.sh v c)) := rfl
        have HX : ∃ x, Hid (Mk.addV M c (Mk.addC M c ++ Mk.purseI (M.cf c) (M.ch c)) v = x) := ⟨_, rfl⟩
        obtain ⟨x, HX⟩ := HX
        have qx : x.size ≤ 1000 := by rw [← HX.out]; omega
        rw [HX.out] at HE ⊢
        clear qv
        by_cases hv2 : v < 2
        · have hv' : (v : Int) < 2 := by omega
          have f1 := HRv.out.box.cell (i := 1) (by omega)
          have g1 := HRv.out.slots.cell hv2
          have a0 := (HRv.out.sl v hv2).cell (i := c * 2) (by omega)
          have a1 := (HRv.out.sl v hv2).cell (i := c * 2 + 1) (by omega)
          simp only [mktF] at f1
          rw [purseF_0] at a0
          rw [purseF_1] at a1
          have sf := HM.out.sf v c hv2 hlt
          have sh := HM.out.sh v c hv2 hlt
          have qs := Mk.purseI_le sf.2 sh.2
          go_wp2_with fail
          refine (purseI_any _ _ _ sf sh).mono ?_
          rintro e w4 ⟨rfl, hb4⟩
          have Hb4 : Hid (Below w.heap.size w w4) := Hb3.out.trans (hb4.mono Hb3.out.size)
          clear hb4 f1 g1 a0 a1
          go_wp2_with fail
          go_roundw
          case rel => exact ⟨v + 1, by omega, by go_num, by rw [HE.out], Hb4.out⟩
          case measure => simp [intOf]; omega
        · obtain rfl : v = 2 := by omega
          have HC : Hid (Mk.addC M (c + 1) = x ++ ⟨#[59]⟩) := by
            show Mk.addV M c (Mk.addC M c ++ Mk.purseI (M.cf c) (M.ch c)) 2 ++ _ = _
            rw [HX.out]
          go_wp2_with fail
          go_roundw
          case rel => exact ⟨c + 1, by omega, by go_num, by rw [HC.out], Hb3.out⟩
          case measure => simp [intOf]; omega
    · obtain rfl : c = 4 := by omega
      have f2 := HRr.out.box.cell (i := 2) (by omega)
      simp only [mktF] at f2
      have bh := HM.out.house
      have qh := Mk.digI_le bh.2
      go_wp2_with fail
      refine (digI_any _ _ bh.1 bh.2).mono ?_
      rintro e w2 ⟨rfl, hb2⟩
      have Hb2 : Hid (Below w.heap.size w w2) := Hb.out.trans (hb2.mono Hb.out.size)
      clear hb2 f2
      go_wp2_with fail
      obtain ⟨s1, HS1⟩ : ∃ s1, Hid (Mk.addC M 4 ++ Mk.digI M.house = s1) := ⟨_, rfl⟩
      have qs1 : s1.size ≤ 200 := by rw [← HS1.out, ByteArray.size_append]; omega
      go_loopw [3, 8] (fun x j wr => ∃ v : Nat, v ≤ 2 ∧ j = .int .i64 v ∧ x = .string (Mk.addM M s1 v) ∧ Below w.heap.size w wr) (fun _ j _ => 2 - (intOf j).toNat)
      case atStart => exact ⟨0, by omega, rfl, by rw [HS1.out]; rfl, Hb2.out⟩
      case round =>
        obtain ⟨v, hv, rfl, rfl, hb⟩ := hrel
        have Hb3 : Hid (Below w.heap.size w wr) := hb
        clear hb
        have HRv : Hid (Ref wr p b M) := HR.out.below Hb3.out
        have qm := Mk.addM_le HM.out s1 v hv
        by_cases hv2 : v < 2
        · have hv' : (v : Int) < 2 := by omega
          have f3 := HRv.out.box.cell (i := 3) (by omega)
          have g3 := HRv.out.modes.cell hv2
          simp only [mktF] at f3
          have em : (Mk.modeT (M.md v)).size = 2 := by unfold Mk.modeT; split <;> rfl
          have hlen := HM.out.len v hv2
          rcases Bool.eq_false_or_eq_true (M.md v) with hmd | hmd
          all_goals
            rw [hmd] at g3
            go_wp2_with fail
            go_loopw [3, 9] (fun x j wr => ∃ i : Nat, i ≤ (M.bk v).length ∧ j = .int .i64 i ∧ x = .string (Mk.addB (M.bk v) (Mk.addM M s1 v ++ Mk.modeT (M.md v)) i) ∧ Below w.heap.size w wr) (fun _ j _ => (M.bk v).length - (intOf j).toNat)
            case atStart => exact ⟨0, Nat.zero_le _, rfl, by (show _ = Value.string (Mk.addM M s1 v ++ Mk.modeT (M.md v))); rw [hmd]; rfl, Hb3.out⟩
            case round =>
              obtain ⟨i, hi, rfl, rfl, hb⟩ := hrel
              have Hb4 : Hid (Below w.heap.size w wr) := hb
              clear hb f3 g3
              have HRi : Hid (Ref wr p b M) := HR.out.below Hb4.out
              have qb := Mk.addB_le HM.out hv2 (Mk.addM M s1 v ++ Mk.modeT (M.md v)) i hi
              rw [ByteArray.size_append] at qb
              have HE : Hid (Mk.addB (M.bk v) (Mk.addM M s1 v ++ Mk.modeT (M.md v)) (i + 1) = Mk.comma i (Mk.addB (M.bk v) (Mk.addM M s1 v ++ Mk.modeT (M.md v)) i) ++ Mk.standI (Mk.std (M.bk v) i)) := rfl
              have HX : ∃ x, Hid (Mk.addB (M.bk v) (Mk.addM M s1 v ++ Mk.modeT (M.md v)) i = x) := ⟨_, rfl⟩
              obtain ⟨x, HX⟩ := HX
              have qx : x.size ≤ 2000 := by rw [← HX.out]; omega
              rw [HX.out] at HE ⊢
              clear qb
              have f4 := HRi.out.box.cell (i := 4) (by omega)
              have g4 := HRi.out.books.cell hv2
              simp only [mktF] at f4
              have ho := HRi.out.bk v hv2
              obtain ⟨ab, cb, hbv⟩ := own_form ho
              rw [hbv] at ho g4
              have HO : Hid (wr.ownsRow 0 122 5 (.slice ab (M.bk v).length cb) (M.bk v).length (standC (M.bk v))) := ho
              clear ho hbv
              by_cases hil : i < (M.bk v).length
              · obtain ⟨gb, rfl⟩ := own_some HO.out (by omega)
                obtain ⟨k0, k1, k2, k3, k4⟩ := stand_cells HO.out rfl hil
                have hm : Mk.std (M.bk v) i ∈ M.bk v := by rw [Mk.std_at hil]; exact List.getElem_mem _
                have b1 := HM.out.num v hv2 _ hm
                have b2 := HM.out.who v hv2 _ hm
                have b3 := HM.out.ord v hv2 _ hm
                have HT : Hid (∀ w : World, Calls Tryz.prog 56 #[.agg #[.int .i64 (Mk.std (M.bk v) i).n, .int .i64 (Mk.std (M.bk v) i).who, .bool (Mk.std (M.bk v) i).o.sell, .int .i64 (Mk.std (M.bk v) i).o.price, .int .i64 (Mk.std (M.bk v) i).o.qty]] w fun e w' => e = .returned (.string (Mk.standI (Mk.std (M.bk v) i))) ∧ Below w.heap.size w w') := fun w => standI_any _ w (by omega) (by omega) (by omega) (by omega)
                have qt := Mk.standI_le (s := Mk.std (M.bk v) i) (by omega) (by omega) (by omega) (by omega)
                have hil' : (i : Int) < ((M.bk v).length : Int) := by omega
                clear hm b1 b2 b3
                by_cases hi0 : 0 < i
                · have hi0' : (0 : Int) < (i : Int) := by omega
                  have HCm : Hid (Mk.comma i x = x ++ ⟨#[44]⟩) := if_pos hi0
                  go_wp2_with fail
                  refine (HT.out _).mono ?_
                  rintro e w5 ⟨rfl, hb5⟩
                  have Hb5 : Hid (Below w.heap.size w w5) := Hb4.out.trans (hb5.mono Hb4.out.size)
                  clear hb5 f4 g4 k0 k1 k2 k3 k4
                  go_wp2_with fail
                  go_roundw
                  case rel => exact ⟨i + 1, by omega, by go_num, by rw [HE.out, HCm.out], Hb5.out⟩
                  case measure => simp [intOf]; omega
                · have hi0' : ¬ (0 : Int) < (i : Int) := by omega
                  have HCm : Hid (Mk.comma i x = x) := if_neg hi0
                  go_wp2_with fail
                  refine (HT.out _).mono ?_
                  rintro e w5 ⟨rfl, hb5⟩
                  have Hb5 : Hid (Below w.heap.size w w5) := Hb4.out.trans (hb5.mono Hb4.out.size)
                  clear hb5 f4 g4 k0 k1 k2 k3 k4
                  go_wp2_with fail
                  go_roundw
                  case rel => exact ⟨i + 1, by omega, by go_num, by rw [HE.out, HCm.out], Hb5.out⟩
                  case measure => simp [intOf]; omega
              · obtain rfl : i = (M.bk v).length := by omega
                have HA : Hid (Mk.addM M s1 (v + 1) = x) := HX.out
                go_wp2_with fail
                go_roundw
                case rel => exact ⟨v + 1, by omega, by go_num, by rw [HA.out], Hb4.out⟩
                case measure => simp [intOf]; omega
        · obtain rfl : v = 2 := by omega
          have HA : Hid (Mk.showM M = Mk.addM M s1 2) := (by unfold Mk.showM; rw [HS1.out] : Mk.showM M = Mk.addM M s1 2)
          go_wp2_with fail
          go_ret
          exact ⟨by rw [HA.out]; rfl, Hb3.out⟩

end Go.Proofs.YtmebcdpdpcpnmaaGreatDoor
