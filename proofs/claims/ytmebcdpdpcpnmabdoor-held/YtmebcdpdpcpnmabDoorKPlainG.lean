import Derived.Test.YtmebcdpdpcpnmabDoorKPlainF
/- Plain mathematics of a market's text: its parts, their numbers, their sides. -/
namespace Mk

def cliT (M : Mkt) (c : Nat) : ByteArray := purseI (M.cf c) (M.ch c) ++ ⟨#[32]⟩ ++ purseI (M.sf 0 c) (M.sh 0 c) ++ ⟨#[32]⟩ ++ purseI (M.sf 1 c) (M.sh 1 c)
def modT (b : Bool) : ByteArray := if b then ⟨#[109]⟩ else ⟨#[117]⟩
def batT (M : Mkt) (v : Nat) : ByteArray := modT (M.md v) ++ addB (M.bk v) ⟨#[]⟩ (M.bk v).length
theorem comma_front (i : Nat) (s t : ByteArray) : comma i (s ++ t) = s ++ comma i t := by
  unfold comma
  split
  · rw [ByteArray.append_assoc]
  · rfl
theorem addB_front (l : List Stand) (s : ByteArray) : ∀ k, addB l s k = s ++ addB l ⟨#[]⟩ k
  | 0 => by simp only [addB]; exact ByteArray.append_empty.symm
  | k + 1 => by simp only [addB]; rw [addB_front l s k, comma_front, ByteArray.append_assoc]
theorem addC_front (M : Mkt) (c : Nat) : addC M (c + 1) = addC M c ++ cliT M c ++ semi := by
  simp only [addC, addV, cliT, ByteArray.append_assoc]
  rfl
theorem modeT_two (b : Bool) : modeT b = semi ++ modT b := by
  unfold modeT modT
  cases b <;> rfl
theorem show_parts (M : Mkt) : showM M = cliT M 0 ++ semi ++ cliT M 1 ++ semi ++ cliT M 2 ++ semi ++ cliT M 3 ++ semi ++ digI M.house ++ semi ++ batT M 0 ++ semi ++ batT M 1 := by
  have e0 : addC M 0 = ByteArray.empty := rfl
  unfold showM batT
  simp only [addM]
  rw [addC_front, addC_front, addC_front, addC_front, e0, ByteArray.empty_append, modeT_two, modeT_two, addB_front (M.bk 1), addB_front (M.bk 0)]
  simp only [ByteArray.append_assoc]

section
variable {M : Mkt} (hM : M.Fine)
theorem noS_purse {f h : Int} (hf : f ≤ 9999) (hh : h ≤ 9999) : NoS (purseI f h) := noS_append (noS_append (noS_dig (by omega)) (noS_one (by decide))) (noS_dig (by omega))
theorem noS_stand {x : Stand} (h1 : x.n ≤ 9999) (h2 : x.who ≤ 9999) (h3 : x.o.price ≤ 9999) (h4 : x.o.qty ≤ 9999) : NoS (standI x) := by
  have hc : NoS (if x.o.sell then chS else chB) := by split <;> exact noS_one (by decide)
  exact noS_append (noS_append (noS_append (noS_append (noS_append (noS_append (noS_dig (by omega)) hc) (noS_dig (by omega))) (noS_one (by decide))) (noS_dig (by omega))) (noS_one (by decide))) (noS_dig (by omega))
include hM
theorem noS_cli {c : Nat} (hc : c < 4) : NoS (cliT M c) := by
  have h0 := hM.cf c hc
  have h1 := hM.ch c hc
  have h2 := hM.sf 0 c (by omega) hc
  have h3 := hM.sh 0 c (by omega) hc
  have h4 := hM.sf 1 c (by omega) hc
  have h5 := hM.sh 1 c (by omega) hc
  exact noS_append (noS_append (noS_append (noS_append (noS_purse h0.2 h1.2) (noS_one (by decide))) (noS_purse h2.2 h3.2)) (noS_one (by decide))) (noS_purse h4.2 h5.2)
theorem std_bds {v : Nat} (hv : v < 2) {i : Nat} (hi : i < (M.bk v).length) : (0 ≤ (std (M.bk v) i).n ∧ (std (M.bk v) i).n ≤ 11) ∧ (0 ≤ (std (M.bk v) i).who ∧ (std (M.bk v) i).who ≤ 3) ∧ (1 ≤ (std (M.bk v) i).o.price ∧ (std (M.bk v) i).o.price ≤ 99) ∧ 1 ≤ (std (M.bk v) i).o.qty ∧ (std (M.bk v) i).o.qty ≤ 20 := by
  have hm : std (M.bk v) i ∈ M.bk v := by rw [std_at hi]; exact List.getElem_mem _
  have := hM.num v hv _ hm
  have := hM.who v hv _ hm
  have := hM.ord v hv _ hm
  exact ⟨by omega, by omega, by omega, by omega⟩
theorem noS_bat {v : Nat} (hv : v < 2) : NoS (batT M v) := by
  have hb : ∀ k, k ≤ (M.bk v).length → NoS (addB (M.bk v) ⟨#[]⟩ k) := by
    intro k
    induction k with
    | zero => intro _; exact noS_nil
    | succ k ih =>
      intro hk
      have hs := std_bds hM hv (i := k) (by omega)
      simp only [addB]
      refine noS_append ?_ (noS_stand (by omega) (by omega) (by omega) (by omega))
      unfold comma
      split
      · exact noS_append (ih (by omega)) (noS_one (by decide))
      · exact ih (by omega)
  refine noS_append ?_ (hb _ (Nat.le_refl _))
  unfold modT
  split <;> exact noS_one (by decide)
/-- THE PARTS of what Show writes -/
theorem parts_show : parts (showM M) = [cliT M 0, cliT M 1, cliT M 2, cliT M 3, digI M.house, batT M 0, batT M 1] := by
  have hh := hM.house
  have nh : NoS (digI M.house) := noS_dig (by omega)
  rw [show_parts, parts_snoc (noS_bat hM (by omega)), parts_snoc (noS_bat hM (by omega)), parts_snoc nh, parts_snoc (noS_cli hM (by omega)), parts_snoc (noS_cli hM (by omega)), parts_snoc (noS_cli hM (by omega)), parts_one (noS_cli hM (by omega))]
  rfl
omit hM
theorem nums_purse {s : ByteArray} (hs : (nums s).2 = false) {f h : Int} (hf : f ≤ 9999) (hh : h ≤ 9999) : nums (s ++ purseI f h) = ((nums s).1 ++ [f.toNat, h.toNat], true) := by
  unfold purseI purseT
  have h1 := nums_dig' hs (n := f.toNat) (by omega)
  have h2 : nums (s ++ dig f.toNat ++ ⟨#[43]⟩) = ((nums s).1 ++ [f.toNat], false) := by rw [nums_other (by decide), h1]
  have h3 := nums_dig' (s := s ++ dig f.toNat ++ ⟨#[43]⟩) (by rw [h2]) (n := h.toNat) (by omega)
  rw [← ByteArray.append_assoc, ← ByteArray.append_assoc, h3, h2]
  simp
theorem nums_stand {s : ByteArray} (hs : (nums s).2 = false) {x : Stand} (h1 : x.n ≤ 9999) (h2 : x.who ≤ 9999) (h3 : x.o.price ≤ 9999) (h4 : x.o.qty ≤ 9999) :
    nums (s ++ standI x) = ((nums s).1 ++ [x.n.toNat, x.who.toNat, x.o.price.toNat, x.o.qty.toNat], true) := by
  unfold standI standT
  simp only [← ByteArray.append_assoc]
  have a1 := nums_dig' hs (n := x.n.toNat) (by omega)
  have a2 : nums (s ++ dig x.n.toNat ++ (if x.o.sell then chS else chB)) = ((nums s).1 ++ [x.n.toNat], false) := by
    split
    · unfold chS; rw [nums_other (by decide), a1]
    · unfold chB; rw [nums_other (by decide), a1]
  have a3 := nums_dig' (s := s ++ dig x.n.toNat ++ (if x.o.sell then chS else chB)) (by rw [a2]) (n := x.who.toNat) (by omega)
  rw [a2] at a3
  have a4 := nums_other (s := s ++ dig x.n.toNat ++ (if x.o.sell then chS else chB) ++ dig x.who.toNat) (c := 64) (by decide)
  rw [a3] at a4
  have a5 := nums_dig' (s := s ++ dig x.n.toNat ++ (if x.o.sell then chS else chB) ++ dig x.who.toNat ++ ⟨#[64]⟩) (by rw [a4]) (n := x.o.price.toNat) (by omega)
  rw [a4] at a5
  have a6 := nums_other (s := s ++ dig x.n.toNat ++ (if x.o.sell then chS else chB) ++ dig x.who.toNat ++ ⟨#[64]⟩ ++ dig x.o.price.toNat) (c := 120) (by decide)
  rw [a5] at a6
  have a7 := nums_dig' (s := s ++ dig x.n.toNat ++ (if x.o.sell then chS else chB) ++ dig x.who.toNat ++ ⟨#[64]⟩ ++ dig x.o.price.toNat ++ ⟨#[120]⟩) (by rw [a6]) (n := x.o.qty.toNat) (by omega)
  rw [a6] at a7
  rw [a7]
  simp
theorem nums_nil : nums ByteArray.empty = ([], false) := rfl
include hM
theorem nums_cli {c : Nat} (hc : c < 4) : (nums (cliT M c)).1 = [(M.cf c).toNat, (M.ch c).toNat, (M.sf 0 c).toNat, (M.sh 0 c).toNat, (M.sf 1 c).toNat, (M.sh 1 c).toNat] := by
  have h0 := hM.cf c hc
  have h1 := hM.ch c hc
  have h2 := hM.sf 0 c (by omega) hc
  have h3 := hM.sh 0 c (by omega) hc
  have h4 := hM.sf 1 c (by omega) hc
  have h5 := hM.sh 1 c (by omega) hc
  have a1 : nums (purseI (M.cf c) (M.ch c)) = ([(M.cf c).toNat, (M.ch c).toNat], true) := by
    have := nums_purse (s := ByteArray.empty) (by rw [nums_nil]) h0.2 h1.2
    rw [ByteArray.empty_append] at this
    rw [this, nums_nil]; rfl
  have a2 := nums_other (s := purseI (M.cf c) (M.ch c)) (c := 32) (by decide)
  rw [a1] at a2
  have a3 := nums_purse (s := purseI (M.cf c) (M.ch c) ++ ⟨#[32]⟩) (by rw [a2]) h2.2 h3.2
  rw [a2] at a3
  have a4 := nums_other (s := purseI (M.cf c) (M.ch c) ++ ⟨#[32]⟩ ++ purseI (M.sf 0 c) (M.sh 0 c)) (c := 32) (by decide)
  rw [a3] at a4
  have a5 := nums_purse (s := purseI (M.cf c) (M.ch c) ++ ⟨#[32]⟩ ++ purseI (M.sf 0 c) (M.sh 0 c) ++ ⟨#[32]⟩) (by rw [a4]) h4.2 h5.2
  rw [a4] at a5
  unfold cliT
  rw [a5]
  simp
theorem nums_house : (nums (digI M.house)).1 = [M.house.toNat] := by
  have hh := hM.house
  have := nums_dig' (s := ByteArray.empty) (by rw [nums_nil]) (n := M.house.toNat) (by omega)
  rw [ByteArray.empty_append] at this
  unfold digI
  rw [this, nums_nil]; rfl
omit hM
/-- the four numbers of each of the first k orders -/
def ordN (l : List Stand) : Nat → List Nat
  | 0 => []
  | k + 1 => ordN l k ++ [(std l k).n.toNat, (std l k).who.toNat, (std l k).o.price.toNat, (std l k).o.qty.toNat]
/-- .. their sides -/
def sidL (l : List Stand) : Nat → ByteArray
  | 0 => ⟨#[]⟩
  | k + 1 => sidL l k ++ (if (std l k).o.sell then chS else chB)
include hM
theorem nums_bat {v : Nat} (hv : v < 2) : (nums (batT M v)).1 = ordN (M.bk v) (M.bk v).length := by
  have h0 : nums (modT (M.md v)) = ([], false) := by unfold modT; split <;> decide
  have hb : ∀ k, k ≤ (M.bk v).length → (nums (modT (M.md v) ++ addB (M.bk v) ⟨#[]⟩ k)).1 = ordN (M.bk v) k ∧ (k = 0 → (nums (modT (M.md v) ++ addB (M.bk v) ⟨#[]⟩ k)).2 = false) := by
    intro k
    induction k with
    | zero => intro _; have e : modT (M.md v) ++ addB (M.bk v) ⟨#[]⟩ 0 = modT (M.md v) := ByteArray.append_empty; rw [e, h0]; exact ⟨rfl, fun _ => rfl⟩
    | succ k ih =>
      intro hk
      obtain ⟨ih1, ih2⟩ := ih (by omega)
      have hs := std_bds hM hv (i := k) (by omega)
      refine ⟨?_, fun h => by omega⟩
      simp only [addB, ordN]
      rw [← ByteArray.append_assoc, ← comma_front]
      have hc : nums (comma k (modT (M.md v) ++ addB (M.bk v) ⟨#[]⟩ k)) = (ordN (M.bk v) k, false) := by
        unfold comma
        split
        · rw [nums_other (by decide), ih1]
        · rename_i h
          have := ih2 (by omega)
          rw [← ih1, ← this]
      rw [nums_stand (by rw [hc]) (by omega) (by omega) (by omega) (by omega), hc]
  exact (hb _ (Nat.le_refl _)).1
omit hM
/-- the letters of sides in a text -/
def sidesTo (s : ByteArray) : Nat → ByteArray
  | 0 => ⟨#[]⟩
  | k + 1 => if bt s k = 66 ∨ bt s k = 83 then sidesTo s k ++ s.extract k (k + 1) else sidesTo s k
def sides (s : ByteArray) : ByteArray := sidesTo s s.size
theorem sidesTo_left {a b : ByteArray} : ∀ k, k ≤ a.size → sidesTo (a ++ b) k = sidesTo a k
  | 0, _ => rfl
  | k + 1, h => by
    simp only [sidesTo]
    have e : (a ++ b).extract k (k + 1) = a.extract k (k + 1) := by
      rw [ByteArray.extract_append]
      have e2 : b.extract (k - a.size) (k + 1 - a.size) = ByteArray.empty := by rw [ByteArray.extract_eq_empty_iff]; omega
      rw [e2, ByteArray.append_empty]
    rw [sidesTo_left k (by omega), bt_left (by omega), e]
theorem sides_one (s : ByteArray) (c : UInt8) : sides (s ++ ⟨#[c]⟩) = if c.toNat = 66 ∨ c.toNat = 83 then sides s ++ ⟨#[c]⟩ else sides s := by
  have hz : (s ++ ⟨#[c]⟩ : ByteArray).size = s.size + 1 := by rw [ByteArray.size_append]; rfl
  have hb : bt (s ++ ⟨#[c]⟩) s.size = c.toNat := (bt_right (k := 0)).trans rfl
  have he : (s ++ ⟨#[c]⟩ : ByteArray).extract s.size (s.size + 1) = ⟨#[c]⟩ := ByteArray.extract_append_eq_right rfl rfl
  unfold sides
  rw [hz]
  simp only [sidesTo]
  rw [sidesTo_left _ (Nat.le_refl _), hb, he]
theorem sides_no {s : ByteArray} {c : UInt8} (h : ¬ (c.toNat = 66 ∨ c.toNat = 83)) : sides (s ++ ⟨#[c]⟩) = sides s := by rw [sides_one, if_neg h]
theorem sides_dig (s : ByteArray) : ∀ (k n : Nat), n < 10 ^ (k + 1) → sides (s ++ dig n) = sides s := by
  have one : ∀ (t : ByteArray) n, sides (t ++ dg n) = sides t := fun t n => by
    unfold dg
    exact sides_no (by rw [dg_byte]; omega)
  intro k
  induction k with
  | zero => intro n h; rw [dig_small (by omega), one]
  | succ k ih =>
    intro n h
    by_cases h10 : n < 10
    · rw [dig_small h10, one]
    · rw [dig_great h10, ← ByteArray.append_assoc, one, ih (n / 10) (by rw [Nat.pow_succ] at h; omega)]
theorem sides_dig' (s : ByteArray) {n : Nat} (h : n ≤ 9999) : sides (s ++ dig n) = sides s := sides_dig s 3 n (by omega)
theorem sides_stand (s : ByteArray) {x : Stand} (h1 : x.n ≤ 9999) (h2 : x.who ≤ 9999) (h3 : x.o.price ≤ 9999) (h4 : x.o.qty ≤ 9999) : sides (s ++ standI x) = sides s ++ (if x.o.sell then chS else chB) := by
  unfold standI standT
  simp only [← ByteArray.append_assoc]
  rw [sides_dig' _ (by omega), sides_no (by decide), sides_dig' _ (by omega), sides_no (by decide), sides_dig' _ (by omega)]
  split
  · unfold chS; rw [sides_one, if_pos (by decide), sides_dig' _ (by omega)]
  · unfold chB; rw [sides_one, if_pos (by decide), sides_dig' _ (by omega)]
include hM
theorem sides_bat {v : Nat} (hv : v < 2) : sides (batT M v) = sidL (M.bk v) (M.bk v).length := by
  have h0 : sides (modT (M.md v)) = ⟨#[]⟩ := by unfold modT; split <;> rfl
  have hb : ∀ k, k ≤ (M.bk v).length → sides (modT (M.md v) ++ addB (M.bk v) ⟨#[]⟩ k) = sidL (M.bk v) k := by
    intro k
    induction k with
    | zero => intro _; have e : modT (M.md v) ++ addB (M.bk v) ⟨#[]⟩ 0 = modT (M.md v) := ByteArray.append_empty; rw [e, h0]; rfl
    | succ k ih =>
      intro hk
      have hs := std_bds hM hv (i := k) (by omega)
      simp only [addB, sidL]
      rw [← ByteArray.append_assoc, ← comma_front]
      have hc : sides (comma k (modT (M.md v) ++ addB (M.bk v) ⟨#[]⟩ k)) = sidL (M.bk v) k := by
        unfold comma
        split
        · rw [sides_no (by decide)]; exact ih (by omega)
        · exact ih (by omega)
      rw [sides_stand _ (by omega) (by omega) (by omega) (by omega), hc]
  exact hb _ (Nat.le_refl _)
omit hM
theorem ordN_len (l : List Stand) : ∀ k, (ordN l k).length = 4 * k
  | 0 => rfl
  | k + 1 => by simp only [ordN, List.length_append, ordN_len l k]; simp; omega
theorem sidL_size (l : List Stand) : ∀ k, (sidL l k).size = k
  | 0 => rfl
  | k + 1 => by
    simp only [sidL, ByteArray.size_append, sidL_size l k]
    have e : (if (std l k).o.sell then chS else chB).size = 1 := by split <;> rfl
    omega
end
end Mk
