import Derived.Test.YtmebcdpdpcpnmabDoorJ11
import Derived.Test.YtmebcdpdpcpnmabDoorJ13
/- Plain mathematics of a market's text, taken apart as a reader does: at its semicolons, then its numbers. -/
namespace Mk

/-- the parts of a text, up to byte k: those that are whole, and where the next one begins -/
def pcut (s : ByteArray) : Nat → List ByteArray × Nat
  | 0 => ([], 0)
  | k + 1 => if bt s k = 59 then ((pcut s k).1 ++ [s.extract (pcut s k).2 k], k + 1) else pcut s k
def parts (s : ByteArray) : List ByteArray := (pcut s s.size).1 ++ [s.extract (pcut s s.size).2 s.size]
theorem pcut_le (s : ByteArray) : ∀ k, (pcut s k).2 ≤ k
  | 0 => Nat.le_refl _
  | k + 1 => by
    have := pcut_le s k
    simp only [pcut]
    split
    · exact Nat.le_refl _
    · omega
theorem pcut_left {a b : ByteArray} : ∀ k, k ≤ a.size → pcut (a ++ b) k = pcut a k
  | 0, _ => rfl
  | k + 1, h => by
    have hle := pcut_le a k
    simp only [pcut]
    rw [pcut_left k (by omega), bt_left (by omega)]
    have e : (a ++ b).extract (pcut a k).2 k = a.extract (pcut a k).2 k := by
      rw [ByteArray.extract_append]
      have e2 : b.extract ((pcut a k).2 - a.size) (k - a.size) = ByteArray.empty := by
        rw [ByteArray.extract_eq_empty_iff]; omega
      rw [e2, ByteArray.append_empty]
    rw [e]
def semi : ByteArray := ⟨#[59]⟩
/-- no semicolon in it -/
def NoS (s : ByteArray) : Prop := ∀ k, k < s.size → bt s k ≠ 59
theorem noS_append {a b : ByteArray} (ha : NoS a) (hb : NoS b) : NoS (a ++ b) := by
  intro k hk
  by_cases h : k < a.size
  · rw [bt_left h]; exact ha k h
  · have e : k = a.size + (k - a.size) := by omega
    rw [ByteArray.size_append] at hk
    rw [e, bt_right]
    exact hb _ (by omega)
theorem noS_dig {n : Nat} (h : n ≤ 9999) : NoS (dig n) := fun k hk => by have := dig_digit h hk; omega
theorem noS_one {c : UInt8} (h : c ≠ 59) : NoS ⟨#[c]⟩ := by
  intro k hk e
  have hk' : k = 0 := by have : k < 1 := hk; omega
  subst hk'
  rw [← bt_at hk] at e
  exact h (UInt8.toNat_inj.1 e)
theorem noS_nil : NoS ⟨#[]⟩ := fun k hk => by have : k < 0 := hk; omega
/-- one part more -/
theorem parts_snoc {s x : ByteArray} (hx : NoS x) : parts (s ++ semi ++ x) = parts s ++ [x] := by
  have hz : (s ++ semi).size = s.size + 1 := by rw [ByteArray.size_append]; rfl
  have hb : bt (s ++ semi) s.size = 59 := (bt_right (k := 0)).trans rfl
  have e1 : pcut (s ++ semi) s.size = pcut s s.size := pcut_left _ (Nat.le_refl _)
  have hle := pcut_le s s.size
  have e2 : pcut (s ++ semi) (s.size + 1) = (parts s, s.size + 1) := by
    simp only [pcut]
    rw [if_pos hb, e1]
    have e : (s ++ semi).extract (pcut s s.size).2 s.size = s.extract (pcut s s.size).2 s.size := by
      rw [ByteArray.extract_append]
      have e2 : semi.extract ((pcut s s.size).2 - s.size) (s.size - s.size) = ByteArray.empty := by
        rw [ByteArray.extract_eq_empty_iff]; omega
      rw [e2, ByteArray.append_empty]
    rw [e]
    rfl
  have e3 : ∀ j, j ≤ x.size → pcut (s ++ semi ++ x) (s.size + 1 + j) = (parts s, s.size + 1) := by
    intro j
    induction j with
    | zero => intro _; rw [Nat.add_zero, pcut_left _ (by omega), e2]
    | succ j ih =>
      intro hj
      rw [← Nat.add_assoc]
      simp only [pcut]
      have e : bt (s ++ semi ++ x) (s.size + 1 + j) = bt x j := by rw [← hz]; exact bt_right
      rw [e, if_neg (hx j (by omega))]
      exact ih (by omega)
  have ht : (s ++ semi ++ x).size = s.size + 1 + x.size := by rw [ByteArray.size_append, hz]
  unfold parts
  rw [ht, e3 x.size (Nat.le_refl _)]
  have e4 : (s ++ semi ++ x).extract (s.size + 1) (s.size + 1 + x.size) = x := ByteArray.extract_append_eq_right (a := s ++ semi) (b := x) hz.symm (by rw [hz])
  show parts s ++ [(s ++ semi ++ x).extract (s.size + 1) (s.size + 1 + x.size)] = _
  rw [e4]
  rfl
theorem parts_one {x : ByteArray} (hx : NoS x) : parts x = [x] := by
  have e : ∀ k, k ≤ x.size → pcut x k = ([], 0) := by
    intro k
    induction k with
    | zero => intro _; rfl
    | succ k ih => intro h; simp only [pcut]; rw [if_neg (hx k (by omega))]; exact ih (by omega)
  unfold parts
  rw [e _ (Nat.le_refl _)]
  simp

/-- the numbers so far, and whether the last byte was a digit: one byte more -/
def numStep (p : List Nat × Bool) (b : Nat) : List Nat × Bool :=
  if 48 ≤ b ∧ b ≤ 57 then ((if p.2 then p.1.dropLast ++ [(p.1.getLastD 0 * 10 + (b - 48)) % 1000000] else p.1 ++ [(b - 48) % 1000000]), true) else (p.1, false)
def numsTo (s : ByteArray) : Nat → List Nat × Bool
  | 0 => ([], false)
  | k + 1 => numStep (numsTo s k) (bt s k)
def nums (s : ByteArray) : List Nat × Bool := numsTo s s.size
theorem numsTo_left {a b : ByteArray} : ∀ k, k ≤ a.size → numsTo (a ++ b) k = numsTo a k
  | 0, _ => rfl
  | k + 1, h => by simp only [numsTo]; rw [numsTo_left k (by omega), bt_left (by omega)]
theorem nums_one (s : ByteArray) (c : UInt8) : nums (s ++ ⟨#[c]⟩) = numStep (nums s) c.toNat := by
  have hz : (s ++ ⟨#[c]⟩ : ByteArray).size = s.size + 1 := by rw [ByteArray.size_append]; rfl
  have hb : bt (s ++ ⟨#[c]⟩) s.size = c.toNat := (bt_right (k := 0)).trans rfl
  unfold nums
  rw [hz]
  simp only [numsTo]
  rw [numsTo_left _ (Nat.le_refl _), hb]
theorem nums_other {s : ByteArray} {c : UInt8} (h : ¬ (48 ≤ c.toNat ∧ c.toNat ≤ 57)) : nums (s ++ ⟨#[c]⟩) = ((nums s).1, false) := by rw [nums_one]; unfold numStep; rw [if_neg h]
theorem dg_byte (n : Nat) : (UInt8.ofNat (48 + n % 10)).toNat = 48 + n % 10 := by rw [UInt8.toNat_ofNat']; omega
theorem nums_dig {s : ByteArray} (hs : (nums s).2 = false) : ∀ (k n : Nat), k ≤ 4 → n < 10 ^ (k + 1) → nums (s ++ dig n) = ((nums s).1 ++ [n], true) := by
  have small : ∀ n, n < 10 → nums (s ++ dig n) = ((nums s).1 ++ [n], true) := fun n h => by
    rw [dig_small h]
    unfold dg
    rw [nums_one, dg_byte]
    unfold numStep
    rw [if_pos (by omega), hs]
    have e : (48 + n % 10 - 48) % 1000000 = n := by omega
    rw [e]
    rfl
  intro k
  induction k with
  | zero => intro n _ h; exact small n (by omega)
  | succ k ih =>
    intro n hk h
    by_cases h10 : n < 10
    · exact small n h10
    · have hp : 10 ^ (k + 1 + 1) ≤ 10 ^ 6 := Nat.pow_le_pow_right (by omega) (by omega)
      have ih' := ih (n / 10) (by omega) (by rw [Nat.pow_succ] at h; omega)
      rw [dig_great h10, ← ByteArray.append_assoc]
      unfold dg
      rw [nums_one, dg_byte, ih']
      unfold numStep
      rw [if_pos (by omega)]
      have e : ((n / 10) * 10 + (48 + n % 10 - 48)) % 1000000 = n := by omega
      simp only [if_true, List.dropLast_concat, List.getLastD_concat]
      rw [e]
theorem nums_dig' {s : ByteArray} (hs : (nums s).2 = false) {n : Nat} (h : n ≤ 9999) : nums (s ++ dig n) = ((nums s).1 ++ [n], true) := nums_dig hs 4 n (by omega) (by omega)

end Mk
