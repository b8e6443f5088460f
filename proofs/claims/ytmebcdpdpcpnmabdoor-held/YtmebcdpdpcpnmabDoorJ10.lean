import Derived.Test.YtmebcdpdpcpnmabDoorJ9
import Derived.Lib.Strings
/- Plain mathematics of the document's market: a command, read. -/
namespace Mk

structure Cmd where
  who : Nat
  r : Nat
  d : Wd
  n : List Nat
  mc : Bool

def bu : ByteArray := ⟨#[117]⟩
def bm : ByteArray := ⟨#[109]⟩
/-- text i of some -/
def wrd (l : List ByteArray) (i : Nat) : ByteArray := l.getD i bu
theorem wrd_at {l : List ByteArray} {i : Nat} (h : i < l.length) : wrd l i = l[i] := by simp [wrd, List.getD, List.getElem?_eq_getElem h]
/-- number i of some -/
def nth (l : List Nat) (i : Nat) : Nat := l.getD i 0
theorem nth_at {l : List Nat} {i : Nat} (h : i < l.length) : nth l i = l[i] := by simp [nth, List.getD, List.getElem?_eq_getElem h]
def isU (s : ByteArray) : Bool := s.toList == bu.toList
def isM (s : ByteArray) : Bool := s.toList == bm.toList
def Wd.isMode : Wd → Bool
  | .mode => true
  | _ => false
/-- the numbers of the first k texts -/
def fitTo (l : List ByteArray) (d : Wd) : Nat → Bool
  | 0 => true
  | k + 1 => fitTo l d k && numB (wrd l k) (nth d.lo k) (nth d.hi k)
def fits (l : List ByteArray) (d : Wd) : Bool := decide (l.length = d.lo.length) && fitTo l d l.length
/-- what stands behind a word: the numbers' texts; a mode's letter is none of them -/
def args (d : Wd) (rest : List ByteArray) : List ByteArray := if d.isMode then rest.dropLast else rest
def modeOk (d : Wd) (rest : List ByteArray) : Bool := !d.isMode || (decide (0 < rest.length) && (isU (wrd rest (rest.length - 1)) || isM (wrd rest (rest.length - 1))))
def modeIs (d : Wd) (rest : List ByteArray) : Bool := d.isMode && isM (wrd rest (rest.length - 1))

theorem extract_le (s : ByteArray) (a b : Nat) : (s.extract a b).size ≤ s.size := by rw [ByteArray.size_extract]; omega
theorem cutTo_size (s : ByteArray) : ∀ k, ∀ x ∈ (cutTo s k).1, x.size ≤ s.size
  | 0, x, hx => by simp [cutTo] at hx
  | k + 1, x, hx => by
    simp only [cutTo] at hx
    split at hx
    · rcases List.mem_append.1 hx with h | h
      · exact cutTo_size s k x h
      · rw [List.mem_singleton.1 h]; exact extract_le s _ _
    · exact cutTo_size s k x hx
theorem words_size {s x : ByteArray} (h : x ∈ words s) : x.size ≤ s.size := by
  rcases List.mem_append.1 h with h | h
  · exact cutTo_size s _ x h
  · rw [List.mem_singleton.1 h]; exact extract_le s _ _
theorem word_size {s : ByteArray} (hs : s.size ≤ 20) (i : Nat) : (wrd (words s) i).size ≤ 20 := by
  by_cases h : i < (words s).length
  · have : wrd (words s) i ∈ words s := by
      rw [wrd_at h]; exact List.getElem_mem h
    have := words_size this
    omega
  · have e : wrd (words s) i = bu := by simp [wrd, List.getD, List.getElem?_eq_none (Nat.le_of_not_lt h)]
    rw [e]
    decide

/-- THE COMMAND that a text is -/
def readP (s : ByteArray) : Option Cmd :=
  if 20 < s.size then none
  else if (words s).length < 3 then none
  else match wd (wrd (words s) 2) with
    | none => none
    | some d =>
      if numB (wrd (words s) 0) 0 3 && numB (wrd (words s) 1) 1 99 && modeOk d ((words s).drop 3) && fits (args d ((words s).drop 3)) d
      then some ⟨numV (wrd (words s) 0), numV (wrd (words s) 1), d, (args d ((words s).drop 3)).map numV, modeIs d ((words s).drop 3)⟩
      else none

section
variable {s : ByteArray}
theorem read_long (h : 20 < s.size) : readP s = none := by unfold readP; rw [if_pos h]
theorem read_few (h : (words s).length < 3) : readP s = none := by
  unfold readP
  rw [if_pos h]
  split <;> rfl
theorem read_noword (h : wd (wrd (words s) 2) = none) : readP s = none := by
  unfold readP
  split
  · rfl
  · split
    · rfl
    · rw [h]
theorem read_no {d : Wd} (h : wd (wrd (words s) 2) = some d) (h2 : (numB (wrd (words s) 0) 0 3 && numB (wrd (words s) 1) 1 99 && modeOk d ((words s).drop 3) && fits (args d ((words s).drop 3)) d) = false) : readP s = none := by
  unfold readP
  split
  · rfl
  · split
    · rfl
    · rw [h]
      simp only [h2]
      rfl
theorem read_yes {d : Wd} (h0 : ¬ 20 < s.size) (h1 : ¬ (words s).length < 3) (h : wd (wrd (words s) 2) = some d) (h2 : (numB (wrd (words s) 0) 0 3 && numB (wrd (words s) 1) 1 99 && modeOk d ((words s).drop 3) && fits (args d ((words s).drop 3)) d) = true) :
    readP s = some ⟨numV (wrd (words s) 0), numV (wrd (words s) 1), d, (args d ((words s).drop 3)).map numV, modeIs d ((words s).drop 3)⟩ := by
  unfold readP
  rw [if_neg h0, if_neg h1, h]
  simp only [h2]
  rfl
theorem fitTo_no {l : List ByteArray} {d : Wd} {k : Nat} (h : numB (wrd l k) (nth d.lo k) (nth d.hi k) = false) : ∀ {m : Nat}, k < m → fitTo l d m = false
  | 0, hm => by omega
  | m + 1, hm => by
    simp only [fitTo]
    by_cases e : k = m
    · subst e; rw [h, Bool.and_false]
    · rw [fitTo_no h (by omega), Bool.false_and]
end

end Mk

/- Plain mathematics of the document's market: what a command that was read is like. -/
namespace Mk

theorem fitTo_yes {l : List ByteArray} {d : Wd} : ∀ {m k : Nat}, fitTo l d m = true → k < m → numB (wrd l k) (nth d.lo k) (nth d.hi k) = true
  | 0, k, _, hk => by omega
  | m + 1, k, h, hk => by
    simp only [fitTo, Bool.and_eq_true] at h
    by_cases e : k = m
    · subst e; exact h.2
    · exact fitTo_yes h.1 (by omega)
theorem numB_le {s : ByteArray} {lo hi : Nat} (h : numB s lo hi = true) : lo ≤ numV s ∧ numV s ≤ hi := by
  simp only [numB, Bool.and_eq_true, decide_eq_true_eq] at h
  exact ⟨h.1.2, h.2⟩

structure Cmd.Ok (c : Cmd) : Prop where
  who : c.who < 4
  r : 1 ≤ c.r ∧ c.r ≤ 99
  len : c.n.length = c.d.lo.length
  num : ∀ i, i < c.n.length → nth c.d.lo i ≤ nth c.n i ∧ nth c.n i ≤ nth c.d.hi i

theorem read_ok {s : ByteArray} {c : Cmd} (h : readP s = some c) : c.Ok ∧ s.size ≤ 20 := by
  unfold readP at h
  split at h
  · cases h
  · rename_i h20
    split at h
    · cases h
    · split at h
      · cases h
      · rename_i d hd
        split at h
        · rename_i hc
          simp only [Bool.and_eq_true] at hc
          obtain ⟨⟨⟨h0, h1⟩, _⟩, hf⟩ := hc
          cases h
          simp only [fits, Bool.and_eq_true, decide_eq_true_eq] at hf
          refine ⟨⟨?_, ?_, ?_, ?_⟩, by omega⟩
          · have := numB_le h0; show numV _ < 4; omega
          · exact numB_le h1
          · show (List.map numV _).length = _; rw [List.length_map]; exact hf.1
          · intro i hi
            have hi' : i < (args d ((words s).drop 3)).length := by simpa using hi
            have := numB_le (fitTo_yes hf.2 hi')
            rw [wrd_at hi'] at this
            show nth d.lo i ≤ nth (List.map numV _) i ∧ nth (List.map numV _) i ≤ nth d.hi i
            rw [nth_at (l := List.map numV (args d ((words s).drop 3))) (by rw [List.length_map]; exact hi')]
            simpa using this
        · cases h

end Mk

/- Plain mathematics of the law: does a text have a word in it? -/
namespace Mk

def hasAt (s w : ByteArray) (i : Nat) : Bool := (s.extract i (i + w.size)).toList == w.toList
def hasTo (s w : ByteArray) : Nat → Bool
  | 0 => false
  | k + 1 => hasTo s w k || hasAt s w k
/-- does a text have a word in it? -/
def has (s w : ByteArray) : Bool := decide (w.size ≤ s.size) && hasTo s w (s.size - w.size + 1)

theorem hasTo_at {s w : ByteArray} : ∀ {k i : Nat}, i < k → hasAt s w i = true → hasTo s w k = true
  | 0, i, h, _ => by omega
  | k + 1, i, h, hi => by
    simp only [hasTo, Bool.or_eq_true]
    by_cases e : i = k
    · subst e; exact .inr hi
    · exact .inl (hasTo_at (by omega) hi)

/-- a piece of a text -/
def Piece (s x : ByteArray) : Prop := ∃ a, a + x.size ≤ s.size ∧ s.extract a (a + x.size) = x
theorem piece_extract (s : ByteArray) {a b : Nat} (h : a ≤ b) (hb : b ≤ s.size) : Piece s (s.extract a b) := by
  have e : (s.extract a b).size = b - a := by rw [ByteArray.size_extract]; omega
  exact ⟨a, by omega, by rw [e, show a + (b - a) = b by omega]⟩
theorem cutTo_piece (s : ByteArray) : ∀ k, k ≤ s.size → ∀ x ∈ (cutTo s k).1, Piece s x
  | 0, _, x, hx => by simp [cutTo] at hx
  | k + 1, hk, x, hx => by
    simp only [cutTo] at hx
    split at hx
    · rcases List.mem_append.1 hx with h | h
      · exact cutTo_piece s k (by omega) x h
      · rw [List.mem_singleton.1 h]; exact piece_extract s (cutTo_le s k).1 (by omega)
    · exact cutTo_piece s k (by omega) x hx
theorem words_piece {s x : ByteArray} (h : x ∈ words s) : Piece s x := by
  rcases List.mem_append.1 h with h | h
  · exact cutTo_piece s _ (Nat.le_refl _) x h
  · rw [List.mem_singleton.1 h]; exact piece_extract s (cutTo_le s _).1 (Nat.le_refl _)
theorem Piece.has {s x w : ByteArray} (h : Piece s x) (hw : x.toList = w.toList) : has s w = true := by
  obtain ⟨a, ha, he⟩ := h
  have hsz : x.size = w.size := by
    have h1 : x.toList.length = w.toList.length := by rw [hw]
    rw [Go.Lib.toList_data, Go.Lib.toList_data] at h1
    simpa using h1
  have h1 : hasAt s w a = true := by
    unfold hasAt
    rw [← hsz, he, hw]
    simp
  unfold Mk.has
  rw [Bool.and_eq_true, decide_eq_true_eq]
  exact ⟨by omega, hasTo_at (by omega) h1⟩
theorem wd_is {s : ByteArray} {d : Wd} (h : wd s = some d) : isW s d = true := by
  unfold wd at h
  repeat (split at h; · rename_i hh; cases h; exact hh)
  cases h
/-- a text that is a command has its word in it -/
theorem read_has {s : ByteArray} {c : Cmd} (h : readP s = some c) : has s c.d.text = true := by
  have h0 := h
  unfold readP at h
  split at h
  · cases h
  · split at h
    · cases h
    · rename_i hl
      split at h
      · cases h
      · rename_i d hd
        split at h
        · cases h
          have h2 : 2 < (words s).length := by omega
          have hp : Piece s (wrd (words s) 2) := by rw [wrd_at h2]; exact words_piece (List.getElem_mem h2)
          have hw := wd_is hd
          simp only [isW, beq_iff_eq] at hw
          exact hp.has hw
        · cases h

end Mk

/- Plain mathematics of the program's way of reading a command: word by word. -/
namespace Mk

theorem bt_extract {s : ByteArray} {a k : Nat} (h : a + k < s.size) : bt (s.extract a s.size) k = bt s (a + k) := by
  have h1 : k < (s.extract a s.size).size := by rw [ByteArray.size_extract]; omega
  rw [← bt_at h1, ← bt_at h, ByteArray.getElem_extract]
theorem extract_two (s : ByteArray) (a b c : Nat) (h : a + c ≤ s.size) : (s.extract a s.size).extract b c = s.extract (a + b) (a + c) := by
  rw [ByteArray.extract_extract, Nat.min_eq_left h]
theorem cutTo_none {s : ByteArray} : ∀ k, (∀ j, j < k → bt s j ≠ 32) → cutTo s k = ([], 0)
  | 0, _ => rfl
  | k + 1, h => by rw [cutTo_no (h k (by omega))]; exact cutTo_none k (fun j hj => h j (by omega))
theorem cutTo_behind {s : ByteArray} {i : Nat} (hb : bt s i = 32) (hn : ∀ j, j < i → bt s j ≠ 32) : ∀ k, i + 1 + k ≤ s.size →
    cutTo s (i + 1 + k) = (s.extract 0 i :: (cutTo (s.extract (i + 1) s.size) k).1, i + 1 + (cutTo (s.extract (i + 1) s.size) k).2)
  | 0, _ => by
    show cutTo s (i + 1) = _
    rw [cutTo_yes hb, cutTo_none i hn]
    rfl
  | k + 1, h => by
    have ih := cutTo_behind hb hn k (by omega)
    have e : bt (s.extract (i + 1) s.size) k = bt s (i + 1 + k) := bt_extract (by omega)
    have hle := (cutTo_le (s.extract (i + 1) s.size) k).1
    by_cases h32 : bt s (i + 1 + k) = 32
    · rw [show i + 1 + (k + 1) = (i + 1 + k) + 1 by omega, cutTo_yes h32, ih, cutTo_yes (s := s.extract (i + 1) s.size) (e.trans h32), extract_two s (i + 1) _ k (by omega)]
      simp
      omega
    · rw [show i + 1 + (k + 1) = (i + 1 + k) + 1 by omega, cutTo_no h32, ih, cutTo_no (s := s.extract (i + 1) s.size) (by rw [e]; exact h32)]
/-- the words of a text whose first blank is at i -/
theorem words_at {s : ByteArray} {i : Nat} (hi : i < s.size) (hb : bt s i = 32) (hn : ∀ j, j < i → bt s j ≠ 32) : words s = s.extract 0 i :: words (s.extract (i + 1) s.size) := by
  have hz : (s.extract (i + 1) s.size).size = s.size - (i + 1) := by rw [ByteArray.size_extract]; omega
  have h := cutTo_behind hb hn (s.size - (i + 1)) (by omega)
  rw [show i + 1 + (s.size - (i + 1)) = s.size by omega] at h
  have hle := (cutTo_le (s.extract (i + 1) s.size) (s.size - (i + 1))).1
  unfold words
  rw [hz, h, extract_two s (i + 1) _ _ (by omega), show i + 1 + (s.size - (i + 1)) = s.size by omega]
  simp
/-- .. that has none -/
theorem words_one {s : ByteArray} (hn : ∀ j, j < s.size → bt s j ≠ 32) : words s = [s] := by
  unfold words
  rw [cutTo_none s.size hn]
  simp

theorem numTo_mono (s : ByteArray) (j : Nat) : ∀ k, j ≤ k → numTo s j ≤ numTo s k
  | 0, h => by have : j = 0 := by omega
               subst this; exact Nat.le_refl _
  | k + 1, h => by
    by_cases e : j = k + 1
    · subst e; exact Nat.le_refl _
    · have := numTo_mono s j k (by omega)
      simp only [numTo]
      omega
theorem numTo_ge {s : ByteArray} (h0 : 49 ≤ bt s 0) : ∀ k, 10 ^ k ≤ numTo s (k + 1)
  | 0 => by simp [numTo]; omega
  | k + 1 => by
    have ih := numTo_ge h0 k
    show 10 ^ (k + 1) ≤ numTo s (k + 1) * 10 + (bt s (k + 1) - 48)
    rw [Nat.pow_succ]
    omega
/-- digits that tell no more than 9999, and no nought ahead: a number -/
theorem numOk_of {s : ByteArray} (h1 : 1 ≤ s.size) (h3 : ¬ (bt s 0 = 48 ∧ 1 < s.size)) (h4 : digs s s.size = true) (h9 : numTo s s.size ≤ 9999) : numOk s = true := by
  refine numOk_yes h1 ?_ h3 h4
  refine Nat.le_of_not_lt (fun h5 => ?_)
  have hd : ∀ k, 1 ≤ k → digs s k = true → isD s 0 = true := by
    intro k
    induction k with
    | zero => intro h _; omega
    | succ k ih =>
      intro _ h
      simp only [digs, Bool.and_eq_true] at h
      by_cases e : k = 0
      · subst e; exact h.2
      · exact ih (by omega) h.1
  have h0 := hd s.size h1 h4
  simp only [isD, Bool.and_eq_true, decide_eq_true_eq] at h0
  have h49 : 49 ≤ bt s 0 := by
    have : bt s 0 ≠ 48 := fun e => h3 ⟨e, by omega⟩
    omega
  have hge : 10 ^ 4 ≤ numTo s 5 := numTo_ge h49 4
  have := numTo_mono s 5 s.size (by omega)
  omega

/-- what the program's readNumber answers -/
def rdOk (s : ByteArray) (hi : Nat) : Bool := numOk s && decide (numTo s s.size ≤ hi)
def rdV (s : ByteArray) (hi : Nat) : Nat := if rdOk s hi then numTo s s.size else 0
theorem rd_numB (s : ByteArray) (lo hi : Nat) : numB s lo hi = (rdOk s hi && decide (lo ≤ rdV s hi)) ∧ (numB s lo hi = true → rdV s hi = numV s) := by
  unfold numB rdV rdOk numV
  by_cases h : numOk s = true
  · simp only [h, Bool.true_and, if_true]
    by_cases h2 : numTo s s.size ≤ hi
    · simp [h2]
    · simp [h2]
  · have h' : numOk s = false := by simpa using h
    simp [h']
theorem rd_long {s : ByteArray} {hi k : Nat} (hk : k ≤ s.size) (h : hi < numTo s k) : rdOk s hi = false := by
  have := numTo_mono s k s.size hk
  unfold rdOk
  have : decide (numTo s s.size ≤ hi) = false := by rw [decide_eq_false_iff_not]; omega
  rw [this, Bool.and_false]
theorem rd_no {s : ByteArray} {hi : Nat} (h : numOk s = false) : rdOk s hi = false := by unfold rdOk; rw [h, Bool.false_and]

/-- the first of some words -/
def hd (l : List ByteArray) : ByteArray := l.headD ⟨#[]⟩
/-- a number, read off the first word: is it one; which -/
def ng (l : List ByteArray) (lo hi : Nat) : Bool := numB (hd l) lo hi
def nv (l : List ByteArray) (lo hi : Nat) : Nat := if ng l lo hi then numV (hd l) else 0
/-- a mode's letter -/
def mg (l : List ByteArray) : Bool := isU (hd l) || isM (hd l)
def mv (l : List ByteArray) : Bool := isM (hd l)
def some' (l : List ByteArray) : Bool := !l.isEmpty
theorem ng_nil (lo hi : Nat) : ng [] lo hi = false := by
  unfold ng numB
  rw [numOk_no (.inl rfl)]
  rfl
theorem mg_nil : mg [] = false := by
  unfold mg isU isM hd
  simp [bu, bm]

/-- what belongs to a word: the good of it, and what is left behind it -/
def rG (d : Wd) (l : List ByteArray) : Bool :=
  match d with
  | .pay => ng l 1 9999
  | .draw => ng l 1 9999
  | .bring => ng l 0 1 && ng l.tail 1 999
  | .fetch => ng l 0 1 && ng l.tail 1 999
  | .buy => ng l 0 1 && ng l.tail 1 99 && ng l.tail.tail 1 20
  | .sell => ng l 0 1 && ng l.tail 1 99 && ng l.tail.tail 1 20
  | .drop => ng l 0 1 && ng l.tail 0 11
  | .mode => ng l 0 1 && mg l.tail
  | .close => ng l 0 1
def rL (d : Wd) (l : List ByteArray) : List ByteArray :=
  match d with
  | .pay => l.tail
  | .draw => l.tail
  | .bring => l.tail.tail
  | .fetch => l.tail.tail
  | .buy => l.tail.tail.tail
  | .sell => l.tail.tail.tail
  | .drop => l.tail.tail
  | .mode => l.tail.tail
  | .close => l.tail
/-- the numbers of a request: voyage, amount, price, quantity, order; its mode -/
def rV (d : Wd) (l : List ByteArray) : Nat :=
  match d with
  | .pay => 0
  | .draw => 0
  | _ => nv l 0 1
def rA (d : Wd) (l : List ByteArray) : Nat :=
  match d with
  | .pay => nv l 1 9999
  | .draw => nv l 1 9999
  | .bring => nv l.tail 1 999
  | .fetch => nv l.tail 1 999
  | _ => 0
def rP (d : Wd) (l : List ByteArray) : Nat :=
  match d with
  | .buy => nv l.tail 1 99
  | .sell => nv l.tail 1 99
  | _ => 0
def rQ (d : Wd) (l : List ByteArray) : Nat :=
  match d with
  | .buy => nv l.tail.tail 1 20
  | .sell => nv l.tail.tail 1 20
  | _ => 0
def rO (d : Wd) (l : List ByteArray) : Nat :=
  match d with
  | .drop => nv l.tail 0 11
  | _ => 0
def rM (d : Wd) (l : List ByteArray) : Bool :=
  match d with
  | .mode => mv l.tail
  | _ => false

/-- the same of a command that was read -/
def Cmd.voy (c : Cmd) : Nat :=
  match c.d with
  | .pay => 0
  | .draw => 0
  | _ => nth c.n 0
def Cmd.amt (c : Cmd) : Nat :=
  match c.d with
  | .pay => nth c.n 0
  | .draw => nth c.n 0
  | .bring => nth c.n 1
  | .fetch => nth c.n 1
  | _ => 0
def Cmd.pri (c : Cmd) : Nat :=
  match c.d with
  | .buy => nth c.n 1
  | .sell => nth c.n 1
  | _ => 0
def Cmd.qty (c : Cmd) : Nat :=
  match c.d with
  | .buy => nth c.n 2
  | .sell => nth c.n 2
  | _ => 0
def Cmd.ord (c : Cmd) : Nat :=
  match c.d with
  | .drop => nth c.n 1
  | _ => 0

/-- is the whole a command? -/
def okY (d : Wd) (l : List ByteArray) : Bool := ng l 0 3 && ng l.tail 1 99 && some' l.tail.tail && rG d l.tail.tail.tail && (rL d l.tail.tail.tail).isEmpty

theorem hd_cons (x : ByteArray) (l : List ByteArray) : hd (x :: l) = x := rfl
theorem ng_cons (x : ByteArray) (l : List ByteArray) (lo hi : Nat) : ng (x :: l) lo hi = numB x lo hi := rfl
theorem mg_cons (x : ByteArray) (l : List ByteArray) : mg (x :: l) = (isU x || isM x) := rfl
theorem wrd0 (x : ByteArray) (l : List ByteArray) : wrd (x :: l) 0 = x := rfl
theorem wrd1 (x y : ByteArray) (l : List ByteArray) : wrd (x :: y :: l) 1 = y := rfl
theorem wrd2 (x y z : ByteArray) (l : List ByteArray) : wrd (x :: y :: z :: l) 2 = z := rfl

/-- the document's and the program's view of what stands behind a word -/
theorem rest_same (d : Wd) (l : List ByteArray) : (modeOk d l && fits (args d l) d) = (rG d l && (rL d l).isEmpty) := by
  have hn := fun lo hi => ng_nil lo hi
  have hm := mg_nil
  cases d
  all_goals
    rcases l with _ | ⟨a, _ | ⟨b, _ | ⟨c, _ | ⟨e, l⟩⟩⟩⟩
    all_goals first
      | (simp [modeOk, fits, args, fitTo, Wd.isMode, Wd.lo, Wd.hi, rG, rL, hn, hm, ng_cons, mg_cons, wrd0, wrd1, wrd2, nth]; done)
      | (simp [modeOk, fits, args, fitTo, Wd.isMode, Wd.lo, Wd.hi, rG, rL, ng_cons, mg_cons, wrd0, wrd1, nth]; rw [Bool.and_comm])
theorem rest_c (a b : ByteArray) : modeIs .mode [a, b] = isM b := rfl

/-- a text whose third word is a word of the document's -/
theorem read_as {s : ByteArray} {d : Wd} (h20 : s.size ≤ 20) (hd' : wd (hd (words s).tail.tail) = some d) (h3 : some' (words s).tail.tail = true) :
    (okY d (words s) = false → readP s = none) ∧ (okY d (words s) = true → ∃ c, readP s = some c ∧ c.d = d ∧ c.who = nv (words s) 0 3 ∧ c.r = nv (words s).tail 1 99 ∧
      c.voy = rV d (words s).tail.tail.tail ∧ c.amt = rA d (words s).tail.tail.tail ∧ c.pri = rP d (words s).tail.tail.tail ∧ c.qty = rQ d (words s).tail.tail.tail ∧ c.ord = rO d (words s).tail.tail.tail ∧ c.mc = rM d (words s).tail.tail.tail) := by
  have h0 : ¬ 20 < s.size := by omega
  rcases hw : words s with _ | ⟨x, _ | ⟨y, _ | ⟨z, l⟩⟩⟩
  · rw [hw] at h3; cases h3
  · rw [hw] at h3; cases h3
  · rw [hw] at h3; cases h3
  · rw [hw] at hd'
    have hd2 : wd (wrd (words s) 2) = some d := by rw [hw]; exact hd'
    have h1 : ¬ (words s).length < 3 := by rw [hw]; simp
    have he : (numB (wrd (words s) 0) 0 3 && numB (wrd (words s) 1) 1 99 && modeOk d ((words s).drop 3) && fits (args d ((words s).drop 3)) d) = okY d (words s) := by
      rw [hw]
      show (numB x 0 3 && numB y 1 99 && modeOk d l && fits (args d l) d) = (numB x 0 3 && numB y 1 99 && true && rG d l && (rL d l).isEmpty)
      rw [Bool.and_assoc, rest_same, Bool.and_true, Bool.and_assoc, Bool.and_assoc, Bool.and_assoc]
    rw [hw] at he
    refine ⟨fun hf => read_no hd2 (by rw [hw, he]; exact hf), fun ht => ?_⟩
    have hr := read_yes h0 h1 hd2 (by rw [hw, he]; exact ht)
    rw [hw] at hr
    refine ⟨_, hr, rfl, ?_⟩
    have ht' : (numB x 0 3 && numB y 1 99 && true && rG d l && (rL d l).isEmpty) = true := ht
    simp only [Bool.and_eq_true] at ht'
    obtain ⟨⟨⟨⟨q0, q1⟩, _⟩, qg⟩, ql⟩ := ht'
    have e0 : nv (x :: y :: z :: l) 0 3 = numV x := if_pos q0
    have e1 : nv (y :: z :: l) 1 99 = numV y := if_pos q1
    refine ⟨e0.symm, e1.symm, ?_⟩
    show _ ∧ _ ∧ _ ∧ _ ∧ _ ∧ _
    clear hr he hd2 h1 hw ht e0 e1
    cases d
    all_goals
      rcases l with _ | ⟨a, _ | ⟨b, _ | ⟨c, _ | ⟨e, l⟩⟩⟩⟩
      all_goals simp [rG, rL, ng_nil, mg_nil, ng_cons, mg_cons] at qg ql
      all_goals simp [Cmd.voy, Cmd.amt, Cmd.pri, Cmd.qty, Cmd.ord, rV, rA, rP, rQ, rO, rM, nv, ng, hd_cons, mv, modeIs, Wd.isMode, args, nth, wrd, qg]
/-- .. is none -/
theorem read_word {s : ByteArray} (hd' : wd (hd (words s).tail.tail) = none) : readP s = none := by
  rcases hw : words s with _ | ⟨x, _ | ⟨y, _ | ⟨z, l⟩⟩⟩
  · exact read_few (by rw [hw]; simp)
  · exact read_few (by rw [hw]; simp)
  · exact read_few (by rw [hw]; simp)
  · rw [hw] at hd'
    exact read_noword (by rw [hw]; exact hd')
theorem read_short {s : ByteArray} (h : some' (words s).tail.tail = false) : readP s = none := by
  rcases hw : words s with _ | ⟨x, _ | ⟨y, _ | ⟨z, l⟩⟩⟩
  · exact read_few (by rw [hw]; simp)
  · exact read_few (by rw [hw]; simp)
  · exact read_few (by rw [hw]; simp)
  · rw [hw] at h; cases h

end Mk
