import Derived.Test.YtljeahgpkeohlaaGreatDoorJ23
import Derived.Shelf.LaysM
import Derived.Shelf.Strconv.Itoa3
import Derived.Test.YtljeahgpkeohlaaGreatDoorProg
/- Plain mathematics of the program's way of reading a command: word by word. -/
namespace Mk

theorem bt_extract {s : ByteArray} {a k : Nat} (h : a + k < s.size) : bt (s.extract a s.size) k = bt s (a + k) := by
  have h1 : k < (s.extract a s.size).size := by rw [ByteArray.size_extract]; omega
  rw [← bt_at h1, ← bt_at h, ByteArray.getElem_extract]
theorem extract_two (s : ByteArray) (a b c : Nat) (h : a + c ≤ s.size) : (s.extract a s.size).extract b c = s.extract (a + b) (a + c) := by
  rw [ByteArray.extract_extract, Nat.min_eq_left h]
theorem cutTo_none {s : ByteArray} : ∀ k, (∀ j, j < k → bt s j ≠ 32) → cutTo s k = ([], 0)
  | 0, _ => rfl
  | k + 1, h => by rw [cutTo_no (h k (by omega))]; exact cutTo_none k (fun j hj => h j (by omega))
theorem cutTo_behind {s : ByteArray} {i : Nat} (hb : bt s i = 32) (hn : ∀ j, j < i → bt s j ≠ 32) : ∀ k, i + 1 + k ≤ s.size →
    cutTo s (i + 1 + k) = (s.extract 0 i :: (cutTo (s.extract (i + 1) s.size) k).1, i + 1 + (cutTo (s.extract (i + 1) s.size) k).2)
  | 0, _ => by
    show cutTo s (i + 1) = _
    rw [cutTo_yes hb, cutTo_none i hn]
    rfl
  | k + 1, h => by
    have ih := cutTo_behind hb hn k (by omega)
    have e : bt (s.extract (i + 1) s.size) k = bt s (i + 1 + k) := bt_extract (by omega)
    have hle := (cutTo_le (s.extract (i + 1) s.size) k).1
    by_cases h32 : bt s (i + 1 + k) = 32
    · rw [show i + 1 + (k + 1) = (i + 1 + k) + 1 by omega, cutTo_yes h32, ih, cutTo_yes (s := s.extract (i + 1) s.size) (e.trans h32), extract_two s (i + 1) _ k (by omega)]
      simp
      omega
    · rw [show i + 1 + (k + 1) = (i + 1 + k) + 1 by omega, cutTo_no h32, ih, cutTo_no (s := s.extract (i + 1) s.size) (by rw [e]; exact h32)]
/-- the words of a text whose first blank is at i -/
theorem words_at {s : ByteArray} {i : Nat} (hi : i < s.size) (hb : bt s i = 32) (hn : ∀ j, j < i → bt s j ≠ 32) : words s = s.extract 0 i :: words (s.extract (i + 1) s.size) := by
  have hz : (s.extract (i + 1) s.size).size = s.size - (i + 1) := by rw [ByteArray.size_extract]; omega
  have h := cutTo_behind hb hn (s.size - (i + 1)) (by omega)
  rw [show i + 1 + (s.size - (i + 1)) = s.size by omega] at h
  have hle := (cutTo_le (s.extract (i + 1) s.size) (s.size - (i + 1))).1
  unfold words
  rw [hz, h, extract_two s (i + 1) _ _ (by omega), show i + 1 + (s.size - (i + 1)) = s.size by omega]
  simp
/-- .. that has none -/
theorem words_one {s : ByteArray} (hn : ∀ j, j < s.size → bt s j ≠ 32) : words s = [s] := by
  unfold words
  rw [cutTo_none s.size hn]
  simp

theorem numTo_mono (s : ByteArray) (j : Nat) : ∀ k, j ≤ k → numTo s j ≤ numTo s k
  | 0, h => by have : j = 0 := by omega
               subst this; exact Nat.le_refl _
  | k + 1, h => by
    by_cases e : j = k + 1
    · subst e; exact Nat.le_refl _
    · have := numTo_mono s j k (by omega)
      simp only [numTo]
      omega
theorem numTo_ge {s : ByteArray} (h0 : 49 ≤ bt s 0) : ∀ k, 10 ^ k ≤ numTo s (k + 1)
  | 0 => by simp [numTo]; omega
  | k + 1 => by
    have ih := numTo_ge h0 k
    show 10 ^ (k + 1) ≤ numTo s (k + 1) * 10 + (bt s (k + 1) - 48)
    rw [Nat.pow_succ]
    omega
/-- digits that tell no more than 9999, and no nought ahead: a number -/
theorem numOk_of {s : ByteArray} (h1 : 1 ≤ s.size) (h3 : ¬ (bt s 0 = 48 ∧ 1 < s.size)) (h4 : digs s s.size = true) (h9 : numTo s s.size ≤ 9999) : numOk s = true := by
  refine numOk_yes h1 ?_ h3 h4
  refine Nat.le_of_not_lt (fun h5 => ?_)
  have hd : ∀ k, 1 ≤ k → digs s k = true → isD s 0 = true := by
    intro k
    induction k with
    | zero => intro h _; omega
    | succ k ih =>
      intro _ h
      simp only [digs, Bool.and_eq_true] at h
      by_cases e : k = 0
      · subst e; exact h.2
      · exact ih (by omega) h.1
  have h0 := hd s.size h1 h4
  simp only [isD, Bool.and_eq_true, decide_eq_true_eq] at h0
  have h49 : 49 ≤ bt s 0 := by
    have : bt s 0 ≠ 48 := fun e => h3 ⟨e, by omega⟩
    omega
  have hge : 10 ^ 4 ≤ numTo s 5 := numTo_ge h49 4
  have := numTo_mono s 5 s.size (by omega)
  omega

/-- what the program's readNumber answers -/
def rdOk (s : ByteArray) (hi : Nat) : Bool := numOk s && decide (numTo s s.size ≤ hi)
def rdV (s : ByteArray) (hi : Nat) : Nat := if rdOk s hi then numTo s s.size else 0
theorem rd_numB (s : ByteArray) (lo hi : Nat) : numB s lo hi = (rdOk s hi && decide (lo ≤ rdV s hi)) ∧ (numB s lo hi = true → rdV s hi = numV s) := by
  unfold numB rdV rdOk numV
  by_cases h : numOk s = true
  · simp only [h, Bool.true_and, if_true]
    by_cases h2 : numTo s s.size ≤ hi
    · simp [h2]
    · simp [h2]
  · have h' : numOk s = false := by simpa using h
    simp [h']
theorem rd_long {s : ByteArray} {hi k : Nat} (hk : k ≤ s.size) (h : hi < numTo s k) : rdOk s hi = false := by
  have := numTo_mono s k s.size hk
  unfold rdOk
  have : decide (numTo s s.size ≤ hi) = false := by rw [decide_eq_false_iff_not]; omega
  rw [this, Bool.and_false]
theorem rd_no {s : ByteArray} {hi : Nat} (h : numOk s = false) : rdOk s hi = false := by unfold rdOk; rw [h, Bool.false_and]

/-- the first of some words -/
def hd (l : List ByteArray) : ByteArray := l.headD ⟨#[]⟩
/-- a number, read off the first word: is it one; which -/
def ng (l : List ByteArray) (lo hi : Nat) : Bool := numB (hd l) lo hi
def nv (l : List ByteArray) (lo hi : Nat) : Nat := if ng l lo hi then numV (hd l) else 0
/-- a mode's letter -/
def mg (l : List ByteArray) : Bool := isU (hd l) || isM (hd l)
def mv (l : List ByteArray) : Bool := isM (hd l)
def some' (l : List ByteArray) : Bool := !l.isEmpty
theorem ng_nil (lo hi : Nat) : ng [] lo hi = false := by
  unfold ng numB
  rw [numOk_no (.inl rfl)]
  rfl
theorem mg_nil : mg [] = false := by
  unfold mg isU isM hd
  simp [bu, bm]

/-- what belongs to a word: the good of it, and what is left behind it -/
def rG (d : Wd) (l : List ByteArray) : Bool :=
  match d with
  | .pay => ng l 1 9999
  | .draw => ng l 1 9999
  | .bring => ng l 0 1 && ng l.tail 1 999
  | .fetch => ng l 0 1 && ng l.tail 1 999
  | .buy => ng l 0 1 && ng l.tail 1 99 && ng l.tail.tail 1 20
  | .sell => ng l 0 1 && ng l.tail 1 99 && ng l.tail.tail 1 20
  | .drop => ng l 0 1 && ng l.tail 0 11
  | .mode => ng l 0 1 && mg l.tail
  | .close => ng l 0 1
def rL (d : Wd) (l : List ByteArray) : List ByteArray :=
  match d with
  | .pay => l.tail
  | .draw => l.tail
  | .bring => l.tail.tail
  | .fetch => l.tail.tail
  | .buy => l.tail.tail.tail
  | .sell => l.tail.tail.tail
  | .drop => l.tail.tail
  | .mode => l.tail.tail
  | .close => l.tail
/-- the numbers of a request: voyage, amount, price, quantity, order; its mode -/
def rV (d : Wd) (l : List ByteArray) : Nat :=
  match d with
  | .pay => 0
  | .draw => 0
  | _ => nv l 0 1
def rA (d : Wd) (l : List ByteArray) : Nat :=
  match d with
  | .pay => nv l 1 9999
  | .draw => nv l 1 9999
  | .bring => nv l.tail 1 999
  | .fetch => nv l.tail 1 999
  | _ => 0
def rP (d : Wd) (l : List ByteArray) : Nat :=
  match d with
  | .buy => nv l.tail 1 99
  | .sell => nv l.tail 1 99
  | _ => 0
def rQ (d : Wd) (l : List ByteArray) : Nat :=
  match d with
  | .buy => nv l.tail.tail 1 20
  | .sell => nv l.tail.tail 1 20
  | _ => 0
def rO (d : Wd) (l : List ByteArray) : Nat :=
  match d with
  | .drop => nv l.tail 0 11
  | _ => 0
def rM (d : Wd) (l : List ByteArray) : Bool :=
  match d with
  | .mode => mv l.tail
  | _ => false

/-- the same of a command that was read -/
def Cmd.voy (c : Cmd) : Nat :=
  match c.d with
  | .pay => 0
  | .draw => 0
  | _ => nth c.n 0
def Cmd.amt (c : Cmd) : Nat :=
  match c.d with
  | .pay => nth c.n 0
  | .draw => nth c.n 0
  | .bring => nth c.n 1
  | .fetch => nth c.n 1
  | _ => 0
def Cmd.pri (c : Cmd) : Nat :=
  match c.d with
  | .buy => nth c.n 1
  | .sell => nth c.n 1
  | _ => 0
def Cmd.qty (c : Cmd) : Nat :=
  match c.d with
  | .buy => nth c.n 2
  | .sell => nth c.n 2
  | _ => 0
def Cmd.ord (c : Cmd) : Nat :=
  match c.d with
  | .drop => nth c.n 1
  | _ => 0

/-- is the whole a command? -/
def okY (d : Wd) (l : List ByteArray) : Bool := ng l 0 3 && ng l.tail 1 99 && some' l.tail.tail && rG d l.tail.tail.tail && (rL d l.tail.tail.tail).isEmpty

theorem hd_cons (x : ByteArray) (l : List ByteArray) : hd (x :: l) = x := rfl
theorem ng_cons (x : ByteArray) (l : List ByteArray) (lo hi : Nat) : ng (x :: l) lo hi = numB x lo hi := rfl
theorem mg_cons (x : ByteArray) (l : List ByteArray) : mg (x :: l) = (isU x || isM x) := rfl
theorem wrd0 (x : ByteArray) (l : List ByteArray) : wrd (x :: l) 0 = x := rfl
theorem wrd1 (x y : ByteArray) (l : List ByteArray) : wrd (x :: y :: l) 1 = y := rfl
theorem wrd2 (x y z : ByteArray) (l : List ByteArray) : wrd (x :: y :: z :: l) 2 = z := rfl

/-- the document's and the program's view of what stands behind a word -/
theorem rest_same (d : Wd) (l : List ByteArray) : (modeOk d l && fits (args d l) d) = (rG d l && (rL d l).isEmpty) := by
  have hn := fun lo hi => ng_nil lo hi
  have hm := mg_nil
  cases d
  all_goals
    rcases l with _ | ⟨a, _ | ⟨b, _ | ⟨c, _ | ⟨e, l⟩⟩⟩⟩
    all_goals first
      | (simp [modeOk, fits, args, fitTo, Wd.isMode, Wd.lo, Wd.hi, rG, rL, hn, hm, ng_cons, mg_cons, wrd0, wrd1, wrd2, nth]; done)
      | (simp [modeOk, fits, args, fitTo, Wd.isMode, Wd.lo, Wd.hi, rG, rL, ng_cons, mg_cons, wrd0, wrd1, nth]; rw [Bool.and_comm])
theorem rest_c (a b : ByteArray) : modeIs .mode [a, b] = isM b := rfl

/-- a text whose third word is a word of the document's -/
theorem read_as {s : ByteArray} {d : Wd} (h20 : s.size ≤ 20) (hd' : wd (hd (words s).tail.tail) = some d) (h3 : some' (words s).tail.tail = true) :
    (okY d (words s) = false → readP s = none) ∧ (okY d (words s) = true → ∃ c, readP s = some c ∧ c.d = d ∧ c.who = nv (words s) 0 3 ∧ c.r = nv (words s).tail 1 99 ∧
      c.voy = rV d (words s).tail.tail.tail ∧ c.amt = rA d (words s).tail.tail.tail ∧ c.pri = rP d (words s).tail.tail.tail ∧ c.qty = rQ d (words s).tail.tail.tail ∧ c.ord = rO d (words s).tail.tail.tail ∧ c.mc = rM d (words s).tail.tail.tail) := by
  have h0 : ¬ 20 < s.size := by omega
  rcases hw : words s with _ | ⟨x, _ | ⟨y, _ | ⟨z, l⟩⟩⟩
  · rw [hw] at h3; cases h3
  · rw [hw] at h3; cases h3
  · rw [hw] at h3; cases h3
  · rw [hw] at hd'
    have hd2 : wd (wrd (words s) 2) = some d := by rw [hw]; exact hd'
    have h1 : ¬ (words s).length < 3 := by rw [hw]; simp
    have he : (numB (wrd (words s) 0) 0 3 && numB (wrd (words s) 1) 1 99 && modeOk d ((words s).drop 3) && fits (args d ((words s).drop 3)) d) = okY d (words s) := by
      rw [hw]
      show (numB x 0 3 && numB y 1 99 && modeOk d l && fits (args d l) d) = (numB x 0 3 && numB y 1 99 && true && rG d l && (rL d l).isEmpty)
      rw [Bool.and_assoc, rest_same, Bool.and_true, Bool.and_assoc, Bool.and_assoc, Bool.and_assoc]
    rw [hw] at he
    refine ⟨fun hf => read_no hd2 (by rw [hw, he]; exact hf), fun ht => ?_⟩
    have hr := read_yes h0 h1 hd2 (by rw [hw, he]; exact ht)
    rw [hw] at hr
    refine ⟨_, hr, rfl, ?_⟩
    have ht' : (numB x 0 3 && numB y 1 99 && true && rG d l && (rL d l).isEmpty) = true := ht
    simp only [Bool.and_eq_true] at ht'
    obtain ⟨⟨⟨⟨q0, q1⟩, _⟩, qg⟩, ql⟩ := ht'
    have e0 : nv (x :: y :: z :: l) 0 3 = numV x := if_pos q0
    have e1 : nv (y :: z :: l) 1 99 = numV y := if_pos q1
    refine ⟨e0.symm, e1.symm, ?_⟩
    show _ ∧ _ ∧ _ ∧ _ ∧ _ ∧ _
    clear hr he hd2 h1 hw ht e0 e1
    cases d
    all_goals
      rcases l with _ | ⟨a, _ | ⟨b, _ | ⟨c, _ | ⟨e, l⟩⟩⟩⟩
      all_goals simp [rG, rL, ng_nil, mg_nil, ng_cons, mg_cons] at qg ql
      all_goals simp [Cmd.voy, Cmd.amt, Cmd.pri, Cmd.qty, Cmd.ord, rV, rA, rP, rQ, rO, rM, nv, ng, hd_cons, mv, modeIs, Wd.isMode, args, nth, wrd, qg]
/-- .. is none -/
theorem read_word {s : ByteArray} (hd' : wd (hd (words s).tail.tail) = none) : readP s = none := by
  rcases hw : words s with _ | ⟨x, _ | ⟨y, _ | ⟨z, l⟩⟩⟩
  · exact read_few (by rw [hw]; simp)
  · exact read_few (by rw [hw]; simp)
  · exact read_few (by rw [hw]; simp)
  · rw [hw] at hd'
    exact read_noword (by rw [hw]; exact hd')
theorem read_short {s : ByteArray} (h : some' (words s).tail.tail = false) : readP s = none := by
  rcases hw : words s with _ | ⟨x, _ | ⟨y, _ | ⟨z, l⟩⟩⟩
  · exact read_few (by rw [hw]; simp)
  · exact read_few (by rw [hw]; simp)
  · exact read_few (by rw [hw]; simp)
  · rw [hw] at h; cases h

end Mk

/- strconv.Itoa at this dump: laid by program. -/
namespace Go.Proofs
open Go.Shelf
def Tryz.laysM171_ren : Go.Shelf.Ren := ⟨fun | 171 => 48 | 243 => 87 | 246 => 118 | 283 => 122 | 284 => 123 | 285 => 124 | 286 => 125 | 129 => 127 | 317 => 126 | 318 => 128 | 319 => 129 | 320 => 130 | 337 => 131 | 338 => 132 | n => n, fun | 3 => 3 | 9 => 9 | 2 => 2 | 4 => 4 | 171 => 182 | 0 => 0 | 53 => 183 | 37 => 107 | 5 => 5 | 173 => 186 | 212 => 189 | 51 => 190 | 20 => 20 | 213 => 191 | 46 => 192 | 232 => 195 | 233 => 196 | n => n, fun | 17 => 0 | 18 => 1 | 19 => 2 | n => n⟩
theorem Tryz.laysM171 : Go.Proofs.LaysM.n171 Tryz.prog Tryz.laysM171_ren := {
  mixed := by kernel_rfl
  f129 := Tryz.func127.trans (congrArg some (by kernel_rfl))
  f171 := Tryz.func48.trans (congrArg some (by kernel_rfl))
  f243 := Tryz.func87.trans (congrArg some (by kernel_rfl))
  f246 := Tryz.func118.trans (congrArg some (by kernel_rfl))
  f283 := Tryz.func122.trans (congrArg some (by kernel_rfl))
  f284 := Tryz.func123.trans (congrArg some (by kernel_rfl))
  f285 := Tryz.func124.trans (congrArg some (by kernel_rfl))
  f286 := Tryz.func125.trans (congrArg some (by kernel_rfl))
  f317 := Tryz.func126.trans (congrArg some (by kernel_rfl))
  f318 := Tryz.func128.trans (congrArg some (by kernel_rfl))
  f319 := Tryz.func129.trans (congrArg some (by kernel_rfl))
  f320 := Tryz.func130.trans (congrArg some (by kernel_rfl))
  f337 := Tryz.func131.trans (congrArg some (by kernel_rfl))
  f338 := Tryz.func132.trans (congrArg some (by kernel_rfl))
  t0 := Tryz.underlying0
  a0 := Tryz.isAgg0
  z0 := Tryz.sizeOf0
  v0 := Tryz.zeroValue0
  t2 := Tryz.underlying2
  a2 := Tryz.isAgg2
  z2 := Tryz.sizeOf2
  v2 := Tryz.zeroValue2
  t3 := Tryz.underlying3
  a3 := Tryz.isAgg3
  z3 := Tryz.sizeOf3
  v3 := Tryz.zeroValue3
  t4 := Tryz.underlying4
  a4 := Tryz.isAgg4
  z4 := Tryz.sizeOf4
  v4 := Tryz.zeroValue4
  t5 := Tryz.underlying5
  a5 := Tryz.isAgg5
  z5 := Tryz.sizeOf5
  v5 := Tryz.zeroValue5
  t9 := Tryz.underlying9
  a9 := Tryz.isAgg9
  z9 := Tryz.sizeOf9
  v9 := Tryz.zeroValue9
  t20 := Tryz.underlying20
  a20 := Tryz.isAgg20
  z20 := Tryz.sizeOf20
  v20 := Tryz.zeroValue20
  t37 := Tryz.underlying107
  a37 := Tryz.isAgg107
  z37 := Tryz.sizeOf107
  v37 := Tryz.zeroValue107
  t46 := Tryz.underlying192
  a46 := Tryz.isAgg192
  z46 := Tryz.sizeOf192
  v46 := Tryz.zeroValue192
  t51 := Tryz.underlying190
  a51 := Tryz.isAgg190
  z51 := Tryz.sizeOf190
  v51 := Tryz.zeroValue190
  t53 := Tryz.underlying183
  a53 := Tryz.isAgg183
  z53 := Tryz.sizeOf183
  v53 := Tryz.zeroValue183
  t171 := Tryz.underlying182
  a171 := Tryz.isAgg182
  z171 := Tryz.sizeOf182
  v171 := Tryz.zeroValue182
  t173 := Tryz.underlying186
  a173 := Tryz.isAgg186
  z173 := Tryz.sizeOf186
  v173 := Tryz.zeroValue186
  t212 := Tryz.underlying189
  a212 := Tryz.isAgg189
  z212 := Tryz.sizeOf189
  v212 := Tryz.zeroValue189
  t213 := Tryz.underlying191
  a213 := Tryz.isAgg191
  z213 := Tryz.sizeOf191
  t232 := Tryz.underlying195
  a232 := Tryz.isAgg195
  z232 := Tryz.sizeOf195
  v232 := Tryz.zeroValue195
  t233 := Tryz.underlying196
  a233 := Tryz.isAgg196
  z233 := Tryz.sizeOf196
  v233 := Tryz.zeroValue196
  g17 := by kernel_rfl
  g18 := by kernel_rfl
  g19 := by kernel_rfl
  i0 := by kernel_rfl
  i2 := by kernel_rfl
  i3 := by kernel_rfl
  i4 := by kernel_rfl
  i5 := by kernel_rfl
  i9 := by kernel_rfl
  i20 := by kernel_rfl
  i37 := by kernel_rfl
  i46 := by kernel_rfl
  i51 := by kernel_rfl
  i53 := by kernel_rfl
  i171 := by kernel_rfl
  i173 := by kernel_rfl
  i212 := by kernel_rfl
  i232 := by kernel_rfl
  i233 := by kernel_rfl
  m17 := by kernel_rfl
  m18 := by kernel_rfl
  m19 := by kernel_rfl }
open Go.RowKit Go.Sort Go.Lib in
theorem Tryz.strconv_Itoa (n : Int) (h0 : -9223372036854775808 ≤ n) (h1 : n ≤ 9223372036854775807) (w : World) (htab : Lib.TabIs Tryz.prog w "internal/strconv.uint64pow10" .u64 Lib.pow10Tab) :
    Calls Tryz.prog 48 #[.int .i64 n] w fun e w' => e = .returned (.string ⟨(Lib.itoa n).toArray⟩) ∧ ∃ k os, w' = grow (w.drewN k) os := Any.strconv_Itoa Tryz.laysM171 n h0 h1 w htab
end Go.Proofs
