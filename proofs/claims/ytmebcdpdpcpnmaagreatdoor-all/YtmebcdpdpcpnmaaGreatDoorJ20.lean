import Derived.Test.YtmebcdpdpcpnmaaGreatDoorJ19
import Derived.Shelf.LaysM
import Derived.Shelf.Strconv.Itoa3
import Derived.Test.YtmebcdpdpcpnmaaGreatDoorProg
import Derived.Test.YtmebcdpdpcpnmaaGreatDoorJ10
/- Plain mathematics of the program's way of reading a command: word by word. -/
namespace Mk

theorem bt_extract {s : ByteArray} {a k : Nat} (h : a + k < s.size) : bt (s.extract a s.size) k = bt s (a + k) := by
  have h1 : k < (s.extract a s.size).size := by rw [ByteArray.size_extract]; omega
  rw [← bt_at h1, ← bt_at h, ByteArray.getElem_extract]
theorem extract_two (s : ByteArray) (a b c : Nat) (h : a + c ≤ s.size) : (s.extract a s.size).extract b c = s.extract (a + b) (a + c) := by
  rw [ByteArray.extract_extract, Nat.min_eq_left h]
theorem cutTo_none {s : ByteArray} : ∀ k, (∀ j, j < k → bt s j ≠ 32) → cutTo s k = ([], 0)
  | 0, _ => rfl
  | k + 1, h => by rw [cutTo_no (h k (by omega))]; exact cutTo_none k (fun j hj => h j (by omega))
theorem cutTo_behind {s : ByteArray} {i : Nat} (hb : bt s i = 32) (hn : ∀ j, j < i → bt s j ≠ 32) : ∀ k, i + 1 + k ≤ s.size →
    cutTo s (i + 1 + k) = (s.extract 0 i :: (cutTo (s.extract (i + 1) s.size) k).1, i + 1 + (cutTo (s.extract (i + 1) s.size) k).2)
  | 0, _ => by
    show cutTo s (i + 1) = _
    rw [cutTo_yes hb, cutTo_none i hn]
    rfl
  | k + 1, h => by
    have ih := cutTo_behind hb hn k (by omega)
    have e : bt (s.extract (i + 1) s.size) k = bt s (i + 1 + k) := bt_extract (by omega)
    have hle := (cutTo_le (s.extract (i + 1) s.size) k).1
    by_cases h32 : bt s (i + 1 + k) = 32
    · rw [show i + 1 + (k + 1) = (i + 1 + k) + 1 by omega, cutTo_yes h32, ih, cutTo_yes (s := s.extract (i + 1) s.size) (e.trans h32), extract_two s (i + 1) _ k (by omega)]
      simp
      omega
    · rw [show i + 1 + (k + 1) = (i + 1 + k) + 1 by omega, cutTo_no h32, ih, cutTo_no (s := s.extract (i + 1) s.size) (by rw [e]; exact h32)]
/-- the words of a text whose first blank is at i -/
theorem words_at {s : ByteArray} {i : Nat} (hi : i < s.size) (hb : bt s i = 32) (hn : ∀ j, j < i → bt s j ≠ 32) : words s = s.extract 0 i :: words (s.extract (i + 1) s.size) := by
  have hz : (s.extract (i + 1) s.size).size = s.size - (i + 1) := by rw [ByteArray.size_extract]; omega
  have h := cutTo_behind hb hn (s.size - (i + 1)) (by omega)
  rw [show i + 1 + (s.size - (i + 1)) = s.size by omega] at h
  have hle := (cutTo_le (s.extract (i + 1) s.size) (s.size - (i + 1))).1
  unfold words
  rw [hz, h, extract_two s (i + 1) _ _ (by omega), show i + 1 + (s.size - (i + 1)) = s.size by omega]
  simp
/-- .. that has none -/
theorem words_one {s : ByteArray} (hn : ∀ j, j < s.size → bt s j ≠ 32) : words s = [s] := by
  unfold words
  rw [cutTo_none s.size hn]
  simp

theorem numTo_mono (s : ByteArray) (j : Nat) : ∀ k, j ≤ k → numTo s j ≤ numTo s k
  | 0, h => by have : j = 0 := by omega
               subst this; exact Nat.le_refl _
  | k + 1, h => by
    by_cases e : j = k + 1
    · subst e; exact Nat.le_refl _
    · have := numTo_mono s j k (by omega)
      simp only [numTo]
      omega
theorem numTo_ge {s : ByteArray} (h0 : 49 ≤ bt s 0) : ∀ k, 10 ^ k ≤ numTo s (k + 1)
  | 0 => by simp [numTo]; omega
  | k + 1 => by
    have ih := numTo_ge h0 k
    show 10 ^ (k + 1) ≤ numTo s (k + 1) * 10 + (bt s (k + 1) - 48)
    rw [Nat.pow_succ]
    omega
/-- digits that tell no more than 9999, and no nought ahead: a number -/
theorem numOk_of {s : ByteArray} (h1 : 1 ≤ s.size) (h3 : ¬ (bt s 0 = 48 ∧ 1 < s.size)) (h4 : digs s s.size = true) (h9 : numTo s s.size ≤ 9999) : numOk s = true := by
  refine numOk_yes h1 ?_ h3 h4
  refine Nat.le_of_not_lt (fun h5 => ?_)
  have hd : ∀ k, 1 ≤ k → digs s k = true → isD s 0 = true := by
    intro k
    induction k with
    | zero => intro h _; omega
    | succ k ih =>
      intro _ h
      simp only [digs, Bool.and_eq_true] at h
      by_cases e : k = 0
      · subst e; exact h.2
      · exact ih (by omega) h.1
  have h0 := hd s.size h1 h4
  simp only [isD, Bool.and_eq_true, decide_eq_true_eq] at h0
  have h49 : 49 ≤ bt s 0 := by
    have : bt s 0 ≠ 48 := fun e => h3 ⟨e, by omega⟩
    omega
  have hge : 10 ^ 4 ≤ numTo s 5 := numTo_ge h49 4
  have := numTo_mono s 5 s.size (by omega)
  omega

/-- what the program's readNumber answers -/
def rdOk (s : ByteArray) (hi : Nat) : Bool := numOk s && decide (numTo s s.size ≤ hi)
def rdV (s : ByteArray) (hi : Nat) : Nat := if rdOk s hi then numTo s s.size else 0
theorem rd_numB (s : ByteArray) (lo hi : Nat) : numB s lo hi = (rdOk s hi && decide (lo ≤ rdV s hi)) ∧ (numB s lo hi = true → rdV s hi = numV s) := by
  unfold numB rdV rdOk numV
  by_cases h : numOk s = true
  · simp only [h, Bool.true_and, if_true]
    by_cases h2 : numTo s s.size ≤ hi
    · simp [h2]
    · simp [h2]
  · have h' : numOk s = false := by simpa using h
    simp [h']
theorem rd_long {s : ByteArray} {hi k : Nat} (hk : k ≤ s.size) (h : hi < numTo s k) : rdOk s hi = false := by
  have := numTo_mono s k s.size hk
  unfold rdOk
  have : decide (numTo s s.size ≤ hi) = false := by rw [decide_eq_false_iff_not]; omega
  rw [this, Bool.and_false]
theorem rd_no {s : ByteArray} {hi : Nat} (h : numOk s = false) : rdOk s hi = false := by unfold rdOk; rw [h, Bool.false_and]

/-- the first of some words -/
def hd (l : List ByteArray) : ByteArray := l.headD ⟨#[]⟩
/-- a number, read off the first word: is it one; which -/
def ng (l : List ByteArray) (lo hi : Nat) : Bool := numB (hd l) lo hi
def nv (l : List ByteArray) (lo hi : Nat) : Nat := if ng l lo hi then numV (hd l) else 0
/-- a mode's letter -/
def mg (l : List ByteArray) : Bool := isU (hd l) || isM (hd l)
def mv (l : List ByteArray) : Bool := isM (hd l)
def some' (l : List ByteArray) : Bool := !l.isEmpty
theorem ng_nil (lo hi : Nat) : ng [] lo hi = false := by
  unfold ng numB
  rw [numOk_no (.inl rfl)]
  rfl
theorem mg_nil : mg [] = false := by
  unfold mg isU isM hd
  simp [bu, bm]

/-- what belongs to a word: the good of it, and what is left behind it -/
def rG (d : Wd) (l : List ByteArray) : Bool :=
  match d with
  | .pay => ng l 1 9999
  | .draw => ng l 1 9999
  | .bring => ng l 0 1 && ng l.tail 1 999
  | .fetch => ng l 0 1 && ng l.tail 1 999
  | .buy => ng l 0 1 && ng l.tail 1 99 && ng l.tail.tail 1 20
  | .sell => ng l 0 1 && ng l.tail 1 99 && ng l.tail.tail 1 20
  | .drop => ng l 0 1 && ng l.tail 0 11
  | .mode => ng l 0 1 && mg l.tail
  | .close => ng l 0 1
def rL (d : Wd) (l : List ByteArray) : List ByteArray :=
  match d with
  | .pay => l.tail
  | .draw => l.tail
  | .bring => l.tail.tail
  | .fetch => l.tail.tail
  | .buy => l.tail.tail.tail
  | .sell => l.tail.tail.tail
  | .drop => l.tail.tail
  | .mode => l.tail.tail
  | .close => l.tail
/-- the numbers of a request: voyage, amount, price, quantity, order; its mode -/
def rV (d : Wd) (l : List ByteArray) : Nat :=
  match d with
  | .pay => 0
  | .draw => 0
  | _ => nv l 0 1
def rA (d : Wd) (l : List ByteArray) : Nat :=
  match d with
  | .pay => nv l 1 9999
  | .draw => nv l 1 9999
  | .bring => nv l.tail 1 999
  | .fetch => nv l.tail 1 999
  | _ => 0
def rP (d : Wd) (l : List ByteArray) : Nat :=
  match d with
  | .buy => nv l.tail 1 99
  | .sell => nv l.tail 1 99
  | _ => 0
def rQ (d : Wd) (l : List ByteArray) : Nat :=
  match d with
  | .buy => nv l.tail.tail 1 20
  | .sell => nv l.tail.tail 1 20
  | _ => 0
def rO (d : Wd) (l : List ByteArray) : Nat :=
  match d with
  | .drop => nv l.tail 0 11
  | _ => 0
def rM (d : Wd) (l : List ByteArray) : Bool :=
  match d with
  | .mode => mv l.tail
  | _ => false

/-- the same of a command that was read -/
def Cmd.voy (c : Cmd) : Nat :=
  match c.d with
  | .pay => 0
  | .draw => 0
  | _ => nth c.n 0
def Cmd.amt (c : Cmd) : Nat :=
  match c.d with
  | .pay => nth c.n 0
  | .draw => nth c.n 0
  | .bring => nth c.n 1
  | .fetch => nth c.n 1
  | _ => 0
def Cmd.pri (c : Cmd) : Nat :=
  match c.d with
  | .buy => nth c.n 1
  | .sell => nth c.n 1
  | _ => 0
def Cmd.qty (c : Cmd) : Nat :=
  match c.d with
  | .buy => nth c.n 2
  | .sell => nth c.n 2
  | _ => 0
def Cmd.ord (c : Cmd) : Nat :=
  match c.d with
  | .drop => nth c.n 1
  | _ => 0

/-- is the whole a command? -/
def okY (d : Wd) (l : List ByteArray) : Bool := ng l 0 3 && ng l.tail 1 99 && some' l.tail.tail && rG d l.tail.tail.tail && (rL d l.tail.tail.tail).isEmpty

theorem hd_cons (x : ByteArray) (l : List ByteArray) : hd (x :: l) = x := rfl
theorem ng_cons (x : ByteArray) (l : List ByteArray) (lo hi : Nat) : ng (x :: l) lo hi = numB x lo hi := rfl
theorem mg_cons (x : ByteArray) (l : List ByteArray) : mg (x :: l) = (isU x || isM x) := rfl
theorem wrd0 (x : ByteArray) (l : List ByteArray) : wrd (x :: l) 0 = x := rfl
theorem wrd1 (x y : ByteArray) (l : List ByteArray) : wrd (x :: y :: l) 1 = y := rfl
theorem wrd2 (x y z : ByteArray) (l : List ByteArray) : wrd (x :: y :: z :: l) 2 = z := rfl

/-- the document's and the program's view of what stands behind a word -/
theorem rest_same (d : Wd) (l : List ByteArray) : (modeOk d l && fits (args d l) d) = (rG d l && (rL d l).isEmpty) := by
  have hn := fun lo hi => ng_nil lo hi
  have hm := mg_nil
  cases d
  all_goals
    rcases l with _ | ⟨a, _ | ⟨b, _ | ⟨c, _ | ⟨e, l⟩⟩⟩⟩
    all_goals first
      | (simp [modeOk, fits, args, fitTo, Wd.isMode, Wd.lo, Wd.hi, rG, rL, hn, hm, ng_cons, mg_cons, wrd0, wrd1, wrd2, nth]; done)
      | (simp [modeOk, fits, args, fitTo, Wd.isMode, Wd.lo, Wd.hi, rG, rL, ng_cons, mg_cons, wrd0, wrd1, nth]; rw [Bool.and_comm])
theorem rest_c (a b : ByteArray) : modeIs .mode [a, b] = isM b := rfl

/-- a text whose third word is a word of the document's -/
theorem read_as {s : ByteArray} {d : Wd} (h20 : s.size ≤ 20) (hd' : wd (hd (words s).tail.tail) = some d) (h3 : some' (words s).tail.tail = true) :
    (okY d (words s) = false → readP s = none) ∧ (okY d (words s) = true → ∃ c, readP s = some c ∧ c.d = d ∧ c.who = nv (words s) 0 3 ∧ c.r = nv (words s).tail 1 99 ∧
      c.voy = rV d (words s).tail.tail.tail ∧ c.amt = rA d (words s).tail.tail.tail ∧ c.pri = rP d (words s).tail.tail.tail ∧ c.qty = rQ d (words s).tail.tail.tail ∧ c.ord = rO d (words s).tail.tail.tail ∧ c.mc = rM d (words s).tail.tail.tail) := by
  have h0 : ¬ 20 < s.size := by omega
  rcases hw : words s with _ | ⟨x, _ | ⟨y, _ | ⟨z, l⟩⟩⟩
  · rw [hw] at h3; cases h3
  · rw [hw] at h3; cases h3
  · rw [hw] at h3; cases h3
  · rw [hw] at hd'
    have hd2 : wd (wrd (words s) 2) = some d := by rw [hw]; exact hd'
    have h1 : ¬ (words s).length < 3 := by rw [hw]; simp
    have he : (numB (wrd (words s) 0) 0 3 && numB (wrd (words s) 1) 1 99 && modeOk d ((words s).drop 3) && fits (args d ((words s).drop 3)) d) = okY d (words s) := by
      rw [hw]
      show (numB x 0 3 && numB y 1 99 && modeOk d l && fits (args d l) d) = (numB x 0 3 && numB y 1 99 && true && rG d l && (rL d l).isEmpty)
      rw [Bool.and_assoc, rest_same, Bool.and_true, Bool.and_assoc, Bool.and_assoc, Bool.and_assoc]
    rw [hw] at he
    refine ⟨fun hf => read_no hd2 (by rw [hw, he]; exact hf), fun ht => ?_⟩
    have hr := read_yes h0 h1 hd2 (by rw [hw, he]; exact ht)
    rw [hw] at hr
    refine ⟨_, hr, rfl, ?_⟩
    have ht' : (numB x 0 3 && numB y 1 99 && true && rG d l && (rL d l).isEmpty) = true := ht
    simp only [Bool.and_eq_true] at ht'
    obtain ⟨⟨⟨⟨q0, q1⟩, _⟩, qg⟩, ql⟩ := ht'
    have e0 : nv (x :: y :: z :: l) 0 3 = numV x := if_pos q0
    have e1 : nv (y :: z :: l) 1 99 = numV y := if_pos q1
    refine ⟨e0.symm, e1.symm, ?_⟩
    show _ ∧ _ ∧ _ ∧ _ ∧ _ ∧ _
    clear hr he hd2 h1 hw ht e0 e1
    cases d
    all_goals
      rcases l with _ | ⟨a, _ | ⟨b, _ | ⟨c, _ | ⟨e, l⟩⟩⟩⟩
      all_goals simp [rG, rL, ng_nil, mg_nil, ng_cons, mg_cons] at qg ql
      all_goals simp [Cmd.voy, Cmd.amt, Cmd.pri, Cmd.qty, Cmd.ord, rV, rA, rP, rQ, rO, rM, nv, ng, hd_cons, mv, modeIs, Wd.isMode, args, nth, wrd, qg]
/-- .. is none -/
theorem read_word {s : ByteArray} (hd' : wd (hd (words s).tail.tail) = none) : readP s = none := by
  rcases hw : words s with _ | ⟨x, _ | ⟨y, _ | ⟨z, l⟩⟩⟩
  · exact read_few (by rw [hw]; simp)
  · exact read_few (by rw [hw]; simp)
  · exact read_few (by rw [hw]; simp)
  · rw [hw] at hd'
    exact read_noword (by rw [hw]; exact hd')
theorem read_short {s : ByteArray} (h : some' (words s).tail.tail = false) : readP s = none := by
  rcases hw : words s with _ | ⟨x, _ | ⟨y, _ | ⟨z, l⟩⟩⟩
  · exact read_few (by rw [hw]; simp)
  · exact read_few (by rw [hw]; simp)
  · exact read_few (by rw [hw]; simp)
  · rw [hw] at h; cases h

end Mk

/- strconv.Itoa at this dump: laid by program. -/
namespace Go.Proofs
open Go.Shelf
def Tryz.laysM171_ren : Go.Shelf.Ren := ⟨fun | 171 => 52 | 243 => 85 | 246 => 111 | 283 => 127 | 284 => 128 | 285 => 129 | 286 => 130 | 129 => 133 | 317 => 132 | 318 => 134 | 319 => 135 | 320 => 136 | 337 => 137 | 338 => 138 | n => n, fun | 3 => 3 | 9 => 9 | 2 => 2 | 4 => 4 | 171 => 184 | 0 => 0 | 53 => 185 | 37 => 114 | 5 => 5 | 173 => 188 | 212 => 192 | 51 => 193 | 20 => 20 | 213 => 194 | 46 => 195 | 232 => 198 | 233 => 199 | n => n, fun | 17 => 0 | 18 => 1 | 19 => 2 | n => n⟩
theorem Tryz.laysM171 : Go.Proofs.LaysM.n171 Tryz.prog Tryz.laysM171_ren := {
  mixed := by kernel_rfl
  f129 := Tryz.func133.trans (congrArg some (by kernel_rfl))
  f171 := Tryz.func52.trans (congrArg some (by kernel_rfl))
  f243 := Tryz.func85.trans (congrArg some (by kernel_rfl))
  f246 := Tryz.func111.trans (congrArg some (by kernel_rfl))
  f283 := Tryz.func127.trans (congrArg some (by kernel_rfl))
  f284 := Tryz.func128.trans (congrArg some (by kernel_rfl))
  f285 := Tryz.func129.trans (congrArg some (by kernel_rfl))
  f286 := Tryz.func130.trans (congrArg some (by kernel_rfl))
  f317 := Tryz.func132.trans (congrArg some (by kernel_rfl))
  f318 := Tryz.func134.trans (congrArg some (by kernel_rfl))
  f319 := Tryz.func135.trans (congrArg some (by kernel_rfl))
  f320 := Tryz.func136.trans (congrArg some (by kernel_rfl))
  f337 := Tryz.func137.trans (congrArg some (by kernel_rfl))
  f338 := Tryz.func138.trans (congrArg some (by kernel_rfl))
  t0 := Tryz.underlying0
  a0 := Tryz.isAgg0
  z0 := Tryz.sizeOf0
  v0 := Tryz.zeroValue0
  t2 := Tryz.underlying2
  a2 := Tryz.isAgg2
  z2 := Tryz.sizeOf2
  v2 := Tryz.zeroValue2
  t3 := Tryz.underlying3
  a3 := Tryz.isAgg3
  z3 := Tryz.sizeOf3
  v3 := Tryz.zeroValue3
  t4 := Tryz.underlying4
  a4 := Tryz.isAgg4
  z4 := Tryz.sizeOf4
  v4 := Tryz.zeroValue4
  t5 := Tryz.underlying5
  a5 := Tryz.isAgg5
  z5 := Tryz.sizeOf5
  v5 := Tryz.zeroValue5
  t9 := Tryz.underlying9
  a9 := Tryz.isAgg9
  z9 := Tryz.sizeOf9
  v9 := Tryz.zeroValue9
  t20 := Tryz.underlying20
  a20 := Tryz.isAgg20
  z20 := Tryz.sizeOf20
  v20 := Tryz.zeroValue20
  t37 := Tryz.underlying114
  a37 := Tryz.isAgg114
  z37 := Tryz.sizeOf114
  v37 := Tryz.zeroValue114
  t46 := Tryz.underlying195
  a46 := Tryz.isAgg195
  z46 := Tryz.sizeOf195
  v46 := Tryz.zeroValue195
  t51 := Tryz.underlying193
  a51 := Tryz.isAgg193
  z51 := Tryz.sizeOf193
  v51 := Tryz.zeroValue193
  t53 := Tryz.underlying185
  a53 := Tryz.isAgg185
  z53 := Tryz.sizeOf185
  v53 := Tryz.zeroValue185
  t171 := Tryz.underlying184
  a171 := Tryz.isAgg184
  z171 := Tryz.sizeOf184
  v171 := Tryz.zeroValue184
  t173 := Tryz.underlying188
  a173 := Tryz.isAgg188
  z173 := Tryz.sizeOf188
  v173 := Tryz.zeroValue188
  t212 := Tryz.underlying192
  a212 := Tryz.isAgg192
  z212 := Tryz.sizeOf192
  v212 := Tryz.zeroValue192
  t213 := Tryz.underlying194
  a213 := Tryz.isAgg194
  z213 := Tryz.sizeOf194
  t232 := Tryz.underlying198
  a232 := Tryz.isAgg198
  z232 := Tryz.sizeOf198
  v232 := Tryz.zeroValue198
  t233 := Tryz.underlying199
  a233 := Tryz.isAgg199
  z233 := Tryz.sizeOf199
  v233 := Tryz.zeroValue199
  g17 := by kernel_rfl
  g18 := by kernel_rfl
  g19 := by kernel_rfl
  i0 := by kernel_rfl
  i2 := by kernel_rfl
  i3 := by kernel_rfl
  i4 := by kernel_rfl
  i5 := by kernel_rfl
  i9 := by kernel_rfl
  i20 := by kernel_rfl
  i37 := by kernel_rfl
  i46 := by kernel_rfl
  i51 := by kernel_rfl
  i53 := by kernel_rfl
  i171 := by kernel_rfl
  i173 := by kernel_rfl
  i212 := by kernel_rfl
  i232 := by kernel_rfl
  i233 := by kernel_rfl
  m17 := by kernel_rfl
  m18 := by kernel_rfl
  m19 := by kernel_rfl }
open Go.RowKit Go.Sort Go.Lib in
theorem Tryz.strconv_Itoa (n : Int) (h0 : -9223372036854775808 ≤ n) (h1 : n ≤ 9223372036854775807) (w : World) (htab : Lib.TabIs Tryz.prog w "internal/strconv.uint64pow10" .u64 Lib.pow10Tab) :
    Calls Tryz.prog 52 #[.int .i64 n] w fun e w' => e = .returned (.string ⟨(Lib.itoa n).toArray⟩) ∧ ∃ k os, w' = grow (w.drewN k) os := Any.strconv_Itoa Tryz.laysM171 n h0 h1 w htab
end Go.Proofs

namespace Go.Proofs.YtmebcdpdpcpnmaaGreatDoor
open Go.RowKit

/-- the library's table of powers of ten is as its text lays it -/
def Tab (w : World) : Prop := Lib.TabIs Tryz.prog w "internal/strconv.uint64pow10" .u64 Lib.pow10Tab
theorem Tab.below {n : Nat} {w w' : World} (h : Tab w) (hn : ∀ g, Tryz.prog.globalNamed "internal/strconv.uint64pow10" = some g → g < n) (hb : Below n w w') : Tab w' := by
  unfold Tab Lib.TabIs World.var? at h ⊢
  rw [← h]
  cases hg : Tryz.prog.globalNamed "internal/strconv.uint64pow10" with
  | none => rfl
  | some g =>
    show (match w'.heap[g]? with | some (.cells cs _ _) => some cs | _ => none) = (match w.heap[g]? with | some (.cells cs _ _) => some cs | _ => none)
    rw [hb.block g (hn g hg)]
theorem Tab.lt {w : World} (h : Tab w) : ∀ g, Tryz.prog.globalNamed "internal/strconv.uint64pow10" = some g → g < w.heap.size := by
  intro g hg
  unfold Tab Lib.TabIs World.var? at h
  rw [hg] at h
  refine Nat.lt_of_not_le (fun hle => ?_)
  have h' : (match w.heap[g]? with | some (.cells cs _ _) => some cs | _ => none) = some (Lib.pow10Tab.map fun z => Value.int .u64 z).toArray := h
  rw [Array.getElem?_eq_none hle] at h'
  cases h'
theorem Tab.next {w w' : World} (h : Tab w) (hb : Below w.heap.size w w') : Tab w' := h.below h.lt hb

theorem dig_dec (n : Nat) : (⟨(Lib.decDigits n).toArray⟩ : ByteArray) = Mk.dig n := by
  induction n using Nat.strongRecOn with
  | ind n ih =>
    by_cases h : n < 10
    · rw [Lib.decDigits, dif_pos h, Mk.dig_small h]
      unfold Mk.dg
      rw [Nat.mod_eq_of_lt h]
    · rw [Lib.decDigits, dif_neg h, Mk.dig_great h, ← ih (n / 10) (by omega)]
      unfold Mk.dg
      refine Mk.bytes_eq ?_
      simp
theorem itoa_any (n : Nat) (hn : n ≤ 9999) (w : World) (ht : Tab w) :
    Calls Tryz.prog 52 #[.int .i64 (n : Int)] w fun e w' => e = .returned (.string (Mk.dig n)) ∧ Below w.heap.size w w' := by
  refine (Tryz.strconv_Itoa (n : Int) (by omega) (by omega) w ht).mono ?_
  rintro e w' ⟨rfl, k, os, rfl⟩
  refine ⟨?_, rfl, rfl, rfl, by simp [Sort.grow], fun i hi => ?_⟩
  · rw [Lib.itoa_nonneg, dig_dec]
  · have : i < (w.drewN k).heap.size := hi
    rw [Sort.heap_grow_old _ _ this]
    rfl

/-- one block alone -/
def One (f : Nat) : Nat → Prop := fun k => k = f
theorem Only.put {f : Nat} {w w' : World} (h : Only (One f) w w') (i : Nat) (u : Value) : Only (One f) w (w'.setCell ⟨f, i, none⟩ u) := h.set (show One f f from rfl) u

/-- what is left of a text that is taken apart -/
def flF (s : ByteArray) (m g : Bool) : Nat → Value
  | 0 => .string s
  | 1 => .bool m
  | _ => .bool g
/-- the words that are left; is all good so far? -/
def Fl (w : World) (f : Nat) (l : List ByteArray) (g : Bool) : Prop :=
  ∃ s m, w.rowIs f 145 3 (flF s m g) ∧ s.size ≤ 20 ∧ (m = true ∧ Mk.words s = l ∨ m = false ∧ l = [])
theorem Fl.size {w : World} {f : Nat} {l : List ByteArray} {g : Bool} (h : Fl w f l g) : (Mk.hd l).size ≤ 20 := by
  obtain ⟨s, m, _, hs, ⟨_, rfl⟩ | ⟨_, rfl⟩⟩ := h
  · unfold Mk.hd
    cases hw : Mk.words s with
    | nil => show (0 : Nat) ≤ 20; omega
    | cons x r =>
      have := Mk.words_size (s := s) (x := x) (by rw [hw]; exact List.mem_cons_self)
      show x.size ≤ 20
      omega
  · show (0 : Nat) ≤ 20; omega
theorem Fl.below {w w' : World} {f : Nat} {l : List ByteArray} {g : Bool} (h : Fl w f l g) (hb : Below w.heap.size w w') : Fl w' f l g := by
  obtain ⟨s, m, hr, hs, hm⟩ := h
  exact ⟨s, m, hr.of_block (hb.block f hr.lt), hs, hm⟩
theorem Fl.setG {w : World} {f : Nat} {l : List ByteArray} {g : Bool} (h : Fl w f l g) (b : Bool) : Fl (w.setCell ⟨f, 2, none⟩ (.bool b)) f l b := by
  obtain ⟨s, m, hr, hs, hm⟩ := h
  exact ⟨s, m, (hr.set 2 _).congr (fun j hj => by match j, hj with | 0, _ => rfl | 1, _ => rfl | 2, _ => rfl), hs, hm⟩
theorem Fl.other {w : World} {f k i : Nat} {l : List ByteArray} {g : Bool} (h : Fl w f l g) (hk : f ≠ k) (u : Value) : Fl (w.setCell ⟨k, i, none⟩ u) f l g := by
  obtain ⟨s, m, hr, hs, hm⟩ := h
  exact ⟨s, m, hr.setOther hk u, hs, hm⟩
theorem Fl.lt {w : World} {f : Nat} {l : List ByteArray} {g : Bool} (h : Fl w f l g) : f < w.heap.size := by
  obtain ⟨s, m, hr, _⟩ := h
  exact hr.lt
theorem Fl.kind {w : World} {f : Nat} {l : List ByteArray} {g : Bool} (h : Fl w f l g) : Kind w f 145 := by
  obtain ⟨s, m, hr, _⟩ := h
  exact row_kind hr

set_option maxRecDepth 100000 in
set_option maxHeartbeats 2000000 in
theorem next_any (f : Nat) (l : List ByteArray) (g : Bool) (w : World) (hF : Fl w f l g) :
    Calls Tryz.prog 75 #[.pointer (some ⟨f, 0, none⟩)] w fun e w' => e = .returned (.string (Mk.hd l)) ∧ Fl w' f l.tail (g && Mk.some' l) ∧ Only (One f) w w' := by
  have HF : Hid (Fl w f l g) := hF
  obtain ⟨s, m, hr, hs, hm⟩ := hF
  have HR : Hid (w.rowIs f 145 3 (flF s m g)) := hr
  have c0 := hr.cell (i := 0) (by omega)
  have c1 := hr.cell (i := 1) (by omega)
  have c2 := hr.cell (i := 2) (by omega)
  have z0 := hr.frozen 0
  have z1 := hr.frozen 1
  have z2 := hr.frozen 2
  simp only [flF] at c0 c1 c2
  clear hr
  rcases hm with ⟨rfl, hl⟩ | ⟨rfl, rfl⟩
  · have HL : Hid (Mk.words s = l) := hl
    have hs' : (s.size : Int) ≤ 20 := by omega
    clear hl
    go_enter Tryz.func75, Tryz.ntmps75
    go_wp2
    go_loop [4] (fun j => ∃ k : Nat, k ≤ s.size ∧ j = .int .i64 k ∧ ∀ i, i < k → Mk.bt s i ≠ 32) (fun j => s.size - (intOf j).toNat)
    case atStart => exact ⟨0, Nat.zero_le _, rfl, fun i hi => by omega⟩
    case round =>
      obtain ⟨k, hk, rfl, hn⟩ := hrel
      have HN : Hid (∀ i, i < k → Mk.bt s i ≠ 32) := hn
      clear hn
      by_cases hlt : k < s.size
      · have hlt' : (k : Int) < (s.size : Int) := by omega
        have HB : Hid (s[k].toNat = Mk.bt s k) := Mk.bt_at hlt
        by_cases hsp : s[k].toNat = 32
        · have hsp' : ((s[k].toNat : Int) == 32) = true := by rw [beq_iff_eq]; omega
          have HW : Hid (l = s.extract 0 k :: Mk.words (s.extract (k + 1) s.size)) := (by rw [← HL.out]; exact Mk.words_at hlt (by rw [← HB.out]; exact hsp) HN.out : l = s.extract 0 k :: Mk.words (s.extract (k + 1) s.size))
          have hle : (k : Int) + 1 ≤ (s.size : Int) := by omega
          have hle2 : (k : Int) ≤ (s.size : Int) := by omega
          clear hsp
          go_wp2
          go_ret
          rw [HW.out]
          refine ⟨rfl, ⟨s.extract (k + 1) s.size, true, ?_, ?_, .inl ⟨rfl, rfl⟩⟩, (Only.refl (One f) w).put _ _⟩
          · exact (HR.out.set 0 _).congr (fun j hj => by match j, hj with | 0, _ => rfl | 1, _ => rfl | 2, _ => simp [flF, Mk.some'])
          · have := Mk.extract_le s (k + 1) s.size
            omega
        · have hsp' : ((s[k].toNat : Int) == 32) = false := by rw [beq_eq_false_iff_ne]; omega
          have HN' : Hid (∀ i, i < k + 1 → Mk.bt s i ≠ 32) := by
            intro i hi
            by_cases e : i = k
            · subst e; rw [← HB.out]; exact hsp
            · exact HN.out i (by omega)
          clear hsp
          go_wp2
          go_round
          case rel => exact ⟨k + 1, by omega, by go_num, HN'.out⟩
          case measure => simp [intOf]; omega
      · obtain rfl : k = s.size := by omega
        have HW : Hid (l = [s]) := (by rw [← HL.out]; exact Mk.words_one HN.out : l = [s])
        go_wp2
        go_ret
        rw [HW.out]
        refine ⟨rfl, ⟨⟨#[]⟩, false, ?_, ?_, .inr ⟨rfl, rfl⟩⟩, ((Only.refl (One f) w).put _ _).put _ _⟩
        · exact ((HR.out.set 0 _).set 1 _).congr (fun j hj => by match j, hj with | 0, _ => rfl | 1, _ => rfl | 2, _ => simp [flF, Mk.some'])
        · show (0 : Nat) ≤ 20; omega
  · go_enter Tryz.func75, Tryz.ntmps75
    go_wp2
    go_ret
    refine ⟨rfl, ?_, (Only.refl (One f) w).put _ _⟩
    have := HF.out.setG false
    simpa [Mk.some'] using this

/-- what the program's readDigits answers -/
def Mk.rgOk (s : ByteArray) (hi : Nat) : Bool := decide (1 ≤ s.size) && Mk.digs s s.size && decide (Mk.numTo s s.size ≤ hi)
def Mk.rgV (s : ByteArray) (hi : Nat) : Nat := if Mk.rgOk s hi then Mk.numTo s s.size else 0
theorem Mk.rg_rd {s : ByteArray} {hi : Nat} (hh : hi ≤ 9999) (h3 : ¬ (Mk.bt s 0 = 48 ∧ 1 < s.size)) : Mk.rgOk s hi = Mk.rdOk s hi ∧ Mk.rgV s hi = Mk.rdV s hi := by
  have e : Mk.rgOk s hi = Mk.rdOk s hi := by
    cases hg : Mk.rgOk s hi with
    | true =>
      unfold Mk.rgOk at hg
      simp only [Bool.and_eq_true, decide_eq_true_eq] at hg
      unfold Mk.rdOk
      rw [Mk.numOk_of hg.1.1 h3 hg.1.2 (by omega), Bool.true_and]
      exact (decide_eq_true hg.2).symm
    | false =>
      cases hd : Mk.rdOk s hi with
      | false => rfl
      | true =>
        unfold Mk.rdOk Mk.numOk at hd
        simp only [Bool.and_eq_true, decide_eq_true_eq] at hd
        unfold Mk.rgOk at hg
        rw [hd.1.2, decide_eq_true hd.1.1.1.1, decide_eq_true hd.2] at hg
        cases hg
  refine ⟨e, ?_⟩
  unfold Mk.rgV Mk.rdV
  rw [e]
set_option maxRecDepth 100000 in
set_option maxHeartbeats 2000000 in
theorem readDigits_any (s : ByteArray) (hi : Nat) (w : World) (hs : s.size ≤ 1000000) (hh : hi ≤ 9999) :
    Calls Tryz.prog 27 #[.string s, .int .i64 hi] w fun e w' => e = .returned (.tuple #[.int .i64 (Mk.rgV s hi : Int), .bool (Mk.rgOk s hi)]) ∧ w' = w := by
  have HV : Hid (Mk.rgOk s hi = false → Mk.rgV s hi = 0) := fun h => by unfold Mk.rgV; rw [h]; rfl
  have hh' : (hi : Int) ≤ 9999 := by omega
  by_cases h0 : s.size = 0
  · have hb : (s.toList == []) = true := by
      rw [ByteArray.toList_eq, beq_iff_eq]
      have : s.data.toList.length = 0 := by simpa using h0
      exact List.eq_nil_of_length_eq_zero this
    have HZ : Hid (Mk.rgOk s hi = false) := (by unfold Mk.rgOk; rw [decide_eq_false (by omega), Bool.false_and, Bool.false_and] : Mk.rgOk s hi = false)
    clear h0
    go_enter Tryz.func27, Tryz.ntmps27
    go_wp2
    go_ret2
    exact ⟨by rw [HV.out HZ.out, HZ.out]; rfl, rfl⟩
  · have hb : (s.toList == []) = false := by
      rw [ByteArray.toList_eq, beq_eq_false_iff_ne]
      intro e
      have : s.data.toList.length = 0 := by rw [e]; rfl
      exact h0 (by simpa using this)
    have hpos : 0 < s.size := by omega
    have hpos' : (0 : Int) < (s.size : Int) := by omega
    have HY : Hid (Mk.digs s s.size = true → Mk.numTo s s.size ≤ hi → Mk.rgOk s hi = true) := fun h h' => by
      unfold Mk.rgOk
      rw [h, decide_eq_true (by omega : 1 ≤ s.size), decide_eq_true h']
      rfl
    have HN : Hid (Mk.digs s s.size = false → Mk.rgOk s hi = false) := fun h => by unfold Mk.rgOk; rw [h, Bool.and_false, Bool.false_and]
    clear h0
    go_enter Tryz.func27, Tryz.ntmps27
    go_wp2
    go_loop [6, 7] (fun x j => ∃ k : Nat, k ≤ s.size ∧ j = .int .i64 k ∧ x = .int .i64 (Mk.numTo s k : Int) ∧ Mk.digs s k = true ∧ Mk.numTo s k ≤ hi) (fun _ j => s.size - (intOf j).toNat)
    case atStart => exact ⟨0, Nat.zero_le _, rfl, rfl, rfl, Nat.zero_le _⟩
    case round =>
      obtain ⟨k, hk, rfl, rfl, hd, hle⟩ := hrel
      have hb3 : (Mk.numTo s k : Int) ≤ (hi : Int) := by omega
      have HD : Hid (Mk.digs s k = true) := hd
      have HLe : Hid (Mk.numTo s k ≤ hi) := hle
      clear hd hle
      by_cases hlt : k < s.size
      · have hlt' : (k : Int) < (s.size : Int) := by omega
        have HB : Hid (s[k].toNat = Mk.bt s k) := Mk.bt_at hlt
        have h256 : s[k].toNat < 256 := UInt8.toNat_lt _
        by_cases hdig : 48 ≤ s[k].toNat ∧ s[k].toNat ≤ 57
        · have d1 : ¬ (s[k].toNat : Int) < 48 := by omega
          have d2 : ¬ (57 : Int) < (s[k].toNat : Int) := by omega
          have HS : Hid (Mk.digs s (k + 1) = true) := by
            show (Mk.digs s k && Mk.isD s k) = true
            rw [HD.out, Bool.true_and]
            unfold Mk.isD
            rw [← HB.out]
            simp [hdig]
          have HE : Hid ((Mk.numTo s (k + 1) : Int) = (Mk.numTo s k : Int) * 10 + ((s[k].toNat : Int) - 48)) := (by
            show ((Mk.numTo s k * 10 + (Mk.bt s k - 48) : Nat) : Int) = _
            rw [← HB.out]; omega : (Mk.numTo s (k + 1) : Int) = (Mk.numTo s k : Int) * 10 + ((s[k].toNat : Int) - 48))
          by_cases hbig : (hi : Int) < (Mk.numTo s k : Int) * 10 + ((s[k].toNat : Int) - 48)
          · have HZ : Hid (Mk.rgOk s hi = false) := (by
              have h1 := Mk.numTo_mono s (k + 1) s.size (by omega)
              have h2 := HE.out
              unfold Mk.rgOk
              rw [decide_eq_false (by omega : ¬ Mk.numTo s s.size ≤ hi), Bool.and_false] : Mk.rgOk s hi = false)
            clear hdig
            go_wp2
            go_ret2
            exact ⟨by rw [HV.out HZ.out, HZ.out]; rfl, rfl⟩
          · have HLe' : Hid (Mk.numTo s (k + 1) ≤ hi) := (by have := HE.out; omega : Mk.numTo s (k + 1) ≤ hi)
            clear hdig
            go_wp2
            go_round
            case rel => exact ⟨k + 1, by omega, by go_num, by rw [HE.out], HS.out, HLe'.out⟩
            case measure => simp [intOf]; omega
        · have HZ : Hid (Mk.rgOk s hi = false) := HN.out (Mk.digs_no (j := k) (by unfold Mk.isD; rw [← HB.out]; rw [← Bool.not_eq_true]; simpa using hdig) hlt)
          by_cases d1 : (s[k].toNat : Int) < 48
          · clear hdig
            go_wp2
            go_ret2
            exact ⟨by rw [HV.out HZ.out, HZ.out]; rfl, rfl⟩
          · have d2 : (57 : Int) < (s[k].toNat : Int) := by omega
            clear hdig
            go_wp2
            go_ret2
            exact ⟨by rw [HV.out HZ.out, HZ.out]; rfl, rfl⟩
      · obtain rfl : k = s.size := by omega
        have HZ : Hid (Mk.rgV s hi = Mk.numTo s s.size ∧ Mk.rgOk s hi = true) := by
          have := HY.out HD.out HLe.out
          exact ⟨by unfold Mk.rgV; rw [this]; rfl, this⟩
        go_wp2
        go_ret2
        exact ⟨by rw [HZ.out.1, HZ.out.2]; rfl, rfl⟩

set_option maxRecDepth 100000 in
set_option maxHeartbeats 2000000 in
theorem readNumber_any (s : ByteArray) (hi : Nat) (w : World) (hs : s.size ≤ 1000000) (hh : hi ≤ 9999) :
    Calls Tryz.prog 97 #[.string s, .int .i64 hi] w fun e w' => e = .returned (.tuple #[.int .i64 (Mk.rdV s hi : Int), .bool (Mk.rdOk s hi)]) ∧ w' = w := by
  have HV : Hid (Mk.rdOk s hi = false → Mk.rdV s hi = 0) := fun h => by unfold Mk.rdV; rw [h]; rfl
  by_cases h1 : 1 < s.size
  · have hpos : 0 < s.size := by omega
    have hpos' : (0 : Int) < (s.size : Int) := by omega
    have h1' : (1 : Int) < (s.size : Int) := by omega
    have HB0 : Hid (s[0].toNat = Mk.bt s 0) := Mk.bt_at hpos
    by_cases hz : s[0].toNat = 48
    · have hz1 : ((s[0].toNat : Int) == 48) = true := by simp; omega
      have HZ : Hid (Mk.rdOk s hi = false) := Mk.rd_no (Mk.numOk_no (.inr (.inr (.inl ⟨by rw [← HB0.out]; exact hz, h1⟩))))
      clear hz
      go_enter Tryz.func97, Tryz.ntmps97
      go_wp2
      go_ret2
      exact ⟨by rw [HV.out HZ.out, HZ.out]; rfl, rfl⟩
    · have hz1 : ((s[0].toNat : Int) == 48) = false := by simp; omega
      have HE := (show Hid _ from Mk.rg_rd (s := s) hh (fun h => hz (by rw [HB0.out]; exact h.1)))
      clear hz
      go_enter Tryz.func97, Tryz.ntmps97
      go_wp2_with fail
      refine (readDigits_any s hi w hs hh).mono ?_
      rintro e w2 ⟨rfl, hw2⟩
      obtain rfl := hw2.symm
      go_wp2
      go_ret2
      exact ⟨by rw [HE.out.1, HE.out.2]; rfl, rfl⟩
  · have h1' : ¬ (1 : Int) < (s.size : Int) := by omega
    have HE := (show Hid _ from Mk.rg_rd (s := s) hh (fun h => h1 h.2))
    go_enter Tryz.func97, Tryz.ntmps97
    go_wp2_with fail
    refine (readDigits_any s hi w hs hh).mono ?_
    rintro e w2 ⟨rfl, hw2⟩
    obtain rfl := hw2.symm
    go_wp2
    go_ret2
    exact ⟨by rw [HE.out.1, HE.out.2]; rfl, rfl⟩

set_option maxRecDepth 100000 in
set_option maxHeartbeats 2000000 in
theorem fnumber_any (f : Nat) (l : List ByteArray) (g : Bool) (lo hi : Nat) (w : World) (hh : hi ≤ 9999) (hF : Fl w f l g) :
    Calls Tryz.prog 74 #[.pointer (some ⟨f, 0, none⟩), .int .i64 lo, .int .i64 hi] w fun e w' => e = .returned (.int .i64 (Mk.nv l lo hi : Int)) ∧ Fl w' f l.tail (g && Mk.ng l lo hi) ∧ Only (One f) w w' := by
  have HF : Hid (Fl w f l g) := hF
  have HS : Hid ((Mk.hd l).size ≤ 20) := hF.size
  have HG : Hid (Mk.some' l = false → Mk.ng l lo hi = false) := fun h => by
    cases l with
    | nil => exact Mk.ng_nil lo hi
    | cons x r => cases h
  clear hF
  go_enter Tryz.func74, Tryz.ntmps74
  go_wp2_with fail
  refine (next_any f l g w HF.out).mono ?_
  rintro e w1 ⟨rfl, hF1, ho1⟩
  have HF1 : Hid (Fl w1 f l.tail (g && Mk.some' l)) := hF1
  have HO1 : Hid (Only (One f) w w1) := ho1
  clear hF1 ho1
  go_wp2_with fail
  refine (readNumber_any (Mk.hd l) hi w1 (by have := HS.out; omega) hh).mono ?_
  rintro e w2 ⟨rfl, hw2⟩
  obtain rfl := hw2.symm
  have HX := (show Hid _ from Mk.rd_numB (Mk.hd l) lo hi)
  have z2 : w1.frozen? ⟨f, 2, none⟩ = false := by obtain ⟨s, m, hr, _⟩ := HF1.out; exact hr.frozen 2
  have c2 : ∃ b, w1.cell? ⟨f, 2, none⟩ = some (.bool b) := by obtain ⟨s, m, hr, _⟩ := HF1.out; exact ⟨_, hr.cell (i := 2) (by omega)⟩
  obtain ⟨b2, c2⟩ := c2
  by_cases hok : Mk.rdOk (Mk.hd l) hi = true
  · by_cases hlo : (Mk.rdV (Mk.hd l) hi : Int) < (lo : Int)
    · have HN : Hid (Mk.ng l lo hi = false) := (by
        unfold Mk.ng
        rw [HX.out.1, hok, Bool.true_and, decide_eq_false_iff_not]
        omega : Mk.ng l lo hi = false)
      go_wp2
      go_ret
      refine ⟨?_, ?_, HO1.out.put _ _⟩
      · unfold Mk.nv; rw [HN.out]; rfl
      · rw [HN.out, Bool.and_false]; exact HF1.out.setG false
    · have HN : Hid (Mk.ng l lo hi = true) := (by
        unfold Mk.ng
        rw [HX.out.1, hok, Bool.true_and, decide_eq_true_eq]
        omega : Mk.ng l lo hi = true)
      have HV : Hid (Mk.nv l lo hi = Mk.rdV (Mk.hd l) hi) := (by
        unfold Mk.nv
        rw [HN.out, HX.out.2 HN.out]
        rfl : Mk.nv l lo hi = Mk.rdV (Mk.hd l) hi)
      have HSm : Hid (Mk.some' l = true) := by
        rw [← Bool.not_eq_false]
        intro h
        have := HG.out h
        rw [HN.out] at this
        cases this
      go_wp2
      go_ret
      refine ⟨by rw [HV.out]; rfl, ?_, HO1.out⟩
      have := HF1.out
      rw [HSm.out] at this
      rw [HN.out]
      exact this
  · have hok' : Mk.rdOk (Mk.hd l) hi = false := by simpa using hok
    have HN : Hid (Mk.ng l lo hi = false) := (by
        unfold Mk.ng
        rw [HX.out.1, hok', Bool.false_and] : Mk.ng l lo hi = false)
    clear hok
    go_wp2
    go_ret
    refine ⟨?_, ?_, HO1.out.put _ _⟩
    · unfold Mk.nv; rw [HN.out]; rfl
    · rw [HN.out, Bool.and_false]; exact HF1.out.setG false

end Go.Proofs.YtmebcdpdpcpnmaaGreatDoor
