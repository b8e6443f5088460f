import Derived.Test.YtmebcdpdpcpnmabDoorJ10
import Derived.Test.YtmebcdpdpcpnmabDoorJ1
import Derived.Test.YtmebcdpdpcpnmabDoorJ9
/- Plain mathematics of deeds: commands that are written as a client does. -/
namespace Mk

theorem bt_left {a b : ByteArray} {k : Nat} (h : k < a.size) : bt (a ++ b) k = bt a k := by
  have h1 : k < (a ++ b).size := by rw [ByteArray.size_append]; omega
  rw [← bt_at h, ← bt_at h1, ByteArray.getElem_append_left h]
theorem bt_right {a b : ByteArray} {k : Nat} : bt (a ++ b) (a.size + k) = bt b k := by
  by_cases h : k < b.size
  · have h1 : a.size + k < (a ++ b).size := by rw [ByteArray.size_append]; omega
    rw [← bt_at h, ← bt_at h1, ByteArray.getElem_append_right (by omega)]
    congr 2
    omega
  · unfold bt
    rw [dif_neg h, dif_neg (by rw [ByteArray.size_append]; omega)]
theorem bt_dg (n : Nat) : bt (dg n) 0 = 48 + n % 10 := by
  show (UInt8.ofNat (48 + n % 10)).toNat = 48 + n % 10
  rw [UInt8.toNat_ofNat']
  omega

/-- no blank in it -/
def NoB (s : ByteArray) : Prop := ∀ k, k < s.size → bt s k ≠ 32
theorem digs_left {a b : ByteArray} : ∀ k, k ≤ a.size → digs (a ++ b) k = digs a k
  | 0, _ => rfl
  | k + 1, h => by simp only [digs, isD]; rw [digs_left k (by omega), bt_left (by omega)]
theorem numTo_left {a b : ByteArray} : ∀ k, k ≤ a.size → numTo (a ++ b) k = numTo a k
  | 0, _ => rfl
  | k + 1, h => by simp only [numTo]; rw [numTo_left k (by omega), bt_left (by omega)]
theorem dig_is : ∀ (k n : Nat), n < 10 ^ (k + 1) → digs (dig n) (dig n).size = true ∧ numTo (dig n) (dig n).size = n ∧ 1 ≤ (dig n).size ∧ (1 ≤ n → bt (dig n) 0 ≠ 48) := by
  have small : ∀ n, n < 10 → digs (dig n) (dig n).size = true ∧ numTo (dig n) (dig n).size = n ∧ 1 ≤ (dig n).size ∧ (1 ≤ n → bt (dig n) 0 ≠ 48) := fun n h => by
    rw [dig_small h, dg_size]
    have e := bt_dg n
    refine ⟨?_, ?_, Nat.le_refl _, fun h1 => by omega⟩
    · simp only [digs, isD, e, Bool.and_eq_true, decide_eq_true_eq]
      refine ⟨trivial, ?_, ?_⟩ <;> omega
    · simp only [numTo, e]
      omega
  intro k
  induction k with
  | zero => intro n h; exact small n (by omega)
  | succ k ih =>
    intro n h
    by_cases h10 : n < 10
    · exact small n h10
    · obtain ⟨h1, h2, h3, h4⟩ := ih (n / 10) (by rw [Nat.pow_succ] at h; omega)
      rw [dig_great h10, ByteArray.size_append, dg_size]
      have e : bt (dig (n / 10) ++ dg n) (dig (n / 10)).size = 48 + n % 10 := (bt_right (k := 0)).trans (bt_dg n)
      refine ⟨?_, ?_, by omega, fun _ => ?_⟩
      · simp only [digs]
        rw [digs_left _ (Nat.le_refl _), h1]
        simp only [isD, e, Bool.true_and, Bool.and_eq_true, decide_eq_true_eq]
        omega
      · simp only [numTo]
        rw [numTo_left _ (Nat.le_refl _), h2, e]
        omega
      · rw [bt_left (by omega)]
        exact h4 (by omega)
theorem digs_at {s : ByteArray} : ∀ {k j : Nat}, digs s k = true → j < k → 48 ≤ bt s j ∧ bt s j ≤ 57
  | 0, j, _, hj => by omega
  | k + 1, j, h, hj => by
    simp only [digs, isD, Bool.and_eq_true, decide_eq_true_eq] at h
    by_cases e : j = k
    · subst e; exact h.2
    · exact digs_at h.1 (by omega)
theorem dig_digit {n : Nat} (h : n ≤ 9999) {k : Nat} (hk : k < (dig n).size) : 48 ≤ bt (dig n) k ∧ bt (dig n) k ≤ 57 := digs_at (dig_is 3 n (by omega)).1 hk
theorem noB_dig {n : Nat} (h : n ≤ 9999) : NoB (dig n) := fun k hk => by have := dig_digit h hk; omega
theorem numOk_dig {n : Nat} (h : n ≤ 9999) : numOk (dig n) = true := by
  obtain ⟨h1, h2, h3, h4⟩ := dig_is 3 n (by omega)
  refine numOk_of h3 ?_ h1 (by omega)
  rintro ⟨e0, e1⟩
  by_cases hn : 1 ≤ n
  · exact h4 hn e0
  · have : n = 0 := by omega
    subst this
    rw [dig_small (by omega), dg_size] at e1
    omega
theorem numV_dig {n : Nat} (h : n ≤ 9999) : numV (dig n) = n := by
  unfold numV
  rw [numOk_dig h]
  exact (dig_is 3 n (by omega)).2.1
theorem numB_dig {n lo hi : Nat} (h : n ≤ 9999) (h1 : lo ≤ n) (h2 : n ≤ hi) : numB (dig n) lo hi = true := by
  unfold numB
  rw [numOk_dig h, numV_dig h]
  simp [h1, h2]

def sp : ByteArray := ⟨#[32]⟩
theorem words_cons {x y : ByteArray} (hx : NoB x) : words (x ++ sp ++ y) = x :: words y := by
  have hz : (x ++ sp).size = x.size + 1 := by rw [ByteArray.size_append]; rfl
  have hb : bt (x ++ sp ++ y) x.size = 32 := by
    rw [bt_left (by omega)]
    exact (bt_right (k := 0)).trans rfl
  have h := words_at (s := x ++ sp ++ y) (i := x.size) (by rw [ByteArray.size_append]; omega) hb (fun j hj => by rw [bt_left (by omega), bt_left hj]; exact hx j hj)
  have e1 : (x ++ sp ++ y).extract (x.size + 1) (x ++ sp ++ y).size = y := ByteArray.extract_append_eq_right (a := x ++ sp) (b := y) hz.symm (ByteArray.size_append)
  have e2 : (x ++ sp ++ y).extract 0 x.size = x := by rw [ByteArray.append_assoc]; exact ByteArray.extract_append_eq_left rfl
  rw [h, e1, e2]
theorem noB_lit {s : ByteArray} (h : s.data.toList.all (fun c => c != 32) = true) : NoB s := by
  intro k hk e
  have h1 := List.all_eq_true.1 h (s.data.toList[k]'(by simpa using hk)) (List.getElem_mem _)
  rw [← bt_at hk] at e
  have e2 : s[k] = 32 := UInt8.toNat_inj.1 e
  rw [ByteArray.getElem_eq_getElem_data] at e2
  rw [Array.getElem_toList, e2] at h1
  cases h1

/-- a deed: its word's number, the client, the voyage, two numbers -/
structure Dd where
  w : Nat
  who : Nat
  v : Nat
  a : Nat
  b : Nat
def wdOf : Nat → Wd
  | 0 => .pay
  | 1 => .draw
  | 2 => .bring
  | 3 => .fetch
  | 4 => .buy
  | 5 => .sell
  | 6 => .drop
  | 7 => .mode
  | _ => .close
/-- the numbers of its command -/
def Dd.nums (d : Dd) : List Nat :=
  match wdOf d.w with
  | .pay => [d.a]
  | .draw => [d.a]
  | .bring => [d.v, d.a]
  | .fetch => [d.v, d.a]
  | .buy => [d.v, d.a, d.b]
  | .sell => [d.v, d.a, d.b]
  | .drop => [d.v, d.a]
  | .mode => [d.v]
  | .close => [d.v]
def Dd.mc (d : Dd) : Bool :=
  match wdOf d.w with
  | .mode => d.a == 1
  | _ => false
/-- numbers that a command has -/
structure Dd.Ok (d : Dd) : Prop where
  w : d.w < 9
  who : d.who < 4
  v : d.v < 2
  a : d.a ≤ 9999
  b : d.b ≤ 9999
  len : d.nums.length = (wdOf d.w).lo.length
  num : ∀ i, i < d.nums.length → nth (wdOf d.w).lo i ≤ nth d.nums i ∧ nth d.nums i ≤ nth (wdOf d.w).hi i
/-- what stands behind the word, the word with it -/
def Dd.text (d : Dd) : ByteArray :=
  match wdOf d.w with
  | .pay => ⟨#[112, 97, 121, 32]⟩ ++ dig d.a
  | .draw => ⟨#[100, 114, 97, 119, 32]⟩ ++ dig d.a
  | .bring => ⟨#[98, 114, 105, 110, 103, 32]⟩ ++ dig d.v ++ ⟨#[32]⟩ ++ dig d.a
  | .fetch => ⟨#[102, 101, 116, 99, 104, 32]⟩ ++ dig d.v ++ ⟨#[32]⟩ ++ dig d.a
  | .buy => ⟨#[98, 117, 121, 32]⟩ ++ dig d.v ++ ⟨#[32]⟩ ++ dig d.a ++ ⟨#[32]⟩ ++ dig d.b
  | .sell => ⟨#[115, 101, 108, 108, 32]⟩ ++ dig d.v ++ ⟨#[32]⟩ ++ dig d.a ++ ⟨#[32]⟩ ++ dig d.b
  | .drop => ⟨#[100, 114, 111, 112, 32]⟩ ++ dig d.v ++ ⟨#[32]⟩ ++ dig d.a
  | .mode => ⟨#[109, 111, 100, 101, 32]⟩ ++ dig d.v ++ (if d.a == 1 then ⟨#[32, 109]⟩ else ⟨#[32, 117]⟩)
  | .close => ⟨#[99, 108, 111, 115, 101, 32]⟩ ++ dig d.v
/-- the command of a deed, as request r -/
def Dd.cmd (d : Dd) (r : Nat) : ByteArray := dig d.who ++ ⟨#[32]⟩ ++ dig r ++ ⟨#[32]⟩ ++ d.text
/-- the texts behind the word -/
def Dd.rest (d : Dd) : List ByteArray :=
  match wdOf d.w with
  | .pay => [dig d.a]
  | .draw => [dig d.a]
  | .bring => [dig d.v, dig d.a]
  | .fetch => [dig d.v, dig d.a]
  | .buy => [dig d.v, dig d.a, dig d.b]
  | .sell => [dig d.v, dig d.a, dig d.b]
  | .drop => [dig d.v, dig d.a]
  | .mode => [dig d.v, if d.a == 1 then bm else bu]
  | .close => [dig d.v]
theorem lit_sp (a : Array UInt8) : (⟨a ++ #[32]⟩ : ByteArray) = ⟨a⟩ ++ sp := by
  apply bytes_eq
  rw [ByteArray.data_append]
  rfl
theorem noB_text (d : Wd) : NoB d.text := by cases d <;> exact noB_lit (by decide)
theorem text_words {d : Dd} (hv : d.v ≤ 9999) (ha : d.a ≤ 9999) (hb : d.b ≤ 9999) : words d.text = (wdOf d.w).text :: d.rest := by
  have one : ∀ {x : ByteArray}, NoB x → words x = [x] := fun h => words_one h
  have nv := noB_dig hv
  have na := noB_dig ha
  have nb := noB_dig hb
  unfold Dd.text Dd.rest
  generalize hw : wdOf d.w = wd
  have nt := noB_text wd
  cases wd
  case pay => exact (words_cons (x := Wd.text .pay) nt).trans (by rw [one na])
  case draw => exact (words_cons (x := Wd.text .draw) nt).trans (by rw [one na])
  case bring =>
    show words (Wd.text .bring ++ sp ++ dig d.v ++ sp ++ dig d.a) = _
    rw [ByteArray.append_assoc (b := dig d.v), ByteArray.append_assoc (b := dig d.v ++ sp), words_cons nt, words_cons nv, one na]
  case fetch =>
    show words (Wd.text .fetch ++ sp ++ dig d.v ++ sp ++ dig d.a) = _
    rw [ByteArray.append_assoc (b := dig d.v), ByteArray.append_assoc (b := dig d.v ++ sp), words_cons nt, words_cons nv, one na]
  case buy =>
    show words (Wd.text .buy ++ sp ++ dig d.v ++ sp ++ dig d.a ++ sp ++ dig d.b) = _
    rw [ByteArray.append_assoc (b := dig d.v), ByteArray.append_assoc (b := dig d.v ++ sp), ByteArray.append_assoc (b := dig d.v ++ sp ++ dig d.a), ByteArray.append_assoc (b := dig d.v ++ sp ++ dig d.a ++ sp), words_cons nt, ByteArray.append_assoc (b := dig d.a), ByteArray.append_assoc (b := dig d.a ++ sp), words_cons nv, words_cons na, one nb]
  case sell =>
    show words (Wd.text .sell ++ sp ++ dig d.v ++ sp ++ dig d.a ++ sp ++ dig d.b) = _
    rw [ByteArray.append_assoc (b := dig d.v), ByteArray.append_assoc (b := dig d.v ++ sp), ByteArray.append_assoc (b := dig d.v ++ sp ++ dig d.a), ByteArray.append_assoc (b := dig d.v ++ sp ++ dig d.a ++ sp), words_cons nt, ByteArray.append_assoc (b := dig d.a), ByteArray.append_assoc (b := dig d.a ++ sp), words_cons nv, words_cons na, one nb]
  case drop =>
    show words (Wd.text .drop ++ sp ++ dig d.v ++ sp ++ dig d.a) = _
    rw [ByteArray.append_assoc (b := dig d.v), ByteArray.append_assoc (b := dig d.v ++ sp), words_cons nt, words_cons nv, one na]
  case mode =>
    have hm : NoB bm := noB_lit (by decide)
    have hu : NoB bu := noB_lit (by decide)
    by_cases h1 : (d.a == 1) = true
    · rw [if_pos h1, if_pos h1]
      show words (Wd.text .mode ++ sp ++ dig d.v ++ (sp ++ bm)) = _
      rw [ByteArray.append_assoc (b := dig d.v), words_cons nt, ← ByteArray.append_assoc, words_cons nv, one hm]
    · rw [if_neg h1, if_neg h1]
      show words (Wd.text .mode ++ sp ++ dig d.v ++ (sp ++ bu)) = _
      rw [ByteArray.append_assoc (b := dig d.v), words_cons nt, ← ByteArray.append_assoc, words_cons nv, one hu]
  case close => exact (words_cons (x := Wd.text .close) nt).trans (by rw [one nv])

theorem wd_text (d : Wd) : wd d.text = some d := by cases d <;> simp [wd, isW, Wd.text]
theorem isM_bm : isM bm = true := by simp [isM, bm]
theorem isU_bu : isU bu = true := by simp [isU, bu]
theorem isM_bu : isM bu = false := by simp [isM, bm, bu]
theorem fit1 {x : ByteArray} {d : Wd} (hl : d.lo.length = 1) (h0 : numB x (nth d.lo 0) (nth d.hi 0) = true) : fits [x] d = true := by
  simp only [fits, List.length_cons, List.length_nil, fitTo, wrd0]
  rw [h0, hl]
  rfl
theorem fit2 {x y : ByteArray} {d : Wd} (hl : d.lo.length = 2) (h0 : numB x (nth d.lo 0) (nth d.hi 0) = true) (h1 : numB y (nth d.lo 1) (nth d.hi 1) = true) : fits [x, y] d = true := by
  simp only [fits, List.length_cons, List.length_nil, fitTo, wrd0, wrd1]
  rw [h0, h1, hl]
  rfl
theorem fit3 {x y z : ByteArray} {d : Wd} (hl : d.lo.length = 3) (h0 : numB x (nth d.lo 0) (nth d.hi 0) = true) (h1 : numB y (nth d.lo 1) (nth d.hi 1) = true) (h2 : numB z (nth d.lo 2) (nth d.hi 2) = true) : fits [x, y, z] d = true := by
  simp only [fits, List.length_cons, List.length_nil, fitTo, wrd0, wrd1, wrd2]
  rw [h0, h1, h2, hl]
  rfl
theorem rest_ok {d : Dd} (h : d.Ok) : modeOk (wdOf d.w) d.rest = true ∧ fits (args (wdOf d.w) d.rest) (wdOf d.w) = true ∧ (args (wdOf d.w) d.rest).map numV = d.nums ∧ modeIs (wdOf d.w) d.rest = d.mc := by
  have hv : d.v ≤ 9999 := by have := h.v; omega
  have ha := h.a
  have hb := h.b
  have ev := numV_dig hv
  have ea := numV_dig ha
  have eb := numV_dig hb
  have hl := h.len
  have hn := h.num
  unfold Dd.nums at hl hn ⊢
  unfold Dd.rest Dd.mc
  generalize wdOf d.w = wd at *
  cases wd
  case pay =>
    have q := hn 0 (by simp)
    exact ⟨rfl, fit1 rfl (numB_dig ha q.1 q.2), by show [numV (dig d.a)] = [d.a]; rw [ea], rfl⟩
  case draw =>
    have q := hn 0 (by simp)
    exact ⟨rfl, fit1 rfl (numB_dig ha q.1 q.2), by show [numV (dig d.a)] = [d.a]; rw [ea], rfl⟩
  case bring =>
    have q := hn 0 (by simp)
    have q1 := hn 1 (by simp)
    exact ⟨rfl, fit2 rfl (numB_dig hv q.1 q.2) (numB_dig ha q1.1 q1.2), by show [numV (dig d.v), numV (dig d.a)] = [d.v, d.a]; rw [ev, ea], rfl⟩
  case fetch =>
    have q := hn 0 (by simp)
    have q1 := hn 1 (by simp)
    exact ⟨rfl, fit2 rfl (numB_dig hv q.1 q.2) (numB_dig ha q1.1 q1.2), by show [numV (dig d.v), numV (dig d.a)] = [d.v, d.a]; rw [ev, ea], rfl⟩
  case buy =>
    have q := hn 0 (by simp)
    have q1 := hn 1 (by simp)
    have q2 := hn 2 (by simp)
    exact ⟨rfl, fit3 rfl (numB_dig hv q.1 q.2) (numB_dig ha q1.1 q1.2) (numB_dig hb q2.1 q2.2), by show [numV (dig d.v), numV (dig d.a), numV (dig d.b)] = [d.v, d.a, d.b]; rw [ev, ea, eb], rfl⟩
  case sell =>
    have q := hn 0 (by simp)
    have q1 := hn 1 (by simp)
    have q2 := hn 2 (by simp)
    exact ⟨rfl, fit3 rfl (numB_dig hv q.1 q.2) (numB_dig ha q1.1 q1.2) (numB_dig hb q2.1 q2.2), by show [numV (dig d.v), numV (dig d.a), numV (dig d.b)] = [d.v, d.a, d.b]; rw [ev, ea, eb], rfl⟩
  case drop =>
    have q := hn 0 (by simp)
    have q1 := hn 1 (by simp)
    exact ⟨rfl, fit2 rfl (numB_dig hv q.1 q.2) (numB_dig ha q1.1 q1.2), by show [numV (dig d.v), numV (dig d.a)] = [d.v, d.a]; rw [ev, ea], rfl⟩
  case mode =>
    have q := hn 0 (by simp)
    refine ⟨?_, fit1 rfl (numB_dig hv q.1 q.2), by show [numV (dig d.v)] = [d.v]; rw [ev], ?_⟩
    · show (isU (if (d.a == 1) = true then bm else bu) || isM (if (d.a == 1) = true then bm else bu)) = true
      split
      · rw [isM_bm, Bool.or_true]
      · rw [isU_bu, Bool.true_or]
    · show isM (if (d.a == 1) = true then bm else bu) = (d.a == 1)
      split
      · rename_i e; rw [isM_bm, e]
      · rename_i e; rw [isM_bu]; exact (Bool.eq_false_iff.2 e).symm
  case close =>
    have q := hn 0 (by simp)
    exact ⟨rfl, fit1 rfl (numB_dig hv q.1 q.2), by show [numV (dig d.v)] = [d.v]; rw [ev], rfl⟩
theorem text_size {d : Dd} (h : d.Ok) : d.text.size ≤ 14 := by
  have s1 : (dig d.v).size ≤ 1 := dig_size 0 d.v (by have := h.v; omega)
  have s4 := dig_size 3 d.a (by have := h.a; omega)
  have hn := h.num
  unfold Dd.nums at hn
  unfold Dd.text
  generalize wdOf d.w = wd at *
  cases wd
  case buy =>
    have q1 := (hn 1 (by simp)).2
    have q2 := (hn 2 (by simp)).2
    have s2 := dig_size 1 d.a (by have : d.a ≤ 99 := q1; omega)
    have s3 := dig_size 1 d.b (by have : d.b ≤ 20 := q2; omega)
    simp only [ByteArray.size_append]
    have e1 : (ByteArray.mk #[98, 117, 121, 32]).size = 4 := rfl
    have e2 : (ByteArray.mk #[32]).size = 1 := rfl
    omega
  case sell =>
    have q1 := (hn 1 (by simp)).2
    have q2 := (hn 2 (by simp)).2
    have s2 := dig_size 1 d.a (by have : d.a ≤ 99 := q1; omega)
    have s3 := dig_size 1 d.b (by have : d.b ≤ 20 := q2; omega)
    simp only [ByteArray.size_append]
    have e1 : (ByteArray.mk #[115, 101, 108, 108, 32]).size = 5 := rfl
    have e2 : (ByteArray.mk #[32]).size = 1 := rfl
    omega
  case mode =>
    simp only [ByteArray.size_append]
    have e1 : (ByteArray.mk #[109, 111, 100, 101, 32]).size = 5 := rfl
    have e2 : (if (d.a == 1) = true then (⟨#[32, 109]⟩ : ByteArray) else ⟨#[32, 117]⟩).size = 2 := by split <;> rfl
    omega
  all_goals
    simp only [ByteArray.size_append]
    have e2 : (ByteArray.mk #[32]).size = 1 := rfl
    have e3 : (ByteArray.mk #[112, 97, 121, 32]).size = 4 := rfl
    have e4 : (ByteArray.mk #[100, 114, 97, 119, 32]).size = 5 := rfl
    have e5 : (ByteArray.mk #[98, 114, 105, 110, 103, 32]).size = 6 := rfl
    have e6 : (ByteArray.mk #[102, 101, 116, 99, 104, 32]).size = 6 := rfl
    have e7 : (ByteArray.mk #[100, 114, 111, 112, 32]).size = 5 := rfl
    have e8 : (ByteArray.mk #[99, 108, 111, 115, 101, 32]).size = 6 := rfl
    omega
def Dd.read (d : Dd) (r : Nat) : Cmd := ⟨d.who, r, wdOf d.w, d.nums, d.mc⟩
/-- A DEED'S COMMAND reads as it was meant -/
theorem read_cmd {d : Dd} (h : d.Ok) {r : Nat} (hr : 1 ≤ r ∧ r ≤ 99) : readP (d.cmd r) = some (d.read r) := by
  have hw : d.who ≤ 9999 := by have := h.who; omega
  have hr' : r ≤ 9999 := by omega
  have hW : words (d.cmd r) = dig d.who :: dig r :: (wdOf d.w).text :: d.rest := by
    show words (dig d.who ++ sp ++ dig r ++ sp ++ d.text) = _
    rw [ByteArray.append_assoc (b := dig r), ByteArray.append_assoc (b := dig r ++ sp), words_cons (noB_dig hw), words_cons (noB_dig hr'), text_words (by have := h.v; omega) h.a h.b]
  have hz : (d.cmd r).size ≤ 20 := by
    have s1 := dig_size 0 d.who (by have := h.who; omega)
    have s2 := dig_size 1 r (by omega)
    have s3 := text_size h
    unfold Dd.cmd
    simp only [ByteArray.size_append]
    have e2 : (ByteArray.mk #[32]).size = 1 := rfl
    omega
  obtain ⟨h1, h2, h3, h4⟩ := rest_ok h
  have hy := read_yes (s := d.cmd r) (d := wdOf d.w) (by omega) (by rw [hW]; simp) (by rw [hW, wrd2]; exact wd_text _) (by
    rw [hW, wrd0, wrd1]
    show (numB (dig d.who) 0 3 && numB (dig r) 1 99 && modeOk (wdOf d.w) d.rest && fits (args (wdOf d.w) d.rest) (wdOf d.w)) = true
    rw [numB_dig hw (by omega) (by have := h.who; omega), numB_dig hr' hr.1 hr.2, h1, h2]
    rfl)
  rw [hy, hW, wrd0, wrd1, numV_dig hw, numV_dig hr']
  show some (Cmd.mk d.who r (wdOf d.w) ((args (wdOf d.w) d.rest).map numV) (modeIs (wdOf d.w) d.rest)) = _
  rw [h3, h4]
  rfl

end Mk

namespace Go.Proofs.YtmebcdpdpcpnmabDoor
open Go.RowKit

set_option maxRecDepth 100000 in
set_option maxHeartbeats 1000000 in
theorem decimal_go (k : Nat) : ∀ (n : Nat) (w : World), n < 10 ^ (k + 1) → k ≤ 10 →
    Calls Tryd.prog 30 #[.int .i64 n] w fun e w' => e = .returned (.string (Mk.dig n)) ∧ Below w.heap.size w w' := by
  induction k with
  | zero =>
    intro n w hn _
    have hn' : (n : Int) < 10 := by omega
    have HD : Hid (Mk.dig n = Mk.dg n) := Mk.dig_small (by omega)
    have hcv := conv_digit w n
    go_enter Tryd.func30, Tryd.ntmps30
    go_wp2_with fail
    go_ret
    exact ⟨by rw [HD.out]; rfl, (Below.refl _ _).alloc (Nat.le_refl _) _⟩
  | succ k ih =>
    intro n w hn hk
    have hcv := conv_digit w n
    by_cases h : n < 10
    · have hn' : (n : Int) < 10 := by omega
      have HD : Hid (Mk.dig n = Mk.dg n) := Mk.dig_small h
      go_enter Tryd.func30, Tryd.ntmps30
      go_wp2_with fail
      go_ret
      exact ⟨by rw [HD.out]; rfl, (Below.refl _ _).alloc (Nat.le_refl _) _⟩
    · have hn' : ¬ (n : Int) < 10 := by omega
      have hs := Mk.dig_size k (n / 10) (by rw [Nat.pow_succ] at hn; omega)
      have hs2 := Mk.dg_size n
      have HS : Hid ((Mk.dig (n / 10)).size ≤ k + 1) := hs
      have HI : Hid (∀ w : World, Calls Tryd.prog 30 #[.int .i64 ((n : Int) / 10)] w fun e w' => e = .returned (.string (Mk.dig (n / 10))) ∧ Below w.heap.size w w') := fun w => by
        have := ih (n / 10) w (by rw [Nat.pow_succ] at hn; omega) (by omega)
        rw [Int.natCast_ediv] at this
        exact this
      have HD : Hid (Mk.dig n = Mk.dig (n / 10) ++ Mk.dg n) := Mk.dig_great h
      have hbig : (n : Int) ≤ 1000000000000 := by
        have : n < 10 ^ 12 := Nat.lt_of_lt_of_le hn (Nat.pow_le_pow_right (by omega) (by omega))
        omega
      clear ih hn h hs
      have hadd : ∀ w : World, (Op.stringOp .add (Mk.dig (n / 10)) (Mk.dg n)).run Tryd.prog w = .ok (.string (Mk.dig (n / 10) ++ Mk.dg n)) w := fun w => run_string_add_sum w _ _ (by have := HS.out; have := Mk.dg_size n; omega)
      clear hs2
      go_enter Tryd.func30, Tryd.ntmps30
      go_wp2_with fail
      refine (HI.out _).mono ?_
      rintro e w2 ⟨rfl, hb2⟩
      have HB2 : Hid (Below w.heap.size w w2) := ((Below.refl _ _).alloc (Nat.le_refl _) _).trans (hb2.mono (by simp))
      clear hb2 hcv
      go_wp2_with fail
      go_ret
      exact ⟨by rw [HD.out]; rfl, HB2.out⟩

theorem decimal_any (n : Nat) (w : World) (hn : n ≤ 9999) : Calls Tryd.prog 30 #[.int .i64 n] w fun e w' => e = .returned (.string (Mk.dig n)) ∧ Below w.heap.size w w' :=
  decimal_go 4 n w (by omega) (by omega)

/-- a deed as a value -/
def ddV (d : Mk.Dd) : Value := .agg #[.int .i64 d.w, .int .i64 d.who, .int .i64 d.v, .int .i64 d.a, .int .i64 d.b]

set_option maxRecDepth 100000 in
set_option maxHeartbeats 1000000 in
theorem wording_any (d : Mk.Dd) (h : d.Ok) (w : World) : Calls Tryd.prog 31 #[ddV d] w fun e w' => e = .returned (.string d.text) ∧ Below w.heap.size w w' := by
  obtain ⟨dw, who, v, a, b⟩ := d
  have hw : dw < 9 := h.w
  have hv : v < 2 := h.v
  have ha : a ≤ 9999 := h.a
  have hb : b ≤ 9999 := h.b
  have t1 := Mk.dig_size 3 v (by omega)
  have t2 := Mk.dig_size 3 a (by omega)
  have t3 := Mk.dig_size 3 b (by omega)
  have HB : Hid (Below w.heap.size w (w.alloc (.cells #[.int .i64 (dw : Int), .int .i64 (who : Int), .int .i64 (v : Int), .int .i64 (a : Int), .int .i64 (b : Int)] 29))) := (Below.refl _ _).alloc (Nat.le_refl _) _
  have HC : Hid (∀ i u, (#[.int .i64 (dw : Int), .int .i64 (who : Int), .int .i64 (v : Int), .int .i64 (a : Int), .int .i64 (b : Int)] : Array Value)[i]? = some u → (w.alloc (.cells #[.int .i64 (dw : Int), .int .i64 (who : Int), .int .i64 (v : Int), .int .i64 (a : Int), .int .i64 (b : Int)] 29)).cell? ⟨w.heap.size, i, none⟩ = some u) := fun i u h => by simpa using h
  have hlt : w.heap.size < (w.alloc (.cells #[.int .i64 (dw : Int), .int .i64 (who : Int), .int .i64 (v : Int), .int .i64 (a : Int), .int .i64 (b : Int)] 29)).heap.size := by simp
  unfold ddV
  clear h
  go_enter Tryd.func31, Tryd.ntmps31
  go_upto_region 1 with fail
  generalize w.alloc (.cells #[.int .i64 (dw : Int), .int .i64 (who : Int), .int .i64 (v : Int), .int .i64 (a : Int), .int .i64 (b : Int)] 29) = W1 at *
  have x2 := HC.out 2 _ rfl
  go_wp2_with fail
  refine (decimal_any v _ (by omega)).mono ?_
  rintro e w2 ⟨rfl, hb2⟩
  have HB2 : Hid (Below W1.heap.size W1 w2) := hb2
  have y3 : w2.cell? ⟨w.heap.size, 3, none⟩ = some (.int .i64 (a : Int)) := (hb2.cell (p := ⟨w.heap.size, 3, none⟩) hlt).trans (HC.out 3 _ rfl)
  clear x2 hb2
  go_wp2_with fail
  refine (decimal_any a _ (by omega)).mono ?_
  rintro e w3 ⟨rfl, hb3⟩
  have HB3 : Hid (Below W1.heap.size W1 w3) := HB2.out.trans (hb3.mono HB2.out.size)
  have z4 : w3.cell? ⟨w.heap.size, 4, none⟩ = some (.int .i64 (b : Int)) := (HB3.out.cell (p := ⟨w.heap.size, 4, none⟩) hlt).trans (HC.out 4 _ rfl)
  clear y3 hb3
  go_wp2_with fail
  refine (decimal_any b _ (by omega)).mono ?_
  rintro e w4 ⟨rfl, hb4⟩
  have HB4 : Hid (Below W1.heap.size W1 w4) := HB3.out.trans (hb4.mono HB3.out.size)
  have HF : Hid (Below w.heap.size w w4) := HB.out.trans (HB4.out.mono HB.out.size)
  have u0 : w4.cell? ⟨w.heap.size, 0, none⟩ = some (.int .i64 (dw : Int)) := (HB4.out.cell (p := ⟨w.heap.size, 0, none⟩) hlt).trans (HC.out 0 _ rfl)
  have u3 : w4.cell? ⟨w.heap.size, 3, none⟩ = some (.int .i64 (a : Int)) := (HB4.out.cell (p := ⟨w.heap.size, 3, none⟩) hlt).trans (HC.out 3 _ rfl)
  clear z4 hb4
  have h9 : dw = 0 ∨ dw = 1 ∨ dw = 2 ∨ dw = 3 ∨ dw = 4 ∨ dw = 5 ∨ dw = 6 ∨ dw = 7 ∨ dw = 8 := by omega
  rcases h9 with rfl | rfl | rfl | rfl | rfl | rfl | rfl | rfl | rfl
  case inr.inr.inr.inr.inr.inr.inr.inl =>
    by_cases h1 : a = 1
    · subst h1
      go_wp2_with fail
      go_ret
      exact ⟨by simp [Mk.Dd.text, Mk.wdOf], HF.out⟩
    · have h1' : ((a : Int) == 1) = false := by simpa using (show ¬ (a : Int) = 1 by omega)
      go_wp2_with fail
      go_ret
      exact ⟨by simp [Mk.Dd.text, Mk.wdOf, h1], HF.out⟩
  all_goals
    go_wp2_with fail
    go_ret
    exact ⟨rfl, HF.out⟩

end Go.Proofs.YtmebcdpdpcpnmabDoor
