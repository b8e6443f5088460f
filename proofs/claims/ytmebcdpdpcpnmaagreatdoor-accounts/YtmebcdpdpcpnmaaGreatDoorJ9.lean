import Derived.Test.YtmebcdpdpcpnmaaGreatDoorJ8
namespace Go.Proofs.YtmebcdpdpcpnmaaGreatDoor
open Go.RowKit

/-- the library's table of powers of ten is as its text lays it -/
def Tab (w : World) : Prop := Lib.TabIs Tryz.prog w "internal/strconv.uint64pow10" .u64 Lib.pow10Tab
theorem Tab.below {n : Nat} {w w' : World} (h : Tab w) (hn : ∀ g, Tryz.prog.globalNamed "internal/strconv.uint64pow10" = some g → g < n) (hb : Below n w w') : Tab w' := by
  unfold Tab Lib.TabIs World.var? at h ⊢
  rw [← h]
  cases hg : Tryz.prog.globalNamed "internal/strconv.uint64pow10" with
  | none => rfl
  | some g =>
    show (match w'.heap[g]? with | some (.cells cs _ _) => some cs | _ => none) = (match w.heap[g]? with | some (.cells cs _ _) => some cs | _ => none)
    rw [hb.block g (hn g hg)]
theorem Tab.lt {w : World} (h : Tab w) : ∀ g, Tryz.prog.globalNamed "internal/strconv.uint64pow10" = some g → g < w.heap.size := by
  intro g hg
  unfold Tab Lib.TabIs World.var? at h
  rw [hg] at h
  refine Nat.lt_of_not_le (fun hle => ?_)
  have h' : (match w.heap[g]? with | some (.cells cs _ _) => some cs | _ => none) = some (Lib.pow10Tab.map fun z => Value.int .u64 z).toArray := h
  rw [Array.getElem?_eq_none hle] at h'
  cases h'
theorem Tab.next {w w' : World} (h : Tab w) (hb : Below w.heap.size w w') : Tab w' := h.below h.lt hb

theorem dig_dec (n : Nat) : (⟨(Lib.decDigits n).toArray⟩ : ByteArray) = Mk.dig n := by
  induction n using Nat.strongRecOn with
  | ind n ih =>
    by_cases h : n < 10
    · rw [Lib.decDigits, dif_pos h, Mk.dig_small h]
      unfold Mk.dg
      rw [Nat.mod_eq_of_lt h]
    · rw [Lib.decDigits, dif_neg h, Mk.dig_great h, ← ih (n / 10) (by omega)]
      unfold Mk.dg
      refine Mk.bytes_eq ?_
      simp
theorem itoa_any (n : Nat) (hn : n ≤ 9999) (w : World) (ht : Tab w) :
    Calls Tryz.prog 52 #[.int .i64 (n : Int)] w fun e w' => e = .returned (.string (Mk.dig n)) ∧ Below w.heap.size w w' := by
  refine (Tryz.strconv_Itoa (n : Int) (by omega) (by omega) w ht).mono ?_
  rintro e w' ⟨rfl, k, os, rfl⟩
  refine ⟨?_, rfl, rfl, rfl, by simp [Sort.grow], fun i hi => ?_⟩
  · rw [Lib.itoa_nonneg, dig_dec]
  · have : i < (w.drewN k).heap.size := hi
    rw [Sort.heap_grow_old _ _ this]
    rfl

/-- one block alone -/
def One (f : Nat) : Nat → Prop := fun k => k = f
theorem Only.put {f : Nat} {w w' : World} (h : Only (One f) w w') (i : Nat) (u : Value) : Only (One f) w (w'.setCell ⟨f, i, none⟩ u) := h.set (show One f f from rfl) u

/-- what is left of a text that is taken apart -/
def flF (s : ByteArray) (m g : Bool) : Nat → Value
  | 0 => .string s
  | 1 => .bool m
  | _ => .bool g
/-- the words that are left; is all good so far? -/
def Fl (w : World) (f : Nat) (l : List ByteArray) (g : Bool) : Prop :=
  ∃ s m, w.rowIs f 145 3 (flF s m g) ∧ s.size ≤ 20 ∧ (m = true ∧ Mk.words s = l ∨ m = false ∧ l = [])
theorem Fl.size {w : World} {f : Nat} {l : List ByteArray} {g : Bool} (h : Fl w f l g) : (Mk.hd l).size ≤ 20 := by
  obtain ⟨s, m, _, hs, ⟨_, rfl⟩ | ⟨_, rfl⟩⟩ := h
  · unfold Mk.hd
    cases hw : Mk.words s with
    | nil => show (0 : Nat) ≤ 20; omega
    | cons x r =>
      have := Mk.words_size (s := s) (x := x) (by rw [hw]; exact List.mem_cons_self)
      show x.size ≤ 20
      omega
  · show (0 : Nat) ≤ 20; omega
theorem Fl.below {w w' : World} {f : Nat} {l : List ByteArray} {g : Bool} (h : Fl w f l g) (hb : Below w.heap.size w w') : Fl w' f l g := by
  obtain ⟨s, m, hr, hs, hm⟩ := h
  exact ⟨s, m, hr.of_block (hb.block f hr.lt), hs, hm⟩
theorem Fl.setG {w : World} {f : Nat} {l : List ByteArray} {g : Bool} (h : Fl w f l g) (b : Bool) : Fl (w.setCell ⟨f, 2, none⟩ (.bool b)) f l b := by
  obtain ⟨s, m, hr, hs, hm⟩ := h
  exact ⟨s, m, (hr.set 2 _).congr (fun j hj => by match j, hj with | 0, _ => rfl | 1, _ => rfl | 2, _ => rfl), hs, hm⟩
theorem Fl.other {w : World} {f k i : Nat} {l : List ByteArray} {g : Bool} (h : Fl w f l g) (hk : f ≠ k) (u : Value) : Fl (w.setCell ⟨k, i, none⟩ u) f l g := by
  obtain ⟨s, m, hr, hs, hm⟩ := h
  exact ⟨s, m, hr.setOther hk u, hs, hm⟩
theorem Fl.lt {w : World} {f : Nat} {l : List ByteArray} {g : Bool} (h : Fl w f l g) : f < w.heap.size := by
  obtain ⟨s, m, hr, _⟩ := h
  exact hr.lt
theorem Fl.kind {w : World} {f : Nat} {l : List ByteArray} {g : Bool} (h : Fl w f l g) : Kind w f 145 := by
  obtain ⟨s, m, hr, _⟩ := h
  exact row_kind hr

set_option maxRecDepth 100000 in
set_option maxHeartbeats 2000000 in
theorem next_any (f : Nat) (l : List ByteArray) (g : Bool) (w : World) (hF : Fl w f l g) :
    Calls Tryz.prog 75 #[.pointer (some ⟨f, 0, none⟩)] w fun e w' => e = .returned (.string (Mk.hd l)) ∧ Fl w' f l.tail (g && Mk.some' l) ∧ Only (One f) w w' := by
  have HF : Hid (Fl w f l g) := hF
  obtain ⟨s, m, hr, hs, hm⟩ := hF
  have HR : Hid (w.rowIs f 145 3 (flF s m g)) := hr
  have c0 := hr.cell (i := 0) (by omega)
  have c1 := hr.cell (i := 1) (by omega)
  have c2 := hr.cell (i := 2) (by omega)
  have z0 := hr.frozen 0
  have z1 := hr.frozen 1
  have z2 := hr.frozen 2
  simp only [flF] at c0 c1 c2
  clear hr
  rcases hm with ⟨rfl, hl⟩ | ⟨rfl, rfl⟩
  · have HL : Hid (Mk.words s = l) := hl
    have hs' : (s.size : Int) ≤ 20 := by omega
    clear hl
    go_enter Tryz.func75, Tryz.ntmps75
    go_wp2
    go_loop [4] (fun j => ∃ k : Nat, k ≤ s.size ∧ j = .int .i64 k ∧ ∀ i, i < k → Mk.bt s i ≠ 32) (fun j => s.size - (intOf j).toNat)
    case atStart => exact ⟨0, Nat.zero_le _, rfl, fun i hi => by omega⟩
    case round =>
      obtain ⟨k, hk, rfl, hn⟩ := hrel
      have HN : Hid (∀ i, i < k → Mk.bt s i ≠ 32) := hn
      clear hn
      by_cases hlt : k < s.size
      · have hlt' : (k : Int) < (s.size : Int) := by omega
        have HB : Hid (s[k].toNat = Mk.bt s k) := Mk.bt_at hlt
        by_cases hsp : s[k].toNat = 32
        · have hsp' : ((s[k].toNat : Int) == 32) = true := by rw [beq_iff_eq]; omega
          have HW : Hid (l = s.extract 0 k :: Mk.words (s.extract (k + 1) s.size)) := (by rw [← HL.out]; exact Mk.words_at hlt (by rw [← HB.out]; exact hsp) HN.out : l = s.extract 0 k :: Mk.words (s.extract (k + 1) s.size))
          have hle : (k : Int) + 1 ≤ (s.size : Int) := by omega
          have hle2 : (k : Int) ≤ (s.size : Int) := by omega
          clear hsp
          go_wp2
          go_ret
          rw [HW.out]
          refine ⟨rfl, ⟨s.extract (k + 1) s.size, true, ?_, ?_, .inl ⟨rfl, rfl⟩⟩, (Only.refl (One f) w).put _ _⟩
          · exact (HR.out.set 0 _).congr (fun j hj => by match j, hj with | 0, _ => rfl | 1, _ => rfl | 2, _ => simp [flF, Mk.some'])
          · have := Mk.extract_le s (k + 1) s.size
            omega
        · have hsp' : ((s[k].toNat : Int) == 32) = false := by rw [beq_eq_false_iff_ne]; omega
          have HN' : Hid (∀ i, i < k + 1 → Mk.bt s i ≠ 32) := by
            intro i hi
            by_cases e : i = k
            · subst e; rw [← HB.out]; exact hsp
            · exact HN.out i (by omega)
          clear hsp
          go_wp2
          go_round
          case rel => exact ⟨k + 1, by omega, by go_num, HN'.out⟩
          case measure => simp [intOf]; omega
      · obtain rfl : k = s.size := by omega
        have HW : Hid (l = [s]) := (by rw [← HL.out]; exact Mk.words_one HN.out : l = [s])
        go_wp2
        go_ret
        rw [HW.out]
        refine ⟨rfl, ⟨⟨#[]⟩, false, ?_, ?_, .inr ⟨rfl, rfl⟩⟩, ((Only.refl (One f) w).put _ _).put _ _⟩
        · exact ((HR.out.set 0 _).set 1 _).congr (fun j hj => by match j, hj with | 0, _ => rfl | 1, _ => rfl | 2, _ => simp [flF, Mk.some'])
        · show (0 : Nat) ≤ 20; omega
  · go_enter Tryz.func75, Tryz.ntmps75
    go_wp2
    go_ret
    refine ⟨rfl, ?_, (Only.refl (One f) w).put _ _⟩
    have := HF.out.setG false
    simpa [Mk.some'] using this

/-- what the program's readDigits answers -/
def Mk.rgOk (s : ByteArray) (hi : Nat) : Bool := decide (1 ≤ s.size) && Mk.digs s s.size && decide (Mk.numTo s s.size ≤ hi)
def Mk.rgV (s : ByteArray) (hi : Nat) : Nat := if Mk.rgOk s hi then Mk.numTo s s.size else 0
theorem Mk.rg_rd {s : ByteArray} {hi : Nat} (hh : hi ≤ 9999) (h3 : ¬ (Mk.bt s 0 = 48 ∧ 1 < s.size)) : Mk.rgOk s hi = Mk.rdOk s hi ∧ Mk.rgV s hi = Mk.rdV s hi := by
  have e : Mk.rgOk s hi = Mk.rdOk s hi := by
    cases hg : Mk.rgOk s hi with
    | true =>
      unfold Mk.rgOk at hg
      simp only [Bool.and_eq_true, decide_eq_true_eq] at hg
      unfold Mk.rdOk
      rw [Mk.numOk_of hg.1.1 h3 hg.1.2 (by omega), Bool.true_and]
      exact (decide_eq_true hg.2).symm
    | false =>
      cases hd : Mk.rdOk s hi with
      | false => rfl
      | true =>
        unfold Mk.rdOk Mk.numOk at hd
        simp only [Bool.and_eq_true, decide_eq_true_eq] at hd
        unfold Mk.rgOk at hg
        rw [hd.1.2, decide_eq_true hd.1.1.1.1, decide_eq_true hd.2] at hg
        cases hg
  refine ⟨e, ?_⟩
  unfold Mk.rgV Mk.rdV
  rw [e]
set_option maxRecDepth 100000 in
set_option maxHeartbeats 2000000 in
theorem readDigits_any (s : ByteArray) (hi : Nat) (w : World) (hs : s.size ≤ 1000000) (hh : hi ≤ 9999) :
    Calls Tryz.prog 27 #[.string s, .int .i64 hi] w fun e w' => e = .returned (.tuple #[.int .i64 (Mk.rgV s hi : Int), .bool (Mk.rgOk s hi)]) ∧ w' = w := by
  have HV : Hid (Mk.rgOk s hi = false → Mk.rgV s hi = 0) := fun h => by unfold Mk.rgV; rw [h]; rfl
  have hh' : (hi : Int) ≤ 9999 := by omega
  by_cases h0 : s.size = 0
  · have hb : (s.toList == []) = true := by
      rw [ByteArray.toList_eq, beq_iff_eq]
      have : s.data.toList.length = 0 := by simpa using h0
      exact List.eq_nil_of_length_eq_zero this
    have HZ : Hid (Mk.rgOk s hi = false) := (by unfold Mk.rgOk; rw [decide_eq_false (by omega), Bool.false_and, Bool.false_and] : Mk.rgOk s hi = false)
    clear h0
    go_enter Tryz.func27, Tryz.ntmps27
    go_wp2
    go_ret2
    exact ⟨by rw [HV.out HZ.out, HZ.out]; rfl, rfl⟩
  · have hb : (s.toList == []) = false := by
      rw [ByteArray.toList_eq, beq_eq_false_iff_ne]
      intro e
      have : s.data.toList.length = 0 := by rw [e]; rfl
      exact h0 (by simpa using this)
    have hpos : 0 < s.size := by omega
    have hpos' : (0 : Int) < (s.size : Int) := by omega
    have HY : Hid (Mk.digs s s.size = true → Mk.numTo s s.size ≤ hi → Mk.rgOk s hi = true) := fun h h' => by
      unfold Mk.rgOk
      rw [h, decide_eq_true (by omega : 1 ≤ s.size), decide_eq_true h']
      rfl
    have HN : Hid (Mk.digs s s.size = false → Mk.rgOk s hi = false) := fun h => by unfold Mk.rgOk; rw [h, Bool.and_false, Bool.false_and]
    clear h0
    go_enter Tryz.func27, Tryz.ntmps27
    go_wp2
    go_loop [6, 7] (fun x j => ∃ k : Nat, k ≤ s.size ∧ j = .int .i64 k ∧ x = .int .i64 (Mk.numTo s k : Int) ∧ Mk.digs s k = true ∧ Mk.numTo s k ≤ hi) (fun _ j => s.size - (intOf j).toNat)
    case atStart => exact ⟨0, Nat.zero_le _, rfl, rfl, rfl, Nat.zero_le _⟩
    case round =>
      obtain ⟨k, hk, rfl, rfl, hd, hle⟩ := hrel
      have hb3 : (Mk.numTo s k : Int) ≤ (hi : Int) := by omega
      have HD : Hid (Mk.digs s k = true) := hd
      have HLe : Hid (Mk.numTo s k ≤ hi) := hle
      clear hd hle
      by_cases hlt : k < s.size
      · have hlt' : (k : Int) < (s.size : Int) := by omega
        have HB : Hid (s[k].toNat = Mk.bt s k) := Mk.bt_at hlt
        have h256 : s[k].toNat < 256 := UInt8.toNat_lt _
        by_cases hdig : 48 ≤ s[k].toNat ∧ s[k].toNat ≤ 57
        · have d1 : ¬ (s[k].toNat : Int) < 48 := by omega
          have d2 : ¬ (57 : Int) < (s[k].toNat : Int) := by omega
          have HS : Hid (Mk.digs s (k + 1) = true) := by
            show (Mk.digs s k && Mk.isD s k) = true
            rw [HD.out, Bool.true_and]
            unfold Mk.isD
            rw [← HB.out]
            simp [hdig]
          have HE : Hid ((Mk.numTo s (k + 1) : Int) = (Mk.numTo s k : Int) * 10 + ((s[k].toNat : Int) - 48)) := (by
            show ((Mk.numTo s k * 10 + (Mk.bt s k - 48) : Nat) : Int) = _
            rw [← HB.out]; omega : (Mk.numTo s (k + 1) : Int) = (Mk.numTo s k : Int) * 10 + ((s[k].toNat : Int) - 48))
          by_cases hbig : (hi : Int) < (Mk.numTo s k : Int) * 10 + ((s[k].toNat : Int) - 48)
          · have HZ : Hid (Mk.rgOk s hi = false) := (by
              have h1 := Mk.numTo_mono s (k + 1) s.size (by omega)
              have h2 := HE.out
              unfold Mk.rgOk
              rw [decide_eq_false (by omega : ¬ Mk.numTo s s.size ≤ hi), Bool.and_false] : Mk.rgOk s hi = false)
            clear hdig
            go_wp2
            go_ret2
            exact ⟨by rw [HV.out HZ.out, HZ.out]; rfl, rfl⟩
          · have HLe' : Hid (Mk.numTo s (k + 1) ≤ hi) := (by have := HE.out; omega : Mk.numTo s (k + 1) ≤ hi)
            clear hdig
            go_wp2
            go_round
            case rel => exact ⟨k + 1, by omega, by go_num, by rw [HE.out], HS.out, HLe'.out⟩
            case measure => simp [intOf]; omega
        · have HZ : Hid (Mk.rgOk s hi = false) := HN.out (Mk.digs_no (j := k) (by unfold Mk.isD; rw [← HB.out]; rw [← Bool.not_eq_true]; simpa using hdig) hlt)
          by_cases d1 : (s[k].toNat : Int) < 48
          · clear hdig
            go_wp2
            go_ret2
            exact ⟨by rw [HV.out HZ.out, HZ.out]; rfl, rfl⟩
          · have d2 : (57 : Int) < (s[k].toNat : Int) := by omega
            clear hdig
            go_wp2
            go_ret2
            exact ⟨by rw [HV.out HZ.out, HZ.out]; rfl, rfl⟩
      · obtain rfl : k = s.size := by omega
        have HZ : Hid (Mk.rgV s hi = Mk.numTo s s.size ∧ Mk.rgOk s hi = true) := by
          have := HY.out HD.out HLe.out
          exact ⟨by unfold Mk.rgV; rw [this]; rfl, this⟩
        go_wp2
        go_ret2
        exact ⟨by rw [HZ.out.1, HZ.out.2]; rfl, rfl⟩

set_option maxRecDepth 100000 in
set_option maxHeartbeats 2000000 in
theorem readNumber_any (s : ByteArray) (hi : Nat) (w : World) (hs : s.size ≤ 1000000) (hh : hi ≤ 9999) :
    Calls Tryz.prog 97 #[.string s, .int .i64 hi] w fun e w' => e = .returned (.tuple #[.int .i64 (Mk.rdV s hi : Int), .bool (Mk.rdOk s hi)]) ∧ w' = w := by
  have HV : Hid (Mk.rdOk s hi = false → Mk.rdV s hi = 0) := fun h => by unfold Mk.rdV; rw [h]; rfl
  by_cases h1 : 1 < s.size
  · have hpos : 0 < s.size := by omega
    have hpos' : (0 : Int) < (s.size : Int) := by omega
    have h1' : (1 : Int) < (s.size : Int) := by omega
    have HB0 : Hid (s[0].toNat = Mk.bt s 0) := Mk.bt_at hpos
    by_cases hz : s[0].toNat = 48
    · have hz1 : ((s[0].toNat : Int) == 48) = true := by simp; omega
      have HZ : Hid (Mk.rdOk s hi = false) := Mk.rd_no (Mk.numOk_no (.inr (.inr (.inl ⟨by rw [← HB0.out]; exact hz, h1⟩))))
      clear hz
      go_enter Tryz.func97, Tryz.ntmps97
      go_wp2
      go_ret2
      exact ⟨by rw [HV.out HZ.out, HZ.out]; rfl, rfl⟩
    · have hz1 : ((s[0].toNat : Int) == 48) = false := by simp; omega
      have HE := (show Hid _ from Mk.rg_rd (s := s) hh (fun h => hz (by rw [HB0.out]; exact h.1)))
      clear hz
      go_enter Tryz.func97, Tryz.ntmps97
      go_wp2_with fail
      refine (readDigits_any s hi w hs hh).mono ?_
      rintro e w2 ⟨rfl, hw2⟩
      obtain rfl := hw2.symm
      go_wp2
      go_ret2
      exact ⟨by rw [HE.out.1, HE.out.2]; rfl, rfl⟩
  · have h1' : ¬ (1 : Int) < (s.size : Int) := by omega
    have HE := (show Hid _ from Mk.rg_rd (s := s) hh (fun h => h1 h.2))
    go_enter Tryz.func97, Tryz.ntmps97
    go_wp2_with fail
    refine (readDigits_any s hi w hs hh).mono ?_
    rintro e w2 ⟨rfl, hw2⟩
    obtain rfl := hw2.symm
    go_wp2
    go_ret2
    exact ⟨by rw [HE.out.1, HE.out.2]; rfl, rfl⟩

set_option maxRecDepth 100000 in
set_option maxHeartbeats 2000000 in
theorem fnumber_any (f : Nat) (l : List ByteArray) (g : Bool) (lo hi : Nat) (w : World) (hh : hi ≤ 9999) (hF : Fl w f l g) :
    Calls Tryz.prog 74 #[.pointer (some ⟨f, 0, none⟩), .int .i64 lo, .int .i64 hi] w fun e w' => e = .returned (.int .i64 (Mk.nv l lo hi : Int)) ∧ Fl w' f l.tail (g && Mk.ng l lo hi) ∧ Only (One f) w w' := by
  have HF : Hid (Fl w f l g) := hF
  have HS : Hid ((Mk.hd l).size ≤ 20) := hF.size
  have HG : Hid (Mk.some' l = false → Mk.ng l lo hi = false) := fun h => by
    cases l with
    | nil => exact Mk.ng_nil lo hi
    | cons x r => cases h
  clear hF
  go_enter Tryz.func74, Tryz.ntmps74
  go_wp2_with fail
  refine (next_any f l g w HF.out).mono ?_
  rintro e w1 ⟨rfl, hF1, ho1⟩
  have HF1 : Hid (Fl w1 f l.tail (g && Mk.some' l)) := hF1
  have HO1 : Hid (Only (One f) w w1) := ho1
  clear hF1 ho1
  go_wp2_with fail
  refine (readNumber_any (Mk.hd l) hi w1 (by have := HS.out; omega) hh).mono ?_
  rintro e w2 ⟨rfl, hw2⟩
  obtain rfl := hw2.symm
  have HX := (show Hid _ from Mk.rd_numB (Mk.hd l) lo hi)
  have z2 : w1.frozen? ⟨f, 2, none⟩ = false := by obtain ⟨s, m, hr, _⟩ := HF1.out; exact hr.frozen 2
  have c2 : ∃ b, w1.cell? ⟨f, 2, none⟩ = some (.bool b) := by obtain ⟨s, m, hr, _⟩ := HF1.out; exact ⟨_, hr.cell (i := 2) (by omega)⟩
  obtain ⟨b2, c2⟩ := c2
  by_cases hok : Mk.rdOk (Mk.hd l) hi = true
  · by_cases hlo : (Mk.rdV (Mk.hd l) hi : Int) < (lo : Int)
    · have HN : Hid (Mk.ng l lo hi = false) := (by
        unfold Mk.ng
        rw [HX.out.1, hok, Bool.true_and, decide_eq_false_iff_not]
        omega : Mk.ng l lo hi = false)
      go_wp2
      go_ret
      refine ⟨?_, ?_, HO1.out.put _ _⟩
      · unfold Mk.nv; rw [HN.out]; rfl
      · rw [HN.out, Bool.and_false]; exact HF1.out.setG false
    · have HN : Hid (Mk.ng l lo hi = true) := (by
        unfold Mk.ng
        rw [HX.out.1, hok, Bool.true_and, decide_eq_true_eq]
        omega : Mk.ng l lo hi = true)
      have HV : Hid (Mk.nv l lo hi = Mk.rdV (Mk.hd l) hi) := (by
        unfold Mk.nv
        rw [HN.out, HX.out.2 HN.out]
        rfl : Mk.nv l lo hi = Mk.rdV (Mk.hd l) hi)
      have HSm : Hid (Mk.some' l = true) := by
        rw [← Bool.not_eq_false]
        intro h
        have := HG.out h
        rw [HN.out] at this
        cases this
      go_wp2
      go_ret
      refine ⟨by rw [HV.out]; rfl, ?_, HO1.out⟩
      have := HF1.out
      rw [HSm.out] at this
      rw [HN.out]
      exact this
  · have hok' : Mk.rdOk (Mk.hd l) hi = false := by simpa using hok
    have HN : Hid (Mk.ng l lo hi = false) := (by
        unfold Mk.ng
        rw [HX.out.1, hok', Bool.false_and] : Mk.ng l lo hi = false)
    clear hok
    go_wp2
    go_ret
    refine ⟨?_, ?_, HO1.out.put _ _⟩
    · unfold Mk.nv; rw [HN.out]; rfl
    · rw [HN.out, Bool.and_false]; exact HF1.out.setG false

end Go.Proofs.YtmebcdpdpcpnmaaGreatDoor

namespace Go.Proofs.YtmebcdpdpcpnmaaGreatDoor
open Go.RowKit

set_option maxRecDepth 100000 in
set_option maxHeartbeats 1000000 in
theorem fvoyage_any (f : Nat) (l : List ByteArray) (g : Bool) (w : World) (hF : Fl w f l g) :
    Calls Tryz.prog 98 #[.pointer (some ⟨f, 0, none⟩)] w fun e w' => e = .returned (.int .i64 (Mk.nv l 0 1 : Int)) ∧ Fl w' f l.tail (g && Mk.ng l 0 1) ∧ Only (One f) w w' := by
  have HF : Hid (Fl w f l g) := hF
  clear hF
  go_enter Tryz.func98, Tryz.ntmps98
  go_wp2_with fail
  refine (fnumber_any f l g 0 1 w (by omega) HF.out).mono ?_
  rintro e w1 ⟨rfl, hF1, ho1⟩
  have HF1 : Hid (Fl w1 f l.tail (g && Mk.ng l 0 1)) := hF1
  have HO1 : Hid (Only (One f) w w1) := ho1
  clear hF1 ho1
  go_wp2
  go_ret
  exact ⟨rfl, HF1.out, HO1.out⟩

/-- a mode, as a number -/
def mdI (b : Bool) : Int := if b then 1 else 0

set_option maxRecDepth 100000 in
set_option maxHeartbeats 1000000 in
theorem fmode_any (f : Nat) (l : List ByteArray) (g : Bool) (w : World) (hF : Fl w f l g) :
    Calls Tryz.prog 99 #[.pointer (some ⟨f, 0, none⟩)] w fun e w' => e = .returned (.int .i64 (mdI (Mk.mv l))) ∧ Fl w' f l.tail (g && Mk.mg l) ∧ Only (One f) w w' := by
  have HF : Hid (Fl w f l g) := hF
  have HG : Hid (Mk.some' l = false → Mk.mg l = false) := fun h => by
    cases l with
    | nil => exact Mk.mg_nil
    | cons x r => cases h
  clear hF
  go_enter Tryz.func99, Tryz.ntmps99
  go_wp2_with fail
  refine (next_any f l g w HF.out).mono ?_
  rintro e w1 ⟨rfl, hF1, ho1⟩
  have HF1 : Hid (Fl w1 f l.tail (g && Mk.some' l)) := hF1
  have HO1 : Hid (Only (One f) w w1) := ho1
  clear hF1 ho1
  have z2 : w1.frozen? ⟨f, 2, none⟩ = false := by obtain ⟨s, m, hr, _⟩ := HF1.out; exact hr.frozen 2
  have c2 : ∃ b, w1.cell? ⟨f, 2, none⟩ = some (.bool b) := by obtain ⟨s, m, hr, _⟩ := HF1.out; exact ⟨_, hr.cell (i := 2) (by omega)⟩
  obtain ⟨b2, c2⟩ := c2
  have HYes : Hid (Mk.mg l = true → Fl w1 f l.tail (g && Mk.mg l)) := fun h => by
    have hs : Mk.some' l = true := by
      rw [← Bool.not_eq_false]
      intro h'
      have := HG.out h'
      rw [h] at this
      cases this
    have := HF1.out
    rw [hs] at this
    rw [h]
    exact this
  have HNo : Hid (Mk.mg l = false → Fl (w1.setCell ⟨f, 2, none⟩ (.bool false)) f l.tail (g && Mk.mg l)) := fun h => by
    rw [h, Bool.and_false]
    exact HF1.out.setG false
  by_cases hu : Mk.isU (Mk.hd l) = true
  · have hu' : ((Mk.hd l).toList == [117]) = true := by have := hu; unfold Mk.isU at this; simpa [Mk.bu] using this
    have hm : Mk.isM (Mk.hd l) = false := by
      unfold Mk.isM
      rw [eq_of_beq hu']
      simp [Mk.bm]
    have HM : Hid (Mk.mg l = true ∧ Mk.mv l = false) := (⟨by unfold Mk.mg; rw [hu]; rfl, hm⟩ : Mk.mg l = true ∧ Mk.mv l = false)
    clear hu hm
    go_wp2
    go_ret
    exact ⟨by rw [HM.out.2]; rfl, HYes.out HM.out.1, HO1.out⟩
  · have hu' : ((Mk.hd l).toList == [117]) = false := by
      rw [← Bool.not_eq_true]
      intro e
      apply hu
      unfold Mk.isU
      simpa [Mk.bu] using e
    by_cases hm : Mk.isM (Mk.hd l) = true
    · have hm' : ((Mk.hd l).toList == [109]) = true := by have := hm; unfold Mk.isM at this; simpa [Mk.bm] using this
      have HM : Hid (Mk.mg l = true ∧ Mk.mv l = true) := (⟨by unfold Mk.mg; rw [hm, Bool.or_true], hm⟩ : Mk.mg l = true ∧ Mk.mv l = true)
      clear hu hm
      go_wp2
      go_ret
      exact ⟨by rw [HM.out.2]; rfl, HYes.out HM.out.1, HO1.out⟩
    · have hm' : ((Mk.hd l).toList == [109]) = false := by
        rw [← Bool.not_eq_true]
        intro e
        apply hm
        unfold Mk.isM
        simpa [Mk.bm] using e
      have HM : Hid (Mk.mg l = false ∧ Mk.mv l = false) := (⟨by unfold Mk.mg; rw [Bool.eq_false_iff.2 hu, Bool.eq_false_iff.2 hm]; rfl, Bool.eq_false_iff.2 hm⟩ : Mk.mg l = false ∧ Mk.mv l = false)
      clear hu hm
      go_wp2
      go_ret
      exact ⟨by rw [HM.out.2]; rfl, HNo.out HM.out.1, HO1.out.put _ _⟩

/-- a request in memory -/
def rqF (c r : Int) (t : ByteArray) (v a p q o : Int) (m : Bool) : Nat → Value
  | 0 => .int .i64 c
  | 1 => .int .i64 r
  | 2 => .string t
  | 3 => .int .i64 v
  | 4 => .int .i64 a
  | 5 => .int .i64 p
  | 6 => .int .i64 q
  | 7 => .int .i64 o
  | _ => .int .i64 (mdI m)
def Two (f rq : Nat) : Nat → Prop := fun k => k = f ∨ k = rq
structure Rq (w : World) (f rq : Nat) (l : List ByteArray) (g : Bool) (F : Nat → Value) : Prop where
  fl : Fl w f l g
  rq : w.rowIs rq 105 9 F
section
variable {w w1 : World} {f rq : Nat} {l l' : List ByteArray} {g g' : Bool} {F F' : Nat → Value}
theorem Rq.ne (h : Rq w f rq l g F) : f ≠ rq := h.fl.kind.ne (row_kind h.rq) (by decide)
theorem Rq.step (h : Rq w f rq l g F) (hf : Fl w1 f l' g') (ho : Only (One f) w w1) : Rq w1 f rq l' g' F :=
  ⟨hf, h.rq.of_block (ho.block rq h.rq.lt (fun e => h.ne (show rq = f from e).symm))⟩
theorem Rq.put (h : Rq w f rq l g F) (i : Nat) (u : Value) : Rq (w.setCell ⟨rq, i, none⟩ u) f rq l g (fun j => if j = i then u else F j) :=
  ⟨h.fl.other h.ne u, h.rq.set i u⟩
theorem Rq.congr (h : Rq w f rq l g F) (hF : ∀ j, j < 9 → F j = F' j) : Rq w f rq l g F' := ⟨h.fl, h.rq.congr hF⟩
theorem Only.one (h : Only (One f) w w1) : Only (Two f rq) w w1 := ⟨h.os, h.tape, h.output, h.size, fun k hk hn => h.block k hk (fun e => hn (.inl e))⟩
theorem Only.two {w2 : World} (h : Only (Two f rq) w w1) (h' : Only (One f) w1 w2) : Only (Two f rq) w w2 := h.trans h' (fun _ _ e => .inl e)
theorem Only.put2 (h : Only (Two f rq) w w1) (i : Nat) (u : Value) : Only (Two f rq) w (w1.setCell ⟨rq, i, none⟩ u) := h.set (show Two f rq rq from .inr rfl) u
end

/-- what readRest leaves at a word -/
def RestIs (f rq : Nat) (l : List ByteArray) (g : Bool) (c r : Int) (d : Mk.Wd) (w : World) (e : Ending) (w' : World) : Prop :=
  e = .returned (.tuple #[]) ∧ Rq w' f rq (Mk.rL d l) (g && Mk.rG d l) (rqF c r d.text (Mk.rV d l) (Mk.rA d l) (Mk.rP d l) (Mk.rQ d l) (Mk.rO d l) (Mk.rM d l)) ∧ Only (Two f rq) w w'

set_option maxRecDepth 100000 in
set_option maxHeartbeats 2000000 in
theorem rest_pay (f rq : Nat) (l : List ByteArray) (g : Bool) (c r : Int) (w : World) (hQ : Rq w f rq l g (rqF c r ⟨#[112, 97, 121]⟩ 0 0 0 0 0 false)) :
    Calls Tryz.prog 76 #[.pointer (some ⟨f, 0, none⟩), .pointer (some ⟨rq, 0, none⟩)] w fun e w' => RestIs f rq l g c r .pay w e w' := by
  have c2 := hQ.rq.cell (i := 2) (by omega)
  simp only [rqF] at c2
  have HQ0 : Hid (Rq w f rq l g (rqF c r ⟨#[112, 97, 121]⟩ 0 0 0 0 0 false)) := hQ
  have HO0 : Hid (Only (Two f rq) w w) := Only.refl _ _
  clear hQ
  go_enter Tryz.func76, Tryz.ntmps76
  go_wp2_with fail
  refine (fnumber_any f l g 1 9999 _ (by omega) HQ0.out.fl).mono ?_
  rintro e w1 ⟨rfl, hf1, ho1⟩
  have hq1 := HQ0.out.step hf1 ho1
  have a4 := hq1.rq.cell (i := 4) (by omega)
  have z4 := hq1.rq.frozen 4
  simp only [rqF] at a4
  have HQ1 := (show Hid _ from hq1.put 4 (.int .i64 (Mk.nv l 1 9999 : Int)))
  have HO1 := (show Hid _ from (HO0.out.two ho1).put2 4 (.int .i64 (Mk.nv l 1 9999 : Int)))
  clear hf1 ho1 hq1
  go_wp2_with fail
  refine bodyPost_end (v := .tuple #[]) ?_ rfl ⟨rfl, ?_, HO1.out⟩
  · simp [results, Tryz.results76, go_sem]
  · rw [show (g && Mk.rG .pay l) = (g && Mk.ng l 1 9999) by first | rfl | simp only [Mk.rG, Bool.and_assoc]]
    exact HQ1.out.congr (fun j hj => by
      match j, hj with
      | 0, _ => rfl
      | 1, _ => rfl
      | 2, _ => rfl
      | 3, _ => rfl
      | 4, _ => rfl
      | 5, _ => rfl
      | 6, _ => rfl
      | 7, _ => rfl
      | 8, _ => rfl)

set_option maxRecDepth 100000 in
set_option maxHeartbeats 2000000 in
theorem rest_draw (f rq : Nat) (l : List ByteArray) (g : Bool) (c r : Int) (w : World) (hQ : Rq w f rq l g (rqF c r ⟨#[100, 114, 97, 119]⟩ 0 0 0 0 0 false)) :
    Calls Tryz.prog 76 #[.pointer (some ⟨f, 0, none⟩), .pointer (some ⟨rq, 0, none⟩)] w fun e w' => RestIs f rq l g c r .draw w e w' := by
  have c2 := hQ.rq.cell (i := 2) (by omega)
  simp only [rqF] at c2
  have HQ0 : Hid (Rq w f rq l g (rqF c r ⟨#[100, 114, 97, 119]⟩ 0 0 0 0 0 false)) := hQ
  have HO0 : Hid (Only (Two f rq) w w) := Only.refl _ _
  clear hQ
  go_enter Tryz.func76, Tryz.ntmps76
  go_wp2_with fail
  refine (fnumber_any f l g 1 9999 _ (by omega) HQ0.out.fl).mono ?_
  rintro e w1 ⟨rfl, hf1, ho1⟩
  have hq1 := HQ0.out.step hf1 ho1
  have a4 := hq1.rq.cell (i := 4) (by omega)
  have z4 := hq1.rq.frozen 4
  simp only [rqF] at a4
  have HQ1 := (show Hid _ from hq1.put 4 (.int .i64 (Mk.nv l 1 9999 : Int)))
  have HO1 := (show Hid _ from (HO0.out.two ho1).put2 4 (.int .i64 (Mk.nv l 1 9999 : Int)))
  clear hf1 ho1 hq1
  go_wp2_with fail
  refine bodyPost_end (v := .tuple #[]) ?_ rfl ⟨rfl, ?_, HO1.out⟩
  · simp [results, Tryz.results76, go_sem]
  · rw [show (g && Mk.rG .draw l) = (g && Mk.ng l 1 9999) by first | rfl | simp only [Mk.rG, Bool.and_assoc]]
    exact HQ1.out.congr (fun j hj => by
      match j, hj with
      | 0, _ => rfl
      | 1, _ => rfl
      | 2, _ => rfl
      | 3, _ => rfl
      | 4, _ => rfl
      | 5, _ => rfl
      | 6, _ => rfl
      | 7, _ => rfl
      | 8, _ => rfl)

set_option maxRecDepth 100000 in
set_option maxHeartbeats 2000000 in
theorem rest_bring (f rq : Nat) (l : List ByteArray) (g : Bool) (c r : Int) (w : World) (hQ : Rq w f rq l g (rqF c r ⟨#[98, 114, 105, 110, 103]⟩ 0 0 0 0 0 false)) :
    Calls Tryz.prog 76 #[.pointer (some ⟨f, 0, none⟩), .pointer (some ⟨rq, 0, none⟩)] w fun e w' => RestIs f rq l g c r .bring w e w' := by
  have c2 := hQ.rq.cell (i := 2) (by omega)
  simp only [rqF] at c2
  have HQ0 : Hid (Rq w f rq l g (rqF c r ⟨#[98, 114, 105, 110, 103]⟩ 0 0 0 0 0 false)) := hQ
  have HO0 : Hid (Only (Two f rq) w w) := Only.refl _ _
  clear hQ
  go_enter Tryz.func76, Tryz.ntmps76
  go_wp2_with fail
  refine (fvoyage_any f l g _ HQ0.out.fl).mono ?_
  rintro e w1 ⟨rfl, hf1, ho1⟩
  have hq1 := HQ0.out.step hf1 ho1
  have a3 := hq1.rq.cell (i := 3) (by omega)
  have z3 := hq1.rq.frozen 3
  simp only [rqF] at a3
  have HQ1 := (show Hid _ from hq1.put 3 (.int .i64 (Mk.nv l 0 1 : Int)))
  have HO1 := (show Hid _ from (HO0.out.two ho1).put2 3 (.int .i64 (Mk.nv l 0 1 : Int)))
  clear hf1 ho1 hq1
  go_wp2_with fail
  refine (fnumber_any f l.tail (g && Mk.ng l 0 1) 1 999 _ (by omega) HQ1.out.fl).mono ?_
  rintro e w2 ⟨rfl, hf2, ho2⟩
  have hq2 := HQ1.out.step hf2 ho2
  have a4 := hq2.rq.cell (i := 4) (by omega)
  have z4 := hq2.rq.frozen 4
  simp only [rqF] at a4
  have HQ2 := (show Hid _ from hq2.put 4 (.int .i64 (Mk.nv l.tail 1 999 : Int)))
  have HO2 := (show Hid _ from (HO1.out.two ho2).put2 4 (.int .i64 (Mk.nv l.tail 1 999 : Int)))
  clear hf2 ho2 hq2
  go_wp2_with fail
  refine bodyPost_end (v := .tuple #[]) ?_ rfl ⟨rfl, ?_, HO2.out⟩
  · simp [results, Tryz.results76, go_sem]
  · rw [show (g && Mk.rG .bring l) = ((g && Mk.ng l 0 1) && Mk.ng l.tail 1 999) by first | rfl | simp only [Mk.rG, Bool.and_assoc]]
    exact HQ2.out.congr (fun j hj => by
      match j, hj with
      | 0, _ => rfl
      | 1, _ => rfl
      | 2, _ => rfl
      | 3, _ => rfl
      | 4, _ => rfl
      | 5, _ => rfl
      | 6, _ => rfl
      | 7, _ => rfl
      | 8, _ => rfl)

set_option maxRecDepth 100000 in
set_option maxHeartbeats 2000000 in
theorem rest_fetch (f rq : Nat) (l : List ByteArray) (g : Bool) (c r : Int) (w : World) (hQ : Rq w f rq l g (rqF c r ⟨#[102, 101, 116, 99, 104]⟩ 0 0 0 0 0 false)) :
    Calls Tryz.prog 76 #[.pointer (some ⟨f, 0, none⟩), .pointer (some ⟨rq, 0, none⟩)] w fun e w' => RestIs f rq l g c r .fetch w e w' := by
  have c2 := hQ.rq.cell (i := 2) (by omega)
  simp only [rqF] at c2
  have HQ0 : Hid (Rq w f rq l g (rqF c r ⟨#[102, 101, 116, 99, 104]⟩ 0 0 0 0 0 false)) := hQ
  have HO0 : Hid (Only (Two f rq) w w) := Only.refl _ _
  clear hQ
  go_enter Tryz.func76, Tryz.ntmps76
  go_wp2_with fail
  refine (fvoyage_any f l g _ HQ0.out.fl).mono ?_
  rintro e w1 ⟨rfl, hf1, ho1⟩
  have hq1 := HQ0.out.step hf1 ho1
  have a3 := hq1.rq.cell (i := 3) (by omega)
  have z3 := hq1.rq.frozen 3
  simp only [rqF] at a3
  have HQ1 := (show Hid _ from hq1.put 3 (.int .i64 (Mk.nv l 0 1 : Int)))
  have HO1 := (show Hid _ from (HO0.out.two ho1).put2 3 (.int .i64 (Mk.nv l 0 1 : Int)))
  clear hf1 ho1 hq1
  go_wp2_with fail
  refine (fnumber_any f l.tail (g && Mk.ng l 0 1) 1 999 _ (by omega) HQ1.out.fl).mono ?_
  rintro e w2 ⟨rfl, hf2, ho2⟩
  have hq2 := HQ1.out.step hf2 ho2
  have a4 := hq2.rq.cell (i := 4) (by omega)
  have z4 := hq2.rq.frozen 4
  simp only [rqF] at a4
  have HQ2 := (show Hid _ from hq2.put 4 (.int .i64 (Mk.nv l.tail 1 999 : Int)))
  have HO2 := (show Hid _ from (HO1.out.two ho2).put2 4 (.int .i64 (Mk.nv l.tail 1 999 : Int)))
  clear hf2 ho2 hq2
  go_wp2_with fail
  refine bodyPost_end (v := .tuple #[]) ?_ rfl ⟨rfl, ?_, HO2.out⟩
  · simp [results, Tryz.results76, go_sem]
  · rw [show (g && Mk.rG .fetch l) = ((g && Mk.ng l 0 1) && Mk.ng l.tail 1 999) by first | rfl | simp only [Mk.rG, Bool.and_assoc]]
    exact HQ2.out.congr (fun j hj => by
      match j, hj with
      | 0, _ => rfl
      | 1, _ => rfl
      | 2, _ => rfl
      | 3, _ => rfl
      | 4, _ => rfl
      | 5, _ => rfl
      | 6, _ => rfl
      | 7, _ => rfl
      | 8, _ => rfl)

set_option maxRecDepth 100000 in
set_option maxHeartbeats 2000000 in
theorem rest_buy (f rq : Nat) (l : List ByteArray) (g : Bool) (c r : Int) (w : World) (hQ : Rq w f rq l g (rqF c r ⟨#[98, 117, 121]⟩ 0 0 0 0 0 false)) :
    Calls Tryz.prog 76 #[.pointer (some ⟨f, 0, none⟩), .pointer (some ⟨rq, 0, none⟩)] w fun e w' => RestIs f rq l g c r .buy w e w' := by
  have c2 := hQ.rq.cell (i := 2) (by omega)
  simp only [rqF] at c2
  have HQ0 : Hid (Rq w f rq l g (rqF c r ⟨#[98, 117, 121]⟩ 0 0 0 0 0 false)) := hQ
  have HO0 : Hid (Only (Two f rq) w w) := Only.refl _ _
  clear hQ
  go_enter Tryz.func76, Tryz.ntmps76
  go_wp2_with fail
  refine (fvoyage_any f l g _ HQ0.out.fl).mono ?_
  rintro e w1 ⟨rfl, hf1, ho1⟩
  have hq1 := HQ0.out.step hf1 ho1
  have a3 := hq1.rq.cell (i := 3) (by omega)
  have z3 := hq1.rq.frozen 3
  simp only [rqF] at a3
  have HQ1 := (show Hid _ from hq1.put 3 (.int .i64 (Mk.nv l 0 1 : Int)))
  have HO1 := (show Hid _ from (HO0.out.two ho1).put2 3 (.int .i64 (Mk.nv l 0 1 : Int)))
  clear hf1 ho1 hq1
  go_wp2_with fail
  refine (fnumber_any f l.tail (g && Mk.ng l 0 1) 1 99 _ (by omega) HQ1.out.fl).mono ?_
  rintro e w2 ⟨rfl, hf2, ho2⟩
  have hq2 := HQ1.out.step hf2 ho2
  have a5 := hq2.rq.cell (i := 5) (by omega)
  have z5 := hq2.rq.frozen 5
  simp only [rqF] at a5
  have HQ2 := (show Hid _ from hq2.put 5 (.int .i64 (Mk.nv l.tail 1 99 : Int)))
  have HO2 := (show Hid _ from (HO1.out.two ho2).put2 5 (.int .i64 (Mk.nv l.tail 1 99 : Int)))
  clear hf2 ho2 hq2
  go_wp2_with fail
  refine (fnumber_any f l.tail.tail ((g && Mk.ng l 0 1) && Mk.ng l.tail 1 99) 1 20 _ (by omega) HQ2.out.fl).mono ?_
  rintro e w3 ⟨rfl, hf3, ho3⟩
  have hq3 := HQ2.out.step hf3 ho3
  have a6 := hq3.rq.cell (i := 6) (by omega)
  have z6 := hq3.rq.frozen 6
  simp only [rqF] at a6
  have HQ3 := (show Hid _ from hq3.put 6 (.int .i64 (Mk.nv l.tail.tail 1 20 : Int)))
  have HO3 := (show Hid _ from (HO2.out.two ho3).put2 6 (.int .i64 (Mk.nv l.tail.tail 1 20 : Int)))
  clear hf3 ho3 hq3
  go_wp2_with fail
  refine bodyPost_end (v := .tuple #[]) ?_ rfl ⟨rfl, ?_, HO3.out⟩
  · simp [results, Tryz.results76, go_sem]
  · rw [show (g && Mk.rG .buy l) = (((g && Mk.ng l 0 1) && Mk.ng l.tail 1 99) && Mk.ng l.tail.tail 1 20) by first | rfl | simp only [Mk.rG, Bool.and_assoc]]
    exact HQ3.out.congr (fun j hj => by
      match j, hj with
      | 0, _ => rfl
      | 1, _ => rfl
      | 2, _ => rfl
      | 3, _ => rfl
      | 4, _ => rfl
      | 5, _ => rfl
      | 6, _ => rfl
      | 7, _ => rfl
      | 8, _ => rfl)

set_option maxRecDepth 100000 in
set_option maxHeartbeats 2000000 in
theorem rest_sell (f rq : Nat) (l : List ByteArray) (g : Bool) (c r : Int) (w : World) (hQ : Rq w f rq l g (rqF c r ⟨#[115, 101, 108, 108]⟩ 0 0 0 0 0 false)) :
    Calls Tryz.prog 76 #[.pointer (some ⟨f, 0, none⟩), .pointer (some ⟨rq, 0, none⟩)] w fun e w' => RestIs f rq l g c r .sell w e w' := by
  have c2 := hQ.rq.cell (i := 2) (by omega)
  simp only [rqF] at c2
  have HQ0 : Hid (Rq w f rq l g (rqF c r ⟨#[115, 101, 108, 108]⟩ 0 0 0 0 0 false)) := hQ
  have HO0 : Hid (Only (Two f rq) w w) := Only.refl _ _
  clear hQ
  go_enter Tryz.func76, Tryz.ntmps76
  go_wp2_with fail
  refine (fvoyage_any f l g _ HQ0.out.fl).mono ?_
  rintro e w1 ⟨rfl, hf1, ho1⟩
  have hq1 := HQ0.out.step hf1 ho1
  have a3 := hq1.rq.cell (i := 3) (by omega)
  have z3 := hq1.rq.frozen 3
  simp only [rqF] at a3
  have HQ1 := (show Hid _ from hq1.put 3 (.int .i64 (Mk.nv l 0 1 : Int)))
  have HO1 := (show Hid _ from (HO0.out.two ho1).put2 3 (.int .i64 (Mk.nv l 0 1 : Int)))
  clear hf1 ho1 hq1
  go_wp2_with fail
  refine (fnumber_any f l.tail (g && Mk.ng l 0 1) 1 99 _ (by omega) HQ1.out.fl).mono ?_
  rintro e w2 ⟨rfl, hf2, ho2⟩
  have hq2 := HQ1.out.step hf2 ho2
  have a5 := hq2.rq.cell (i := 5) (by omega)
  have z5 := hq2.rq.frozen 5
  simp only [rqF] at a5
  have HQ2 := (show Hid _ from hq2.put 5 (.int .i64 (Mk.nv l.tail 1 99 : Int)))
  have HO2 := (show Hid _ from (HO1.out.two ho2).put2 5 (.int .i64 (Mk.nv l.tail 1 99 : Int)))
  clear hf2 ho2 hq2
  go_wp2_with fail
  refine (fnumber_any f l.tail.tail ((g && Mk.ng l 0 1) && Mk.ng l.tail 1 99) 1 20 _ (by omega) HQ2.out.fl).mono ?_
  rintro e w3 ⟨rfl, hf3, ho3⟩
  have hq3 := HQ2.out.step hf3 ho3
  have a6 := hq3.rq.cell (i := 6) (by omega)
  have z6 := hq3.rq.frozen 6
  simp only [rqF] at a6
  have HQ3 := (show Hid _ from hq3.put 6 (.int .i64 (Mk.nv l.tail.tail 1 20 : Int)))
  have HO3 := (show Hid _ from (HO2.out.two ho3).put2 6 (.int .i64 (Mk.nv l.tail.tail 1 20 : Int)))
  clear hf3 ho3 hq3
  go_wp2_with fail
  refine bodyPost_end (v := .tuple #[]) ?_ rfl ⟨rfl, ?_, HO3.out⟩
  · simp [results, Tryz.results76, go_sem]
  · rw [show (g && Mk.rG .sell l) = (((g && Mk.ng l 0 1) && Mk.ng l.tail 1 99) && Mk.ng l.tail.tail 1 20) by first | rfl | simp only [Mk.rG, Bool.and_assoc]]
    exact HQ3.out.congr (fun j hj => by
      match j, hj with
      | 0, _ => rfl
      | 1, _ => rfl
      | 2, _ => rfl
      | 3, _ => rfl
      | 4, _ => rfl
      | 5, _ => rfl
      | 6, _ => rfl
      | 7, _ => rfl
      | 8, _ => rfl)

set_option maxRecDepth 100000 in
set_option maxHeartbeats 2000000 in
theorem rest_drop (f rq : Nat) (l : List ByteArray) (g : Bool) (c r : Int) (w : World) (hQ : Rq w f rq l g (rqF c r ⟨#[100, 114, 111, 112]⟩ 0 0 0 0 0 false)) :
    Calls Tryz.prog 76 #[.pointer (some ⟨f, 0, none⟩), .pointer (some ⟨rq, 0, none⟩)] w fun e w' => RestIs f rq l g c r .drop w e w' := by
  have c2 := hQ.rq.cell (i := 2) (by omega)
  simp only [rqF] at c2
  have HQ0 : Hid (Rq w f rq l g (rqF c r ⟨#[100, 114, 111, 112]⟩ 0 0 0 0 0 false)) := hQ
  have HO0 : Hid (Only (Two f rq) w w) := Only.refl _ _
  clear hQ
  go_enter Tryz.func76, Tryz.ntmps76
  go_wp2_with fail
  refine (fvoyage_any f l g _ HQ0.out.fl).mono ?_
  rintro e w1 ⟨rfl, hf1, ho1⟩
  have hq1 := HQ0.out.step hf1 ho1
  have a3 := hq1.rq.cell (i := 3) (by omega)
  have z3 := hq1.rq.frozen 3
  simp only [rqF] at a3
  have HQ1 := (show Hid _ from hq1.put 3 (.int .i64 (Mk.nv l 0 1 : Int)))
  have HO1 := (show Hid _ from (HO0.out.two ho1).put2 3 (.int .i64 (Mk.nv l 0 1 : Int)))
  clear hf1 ho1 hq1
  go_wp2_with fail
  refine (fnumber_any f l.tail (g && Mk.ng l 0 1) 0 11 _ (by omega) HQ1.out.fl).mono ?_
  rintro e w2 ⟨rfl, hf2, ho2⟩
  have hq2 := HQ1.out.step hf2 ho2
  have a7 := hq2.rq.cell (i := 7) (by omega)
  have z7 := hq2.rq.frozen 7
  simp only [rqF] at a7
  have HQ2 := (show Hid _ from hq2.put 7 (.int .i64 (Mk.nv l.tail 0 11 : Int)))
  have HO2 := (show Hid _ from (HO1.out.two ho2).put2 7 (.int .i64 (Mk.nv l.tail 0 11 : Int)))
  clear hf2 ho2 hq2
  go_wp2_with fail
  refine bodyPost_end (v := .tuple #[]) ?_ rfl ⟨rfl, ?_, HO2.out⟩
  · simp [results, Tryz.results76, go_sem]
  · rw [show (g && Mk.rG .drop l) = ((g && Mk.ng l 0 1) && Mk.ng l.tail 0 11) by first | rfl | simp only [Mk.rG, Bool.and_assoc]]
    exact HQ2.out.congr (fun j hj => by
      match j, hj with
      | 0, _ => rfl
      | 1, _ => rfl
      | 2, _ => rfl
      | 3, _ => rfl
      | 4, _ => rfl
      | 5, _ => rfl
      | 6, _ => rfl
      | 7, _ => rfl
      | 8, _ => rfl)

set_option maxRecDepth 100000 in
set_option maxHeartbeats 2000000 in
theorem rest_mode (f rq : Nat) (l : List ByteArray) (g : Bool) (c r : Int) (w : World) (hQ : Rq w f rq l g (rqF c r ⟨#[109, 111, 100, 101]⟩ 0 0 0 0 0 false)) :
    Calls Tryz.prog 76 #[.pointer (some ⟨f, 0, none⟩), .pointer (some ⟨rq, 0, none⟩)] w fun e w' => RestIs f rq l g c r .mode w e w' := by
  have c2 := hQ.rq.cell (i := 2) (by omega)
  simp only [rqF] at c2
  have HQ0 : Hid (Rq w f rq l g (rqF c r ⟨#[109, 111, 100, 101]⟩ 0 0 0 0 0 false)) := hQ
  have HO0 : Hid (Only (Two f rq) w w) := Only.refl _ _
  clear hQ
  go_enter Tryz.func76, Tryz.ntmps76
  go_wp2_with fail
  refine (fvoyage_any f l g _ HQ0.out.fl).mono ?_
  rintro e w1 ⟨rfl, hf1, ho1⟩
  have hq1 := HQ0.out.step hf1 ho1
  have a3 := hq1.rq.cell (i := 3) (by omega)
  have z3 := hq1.rq.frozen 3
  simp only [rqF] at a3
  have HQ1 := (show Hid _ from hq1.put 3 (.int .i64 (Mk.nv l 0 1 : Int)))
  have HO1 := (show Hid _ from (HO0.out.two ho1).put2 3 (.int .i64 (Mk.nv l 0 1 : Int)))
  clear hf1 ho1 hq1
  go_wp2_with fail
  refine (fmode_any f l.tail (g && Mk.ng l 0 1) _ HQ1.out.fl).mono ?_
  rintro e w2 ⟨rfl, hf2, ho2⟩
  have hq2 := HQ1.out.step hf2 ho2
  have a8 := hq2.rq.cell (i := 8) (by omega)
  have z8 := hq2.rq.frozen 8
  simp only [rqF] at a8
  have HQ2 := (show Hid _ from hq2.put 8 (.int .i64 (mdI (Mk.mv l.tail))))
  have HO2 := (show Hid _ from (HO1.out.two ho2).put2 8 (.int .i64 (mdI (Mk.mv l.tail))))
  clear hf2 ho2 hq2
  go_wp2_with fail
  refine bodyPost_end (v := .tuple #[]) ?_ rfl ⟨rfl, ?_, HO2.out⟩
  · simp [results, Tryz.results76, go_sem]
  · rw [show (g && Mk.rG .mode l) = ((g && Mk.ng l 0 1) && Mk.mg l.tail) by first | rfl | simp only [Mk.rG, Bool.and_assoc]]
    exact HQ2.out.congr (fun j hj => by
      match j, hj with
      | 0, _ => rfl
      | 1, _ => rfl
      | 2, _ => rfl
      | 3, _ => rfl
      | 4, _ => rfl
      | 5, _ => rfl
      | 6, _ => rfl
      | 7, _ => rfl
      | 8, _ => rfl)

set_option maxRecDepth 100000 in
set_option maxHeartbeats 2000000 in
theorem rest_close (f rq : Nat) (l : List ByteArray) (g : Bool) (c r : Int) (w : World) (hQ : Rq w f rq l g (rqF c r ⟨#[99, 108, 111, 115, 101]⟩ 0 0 0 0 0 false)) :
    Calls Tryz.prog 76 #[.pointer (some ⟨f, 0, none⟩), .pointer (some ⟨rq, 0, none⟩)] w fun e w' => RestIs f rq l g c r .close w e w' := by
  have c2 := hQ.rq.cell (i := 2) (by omega)
  simp only [rqF] at c2
  have HQ0 : Hid (Rq w f rq l g (rqF c r ⟨#[99, 108, 111, 115, 101]⟩ 0 0 0 0 0 false)) := hQ
  have HO0 : Hid (Only (Two f rq) w w) := Only.refl _ _
  clear hQ
  go_enter Tryz.func76, Tryz.ntmps76
  go_wp2_with fail
  refine (fvoyage_any f l g _ HQ0.out.fl).mono ?_
  rintro e w1 ⟨rfl, hf1, ho1⟩
  have hq1 := HQ0.out.step hf1 ho1
  have a3 := hq1.rq.cell (i := 3) (by omega)
  have z3 := hq1.rq.frozen 3
  simp only [rqF] at a3
  have HQ1 := (show Hid _ from hq1.put 3 (.int .i64 (Mk.nv l 0 1 : Int)))
  have HO1 := (show Hid _ from (HO0.out.two ho1).put2 3 (.int .i64 (Mk.nv l 0 1 : Int)))
  clear hf1 ho1 hq1
  go_wp2_with fail
  refine bodyPost_end (v := .tuple #[]) ?_ rfl ⟨rfl, ?_, HO1.out⟩
  · simp [results, Tryz.results76, go_sem]
  · rw [show (g && Mk.rG .close l) = (g && Mk.ng l 0 1) by first | rfl | simp only [Mk.rG, Bool.and_assoc]]
    exact HQ1.out.congr (fun j hj => by
      match j, hj with
      | 0, _ => rfl
      | 1, _ => rfl
      | 2, _ => rfl
      | 3, _ => rfl
      | 4, _ => rfl
      | 5, _ => rfl
      | 6, _ => rfl
      | 7, _ => rfl
      | 8, _ => rfl)

end Go.Proofs.YtmebcdpdpcpnmaaGreatDoor
