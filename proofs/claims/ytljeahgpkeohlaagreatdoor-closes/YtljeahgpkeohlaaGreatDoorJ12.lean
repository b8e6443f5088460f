import Derived.Test.YtljeahgpkeohlaaGreatDoorJ11
namespace Go.Proofs.YtljeahgpkeohlaaGreatDoor
open Go.RowKit

theorem standF_at (l : List Mk.Stand) (i : Nat) : standF l (i * 5) = .int .i64 (Mk.std l i).n ∧ standF l (i * 5 + 1) = .int .i64 (Mk.std l i).who ∧ standF l (i * 5 + 2) = .bool (Mk.std l i).o.sell ∧ standF l (i * 5 + 3) = .int .i64 (Mk.std l i).o.price ∧ standF l (i * 5 + 4) = .int .i64 (Mk.std l i).o.qty := by
  unfold standF
  refine ⟨?_, ?_, ?_, ?_, ?_⟩
  · rw [if_pos (by omega), show i * 5 / 5 = i by omega]
  · rw [if_neg (by omega), if_pos (by omega), show (i * 5 + 1) / 5 = i by omega]
  · rw [if_neg (by omega), if_neg (by omega), if_pos (by omega), show (i * 5 + 2) / 5 = i by omega]
  · rw [if_neg (by omega), if_neg (by omega), if_neg (by omega), if_pos (by omega), show (i * 5 + 3) / 5 = i by omega]
  · rw [if_neg (by omega), if_neg (by omega), if_neg (by omega), if_neg (by omega), show (i * 5 + 4) / 5 = i by omega]
/-- order i of a batch, in memory -/
theorem stand_cells {w : World} {g n c : Nat} {l : List Mk.Stand} (h : w.ownsRow 0 120 5 (.slice (some ⟨g, 0, none⟩) n c) n (standC l)) (hn : n = l.length) {i : Nat} (hi : i < n) :
    w.cell? ⟨g, i * 5, none⟩ = some (.int .i64 (Mk.std l i).n) ∧ w.cell? ⟨g, i * 5 + 1, none⟩ = some (.int .i64 (Mk.std l i).who) ∧ w.cell? ⟨g, i * 5 + 2, none⟩ = some (.bool (Mk.std l i).o.sell) ∧ w.cell? ⟨g, i * 5 + 3, none⟩ = some (.int .i64 (Mk.std l i).o.price) ∧ w.cell? ⟨g, i * 5 + 4, none⟩ = some (.int .i64 (Mk.std l i).o.qty) := by
  have hf := standF_at l i
  have hj : ∀ j, j < n * 5 → w.cell? ⟨g, j, none⟩ = some (standF l j) := fun j hj => by rw [h.cellAt j hj, standC_get l (by omega)]
  refine ⟨?_, ?_, ?_, ?_, ?_⟩
  · rw [hj _ (by omega), hf.1]
  · rw [hj _ (by omega), hf.2.1]
  · rw [hj _ (by omega), hf.2.2.1]
  · rw [hj _ (by omega), hf.2.2.2.1]
  · rw [hj _ (by omega), hf.2.2.2.2]

set_option maxRecDepth 100000 in
set_option maxHeartbeats 4000000 in
theorem rshow_any (p : Nat) (b : RB) (M : Mk.Mkt) (w : World) (hM : M.Fine) (hR : Ref w p b M) :
    Calls Tryz.prog 29 #[.pointer (some ⟨p, 0, none⟩)] w fun e w' => e = .returned (.string (Mk.showM M)) ∧ Below w.heap.size w w' := by
  have HM : Hid M.Fine := hM
  have HR : Hid (Ref w p b M) := hR
  clear hM hR
  go_enter Tryz.func29, Tryz.ntmps29
  go_wp2
  go_loopw [3, 4] (fun x j wr => ∃ c : Nat, c ≤ 4 ∧ j = .int .i64 c ∧ x = .string (Mk.addC M c) ∧ Below w.heap.size w wr) (fun _ j _ => 4 - (intOf j).toNat)
  case atStart => exact ⟨0, by omega, rfl, rfl, Below.refl _ _⟩
  case round =>
    obtain ⟨c, hc, rfl, rfl, hb⟩ := hrel
    have Hb : Hid (Below w.heap.size w wr) := hb
    clear hb
    have HRr : Hid (Ref wr p b M) := HR.out.below Hb.out
    have qc := Mk.addC_le HM.out c hc
    by_cases hlt : c < 4
    · have hlt' : (c : Int) < 4 := by omega
      have f0 := HRr.out.box.cell (i := 0) (by omega)
      have a0 := HRr.out.cash.cell (i := c * 2) (by omega)
      have a1 := HRr.out.cash.cell (i := c * 2 + 1) (by omega)
      simp only [mktF] at f0
      rw [purseF_0] at a0
      rw [purseF_1] at a1
      have bf := HM.out.cf c hlt
      have bh := HM.out.ch c hlt
      have qp := Mk.purseI_le bf.2 bh.2
      go_wp2_with fail
      refine (purseI_any _ _ _ bf bh).mono ?_
      rintro e w2 ⟨rfl, hb2⟩
      have Hb2 : Hid (Below w.heap.size w w2) := Hb.out.trans (hb2.mono Hb.out.size)
      clear hb2 f0 a0 a1
      go_wp2_with fail
      go_loopw [3, 6] (fun x j wr => ∃ v : Nat, v ≤ 2 ∧ j = .int .i64 v ∧ x = .string (Mk.addV M c (Mk.addC M c ++ Mk.purseI (M.cf c) (M.ch c)) v) ∧ Below w.heap.size w wr) (fun _ j _ => 2 - (intOf j).toNat)
      case atStart => exact ⟨0, by omega, rfl, rfl, Hb2.out⟩
      case round =>
        obtain ⟨v, hv, rfl, rfl, hb⟩ := hrel
        have Hb3 : Hid (Below w.heap.size w wr) := hb
        clear hb
        have HRv : Hid (Ref wr p b M) := HR.out.below Hb3.out
        have qv := Mk.addV_le HM.out hlt (Mk.addC M c ++ Mk.purseI (M.cf c) (M.ch c)) v hv
        rw [ByteArray.size_append] at qv
        have HE : Hid (Mk.addV M c (Mk.addC M c ++ Mk.purseI (M.cf c) (M.ch c)) (v + 1) = Mk.addV M c (Mk.addC M c ++ Mk.purseI (M.cf c) (M.ch c)) v ++ ⟨#[32]⟩ ++ Mk.purseI (M.sf v c) (M.sh v c)) := rfl
        have HX : ∃ x, Hid (Mk.addV M c (Mk.addC M c ++ Mk.purseI (M.cf c) (M.ch c)) v = x) := ⟨_, rfl⟩
        obtain ⟨x, HX⟩ := HX
        have qx : x.size ≤ 1000 := by rw [← HX.out]; omega
        rw [HX.out] at HE ⊢
        clear qv
        by_cases hv2 : v < 2
        · have hv' : (v : Int) < 2 := by omega
          have f1 := HRv.out.box.cell (i := 1) (by omega)
          have g1 := HRv.out.slots.cell hv2
          have a0 := (HRv.out.sl v hv2).cell (i := c * 2) (by omega)
          have a1 := (HRv.out.sl v hv2).cell (i := c * 2 + 1) (by omega)
          simp only [mktF] at f1
          rw [purseF_0] at a0
          rw [purseF_1] at a1
          have sf := HM.out.sf v c hv2 hlt
          have sh := HM.out.sh v c hv2 hlt
          have qs := Mk.purseI_le sf.2 sh.2
          go_wp2_with fail
          refine (purseI_any _ _ _ sf sh).mono ?_
          rintro e w4 ⟨rfl, hb4⟩
          have Hb4 : Hid (Below w.heap.size w w4) := Hb3.out.trans (hb4.mono Hb3.out.size)
          clear hb4 f1 g1 a0 a1
          go_wp2_with fail
          go_roundw
          case rel => exact ⟨v + 1, by omega, by go_num, by rw [HE.out], Hb4.out⟩
          case measure => simp [intOf]; omega
        · obtain rfl : v = 2 := by omega
          have HC : Hid (Mk.addC M (c + 1) = x ++ ⟨#[59]⟩) := by
            show Mk.addV M c (Mk.addC M c ++ Mk.purseI (M.cf c) (M.ch c)) 2 ++ _ = _
            rw [HX.out]
          go_wp2_with fail
          go_roundw
          case rel => exact ⟨c + 1, by omega, by go_num, by rw [HC.out], Hb3.out⟩
          case measure => simp [intOf]; omega
    · obtain rfl : c = 4 := by omega
      have f2 := HRr.out.box.cell (i := 2) (by omega)
      simp only [mktF] at f2
      have bh := HM.out.house
      have qh := Mk.digI_le bh.2
      go_wp2_with fail
      refine (digI_any _ _ bh.1 bh.2).mono ?_
      rintro e w2 ⟨rfl, hb2⟩
      have Hb2 : Hid (Below w.heap.size w w2) := Hb.out.trans (hb2.mono Hb.out.size)
      clear hb2 f2
      go_wp2_with fail
      obtain ⟨s1, HS1⟩ : ∃ s1, Hid (Mk.addC M 4 ++ Mk.digI M.house = s1) := ⟨_, rfl⟩
      have qs1 : s1.size ≤ 200 := by rw [← HS1.out, ByteArray.size_append]; omega
      go_loopw [3, 8] (fun x j wr => ∃ v : Nat, v ≤ 2 ∧ j = .int .i64 v ∧ x = .string (Mk.addM M s1 v) ∧ Below w.heap.size w wr) (fun _ j _ => 2 - (intOf j).toNat)
      case atStart => exact ⟨0, by omega, rfl, by rw [HS1.out]; rfl, Hb2.out⟩
      case round =>
        obtain ⟨v, hv, rfl, rfl, hb⟩ := hrel
        have Hb3 : Hid (Below w.heap.size w wr) := hb
        clear hb
        have HRv : Hid (Ref wr p b M) := HR.out.below Hb3.out
        have qm := Mk.addM_le HM.out s1 v hv
        by_cases hv2 : v < 2
        · have hv' : (v : Int) < 2 := by omega
          have f3 := HRv.out.box.cell (i := 3) (by omega)
          have g3 := HRv.out.modes.cell hv2
          simp only [mktF] at f3
          have em : (Mk.modeT (M.md v)).size = 2 := by unfold Mk.modeT; split <;> rfl
          have hlen := HM.out.len v hv2
          rcases Bool.eq_false_or_eq_true (M.md v) with hmd | hmd
          all_goals
            rw [hmd] at g3
            go_wp2_with fail
            go_loopw [3, 9] (fun x j wr => ∃ i : Nat, i ≤ (M.bk v).length ∧ j = .int .i64 i ∧ x = .string (Mk.addB (M.bk v) (Mk.addM M s1 v ++ Mk.modeT (M.md v)) i) ∧ Below w.heap.size w wr) (fun _ j _ => (M.bk v).length - (intOf j).toNat)
            case atStart => exact ⟨0, Nat.zero_le _, rfl, by (show _ = Value.string (Mk.addM M s1 v ++ Mk.modeT (M.md v))); rw [hmd]; rfl, Hb3.out⟩
            case round =>
              obtain ⟨i, hi, rfl, rfl, hb⟩ := hrel
              have Hb4 : Hid (Below w.heap.size w wr) := hb
              clear hb f3 g3
              have HRi : Hid (Ref wr p b M) := HR.out.below Hb4.out
              have qb := Mk.addB_le HM.out hv2 (Mk.addM M s1 v ++ Mk.modeT (M.md v)) i hi
              rw [ByteArray.size_append] at qb
              have HE : Hid (Mk.addB (M.bk v) (Mk.addM M s1 v ++ Mk.modeT (M.md v)) (i + 1) = Mk.comma i (Mk.addB (M.bk v) (Mk.addM M s1 v ++ Mk.modeT (M.md v)) i) ++ Mk.standI (Mk.std (M.bk v) i)) := rfl
              have HX : ∃ x, Hid (Mk.addB (M.bk v) (Mk.addM M s1 v ++ Mk.modeT (M.md v)) i = x) := ⟨_, rfl⟩
              obtain ⟨x, HX⟩ := HX
              have qx : x.size ≤ 2000 := by rw [← HX.out]; omega
              rw [HX.out] at HE ⊢
              clear qb
              have f4 := HRi.out.box.cell (i := 4) (by omega)
              have g4 := HRi.out.books.cell hv2
              simp only [mktF] at f4
              have ho := HRi.out.bk v hv2
              obtain ⟨ab, cb, hbv⟩ := own_form ho
              rw [hbv] at ho g4
              have HO : Hid (wr.ownsRow 0 120 5 (.slice ab (M.bk v).length cb) (M.bk v).length (standC (M.bk v))) := ho
              clear ho hbv
              by_cases hil : i < (M.bk v).length
              · obtain ⟨gb, rfl⟩ := own_some HO.out (by omega)
                obtain ⟨k0, k1, k2, k3, k4⟩ := stand_cells HO.out rfl hil
                have hm : Mk.std (M.bk v) i ∈ M.bk v := by rw [Mk.std_at hil]; exact List.getElem_mem _
                have b1 := HM.out.num v hv2 _ hm
                have b2 := HM.out.who v hv2 _ hm
                have b3 := HM.out.ord v hv2 _ hm
                have HT : Hid (∀ w : World, Calls Tryz.prog 52 #[.agg #[.int .i64 (Mk.std (M.bk v) i).n, .int .i64 (Mk.std (M.bk v) i).who, .bool (Mk.std (M.bk v) i).o.sell, .int .i64 (Mk.std (M.bk v) i).o.price, .int .i64 (Mk.std (M.bk v) i).o.qty]] w fun e w' => e = .returned (.string (Mk.standI (Mk.std (M.bk v) i))) ∧ Below w.heap.size w w') := fun w => standI_any _ w (by omega) (by omega) (by omega) (by omega)
                have qt := Mk.standI_le (s := Mk.std (M.bk v) i) (by omega) (by omega) (by omega) (by omega)
                have hil' : (i : Int) < ((M.bk v).length : Int) := by omega
                clear hm b1 b2 b3
                by_cases hi0 : 0 < i
                · have hi0' : (0 : Int) < (i : Int) := by omega
                  have HCm : Hid (Mk.comma i x = x ++ ⟨#[44]⟩) := if_pos hi0
                  go_wp2_with fail
                  refine (HT.out _).mono ?_
                  rintro e w5 ⟨rfl, hb5⟩
                  have Hb5 : Hid (Below w.heap.size w w5) := Hb4.out.trans (hb5.mono Hb4.out.size)
                  clear hb5 f4 g4 k0 k1 k2 k3 k4
                  go_wp2_with fail
                  go_roundw
                  case rel => exact ⟨i + 1, by omega, by go_num, by rw [HE.out, HCm.out], Hb5.out⟩
                  case measure => simp [intOf]; omega
                · have hi0' : ¬ (0 : Int) < (i : Int) := by omega
                  have HCm : Hid (Mk.comma i x = x) := if_neg hi0
                  go_wp2_with fail
                  refine (HT.out _).mono ?_
                  rintro e w5 ⟨rfl, hb5⟩
                  have Hb5 : Hid (Below w.heap.size w w5) := Hb4.out.trans (hb5.mono Hb4.out.size)
                  clear hb5 f4 g4 k0 k1 k2 k3 k4
                  go_wp2_with fail
                  go_roundw
                  case rel => exact ⟨i + 1, by omega, by go_num, by rw [HE.out, HCm.out], Hb5.out⟩
                  case measure => simp [intOf]; omega
              · obtain rfl : i = (M.bk v).length := by omega
                have HA : Hid (Mk.addM M s1 (v + 1) = x) := HX.out
                go_wp2_with fail
                go_roundw
                case rel => exact ⟨v + 1, by omega, by go_num, by rw [HA.out], Hb4.out⟩
                case measure => simp [intOf]; omega
        · obtain rfl : v = 2 := by omega
          have HA : Hid (Mk.showM M = Mk.addM M s1 2) := (by unfold Mk.showM; rw [HS1.out] : Mk.showM M = Mk.addM M s1 2)
          go_wp2_with fail
          go_ret
          exact ⟨by rw [HA.out]; rfl, Hb3.out⟩

end Go.Proofs.YtljeahgpkeohlaaGreatDoor

namespace Go.Proofs.YtljeahgpkeohlaaGreatDoor
open Go.RowKit

/-- what a block is a row of -/
def Kind (w : World) (k t : Nat) : Prop := ∃ c, w.heap[k]? = some (.cells c t (0, 0))
theorem Kind.ne {w : World} {k k' t t' : Nat} (h : Kind w k t) (h' : Kind w k' t') (hne : t ≠ t') : k ≠ k' := by
  rintro rfl
  obtain ⟨c, hc⟩ := h
  obtain ⟨c', hc'⟩ := h'
  rw [hc] at hc'
  simp at hc'
  exact hne hc'.2
theorem row_kind {w : World} {k t n : Nat} {f : Nat → Value} (h : w.rowIs k t n f) : Kind w k t := by obtain ⟨c, hc, _⟩ := h; exact ⟨c, hc⟩
theorem own_kind' {w : World} {base e size n : Nat} {v : Value} {xs : List Value} (h : w.ownsRow base e size v n xs) {g : Nat} (hg : v.ownBlock = some g) : Kind w g e := own_kind h hg
theorem own_set {w : World} {base e size n k i t : Nat} {v u : Value} {xs : List Value} (h : w.ownsRow base e size v n xs) (hk : Kind w k t) (hne : t ≠ e) : (w.setCell ⟨k, i, none⟩ u).ownsRow base e size v n xs :=
  own_block h (fun g hg => Below.heap_setCell w _ u g (fun e' => hk.ne (own_kind' h hg) hne e'.symm))

def upd {α : Type} (f : Nat → α) (i : Nat) (x : α) (j : Nat) : α := if j = i then x else f j
theorem purse_set0 (f h : Nat → Int) (c : Nat) (x : Int) (j : Nat) : (if j = c * 2 then Value.int .i64 x else purseF f h j) = purseF (upd f c x) h j := by
  unfold purseF upd
  by_cases e : j = c * 2
  · rw [if_pos e, if_pos (by omega), if_pos (by omega)]
  · rw [if_neg e]
    by_cases m : j % 2 = 0
    · rw [if_pos m, if_pos m, if_neg (by omega)]
    · rw [if_neg m, if_neg m]
theorem purse_set1 (f h : Nat → Int) (c : Nat) (x : Int) (j : Nat) : (if j = c * 2 + 1 then Value.int .i64 x else purseF f h j) = purseF f (upd h c x) j := by
  unfold purseF upd
  by_cases e : j = c * 2 + 1
  · rw [if_pos e, if_neg (by omega), if_pos (by omega)]
  · rw [if_neg e]
    by_cases m : j % 2 = 0
    · rw [if_pos m, if_pos m]
    · rw [if_neg m, if_neg m, if_neg (by omega)]

section
variable {w : World} {p : Nat} {b : RB} {M : Mk.Mkt}
theorem Ref.setHouse (h : Ref w p b M) (x : Int) : Ref (w.setCell ⟨p, 2, none⟩ (.int .i64 x)) p b { M with house := x } :=
  ⟨(h.box.set 2 _).congr (fun j _ => by match j with | 0 => rfl | 1 => rfl | 2 => rfl | 3 => rfl | 4 => rfl | 5 => rfl | 6 => rfl | 7 => rfl | 8 => rfl | _ + 9 => rfl), h.cash.setOther (Ne.symm ((row_kind h.box).ne (row_kind h.cash) (by decide))) _, h.slots.setOther (Ne.symm ((row_kind h.box).ne (row_kind h.slots) (by decide))) _, fun v hv => (h.sl v hv).setOther (Ne.symm ((row_kind h.box).ne (row_kind (h.sl v hv)) (by decide))) _, h.modes.setOther (Ne.symm ((row_kind h.box).ne (row_kind h.modes) (by decide))) _, h.books.setOther (Ne.symm ((row_kind h.box).ne (row_kind h.books) (by decide))) _, fun v hv => own_set (h.bk v hv) (row_kind h.box) (by decide), h.came.setOther (Ne.symm ((row_kind h.box).ne (row_kind h.came) (by decide))) _, h.lasts.setOther (Ne.symm ((row_kind h.box).ne (row_kind h.lasts) (by decide))) _, h.texts.setOther (Ne.symm ((row_kind h.box).ne (row_kind h.texts) (by decide))) _, h.errs.setOther (Ne.symm ((row_kind h.box).ne (row_kind h.errs) (by decide))) _, h.d1, h.d2, h.e1, h.e2, h.e3, h.vv⟩
theorem Ref.setDisk (h : Ref w p b M) (x : ByteArray) : Ref (w.setCell ⟨p, 9, none⟩ (.string x)) p b { M with disk := x } :=
  ⟨(h.box.set 9 _).congr (fun j hj => by match j, hj with | 0, _ => rfl | 1, _ => rfl | 2, _ => rfl | 3, _ => rfl | 4, _ => rfl | 5, _ => rfl | 6, _ => rfl | 7, _ => rfl | 8, _ => rfl | 9, _ => rfl), h.cash.setOther (Ne.symm ((row_kind h.box).ne (row_kind h.cash) (by decide))) _, h.slots.setOther (Ne.symm ((row_kind h.box).ne (row_kind h.slots) (by decide))) _, fun v hv => (h.sl v hv).setOther (Ne.symm ((row_kind h.box).ne (row_kind (h.sl v hv)) (by decide))) _, h.modes.setOther (Ne.symm ((row_kind h.box).ne (row_kind h.modes) (by decide))) _, h.books.setOther (Ne.symm ((row_kind h.box).ne (row_kind h.books) (by decide))) _, fun v hv => own_set (h.bk v hv) (row_kind h.box) (by decide), h.came.setOther (Ne.symm ((row_kind h.box).ne (row_kind h.came) (by decide))) _, h.lasts.setOther (Ne.symm ((row_kind h.box).ne (row_kind h.lasts) (by decide))) _, h.texts.setOther (Ne.symm ((row_kind h.box).ne (row_kind h.texts) (by decide))) _, h.errs.setOther (Ne.symm ((row_kind h.box).ne (row_kind h.errs) (by decide))) _, h.d1, h.d2, h.e1, h.e2, h.e3, h.vv⟩
theorem Ref.setCf (h : Ref w p b M) (c : Nat) (x : Int) : Ref (w.setCell ⟨b.bC, c * 2, none⟩ (.int .i64 x)) p b { M with cf := upd M.cf c x } :=
  ⟨h.box.setOther (Ne.symm ((row_kind h.cash).ne (row_kind h.box) (by decide))) _, (h.cash.set (c * 2) _).congr (fun j _ => purse_set0 _ _ c x j), h.slots.setOther (Ne.symm ((row_kind h.cash).ne (row_kind h.slots) (by decide))) _, fun v hv => (h.sl v hv).setOther (fun e => h.d1 v hv e.symm) _, h.modes.setOther (Ne.symm ((row_kind h.cash).ne (row_kind h.modes) (by decide))) _, h.books.setOther (Ne.symm ((row_kind h.cash).ne (row_kind h.books) (by decide))) _, fun v hv => own_set (h.bk v hv) (row_kind h.cash) (by decide), h.came.setOther (Ne.symm ((row_kind h.cash).ne (row_kind h.came) (by decide))) _, h.lasts.setOther (Ne.symm ((row_kind h.cash).ne (row_kind h.lasts) (by decide))) _, h.texts.setOther (Ne.symm ((row_kind h.cash).ne (row_kind h.texts) (by decide))) _, h.errs.setOther (Ne.symm ((row_kind h.cash).ne (row_kind h.errs) (by decide))) _, h.d1, h.d2, h.e1, h.e2, h.e3, h.vv⟩
theorem Ref.setCh (h : Ref w p b M) (c : Nat) (x : Int) : Ref (w.setCell ⟨b.bC, c * 2 + 1, none⟩ (.int .i64 x)) p b { M with ch := upd M.ch c x } :=
  ⟨h.box.setOther (Ne.symm ((row_kind h.cash).ne (row_kind h.box) (by decide))) _, (h.cash.set (c * 2 + 1) _).congr (fun j _ => purse_set1 _ _ c x j), h.slots.setOther (Ne.symm ((row_kind h.cash).ne (row_kind h.slots) (by decide))) _, fun v hv => (h.sl v hv).setOther (fun e => h.d1 v hv e.symm) _, h.modes.setOther (Ne.symm ((row_kind h.cash).ne (row_kind h.modes) (by decide))) _, h.books.setOther (Ne.symm ((row_kind h.cash).ne (row_kind h.books) (by decide))) _, fun v hv => own_set (h.bk v hv) (row_kind h.cash) (by decide), h.came.setOther (Ne.symm ((row_kind h.cash).ne (row_kind h.came) (by decide))) _, h.lasts.setOther (Ne.symm ((row_kind h.cash).ne (row_kind h.lasts) (by decide))) _, h.texts.setOther (Ne.symm ((row_kind h.cash).ne (row_kind h.texts) (by decide))) _, h.errs.setOther (Ne.symm ((row_kind h.cash).ne (row_kind h.errs) (by decide))) _, h.d1, h.d2, h.e1, h.e2, h.e3, h.vv⟩
theorem Ref.setSf (h : Ref w p b M) (v0 : Nat) (hv0 : v0 < 2) (c : Nat) (x : Int) : Ref (w.setCell ⟨b.sb v0, c * 2, none⟩ (.int .i64 x)) p b { M with sf := upd M.sf v0 (upd (M.sf v0) c x) } :=
  ⟨h.box.setOther (Ne.symm ((row_kind (h.sl v0 hv0)).ne (row_kind h.box) (by decide))) _, h.cash.setOther (h.d1 v0 hv0) _, h.slots.setOther (Ne.symm ((row_kind (h.sl v0 hv0)).ne (row_kind h.slots) (by decide))) _, fun v hv => by
    by_cases e : v = v0
    · subst e
      refine ((h.sl v hv).set (c * 2) _).congr (fun j _ => ?_)
      rw [purse_set0]
      simp [upd]
    · refine ((h.sl v hv).setOther (show b.sb v ≠ b.sb v0 from fun e' => ?_) _).congr (fun j _ => by simp [upd, e])
      rcases (show v = 0 ∧ v0 = 1 ∨ v = 1 ∧ v0 = 0 by omega) with ⟨rfl, rfl⟩ | ⟨rfl, rfl⟩
      · exact h.d2 e'
      · exact h.d2 e'.symm, h.modes.setOther (Ne.symm ((row_kind (h.sl v0 hv0)).ne (row_kind h.modes) (by decide))) _, h.books.setOther (Ne.symm ((row_kind (h.sl v0 hv0)).ne (row_kind h.books) (by decide))) _, fun v hv => own_set (h.bk v hv) (row_kind (h.sl v0 hv0)) (by decide), h.came.setOther (Ne.symm ((row_kind (h.sl v0 hv0)).ne (row_kind h.came) (by decide))) _, h.lasts.setOther (Ne.symm ((row_kind (h.sl v0 hv0)).ne (row_kind h.lasts) (by decide))) _, h.texts.setOther (Ne.symm ((row_kind (h.sl v0 hv0)).ne (row_kind h.texts) (by decide))) _, h.errs.setOther (Ne.symm ((row_kind (h.sl v0 hv0)).ne (row_kind h.errs) (by decide))) _, h.d1, h.d2, h.e1, h.e2, h.e3, h.vv⟩
theorem Ref.setSh (h : Ref w p b M) (v0 : Nat) (hv0 : v0 < 2) (c : Nat) (x : Int) : Ref (w.setCell ⟨b.sb v0, c * 2 + 1, none⟩ (.int .i64 x)) p b { M with sh := upd M.sh v0 (upd (M.sh v0) c x) } :=
  ⟨h.box.setOther (Ne.symm ((row_kind (h.sl v0 hv0)).ne (row_kind h.box) (by decide))) _, h.cash.setOther (h.d1 v0 hv0) _, h.slots.setOther (Ne.symm ((row_kind (h.sl v0 hv0)).ne (row_kind h.slots) (by decide))) _, fun v hv => by
    by_cases e : v = v0
    · subst e
      refine ((h.sl v hv).set (c * 2 + 1) _).congr (fun j _ => ?_)
      rw [purse_set1]
      simp [upd]
    · refine ((h.sl v hv).setOther (show b.sb v ≠ b.sb v0 from fun e' => ?_) _).congr (fun j _ => by simp [upd, e])
      rcases (show v = 0 ∧ v0 = 1 ∨ v = 1 ∧ v0 = 0 by omega) with ⟨rfl, rfl⟩ | ⟨rfl, rfl⟩
      · exact h.d2 e'
      · exact h.d2 e'.symm, h.modes.setOther (Ne.symm ((row_kind (h.sl v0 hv0)).ne (row_kind h.modes) (by decide))) _, h.books.setOther (Ne.symm ((row_kind (h.sl v0 hv0)).ne (row_kind h.books) (by decide))) _, fun v hv => own_set (h.bk v hv) (row_kind (h.sl v0 hv0)) (by decide), h.came.setOther (Ne.symm ((row_kind (h.sl v0 hv0)).ne (row_kind h.came) (by decide))) _, h.lasts.setOther (Ne.symm ((row_kind (h.sl v0 hv0)).ne (row_kind h.lasts) (by decide))) _, h.texts.setOther (Ne.symm ((row_kind (h.sl v0 hv0)).ne (row_kind h.texts) (by decide))) _, h.errs.setOther (Ne.symm ((row_kind (h.sl v0 hv0)).ne (row_kind h.errs) (by decide))) _, h.d1, h.d2, h.e1, h.e2, h.e3, h.vv⟩
theorem Ref.setMd (h : Ref w p b M) (v : Nat) (x : Bool) : Ref (w.setCell ⟨b.bM, v, none⟩ (.bool x)) p b { M with md := upd M.md v x } :=
  ⟨h.box.setOther (Ne.symm ((row_kind h.modes).ne (row_kind h.box) (by decide))) _, h.cash.setOther (Ne.symm ((row_kind h.modes).ne (row_kind h.cash) (by decide))) _, h.slots.setOther (Ne.symm ((row_kind h.modes).ne (row_kind h.slots) (by decide))) _, fun v hv => (h.sl v hv).setOther (Ne.symm ((row_kind h.modes).ne (row_kind (h.sl v hv)) (by decide))) _, (h.modes.set v _).congr (fun j _ => by by_cases e : j = v <;> simp [upd, e]), h.books.setOther (Ne.symm ((row_kind h.modes).ne (row_kind h.books) (by decide))) _, fun v hv => own_set (h.bk v hv) (row_kind h.modes) (by decide), h.came.setOther (Ne.symm ((row_kind h.modes).ne (row_kind h.came) (by decide))) _, h.lasts.setOther (Ne.symm ((row_kind h.modes).ne (row_kind h.lasts) (by decide))) _, h.texts.setOther (Ne.symm ((row_kind h.modes).ne (row_kind h.texts) (by decide))) _, h.errs.setOther (Ne.symm ((row_kind h.modes).ne (row_kind h.errs) (by decide))) _, h.d1, h.d2, h.e1, h.e2, h.e3, h.vv⟩
theorem Ref.setCm (h : Ref w p b M) (v : Nat) (x : Int) : Ref (w.setCell ⟨b.bCm, v, none⟩ (.int .i64 x)) p b { M with cm := upd M.cm v x } :=
  ⟨h.box.setOther (Ne.symm ((row_kind h.came).ne (row_kind h.box) (by decide))) _, h.cash.setOther (Ne.symm ((row_kind h.came).ne (row_kind h.cash) (by decide))) _, h.slots.setOther (Ne.symm ((row_kind h.came).ne (row_kind h.slots) (by decide))) _, fun v hv => (h.sl v hv).setOther (Ne.symm ((row_kind h.came).ne (row_kind (h.sl v hv)) (by decide))) _, h.modes.setOther (Ne.symm ((row_kind h.came).ne (row_kind h.modes) (by decide))) _, h.books.setOther (Ne.symm ((row_kind h.came).ne (row_kind h.books) (by decide))) _, fun v hv => own_set (h.bk v hv) (row_kind h.came) (by decide), (h.came.set v _).congr (fun j _ => by by_cases e : j = v <;> simp [upd, e]), h.lasts.setOther (Ne.symm h.e1) _, h.texts.setOther (Ne.symm ((row_kind h.came).ne (row_kind h.texts) (by decide))) _, h.errs.setOther (Ne.symm h.e2) _, h.d1, h.d2, h.e1, h.e2, h.e3, h.vv⟩
theorem Ref.setLs (h : Ref w p b M) (c : Nat) (x : Int) : Ref (w.setCell ⟨b.bL, c, none⟩ (.int .i64 x)) p b { M with ls := upd M.ls c x } :=
  ⟨h.box.setOther (Ne.symm ((row_kind h.lasts).ne (row_kind h.box) (by decide))) _, h.cash.setOther (Ne.symm ((row_kind h.lasts).ne (row_kind h.cash) (by decide))) _, h.slots.setOther (Ne.symm ((row_kind h.lasts).ne (row_kind h.slots) (by decide))) _, fun v hv => (h.sl v hv).setOther (Ne.symm ((row_kind h.lasts).ne (row_kind (h.sl v hv)) (by decide))) _, h.modes.setOther (Ne.symm ((row_kind h.lasts).ne (row_kind h.modes) (by decide))) _, h.books.setOther (Ne.symm ((row_kind h.lasts).ne (row_kind h.books) (by decide))) _, fun v hv => own_set (h.bk v hv) (row_kind h.lasts) (by decide), h.came.setOther (h.e1) _, (h.lasts.set c _).congr (fun j _ => by by_cases e : j = c <;> simp [upd, e]), h.texts.setOther (Ne.symm ((row_kind h.lasts).ne (row_kind h.texts) (by decide))) _, h.errs.setOther (Ne.symm h.e3) _, h.d1, h.d2, h.e1, h.e2, h.e3, h.vv⟩
theorem Ref.setTx (h : Ref w p b M) (c : Nat) (x : ByteArray) : Ref (w.setCell ⟨b.bT, c, none⟩ (.string x)) p b { M with tx := upd M.tx c x } :=
  ⟨h.box.setOther (Ne.symm ((row_kind h.texts).ne (row_kind h.box) (by decide))) _, h.cash.setOther (Ne.symm ((row_kind h.texts).ne (row_kind h.cash) (by decide))) _, h.slots.setOther (Ne.symm ((row_kind h.texts).ne (row_kind h.slots) (by decide))) _, fun v hv => (h.sl v hv).setOther (Ne.symm ((row_kind h.texts).ne (row_kind (h.sl v hv)) (by decide))) _, h.modes.setOther (Ne.symm ((row_kind h.texts).ne (row_kind h.modes) (by decide))) _, h.books.setOther (Ne.symm ((row_kind h.texts).ne (row_kind h.books) (by decide))) _, fun v hv => own_set (h.bk v hv) (row_kind h.texts) (by decide), h.came.setOther (Ne.symm ((row_kind h.texts).ne (row_kind h.came) (by decide))) _, h.lasts.setOther (Ne.symm ((row_kind h.texts).ne (row_kind h.lasts) (by decide))) _, (h.texts.set c _).congr (fun j _ => by by_cases e : j = c <;> simp [upd, e]), h.errs.setOther (Ne.symm ((row_kind h.texts).ne (row_kind h.errs) (by decide))) _, h.d1, h.d2, h.e1, h.e2, h.e3, h.vv⟩
theorem Ref.setEr (h : Ref w p b M) (c : Nat) (x : Int) : Ref (w.setCell ⟨b.bE, c, none⟩ (.int .i64 x)) p b { M with er := upd M.er c x } :=
  ⟨h.box.setOther (Ne.symm ((row_kind h.errs).ne (row_kind h.box) (by decide))) _, h.cash.setOther (Ne.symm ((row_kind h.errs).ne (row_kind h.cash) (by decide))) _, h.slots.setOther (Ne.symm ((row_kind h.errs).ne (row_kind h.slots) (by decide))) _, fun v hv => (h.sl v hv).setOther (Ne.symm ((row_kind h.errs).ne (row_kind (h.sl v hv)) (by decide))) _, h.modes.setOther (Ne.symm ((row_kind h.errs).ne (row_kind h.modes) (by decide))) _, h.books.setOther (Ne.symm ((row_kind h.errs).ne (row_kind h.books) (by decide))) _, fun v hv => own_set (h.bk v hv) (row_kind h.errs) (by decide), h.came.setOther (h.e2) _, h.lasts.setOther (h.e3) _, h.texts.setOther (Ne.symm ((row_kind h.errs).ne (row_kind h.texts) (by decide))) _, (h.errs.set c _).congr (fun j _ => by by_cases e : j = c <;> simp [upd, e]), h.d1, h.d2, h.e1, h.e2, h.e3, h.vv⟩
end

end Go.Proofs.YtljeahgpkeohlaaGreatDoor
