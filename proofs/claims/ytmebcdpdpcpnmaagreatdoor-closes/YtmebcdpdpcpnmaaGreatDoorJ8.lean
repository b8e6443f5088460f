import Derived.Test.YtmebcdpdpcpnmaaGreatDoorJ6
import Derived.Test.YtmebcdpdpcpnmaaGreatDoorJ7
import Derived.Test.YtmebcdpdpcpnmaaGreatDoorJ2
namespace Go.Proofs.YtmebcdpdpcpnmaaGreatDoor
open Go.RowKit

/-- a command in a box -/
structure Cb (w : World) (B : Nat) (who r : Int) (word : ByteArray) (v : Value) (mc : Bool) : Prop where
  c0 : w.cell? ⟨B, 0, none⟩ = some (.int .i64 who)
  c1 : w.cell? ⟨B, 1, none⟩ = some (.int .i64 r)
  c2 : w.cell? ⟨B, 2, none⟩ = some (.string word)
  c3 : w.cell? ⟨B, 3, none⟩ = some v
  c4 : w.cell? ⟨B, 4, none⟩ = some (.bool mc)
  f0 : w.frozen? ⟨B, 0, none⟩ = false
  f1 : w.frozen? ⟨B, 1, none⟩ = false
  f2 : w.frozen? ⟨B, 2, none⟩ = false
  f3 : w.frozen? ⟨B, 3, none⟩ = false
  f4 : w.frozen? ⟨B, 4, none⟩ = false

section
variable {w w' : World} {B n : Nat} {who r : Int} {word : ByteArray} {v : Value} {mc : Bool}
theorem Cb.lt (h : Cb w B who r word v mc) : B < w.heap.size := blk_lt h.c0
theorem Cb.below (h : Cb w B who r word v mc) (hb : Below n w w') (hn : B < n) : Cb w' B who r word v mc :=
  ⟨(hb.cell (p := ⟨B, 0, none⟩) hn).trans h.c0, (hb.cell (p := ⟨B, 1, none⟩) hn).trans h.c1, (hb.cell (p := ⟨B, 2, none⟩) hn).trans h.c2, (hb.cell (p := ⟨B, 3, none⟩) hn).trans h.c3, (hb.cell (p := ⟨B, 4, none⟩) hn).trans h.c4,
    (hb.frozen (p := ⟨B, 0, none⟩) hn).trans h.f0, (hb.frozen (p := ⟨B, 1, none⟩) hn).trans h.f1, (hb.frozen (p := ⟨B, 2, none⟩) hn).trans h.f2, (hb.frozen (p := ⟨B, 3, none⟩) hn).trans h.f3, (hb.frozen (p := ⟨B, 4, none⟩) hn).trans h.f4⟩
theorem Cb.grown (h : Cb w B who r word v mc) {row : Option Nat} (hg : w.grownBy w' row) (hne : some B ≠ row) : Cb w' B who r word v mc :=
  ⟨(hg.cell_far ⟨B, 0, none⟩ h.lt hne).trans h.c0, (hg.cell_far ⟨B, 1, none⟩ h.lt hne).trans h.c1, (hg.cell_far ⟨B, 2, none⟩ h.lt hne).trans h.c2, (hg.cell_far ⟨B, 3, none⟩ h.lt hne).trans h.c3, (hg.cell_far ⟨B, 4, none⟩ h.lt hne).trans h.c4,
    (hg.frozen_far ⟨B, 0, none⟩ h.lt hne).trans h.f0, (hg.frozen_far ⟨B, 1, none⟩ h.lt hne).trans h.f1, (hg.frozen_far ⟨B, 2, none⟩ h.lt hne).trans h.f2, (hg.frozen_far ⟨B, 3, none⟩ h.lt hne).trans h.f3, (hg.frozen_far ⟨B, 4, none⟩ h.lt hne).trans h.f4⟩
theorem Cb.other (h : Cb w B who r word v mc) {b i : Nat} (u : Value) (hne : B ≠ b) : Cb (w.setCell ⟨b, i, none⟩ u) B who r word v mc :=
  ⟨cell_set_ne (by omega) h.c0, cell_set_ne (by omega) h.c1, cell_set_ne (by omega) h.c2, cell_set_ne (by omega) h.c3, cell_set_ne (by omega) h.c4, by simpa using h.f0, by simpa using h.f1, by simpa using h.f2, by simpa using h.f3, by simpa using h.f4⟩
theorem Cb.setWho (h : Cb w B who r word v mc) (x : Int) : Cb (w.setCell ⟨B, 0, none⟩ (.int .i64 x)) B x r word v mc :=
  ⟨cell_set_same h.c0, cell_set_ne (by omega) h.c1, cell_set_ne (by omega) h.c2, cell_set_ne (by omega) h.c3, cell_set_ne (by omega) h.c4, by simpa using h.f0, by simpa using h.f1, by simpa using h.f2, by simpa using h.f3, by simpa using h.f4⟩
theorem Cb.setR (h : Cb w B who r word v mc) (x : Int) : Cb (w.setCell ⟨B, 1, none⟩ (.int .i64 x)) B who x word v mc :=
  ⟨cell_set_ne (by omega) h.c0, cell_set_same h.c1, cell_set_ne (by omega) h.c2, cell_set_ne (by omega) h.c3, cell_set_ne (by omega) h.c4, by simpa using h.f0, by simpa using h.f1, by simpa using h.f2, by simpa using h.f3, by simpa using h.f4⟩
theorem Cb.setWord (h : Cb w B who r word v mc) (x : ByteArray) : Cb (w.setCell ⟨B, 2, none⟩ (.string x)) B who r x v mc :=
  ⟨cell_set_ne (by omega) h.c0, cell_set_ne (by omega) h.c1, cell_set_same h.c2, cell_set_ne (by omega) h.c3, cell_set_ne (by omega) h.c4, by simpa using h.f0, by simpa using h.f1, by simpa using h.f2, by simpa using h.f3, by simpa using h.f4⟩
theorem Cb.setN (h : Cb w B who r word v mc) (x : Value) : Cb (w.setCell ⟨B, 3, none⟩ x) B who r word x mc :=
  ⟨cell_set_ne (by omega) h.c0, cell_set_ne (by omega) h.c1, cell_set_ne (by omega) h.c2, cell_set_same h.c3, cell_set_ne (by omega) h.c4, by simpa using h.f0, by simpa using h.f1, by simpa using h.f2, by simpa using h.f3, by simpa using h.f4⟩
theorem Cb.setMc (h : Cb w B who r word v mc) (x : Bool) : Cb (w.setCell ⟨B, 4, none⟩ (.bool x)) B who r word v x :=
  ⟨cell_set_ne (by omega) h.c0, cell_set_ne (by omega) h.c1, cell_set_ne (by omega) h.c2, cell_set_ne (by omega) h.c3, cell_set_same h.c4, by simpa using h.f0, by simpa using h.f1, by simpa using h.f2, by simpa using h.f3, by simpa using h.f4⟩
theorem Cb.born (w : World) (t : TypeId) : Cb (w.alloc (.cells #[.int .i64 0, .int .i64 0, .string ⟨#[]⟩, .slice none 0 0, .bool false] t)) w.heap.size 0 0 ⟨#[]⟩ (.slice none 0 0) false :=
  ⟨by simp, by simp, by simp, by simp, by simp, by simp [go_sem], by simp [go_sem], by simp [go_sem], by simp [go_sem], by simp [go_sem]⟩
/-- the five cells of a box, stored one behind the other -/
theorem Cb.store (h : Cb w B who r word v mc) (a0 a1 a2 a3 a4 : Value) :
    (((((w.setCell ⟨B, 0, none⟩ a0).setCell ⟨B, 1, none⟩ a1).setCell ⟨B, 2, none⟩ a2).setCell ⟨B, 3, none⟩ a3).setCell ⟨B, 4, none⟩ a4).cell? ⟨B, 0, none⟩ = some a0 ∧
    (((((w.setCell ⟨B, 0, none⟩ a0).setCell ⟨B, 1, none⟩ a1).setCell ⟨B, 2, none⟩ a2).setCell ⟨B, 3, none⟩ a3).setCell ⟨B, 4, none⟩ a4).cell? ⟨B, 1, none⟩ = some a1 ∧
    (((((w.setCell ⟨B, 0, none⟩ a0).setCell ⟨B, 1, none⟩ a1).setCell ⟨B, 2, none⟩ a2).setCell ⟨B, 3, none⟩ a3).setCell ⟨B, 4, none⟩ a4).cell? ⟨B, 2, none⟩ = some a2 ∧
    (((((w.setCell ⟨B, 0, none⟩ a0).setCell ⟨B, 1, none⟩ a1).setCell ⟨B, 2, none⟩ a2).setCell ⟨B, 3, none⟩ a3).setCell ⟨B, 4, none⟩ a4).cell? ⟨B, 3, none⟩ = some a3 ∧
    (((((w.setCell ⟨B, 0, none⟩ a0).setCell ⟨B, 1, none⟩ a1).setCell ⟨B, 2, none⟩ a2).setCell ⟨B, 3, none⟩ a3).setCell ⟨B, 4, none⟩ a4).cell? ⟨B, 4, none⟩ = some a4 := by
  refine ⟨?_, ?_, ?_, ?_, ?_⟩
  · exact cell_set_ne (by omega) (cell_set_ne (by omega) (cell_set_ne (by omega) (cell_set_ne (by omega) (cell_set_same h.c0))))
  · exact cell_set_ne (by omega) (cell_set_ne (by omega) (cell_set_ne (by omega) (cell_set_same (cell_set_ne (by omega) h.c1))))
  · exact cell_set_ne (by omega) (cell_set_ne (by omega) (cell_set_same (cell_set_ne (by omega) (cell_set_ne (by omega) h.c2))))
  · exact cell_set_ne (by omega) (cell_set_same (cell_set_ne (by omega) (cell_set_ne (by omega) (cell_set_ne (by omega) h.c3))))
  · exact cell_set_same (cell_set_ne (by omega) (cell_set_ne (by omega) (cell_set_ne (by omega) (cell_set_ne (by omega) h.c4))))
end

/-- what 'Read' answers -/
def ReadIs (s : ByteArray) (w : World) (e : Ending) (w' : World) : Prop :=
  Below w.heap.size w w' ∧ match Mk.readP s with
    | none => ∃ i j t a l c m, e = .returned (.tuple #[.agg #[.int .i64 i, .int .i64 j, .string t, .slice a l c, .bool m], .bool false])
    | some c => ∃ v, e = .returned (.tuple #[.agg #[.int .i64 c.who, .int .i64 c.r, .string c.d.text, v, .bool c.mc], .bool true]) ∧ w'.ownsRow w.heap.size 3 1 v c.n.length (c.n.map fun (x : Nat) => .int .i64 (x : Int))
theorem ReadIs.no {s : ByteArray} {w w' : World} {e : Ending} {i j : Int} {t : ByteArray} {a : Option Addr} {l c : Nat} {m : Bool} (h : Mk.readP s = none) (hb : Below w.heap.size w w') (he : e = .returned (.tuple #[.agg #[.int .i64 i, .int .i64 j, .string t, .slice a l c, .bool m], .bool false])) : ReadIs s w e w' := by
  unfold ReadIs; rw [h]; exact ⟨hb, i, j, t, a, l, c, m, he⟩

set_option maxRecDepth 100000 in
set_option maxHeartbeats 2000000 in
theorem read_long (s : ByteArray) (w : World) (hs : s.size ≤ 2000000) (h : 20 < s.size) : Calls Tryz.prog 29 #[.string s] w fun e w' => ReadIs s w e w' := by
  have h' : (20 : Int) < (s.size : Int) := by omega
  have HN : Hid (Mk.readP s = none) := Mk.read_long h
  go_enter Tryz.func29, Tryz.ntmps29
  go_wp2
  try simp only [Exit.inBlock, Exit.then]
  refine bodyPost_ret (v := .tuple #[.agg #[.int .i64 0, .int .i64 0, .string ⟨#[]⟩, .slice none 0 0, .bool false], .bool false]) ?_ rfl (ReadIs.no HN.out ?_ rfl)
  · simp [results, Tryz.results29, go_sem]
  · exact ((Below.refl _ _).alloc (Nat.le_refl _) _).alloc (by simp) _

theorem own_base {w : World} {base base' e size n : Nat} {v : Value} {xs : List Value} (h : w.ownsRow base e size v n xs) (hb : base' ≤ base) : w.ownsRow base' e size v n xs := by
  refine ⟨h.1, ?_⟩
  rcases h.2 with h0 | ⟨g, cap, cur, h1, h2, h3⟩
  · exact .inl h0
  · exact .inr ⟨g, cap, cur, h1, Nat.le_trans hb h2, h3⟩
theorem isU_is (x : ByteArray) : Mk.isU x = (x.toList == [117]) := by unfold Mk.isU Mk.bu; rw [show (ByteArray.mk #[117]).toList = [117] from ByteArray.toList_mk _]
theorem isM_is (x : ByteArray) : Mk.isM x = (x.toList == [109]) := by unfold Mk.isM Mk.bm; rw [show (ByteArray.mk #[109]).toList = [109] from ByteArray.toList_mk _]
theorem mode_text (d : Mk.Wd) : (d.text.toList == [109, 111, 100, 101]) = d.isMode := by cases d <;> simp [Mk.Wd.text, Mk.Wd.isMode]
theorem words_pos (s : ByteArray) : 0 < (Mk.words s).length := by unfold Mk.words; simp
/-- the words lie at block g -/
def Strs (w : World) (g off : Nat) (l : List ByteArray) : Prop := ∀ (i : Nat), i < l.length → w.cell? ⟨g, off + i, none⟩ = some (.string (Mk.wrd l i))
theorem Strs.below {w w' : World} {g off n : Nat} {l : List ByteArray} (h : Strs w g off l) (hb : Below n w w') (hn : g < n) : Strs w' g off l := fun i hi => (hb.cell (p := ⟨g, off + i, none⟩) hn).trans (h i hi)

set_option maxRecDepth 100000 in
set_option maxHeartbeats 4000000 in
theorem read_short (s : ByteArray) (w : World) (h20 : s.size ≤ 20) : Calls Tryz.prog 29 #[.string s] w fun e w' => ReadIs s w e w' := by
  have h20' : ¬ (20 : Int) < (s.size : Int) := by omega
  have HLong : Hid (¬ 20 < s.size) := (by omega : ¬ 20 < s.size)
  obtain ⟨i0, hi0, hzz0, hzz1, hzz2⟩ := info_parts Tryz.infoInt
  go_enter Tryz.func29, Tryz.ntmps29
  go_wp2_with fail
  have HC0 : Hid (Cb ((w.alloc (.cells #[.int .i64 0, .int .i64 0, .string ⟨#[]⟩, .slice none 0 0, .bool false] 83)).alloc (.cells #[.int .i64 0, .int .i64 0, .string ⟨#[]⟩, .slice none 0 0, .bool false] 83)) (w.heap.size + 1) 0 0 ⟨#[]⟩ (.slice none 0 0) false) := by
    have := Cb.born (w.alloc (.cells #[.int .i64 0, .int .i64 0, .string ⟨#[]⟩, .slice none 0 0, .bool false] 83)) 83
    rw [World.size_alloc] at this
    exact this
  have HR0 : Hid (Cb ((w.alloc (.cells #[.int .i64 0, .int .i64 0, .string ⟨#[]⟩, .slice none 0 0, .bool false] 83)).alloc (.cells #[.int .i64 0, .int .i64 0, .string ⟨#[]⟩, .slice none 0 0, .bool false] 83)) w.heap.size 0 0 ⟨#[]⟩ (.slice none 0 0) false) := (Cb.born w 83).below ((Below.refl _ _).alloc (Nat.le_refl _) _) (by simp)
  have HB0 : Hid (Below w.heap.size w ((w.alloc (.cells #[.int .i64 0, .int .i64 0, .string ⟨#[]⟩, .slice none 0 0, .bool false] 83)).alloc (.cells #[.int .i64 0, .int .i64 0, .string ⟨#[]⟩, .slice none 0 0, .bool false] 83))) := ((Below.refl _ _).alloc (Nat.le_refl _) _).alloc (by simp) _
  have hz0 : ((w.alloc (.cells #[.int .i64 0, .int .i64 0, .string ⟨#[]⟩, .slice none 0 0, .bool false] 83)).alloc (.cells #[.int .i64 0, .int .i64 0, .string ⟨#[]⟩, .slice none 0 0, .bool false] 83)).heap.size = w.heap.size + 1 + 1 := by simp
  generalize (w.alloc (.cells #[.int .i64 0, .int .i64 0, .string ⟨#[]⟩, .slice none 0 0, .bool false] 83)).alloc (.cells #[.int .i64 0, .int .i64 0, .string ⟨#[]⟩, .slice none 0 0, .bool false] 83) = W0 at *
  refine (cut_any s _ (by omega)).mono ?_
  rintro e w2 ⟨v, rfl, hown, hb2⟩
  have HB2 : Hid (Below w.heap.size w w2) := HB0.out.trans (hb2.mono HB0.out.size)
  have HC2 : Hid (Cb w2 (w.heap.size + 1) 0 0 ⟨#[]⟩ (.slice none 0 0) false) := HC0.out.below hb2 HC0.out.lt
  have HR2 : Hid (Cb w2 w.heap.size 0 0 ⟨#[]⟩ (.slice none 0 0) false) := HR0.out.below hb2 HR0.out.lt
  obtain ⟨gw, cw, rfl, hgw, hgl⟩ := hown.form (words_pos s)
  have HS2 : Hid (Strs w2 gw 0 (Mk.words s)) := fun i hi => by
    rw [Nat.zero_add, hown.cellAt i (by omega)]
    rw [Mk.wrd_at hi]
    simp [List.getElem?_map, List.getElem?_eq_getElem hi]
  have hcw : (Mk.words s).length ≤ cw := by
    rcases hown.2 with ⟨h, _⟩ | ⟨g', cap', cur, h, _, _, h5, _⟩
    · cases h
    · injection h with _ _ h; omega
  rw [hz0] at hgw
  have hlenw : (Mk.words s).length ≤ 21 := by
    have := (Mk.cutTo_le s s.size).2
    unfold Mk.words
    simp; omega
  clear hown hb2 HC0 HR0 HB0 hz0
  by_cases h3 : (Mk.words s).length < 3
  · have HN : Hid (Mk.readP s = none) := Mk.read_few h3
    have h3' : ((Mk.words s).length : Int) < 3 := by omega
    obtain ⟨a0, a1, a2, a3, a4, _, _, _, _, _⟩ := HC2.out
    obtain ⟨b0, b1, b2, b3, b4, g0, g1, g2, g3, g4⟩ := HR2.out
    go_wp2
    obtain ⟨s0, s1, s2, s3, s4⟩ := HR2.out.store (.int .i64 0) (.int .i64 0) (.string ⟨#[]⟩) (.slice none 0 0) (.bool false)
    try simp only [Exit.inBlock, Exit.then]
    refine bodyPost_ret (v := .tuple #[.agg #[.int .i64 0, .int .i64 0, .string ⟨#[]⟩, .slice none 0 0, .bool false], .bool false]) ?_ rfl (ReadIs.no HN.out ?_ rfl)
    · simp [results, Tryz.results29, go_sem, s0, s1, s2, s3, s4]
    · exact ((((HB2.out.setCell (Nat.le_refl _) _).setCell (Nat.le_refl _) _).setCell (Nat.le_refl _) _).setCell (Nat.le_refl _) _).setCell (Nat.le_refl _) _
  · have h3' : ¬ ((Mk.words s).length : Int) < 3 := by omega
    have h3d : decide (((Mk.words s).length : Int) < 3) = false := by rw [decide_eq_false_iff_not]; omega
    have H3 : Hid (¬ (Mk.words s).length < 3) := h3
    have h0l : (0 : Int) < ((Mk.words s).length : Int) := by omega
    have h1l : (1 : Int) < ((Mk.words s).length : Int) := by omega
    have h2l : (2 : Int) < ((Mk.words s).length : Int) := by omega
    have c_0 := HS2.out 0 (by omega)
    have c_1 := HS2.out 1 (by omega)
    have c_2 := HS2.out 2 (by omega)
    simp only [Nat.zero_add] at c_0 c_1 c_2
    have q0 := Mk.word_size h20 0
    have q1 := Mk.word_size h20 1
    have q2 := Mk.word_size h20 2
    clear h3
    go_wp2_with fail
    refine (number_any (Mk.wrd (Mk.words s) 0) 0 3 _ (by omega)).mono ?_
    rintro e w3 ⟨rfl, hw3⟩
    obtain rfl := hw3.symm
    go_wp2_with fail
    refine (number_any (Mk.wrd (Mk.words s) 1) 1 99 _ (by omega)).mono ?_
    rintro e w3 ⟨rfl, hw3⟩
    obtain rfl := hw3.symm
    go_wp2_with fail
    cases hwd : Mk.wd (Mk.wrd (Mk.words s) 2) with
    | none =>
      have HN : Hid (Mk.readP s = none) := Mk.read_noword hwd
      refine (bounds_none _ _ hwd).mono ?_
      rintro e w3 ⟨rfl, hb3⟩
      have HB3 : Hid (Below w.heap.size w w3) := HB2.out.trans (hb3.mono HB2.out.size)
      have HR3 : Hid (Cb w3 w.heap.size 0 0 ⟨#[]⟩ (.slice none 0 0) false) := HR2.out.below hb3 HR2.out.lt
      obtain ⟨a0, a1, a2, a3, a4, _, _, _, _, _⟩ := HC2.out.below hb3 HC2.out.lt
      obtain ⟨b0, b1, b2, b3, b4, g0, g1, g2, g3, g4⟩ := HR3.out
      clear hb3 hwd
      go_wp2
      all_goals
        obtain ⟨s0, s1, s2, s3, s4⟩ := HR3.out.store (.int .i64 0) (.int .i64 0) (.string ⟨#[]⟩) (.slice none 0 0) (.bool false)
        try simp only [Exit.inBlock, Exit.then]
        refine bodyPost_ret (v := .tuple #[.agg #[.int .i64 0, .int .i64 0, .string ⟨#[]⟩, .slice none 0 0, .bool false], .bool false]) ?_ rfl (ReadIs.no HN.out ?_ rfl)
        · simp [results, Tryz.results29, go_sem, s0, s1, s2, s3, s4]
        · exact ((((HB3.out.setCell (Nat.le_refl _) _).setCell (Nat.le_refl _) _).setCell (Nat.le_refl _) _).setCell (Nat.le_refl _) _).setCell (Nat.le_refl _) _
    | some d =>
      refine (bounds_some _ d _ hwd).mono ?_
      rintro e w3 ⟨gl, gh, rfl, hnl, hnh, hgl3, hgh3, hgl4, hgh4, hb3⟩
      have HB3 : Hid (Below w.heap.size w w3) := HB2.out.trans (hb3.mono HB2.out.size)
      have HR3 : Hid (Cb w3 w.heap.size 0 0 ⟨#[]⟩ (.slice none 0 0) false) := HR2.out.below hb3 HR2.out.lt
      have HC3 : Hid (Cb w3 (w.heap.size + 1) 0 0 ⟨#[]⟩ (.slice none 0 0) false) := HC2.out.below hb3 HC2.out.lt
      have HS3 : Hid (Strs w3 gw 0 (Mk.words s)) := HS2.out.below hb3 hgl
      have HNl : Hid (Nums w3 gl d.lo) := hnl
      have HNh : Hid (Nums w3 gh d.hi) := hnh
      have HWd : Hid (Mk.wd (Mk.wrd (Mk.words s) 2) = some d) := hwd
      have ht := Mk.wd_text hwd
      have hsz23 := hb3.size
      clear hb3 hwd hnl hnh c_0 c_1
      by_cases hab : (Mk.numB (Mk.wrd (Mk.words s) 0) 0 3 && Mk.numB (Mk.wrd (Mk.words s) 1) 1 99) = true
      · obtain ⟨ha, hb⟩ := Bool.and_eq_true_iff.1 hab
        have HAB : Hid ((Mk.numB (Mk.wrd (Mk.words s) 0) 0 3 && Mk.numB (Mk.wrd (Mk.words s) 1) 1 99) = true) := hab
        have c2' := HS3.out 2 (by have := H3.out; omega)
        simp only [Nat.zero_add] at c2'
        rw [ht] at c2' c_2
        have hlt2 := HC2.out.lt
        have n1 : ¬ gw = w.heap.size + 1 := by omega
        have n2 : ¬ gl = w.heap.size + 1 := by omega
        have n3 : ¬ gh = w.heap.size + 1 := by omega
        obtain ⟨a0, a1, a2, a3, a4, fa0, fa1, fa2, fa3, fa4⟩ := HC3.out
        have HC4 : Hid (Cb (((w3.setCell ⟨w.heap.size + 1, 0, none⟩ (.int .i64 (Mk.numV (Mk.wrd (Mk.words s) 0)))).setCell ⟨w.heap.size + 1, 1, none⟩ (.int .i64 (Mk.numV (Mk.wrd (Mk.words s) 1)))).setCell ⟨w.heap.size + 1, 2, none⟩ (.string d.text)) (w.heap.size + 1) (Mk.numV (Mk.wrd (Mk.words s) 0)) (Mk.numV (Mk.wrd (Mk.words s) 1)) d.text (.slice none 0 0) false) := ((HC3.out.setWho _).setR _).setWord _
        have HR4 : Hid (Cb (((w3.setCell ⟨w.heap.size + 1, 0, none⟩ (.int .i64 (Mk.numV (Mk.wrd (Mk.words s) 0)))).setCell ⟨w.heap.size + 1, 1, none⟩ (.int .i64 (Mk.numV (Mk.wrd (Mk.words s) 1)))).setCell ⟨w.heap.size + 1, 2, none⟩ (.string d.text)) w.heap.size 0 0 ⟨#[]⟩ (.slice none 0 0) false) := ((HR3.out.other _ (by omega)).other _ (by omega)).other _ (by omega)
        have HS4 : Hid (Strs (((w3.setCell ⟨w.heap.size + 1, 0, none⟩ (.int .i64 (Mk.numV (Mk.wrd (Mk.words s) 0)))).setCell ⟨w.heap.size + 1, 1, none⟩ (.int .i64 (Mk.numV (Mk.wrd (Mk.words s) 1)))).setCell ⟨w.heap.size + 1, 2, none⟩ (.string d.text)) gw 0 (Mk.words s)) := fun i hi => cell_set_ne (by omega) (cell_set_ne (by omega) (cell_set_ne (by omega) (HS3.out i hi)))
        have HL4 : Hid (Nums (((w3.setCell ⟨w.heap.size + 1, 0, none⟩ (.int .i64 (Mk.numV (Mk.wrd (Mk.words s) 0)))).setCell ⟨w.heap.size + 1, 1, none⟩ (.int .i64 (Mk.numV (Mk.wrd (Mk.words s) 1)))).setCell ⟨w.heap.size + 1, 2, none⟩ (.string d.text)) gl d.lo) := fun i hi => cell_set_ne (by omega) (cell_set_ne (by omega) (cell_set_ne (by omega) (HNl.out i hi)))
        have HH4 : Hid (Nums (((w3.setCell ⟨w.heap.size + 1, 0, none⟩ (.int .i64 (Mk.numV (Mk.wrd (Mk.words s) 0)))).setCell ⟨w.heap.size + 1, 1, none⟩ (.int .i64 (Mk.numV (Mk.wrd (Mk.words s) 1)))).setCell ⟨w.heap.size + 1, 2, none⟩ (.string d.text)) gh d.hi) := fun i hi => cell_set_ne (by omega) (cell_set_ne (by omega) (cell_set_ne (by omega) (HNh.out i hi)))
        have HB4 : Hid (Below w.heap.size w (((w3.setCell ⟨w.heap.size + 1, 0, none⟩ (.int .i64 (Mk.numV (Mk.wrd (Mk.words s) 0)))).setCell ⟨w.heap.size + 1, 1, none⟩ (.int .i64 (Mk.numV (Mk.wrd (Mk.words s) 1)))).setCell ⟨w.heap.size + 1, 2, none⟩ (.string d.text))) := ((HB3.out.setCell (by simp) _).setCell (by simp) _).setCell (by simp) _
        have m1 : gw < (((w3.setCell ⟨w.heap.size + 1, 0, none⟩ (.int .i64 (Mk.numV (Mk.wrd (Mk.words s) 0)))).setCell ⟨w.heap.size + 1, 1, none⟩ (.int .i64 (Mk.numV (Mk.wrd (Mk.words s) 1)))).setCell ⟨w.heap.size + 1, 2, none⟩ (.string d.text)).heap.size := by simp; omega
        have m2 : gl < (((w3.setCell ⟨w.heap.size + 1, 0, none⟩ (.int .i64 (Mk.numV (Mk.wrd (Mk.words s) 0)))).setCell ⟨w.heap.size + 1, 1, none⟩ (.int .i64 (Mk.numV (Mk.wrd (Mk.words s) 1)))).setCell ⟨w.heap.size + 1, 2, none⟩ (.string d.text)).heap.size := by simp; omega
        have m3 : gh < (((w3.setCell ⟨w.heap.size + 1, 0, none⟩ (.int .i64 (Mk.numV (Mk.wrd (Mk.words s) 0)))).setCell ⟨w.heap.size + 1, 1, none⟩ (.int .i64 (Mk.numV (Mk.wrd (Mk.words s) 1)))).setCell ⟨w.heap.size + 1, 2, none⟩ (.string d.text)).heap.size := by simp; omega
        clear hab
        go_upto_region 15 with fail
        clear a0 a1 a2 a3 a4 fa0 fa1 fa2 fa3 fa4 c2' c_2
        generalize ((w3.setCell ⟨w.heap.size + 1, 0, none⟩ (.int .i64 (Mk.numV (Mk.wrd (Mk.words s) 0)))).setCell ⟨w.heap.size + 1, 1, none⟩ (.int .i64 (Mk.numV (Mk.wrd (Mk.words s) 1)))).setCell ⟨w.heap.size + 1, 2, none⟩ (.string d.text) = W4 at *
        obtain ⟨a0, a1, a2, a3, a4, fa0, fa1, fa2, fa3, fa4⟩ := HC4.out
        go_upto_region 16 with fail
        obtain ⟨off, hoff, HS5'⟩ : ∃ off, (if cw = 3 then some (⟨gw, 0, none⟩ : Addr) else some ⟨gw, 3, none⟩) = some ⟨gw, off, none⟩ ∧ Strs W4 gw off ((Mk.words s).drop 3) := by
          by_cases e : cw = 3
          · exact ⟨0, if_pos e, fun i hi => by simp at hi; omega⟩
          · refine ⟨3, if_neg e, fun i hi => ?_⟩
            have hi' : 3 + i < (Mk.words s).length := by simp at hi; omega
            have := HS4.out (3 + i) hi'
            rw [Nat.zero_add] at this
            rw [this, Mk.wrd_at hi', Mk.wrd_at hi]
            simp
        rw [hoff]
        clear hoff
        obtain ⟨rest, hrest⟩ : ∃ rest, rest = (Mk.words s).drop 3 := ⟨_, rfl⟩
        have hrl : (Mk.words s).length - 3 = rest.length := by rw [hrest]; simp
        rw [hrl]
        rw [← hrest] at HS5'
        have HRest : Hid (rest = (Mk.words s).drop 3) := hrest
        have HSr : Hid (Strs W4 gw off rest) := HS5'
        have HWr : Hid (∀ i, (Mk.wrd rest i).size ≤ 1000000) := fun i => by
          by_cases h : i < rest.length
          · rw [Mk.wrd_at h]
            have hm : rest[i] ∈ Mk.words s := List.mem_of_mem_drop (by rw [← HRest.out]; exact List.getElem_mem h)
            have := Mk.words_size hm
            omega
          · have e : Mk.wrd rest i = Mk.bu := by simp [Mk.wrd, List.getD, List.getElem?_eq_none (Nat.le_of_not_lt h)]
            rw [e]; decide
        have hrl21 : rest.length ≤ 21 := by omega
        clear hrest HS5' hrl
        have hlt4 := HC4.out.lt
        have hmode := mode_text d
        rcases Bool.eq_false_or_eq_true d.isMode with hm | hm
        · rw [hm] at hmode
          by_cases hr0 : rest.length = 0
          · have hr0' : ((rest.length : Int) == 0) = true := by rw [beq_iff_eq]; omega
            have HN : Hid (Mk.readP s = none) := Mk.read_no HWd.out (by
              have : Mk.modeOk d ((Mk.words s).drop 3) = false := by unfold Mk.modeOk; rw [hm, ← HRest.out, hr0]; rfl
              rw [this, Bool.and_false, Bool.false_and])
            obtain ⟨b0, b1, b2, b3, b4, g0, g1, g2, g3, g4⟩ := HR4.out
            clear hr0
            go_wp2
            obtain ⟨s0, s1, s2, s3, s4⟩ := HR4.out.store (.int .i64 (Mk.numV (Mk.wrd (Mk.words s) 0))) (.int .i64 (Mk.numV (Mk.wrd (Mk.words s) 1))) (.string d.text) (.slice none 0 0) (.bool false)
            try simp only [Exit.inBlock, Exit.then]
            refine bodyPost_ret (v := .tuple #[.agg #[.int .i64 (Mk.numV (Mk.wrd (Mk.words s) 0)), .int .i64 (Mk.numV (Mk.wrd (Mk.words s) 1)), .string d.text, .slice none 0 0, .bool false], .bool false]) ?_ rfl (ReadIs.no HN.out ?_ rfl)
            · simp [results, Tryz.results29, go_sem, s0, s1, s2, s3, s4]
            · exact ((((HB4.out.setCell (Nat.le_refl _) _).setCell (Nat.le_refl _) _).setCell (Nat.le_refl _) _).setCell (Nat.le_refl _) _).setCell (Nat.le_refl _) _
          · obtain ⟨mm, hmm⟩ : ∃ mm, rest.length = mm + 1 := ⟨rest.length - 1, by omega⟩
            have HRl : Hid (rest.length = mm + 1) := hmm
            have e9 := HSr.out mm (by omega)
            have hm0 : (((mm + 1 : Nat) : Int) == 0) = false := by rw [beq_eq_false_iff_ne]; omega
            have hm0' : (((mm : Int) + 1) == 0) = false := by rw [beq_eq_false_iff_ne]; omega
            have hm21 : mm ≤ 21 := by omega
            have hcw2 : mm + 4 ≤ cw := by
              have h9 : rest.length = (Mk.words s).length - 3 := by rw [HRest.out]; simp
              omega
            rw [hmm]
            clear hr0 hmm hrl21
            rcases Bool.eq_false_or_eq_true ((Mk.wrd rest mm).toList == [109]) with hM | hM
            · have hU : ((Mk.wrd rest mm).toList == [117]) = false := by rw [eq_of_beq hM]; rfl
              have hU2 : ((Mk.wrd rest mm).toList != [117]) = true := by rw [bne, hU]; rfl
              have hM2 : ((Mk.wrd rest mm).toList != [109]) = false := by rw [bne, hM]; rfl
              have HMok : Hid (Mk.modeOk d ((Mk.words s).drop 3) = true) := by
                unfold Mk.modeOk
                rw [hm, ← HRest.out, HRl.out, Nat.add_sub_cancel, isU_is, isM_is, hU, hM, show decide (0 < mm + 1) = true from decide_eq_true (Nat.succ_pos mm)]
                rfl
              have HMis : Hid (Mk.modeIs d ((Mk.words s).drop 3) = true) := by
                unfold Mk.modeIs
                rw [hm, ← HRest.out, HRl.out, Nat.add_sub_cancel, isM_is, hM]; rfl
              go_upto_region 22 with fail
              obtain ⟨W5, hW5⟩ : ∃ W5, W5 = W4.setCell ⟨w.heap.size + 1, 4, none⟩ (.bool true) := ⟨_, rfl⟩
              obtain ⟨al, hal⟩ : ∃ al, al = rest.dropLast := ⟨_, rfl⟩
              obtain ⟨mcv, hmcv⟩ : ∃ mcv, mcv = true := ⟨_, rfl⟩
              have hall : al.length = mm := by rw [hal, List.length_dropLast, HRl.out]; omega
              have HArgs : Hid (Mk.args d ((Mk.words s).drop 3) = al) := by unfold Mk.args; rw [hm, ← HRest.out, hal]; rfl
              have HAl : Hid (al.length ≤ 21) := (by have := HRl.out; omega : al.length ≤ 21)
              have hwa : ∀ i, i < mm → Mk.wrd al i = Mk.wrd rest i := fun i hi => by
                have h1 : i < al.length := by omega
                have h2 : i < rest.length := by have := HRl.out; omega
                rw [Mk.wrd_at h1, Mk.wrd_at h2]
                subst hal
                simp
              have HWs : Hid (∀ i, (Mk.wrd al i).size ≤ 1000000) := fun i => by
                by_cases h : i < mm
                · rw [hwa i h]; exact HWr.out i
                · have e : Mk.wrd al i = Mk.bu := by simp [Mk.wrd, List.getD, List.getElem?_eq_none (show al.length ≤ i by omega)]
                  rw [e]; decide
              have HC5 : Hid (Cb W5 (w.heap.size + 1) (Mk.numV (Mk.wrd (Mk.words s) 0)) (Mk.numV (Mk.wrd (Mk.words s) 1)) d.text (.slice none 0 0) mcv) := by rw [hW5, hmcv]; exact HC4.out.setMc _
              have HR5 : Hid (Cb W5 w.heap.size 0 0 ⟨#[]⟩ (.slice none 0 0) false) := by rw [hW5]; exact HR4.out.other _ (by omega)
              have HS5 : Hid (Strs W5 gw off al) := fun i hi => by
                rw [hW5, hwa i (by omega)]
                exact cell_set_ne (by omega) (HSr.out i (by have := HRl.out; omega))
              have HL5 : Hid (Nums W5 gl d.lo) := fun i hi => by rw [hW5]; exact cell_set_ne (by omega) (HL4.out i hi)
              have HH5 : Hid (Nums W5 gh d.hi) := fun i hi => by rw [hW5]; exact cell_set_ne (by omega) (HH4.out i hi)
              have HB5 : Hid (Below w.heap.size w W5) := by rw [hW5]; exact HB4.out.setCell (by simp) _
              have k1 : gw < W5.heap.size := by rw [hW5]; simpa using m1
              have k2 : gl < W5.heap.size := by rw [hW5]; simpa using m2
              have k3 : gh < W5.heap.size := by rw [hW5]; simpa using m3
              rw [← hmcv] at HMis
              rw [← hW5, ← hall]
              clear hal hW5 hmcv hm hwa a0 a1 a2 a3 a4 fa0 fa1 fa2 fa3 fa4 hU hM e9 hall hU2 hM2 hmode hm0 hm0'
              obtain ⟨a0, a1, a2, a3, a4, fa0, fa1, fa2, fa3, fa4⟩ := HC5.out
              have al20 : al.length ≤ 21 := by have := HAl.out; omega
              have HLo : Hid (d.lo.length = d.hi.length ∧ d.lo.length ≤ 3) := Mk.lo_hi d
              by_cases hlen : al.length = d.lo.length
              · have hlen' : ((al.length : Int) == (d.lo.length : Int)) = true := by rw [beq_iff_eq]; omega
                have hlen2 : ((al.length : Int) != (d.lo.length : Int)) = false := by rw [bne, hlen']; rfl
                have HLn : Hid (al.length = d.lo.length) := hlen
                clear hlen
                go_wp2
                go_loopw [14] (fun j wr => ∃ k : Nat, k ≤ al.length ∧ j = .int .i64 k ∧ Mk.fitTo al d k = true ∧ ∃ v, Cb wr (w.heap.size + 1) (Mk.numV (Mk.wrd (Mk.words s) 0)) (Mk.numV (Mk.wrd (Mk.words s) 1)) d.text v mcv ∧ wr.ownsRow W5.heap.size 3 1 v k ((al.take k).map fun x => .int .i64 (Mk.numV x : Int)) ∧ Cb wr w.heap.size 0 0 ⟨#[]⟩ (.slice none 0 0) false ∧ Strs wr gw off al ∧ Nums wr gl d.lo ∧ Nums wr gh d.hi ∧ W5.heap.size ≤ wr.heap.size ∧ Below w.heap.size w wr) (fun j _ => al.length - (intOf j).toNat)
                case atStart => exact ⟨0, Nat.zero_le _, rfl, rfl, _, HC5.out, ⟨by simp, .inl ⟨rfl, rfl⟩⟩, HR5.out, HS5.out, HL5.out, HH5.out, Nat.le_refl _, HB5.out⟩
                case round =>
                  obtain ⟨k, hk, rfl, hfit, v, hC, hown, hR, hS, hL, hH, hsz, hB⟩ := hrel
                  obtain ⟨av, cv, rfl⟩ := own_form hown
                  have HFit : Hid (Mk.fitTo al d k = true) := hfit
                  have HC : Hid (Cb wr (w.heap.size + 1) (Mk.numV (Mk.wrd (Mk.words s) 0)) (Mk.numV (Mk.wrd (Mk.words s) 1)) d.text (.slice av k cv) mcv) := hC
                  have HR : Hid (Cb wr w.heap.size 0 0 ⟨#[]⟩ (.slice none 0 0) false) := hR
                  have HB : Hid (Below w.heap.size w wr) := hB
                  have HOw : Hid (wr.ownsRow W5.heap.size 3 1 (.slice av k cv) k ((al.take k).map fun x => .int .i64 (Mk.numV x : Int))) := hown
                  have HSt : Hid (Strs wr gw off al) := hS
                  have HL : Hid (Nums wr gl d.lo) := hL
                  have HH : Hid (Nums wr gh d.hi) := hH
                  clear hfit hC hown hR hS hL hH hB a0 a1 a2 a3 a4 fa0 fa1 fa2 fa3 fa4
                  obtain ⟨a0, a1, a2, a3, a4, fa0, fa1, fa2, fa3, fa4⟩ := HC.out
                  by_cases hlt : k < al.length
                  · have hlt' : (k : Int) < (al.length : Int) := by omega
                    have hlt2 : (k : Int) < (d.lo.length : Int) := by have := HLn.out; omega
                    have e1 := HSt.out k hlt
                    have e2 := HL.out k (by have := HLn.out; omega)
                    have e3 := HH.out k (by have := HLn.out; have := HLo.out; omega)
                    rw [← Mk.nth_at] at e2 e3
                    have hsk : (Mk.wrd al k).size ≤ 1000000 := HWs.out k
                    have HNm : Hid (∀ w : World, Calls Tryz.prog 48 #[.string (Mk.wrd al k), .int .i64 (Mk.nth d.lo k), .int .i64 (Mk.nth d.hi k)] w fun e w' => e = .returned (.tuple #[.int .i64 (Mk.numV (Mk.wrd al k) : Int), .bool (Mk.numB (Mk.wrd al k) (Mk.nth d.lo k) (Mk.nth d.hi k))]) ∧ w' = w) := fun w => number_any _ _ _ w hsk
                    go_wp2
                    go_quiet ((go_at_call 48; exact Calls.quiet_of_same (HNm.out _)))
                    have hbq : Below wr.heap.size wr (wr.drewN nq) := below_drewN (Below.refl _ _) nq
                    have HC6 : Hid (Cb (wr.drewN nq) (w.heap.size + 1) (Mk.numV (Mk.wrd (Mk.words s) 0)) (Mk.numV (Mk.wrd (Mk.words s) 1)) d.text (.slice av k cv) mcv) := HC.out.below hbq HC.out.lt
                    have HR6 : Hid (Cb (wr.drewN nq) w.heap.size 0 0 ⟨#[]⟩ (.slice none 0 0) false) := HR.out.below hbq HR.out.lt
                    have HB6 : Hid (Below w.heap.size w (wr.drewN nq)) := HB.out.trans (hbq.mono HB.out.size)
                    have HO6 : Hid ((wr.drewN nq).ownsRow W5.heap.size 3 1 (.slice av k cv) k ((al.take k).map fun x => .int .i64 (Mk.numV x : Int))) := own_below HOw.out hbq (fun k hk => (HOw.out.lt k hk).2)
                    have HS6 : Hid (Strs (wr.drewN nq) gw off al) := HSt.out.below hbq (by omega)
                    have HL6 : Hid (Nums (wr.drewN nq) gl d.lo) := HL.out.below hbq (by omega)
                    have HH6 : Hid (Nums (wr.drewN nq) gh d.hi) := HH.out.below hbq (by omega)
                    have hsz6 : W5.heap.size ≤ (wr.drewN nq).heap.size := Nat.le_trans hsz hbq.size
                    clear hbq a0 a1 a2 a3 a4 fa0 fa1 fa2 fa3 fa4 e1 e2 e3
                    generalize wr.drewN nq = W6 at *
                    obtain ⟨a0, a1, a2, a3, a4, fa0, fa1, fa2, fa3, fa4⟩ := HC6.out
                    rcases Bool.eq_false_or_eq_true (Mk.numB (Mk.wrd al k) (Mk.nth d.lo k) (Mk.nth d.hi k)) with hnb | hnb
                    · have HF1 : Hid (Mk.fitTo al d (k + 1) = true) := by
                        show (Mk.fitTo al d k && _) = true
                        rw [HFit.out, hnb]; rfl
                      have hbase : W5.heap.size ≤ W6.heap.size + 1 := by omega
                      have HCa : Hid (Cb (W6.alloc (.cells #[.int .i64 (Mk.numV (Mk.wrd al k) : Int)] 3)) (w.heap.size + 1) (Mk.numV (Mk.wrd (Mk.words s) 0)) (Mk.numV (Mk.wrd (Mk.words s) 1)) d.text (.slice av k cv) mcv) := HC6.out.below ((Below.refl _ _).alloc (Nat.le_refl _) _) HC6.out.lt
                      have HRa : Hid (Cb (W6.alloc (.cells #[.int .i64 (Mk.numV (Mk.wrd al k) : Int)] 3)) w.heap.size 0 0 ⟨#[]⟩ (.slice none 0 0) false) := HR6.out.below ((Below.refl _ _).alloc (Nat.le_refl _) _) HR6.out.lt
                      have HOa : Hid ((W6.alloc (.cells #[.int .i64 (Mk.numV (Mk.wrd al k) : Int)] 3)).ownsRow W5.heap.size 3 1 (.slice av k cv) k ((al.take k).map fun x => .int .i64 (Mk.numV x : Int))) := World.ownsRow.alloc HO6.out _
                      have hfar : ∀ b, b < W5.heap.size → some b ≠ (Value.slice av k cv).ownBlock := fun b hb e => by have := (HOa.out.lt b e.symm).1; omega
                      have HFar : Hid (∀ b, b < W5.heap.size → some b ≠ (Value.slice av k cv).ownBlock) := hfar
                      have hsz5 : w.heap.size + 1 < W5.heap.size := HC5.out.lt
                      clear hfar
                      go_wp2_with (at_builtin; (refine wpList_append_lies _ rfl _ _ _ rfl W5.heap.size 3 i0 _ 1 8 Tryz.underlying53 hi0 hzz0 hzz1 hzz2 rfl (by omega) (.slice av k cv) k ((al.take k).map fun x => .int .i64 (Mk.numV x : Int)) rfl HOa.out ⟨W6.heap.size, 0, none⟩ 1 1 [.int .i64 (Mk.numV (Mk.wrd al k) : Int)] rfl rfl (World.news_of_block (cs := #[.int .i64 (Mk.numV (Mk.wrd al k) : Int)]) (t := 3) (fr := (0, 0)) (heap_alloc_new W6 _)) (by simp [Value.oneCell']) (by omega) (by unfold maxLen; omega) (by omega) (by simp; omega) (W6.heap.size + 1) (by simp) ?_; intro g7 cap7 w7 hown7 hgrow7 hat7 hlt7; obtain ⟨p0, p1, p2, p3, p4, pf0, pf1, pf2, pf3, pf4⟩ := HCa.out.grown hgrow7 (HFar.out _ hsz5)))
                      have HC7 : Hid (Cb (w7.setCell ⟨w.heap.size + 1, 3, none⟩ (.slice (some ⟨g7, 0, none⟩) (k + 1) cap7)) (w.heap.size + 1) (Mk.numV (Mk.wrd (Mk.words s) 0)) (Mk.numV (Mk.wrd (Mk.words s) 1)) d.text (.slice (some ⟨g7, 0, none⟩) (k + 1) cap7) mcv) := (HCa.out.grown hgrow7 (HFar.out _ hsz5)).setN _
                      have HR7 : Hid (Cb (w7.setCell ⟨w.heap.size + 1, 3, none⟩ (.slice (some ⟨g7, 0, none⟩) (k + 1) cap7)) w.heap.size 0 0 ⟨#[]⟩ (.slice none 0 0) false) := (HRa.out.grown hgrow7 (HFar.out _ (by omega))).other _ (by omega)
                      have HO7 : Hid ((w7.setCell ⟨w.heap.size + 1, 3, none⟩ (.slice (some ⟨g7, 0, none⟩) (k + 1) cap7)).ownsRow W5.heap.size 3 1 (.slice (some ⟨g7, 0, none⟩) (k + 1) cap7) (k + 1) ((al.take (k + 1)).map fun x => .int .i64 (Mk.numV x : Int))) := by
                        rw [Mk.take_snoc al k hlt, List.map_append, List.map_cons, List.map_nil, ← Mk.wrd_at hlt]
                        exact ownsRow_setCell_below hown7 (by show w.heap.size + 1 < W5.heap.size; exact hsz5) _
                      have hcell : ∀ b i u, b < W5.heap.size → b ≠ w.heap.size + 1 → W6.cell? ⟨b, i, none⟩ = some u → (w7.setCell ⟨w.heap.size + 1, 3, none⟩ (.slice (some ⟨g7, 0, none⟩) (k + 1) cap7)).cell? ⟨b, i, none⟩ = some u := fun b i u hb hne h => cell_set_ne (.inl hne) ((hgrow7.cell_far ⟨b, i, none⟩ (by show b < _; simp; have := blk_lt h; omega) (HFar.out b hb)).trans (cell_al h))
                      have HS7 : Hid (Strs (w7.setCell ⟨w.heap.size + 1, 3, none⟩ (.slice (some ⟨g7, 0, none⟩) (k + 1) cap7)) gw off al) := fun i hi => hcell gw _ _ k1 (by omega) (HS6.out i hi)
                      have HL7 : Hid (Nums (w7.setCell ⟨w.heap.size + 1, 3, none⟩ (.slice (some ⟨g7, 0, none⟩) (k + 1) cap7)) gl d.lo) := fun i hi => hcell gl _ _ k2 (by omega) (HL6.out i hi)
                      have HH7 : Hid (Nums (w7.setCell ⟨w.heap.size + 1, 3, none⟩ (.slice (some ⟨g7, 0, none⟩) (k + 1) cap7)) gh d.hi) := fun i hi => hcell gh _ _ k3 (by omega) (HH6.out i hi)
                      have hsz7 : W5.heap.size ≤ (w7.setCell ⟨w.heap.size + 1, 3, none⟩ (.slice (some ⟨g7, 0, none⟩) (k + 1) cap7)).heap.size := by
                        have h1 := hgrow7.size
                        simp at h1 ⊢
                        omega
                      have HB7 : Hid (Below w.heap.size w (w7.setCell ⟨w.heap.size + 1, 3, none⟩ (.slice (some ⟨g7, 0, none⟩) (k + 1) cap7))) := by
                        have h0 : Below w.heap.size w (W6.alloc (.cells #[.int .i64 (Mk.numV (Mk.wrd al k) : Int)] 3)) := HB6.out.alloc HB6.out.size _
                        have h1 : Below w.heap.size w w7 := Below.grown h0 hgrow7 (by simp; have := HB6.out.size; omega) (fun j hj => by have := (HOa.out.lt j hj).1; omega)
                        exact h1.setCell (by simp) _
                      clear hown7 hgrow7 hat7 hcell p0 p1 p2 p3 p4 pf0 pf1 pf2 pf3 pf4
                      go_roundw
                      case rel => exact ⟨k + 1, by omega, by go_num, HF1.out, _, HC7.out, HO7.out, HR7.out, HS7.out, HL7.out, HH7.out, hsz7, HB7.out⟩
                      case measure => simp [intOf]; omega
                    · have HN : Hid (Mk.readP s = none) := Mk.read_no HWd.out (by rw [HArgs.out]; unfold Mk.fits; rw [Mk.fitTo_no hnb hlt, Bool.and_false, Bool.and_false])
                      obtain ⟨b0, b1, b2, b3, b4, g0, g1, g2, g3, g4⟩ := HR6.out
                      go_wp2
                      obtain ⟨s0, s1, s2, s3, s4⟩ := HR6.out.store (.int .i64 (Mk.numV (Mk.wrd (Mk.words s) 0))) (.int .i64 (Mk.numV (Mk.wrd (Mk.words s) 1))) (.string d.text) (.slice av k cv) (.bool mcv)
                      try simp only [Exit.inBlock, Exit.then]
                      refine bodyPost_ret (v := .tuple #[.agg #[.int .i64 (Mk.numV (Mk.wrd (Mk.words s) 0)), .int .i64 (Mk.numV (Mk.wrd (Mk.words s) 1)), .string d.text, .slice av k cv, .bool mcv], .bool false]) ?_ rfl (ReadIs.no HN.out ?_ rfl)
                      · simp [results, Tryz.results29, go_sem, s0, s1, s2, s3, s4]
                      · exact ((((HB6.out.setCell (Nat.le_refl _) _).setCell (Nat.le_refl _) _).setCell (Nat.le_refl _) _).setCell (Nat.le_refl _) _).setCell (Nat.le_refl _) _
                  · obtain rfl : k = al.length := by omega
                    have HY : Hid (Mk.readP s = some ⟨(Mk.numV (Mk.wrd (Mk.words s) 0)), (Mk.numV (Mk.wrd (Mk.words s) 1)), d, al.map Mk.numV, mcv⟩) := by
                      have h := Mk.read_yes HLong.out H3.out HWd.out (by rw [HAB.out, HMok.out, HArgs.out]; unfold Mk.fits; rw [HFit.out, show decide (al.length = d.lo.length) = true by simp [HLn.out]]; rfl)
                      rw [HArgs.out, HMis.out] at h
                      exact h
                    obtain ⟨b0, b1, b2, b3, b4, g0, g1, g2, g3, g4⟩ := HR.out
                    go_wp2
                    obtain ⟨s0, s1, s2, s3, s4⟩ := HR.out.store (.int .i64 (Mk.numV (Mk.wrd (Mk.words s) 0))) (.int .i64 (Mk.numV (Mk.wrd (Mk.words s) 1))) (.string d.text) (.slice av al.length cv) (.bool mcv)
                    try simp only [Exit.inBlock, Exit.then]
                    refine bodyPost_ret (v := .tuple #[.agg #[.int .i64 (Mk.numV (Mk.wrd (Mk.words s) 0)), .int .i64 (Mk.numV (Mk.wrd (Mk.words s) 1)), .string d.text, .slice av al.length cv, .bool mcv], .bool true]) ?_ rfl ⟨?_, ?_⟩
                    · simp [results, Tryz.results29, go_sem, s0, s1, s2, s3, s4]
                    · exact ((((HB.out.setCell (Nat.le_refl _) _).setCell (Nat.le_refl _) _).setCell (Nat.le_refl _) _).setCell (Nat.le_refl _) _).setCell (Nat.le_refl _) _
                    · rw [HY.out]
                      refine ⟨_, rfl, ?_⟩
                      have h5 : w.heap.size < W5.heap.size := HR5.out.lt
                      have ho := HOw.out
                      rw [List.take_length] at ho
                      simp only [List.length_map, List.map_map]
                      have ho' := ownsRow_setCell_below (ownsRow_setCell_below (ownsRow_setCell_below (ownsRow_setCell_below (ownsRow_setCell_below ho (a := ⟨w.heap.size, 0, none⟩) h5 (.int .i64 (Mk.numV (Mk.wrd (Mk.words s) 0)))) (a := ⟨w.heap.size, 1, none⟩) h5 (.int .i64 (Mk.numV (Mk.wrd (Mk.words s) 1)))) (a := ⟨w.heap.size, 2, none⟩) h5 (.string d.text)) (a := ⟨w.heap.size, 3, none⟩) h5 (.slice av al.length cv)) (a := ⟨w.heap.size, 4, none⟩) h5 (.bool mcv)
                      exact own_base ho' (Nat.le_of_lt h5)
              · have hlen' : ((al.length : Int) == (d.lo.length : Int)) = false := by rw [beq_eq_false_iff_ne]; omega
                have HN : Hid (Mk.readP s = none) := Mk.read_no HWd.out (by rw [HArgs.out]; unfold Mk.fits; rw [show decide (al.length = d.lo.length) = false by simp [hlen], Bool.false_and, Bool.and_false])
                obtain ⟨b0, b1, b2, b3, b4, g0, g1, g2, g3, g4⟩ := HR5.out
                clear hlen
                go_wp2
                obtain ⟨s0, s1, s2, s3, s4⟩ := HR5.out.store (.int .i64 (Mk.numV (Mk.wrd (Mk.words s) 0))) (.int .i64 (Mk.numV (Mk.wrd (Mk.words s) 1))) (.string d.text) (.slice none 0 0) (.bool mcv)
                try simp only [Exit.inBlock, Exit.then]
                refine bodyPost_ret (v := .tuple #[.agg #[.int .i64 (Mk.numV (Mk.wrd (Mk.words s) 0)), .int .i64 (Mk.numV (Mk.wrd (Mk.words s) 1)), .string d.text, .slice none 0 0, .bool mcv], .bool false]) ?_ rfl (ReadIs.no HN.out ?_ rfl)
                · simp [results, Tryz.results29, go_sem, s0, s1, s2, s3, s4]
                · exact ((((HB5.out.setCell (Nat.le_refl _) _).setCell (Nat.le_refl _) _).setCell (Nat.le_refl _) _).setCell (Nat.le_refl _) _).setCell (Nat.le_refl _) _
            · rcases Bool.eq_false_or_eq_true ((Mk.wrd rest mm).toList == [117]) with hU | hU
              · have hU2 : ((Mk.wrd rest mm).toList != [117]) = false := by rw [bne, hU]; rfl
                have hM2 : ((Mk.wrd rest mm).toList != [109]) = true := by rw [bne, hM]; rfl
                have HMok : Hid (Mk.modeOk d ((Mk.words s).drop 3) = true) := by
                  unfold Mk.modeOk
                  rw [hm, ← HRest.out, HRl.out, Nat.add_sub_cancel, isU_is, isM_is, hU, hM, show decide (0 < mm + 1) = true from decide_eq_true (Nat.succ_pos mm)]
                  rfl
                have HMis : Hid (Mk.modeIs d ((Mk.words s).drop 3) = false) := by
                  unfold Mk.modeIs
                  rw [hm, ← HRest.out, HRl.out, Nat.add_sub_cancel, isM_is, hM]; rfl
                go_upto_region 22 with fail
                obtain ⟨W5, hW5⟩ : ∃ W5, W5 = W4.setCell ⟨w.heap.size + 1, 4, none⟩ (.bool false) := ⟨_, rfl⟩
                obtain ⟨al, hal⟩ : ∃ al, al = rest.dropLast := ⟨_, rfl⟩
                obtain ⟨mcv, hmcv⟩ : ∃ mcv, mcv = false := ⟨_, rfl⟩
                have hall : al.length = mm := by rw [hal, List.length_dropLast, HRl.out]; omega
                have HArgs : Hid (Mk.args d ((Mk.words s).drop 3) = al) := by unfold Mk.args; rw [hm, ← HRest.out, hal]; rfl
                have HAl : Hid (al.length ≤ 21) := (by have := HRl.out; omega : al.length ≤ 21)
                have hwa : ∀ i, i < mm → Mk.wrd al i = Mk.wrd rest i := fun i hi => by
                  have h1 : i < al.length := by omega
                  have h2 : i < rest.length := by have := HRl.out; omega
                  rw [Mk.wrd_at h1, Mk.wrd_at h2]
                  subst hal
                  simp
                have HWs : Hid (∀ i, (Mk.wrd al i).size ≤ 1000000) := fun i => by
                  by_cases h : i < mm
                  · rw [hwa i h]; exact HWr.out i
                  · have e : Mk.wrd al i = Mk.bu := by simp [Mk.wrd, List.getD, List.getElem?_eq_none (show al.length ≤ i by omega)]
                    rw [e]; decide
                have HC5 : Hid (Cb W5 (w.heap.size + 1) (Mk.numV (Mk.wrd (Mk.words s) 0)) (Mk.numV (Mk.wrd (Mk.words s) 1)) d.text (.slice none 0 0) mcv) := by rw [hW5, hmcv]; exact HC4.out.setMc _
                have HR5 : Hid (Cb W5 w.heap.size 0 0 ⟨#[]⟩ (.slice none 0 0) false) := by rw [hW5]; exact HR4.out.other _ (by omega)
                have HS5 : Hid (Strs W5 gw off al) := fun i hi => by
                  rw [hW5, hwa i (by omega)]
                  exact cell_set_ne (by omega) (HSr.out i (by have := HRl.out; omega))
                have HL5 : Hid (Nums W5 gl d.lo) := fun i hi => by rw [hW5]; exact cell_set_ne (by omega) (HL4.out i hi)
                have HH5 : Hid (Nums W5 gh d.hi) := fun i hi => by rw [hW5]; exact cell_set_ne (by omega) (HH4.out i hi)
                have HB5 : Hid (Below w.heap.size w W5) := by rw [hW5]; exact HB4.out.setCell (by simp) _
                have k1 : gw < W5.heap.size := by rw [hW5]; simpa using m1
                have k2 : gl < W5.heap.size := by rw [hW5]; simpa using m2
                have k3 : gh < W5.heap.size := by rw [hW5]; simpa using m3
                rw [← hmcv] at HMis
                rw [← hW5, ← hall]
                clear hal hW5 hmcv hm hwa a0 a1 a2 a3 a4 fa0 fa1 fa2 fa3 fa4 hU hM e9 hall hU2 hM2 hmode hm0 hm0'
                obtain ⟨a0, a1, a2, a3, a4, fa0, fa1, fa2, fa3, fa4⟩ := HC5.out
                have al20 : al.length ≤ 21 := by have := HAl.out; omega
                have HLo : Hid (d.lo.length = d.hi.length ∧ d.lo.length ≤ 3) := Mk.lo_hi d
                by_cases hlen : al.length = d.lo.length
                · have hlen' : ((al.length : Int) == (d.lo.length : Int)) = true := by rw [beq_iff_eq]; omega
                  have hlen2 : ((al.length : Int) != (d.lo.length : Int)) = false := by rw [bne, hlen']; rfl
                  have HLn : Hid (al.length = d.lo.length) := hlen
                  clear hlen
                  go_wp2
                  go_loopw [14] (fun j wr => ∃ k : Nat, k ≤ al.length ∧ j = .int .i64 k ∧ Mk.fitTo al d k = true ∧ ∃ v, Cb wr (w.heap.size + 1) (Mk.numV (Mk.wrd (Mk.words s) 0)) (Mk.numV (Mk.wrd (Mk.words s) 1)) d.text v mcv ∧ wr.ownsRow W5.heap.size 3 1 v k ((al.take k).map fun x => .int .i64 (Mk.numV x : Int)) ∧ Cb wr w.heap.size 0 0 ⟨#[]⟩ (.slice none 0 0) false ∧ Strs wr gw off al ∧ Nums wr gl d.lo ∧ Nums wr gh d.hi ∧ W5.heap.size ≤ wr.heap.size ∧ Below w.heap.size w wr) (fun j _ => al.length - (intOf j).toNat)
                  case atStart => exact ⟨0, Nat.zero_le _, rfl, rfl, _, HC5.out, ⟨by simp, .inl ⟨rfl, rfl⟩⟩, HR5.out, HS5.out, HL5.out, HH5.out, Nat.le_refl _, HB5.out⟩
                  case round =>
                    obtain ⟨k, hk, rfl, hfit, v, hC, hown, hR, hS, hL, hH, hsz, hB⟩ := hrel
                    obtain ⟨av, cv, rfl⟩ := own_form hown
                    have HFit : Hid (Mk.fitTo al d k = true) := hfit
                    have HC : Hid (Cb wr (w.heap.size + 1) (Mk.numV (Mk.wrd (Mk.words s) 0)) (Mk.numV (Mk.wrd (Mk.words s) 1)) d.text (.slice av k cv) mcv) := hC
                    have HR : Hid (Cb wr w.heap.size 0 0 ⟨#[]⟩ (.slice none 0 0) false) := hR
                    have HB : Hid (Below w.heap.size w wr) := hB
                    have HOw : Hid (wr.ownsRow W5.heap.size 3 1 (.slice av k cv) k ((al.take k).map fun x => .int .i64 (Mk.numV x : Int))) := hown
                    have HSt : Hid (Strs wr gw off al) := hS
                    have HL : Hid (Nums wr gl d.lo) := hL
                    have HH : Hid (Nums wr gh d.hi) := hH
                    clear hfit hC hown hR hS hL hH hB a0 a1 a2 a3 a4 fa0 fa1 fa2 fa3 fa4
                    obtain ⟨a0, a1, a2, a3, a4, fa0, fa1, fa2, fa3, fa4⟩ := HC.out
                    by_cases hlt : k < al.length
                    · have hlt' : (k : Int) < (al.length : Int) := by omega
                      have hlt2 : (k : Int) < (d.lo.length : Int) := by have := HLn.out; omega
                      have e1 := HSt.out k hlt
                      have e2 := HL.out k (by have := HLn.out; omega)
                      have e3 := HH.out k (by have := HLn.out; have := HLo.out; omega)
                      rw [← Mk.nth_at] at e2 e3
                      have hsk : (Mk.wrd al k).size ≤ 1000000 := HWs.out k
                      have HNm : Hid (∀ w : World, Calls Tryz.prog 48 #[.string (Mk.wrd al k), .int .i64 (Mk.nth d.lo k), .int .i64 (Mk.nth d.hi k)] w fun e w' => e = .returned (.tuple #[.int .i64 (Mk.numV (Mk.wrd al k) : Int), .bool (Mk.numB (Mk.wrd al k) (Mk.nth d.lo k) (Mk.nth d.hi k))]) ∧ w' = w) := fun w => number_any _ _ _ w hsk
                      go_wp2
                      go_quiet ((go_at_call 48; exact Calls.quiet_of_same (HNm.out _)))
                      have hbq : Below wr.heap.size wr (wr.drewN nq) := below_drewN (Below.refl _ _) nq
                      have HC6 : Hid (Cb (wr.drewN nq) (w.heap.size + 1) (Mk.numV (Mk.wrd (Mk.words s) 0)) (Mk.numV (Mk.wrd (Mk.words s) 1)) d.text (.slice av k cv) mcv) := HC.out.below hbq HC.out.lt
                      have HR6 : Hid (Cb (wr.drewN nq) w.heap.size 0 0 ⟨#[]⟩ (.slice none 0 0) false) := HR.out.below hbq HR.out.lt
                      have HB6 : Hid (Below w.heap.size w (wr.drewN nq)) := HB.out.trans (hbq.mono HB.out.size)
                      have HO6 : Hid ((wr.drewN nq).ownsRow W5.heap.size 3 1 (.slice av k cv) k ((al.take k).map fun x => .int .i64 (Mk.numV x : Int))) := own_below HOw.out hbq (fun k hk => (HOw.out.lt k hk).2)
                      have HS6 : Hid (Strs (wr.drewN nq) gw off al) := HSt.out.below hbq (by omega)
                      have HL6 : Hid (Nums (wr.drewN nq) gl d.lo) := HL.out.below hbq (by omega)
                      have HH6 : Hid (Nums (wr.drewN nq) gh d.hi) := HH.out.below hbq (by omega)
                      have hsz6 : W5.heap.size ≤ (wr.drewN nq).heap.size := Nat.le_trans hsz hbq.size
                      clear hbq a0 a1 a2 a3 a4 fa0 fa1 fa2 fa3 fa4 e1 e2 e3
                      generalize wr.drewN nq = W6 at *
                      obtain ⟨a0, a1, a2, a3, a4, fa0, fa1, fa2, fa3, fa4⟩ := HC6.out
                      rcases Bool.eq_false_or_eq_true (Mk.numB (Mk.wrd al k) (Mk.nth d.lo k) (Mk.nth d.hi k)) with hnb | hnb
                      · have HF1 : Hid (Mk.fitTo al d (k + 1) = true) := by
                          show (Mk.fitTo al d k && _) = true
                          rw [HFit.out, hnb]; rfl
                        have hbase : W5.heap.size ≤ W6.heap.size + 1 := by omega
                        have HCa : Hid (Cb (W6.alloc (.cells #[.int .i64 (Mk.numV (Mk.wrd al k) : Int)] 3)) (w.heap.size + 1) (Mk.numV (Mk.wrd (Mk.words s) 0)) (Mk.numV (Mk.wrd (Mk.words s) 1)) d.text (.slice av k cv) mcv) := HC6.out.below ((Below.refl _ _).alloc (Nat.le_refl _) _) HC6.out.lt
                        have HRa : Hid (Cb (W6.alloc (.cells #[.int .i64 (Mk.numV (Mk.wrd al k) : Int)] 3)) w.heap.size 0 0 ⟨#[]⟩ (.slice none 0 0) false) := HR6.out.below ((Below.refl _ _).alloc (Nat.le_refl _) _) HR6.out.lt
                        have HOa : Hid ((W6.alloc (.cells #[.int .i64 (Mk.numV (Mk.wrd al k) : Int)] 3)).ownsRow W5.heap.size 3 1 (.slice av k cv) k ((al.take k).map fun x => .int .i64 (Mk.numV x : Int))) := World.ownsRow.alloc HO6.out _
                        have hfar : ∀ b, b < W5.heap.size → some b ≠ (Value.slice av k cv).ownBlock := fun b hb e => by have := (HOa.out.lt b e.symm).1; omega
                        have HFar : Hid (∀ b, b < W5.heap.size → some b ≠ (Value.slice av k cv).ownBlock) := hfar
                        have hsz5 : w.heap.size + 1 < W5.heap.size := HC5.out.lt
                        clear hfar
                        go_wp2_with (at_builtin; (refine wpList_append_lies _ rfl _ _ _ rfl W5.heap.size 3 i0 _ 1 8 Tryz.underlying53 hi0 hzz0 hzz1 hzz2 rfl (by omega) (.slice av k cv) k ((al.take k).map fun x => .int .i64 (Mk.numV x : Int)) rfl HOa.out ⟨W6.heap.size, 0, none⟩ 1 1 [.int .i64 (Mk.numV (Mk.wrd al k) : Int)] rfl rfl (World.news_of_block (cs := #[.int .i64 (Mk.numV (Mk.wrd al k) : Int)]) (t := 3) (fr := (0, 0)) (heap_alloc_new W6 _)) (by simp [Value.oneCell']) (by omega) (by unfold maxLen; omega) (by omega) (by simp; omega) (W6.heap.size + 1) (by simp) ?_; intro g7 cap7 w7 hown7 hgrow7 hat7 hlt7; obtain ⟨p0, p1, p2, p3, p4, pf0, pf1, pf2, pf3, pf4⟩ := HCa.out.grown hgrow7 (HFar.out _ hsz5)))
                        have HC7 : Hid (Cb (w7.setCell ⟨w.heap.size + 1, 3, none⟩ (.slice (some ⟨g7, 0, none⟩) (k + 1) cap7)) (w.heap.size + 1) (Mk.numV (Mk.wrd (Mk.words s) 0)) (Mk.numV (Mk.wrd (Mk.words s) 1)) d.text (.slice (some ⟨g7, 0, none⟩) (k + 1) cap7) mcv) := (HCa.out.grown hgrow7 (HFar.out _ hsz5)).setN _
                        have HR7 : Hid (Cb (w7.setCell ⟨w.heap.size + 1, 3, none⟩ (.slice (some ⟨g7, 0, none⟩) (k + 1) cap7)) w.heap.size 0 0 ⟨#[]⟩ (.slice none 0 0) false) := (HRa.out.grown hgrow7 (HFar.out _ (by omega))).other _ (by omega)
                        have HO7 : Hid ((w7.setCell ⟨w.heap.size + 1, 3, none⟩ (.slice (some ⟨g7, 0, none⟩) (k + 1) cap7)).ownsRow W5.heap.size 3 1 (.slice (some ⟨g7, 0, none⟩) (k + 1) cap7) (k + 1) ((al.take (k + 1)).map fun x => .int .i64 (Mk.numV x : Int))) := by
                          rw [Mk.take_snoc al k hlt, List.map_append, List.map_cons, List.map_nil, ← Mk.wrd_at hlt]
                          exact ownsRow_setCell_below hown7 (by show w.heap.size + 1 < W5.heap.size; exact hsz5) _
                        have hcell : ∀ b i u, b < W5.heap.size → b ≠ w.heap.size + 1 → W6.cell? ⟨b, i, none⟩ = some u → (w7.setCell ⟨w.heap.size + 1, 3, none⟩ (.slice (some ⟨g7, 0, none⟩) (k + 1) cap7)).cell? ⟨b, i, none⟩ = some u := fun b i u hb hne h => cell_set_ne (.inl hne) ((hgrow7.cell_far ⟨b, i, none⟩ (by show b < _; simp; have := blk_lt h; omega) (HFar.out b hb)).trans (cell_al h))
                        have HS7 : Hid (Strs (w7.setCell ⟨w.heap.size + 1, 3, none⟩ (.slice (some ⟨g7, 0, none⟩) (k + 1) cap7)) gw off al) := fun i hi => hcell gw _ _ k1 (by omega) (HS6.out i hi)
                        have HL7 : Hid (Nums (w7.setCell ⟨w.heap.size + 1, 3, none⟩ (.slice (some ⟨g7, 0, none⟩) (k + 1) cap7)) gl d.lo) := fun i hi => hcell gl _ _ k2 (by omega) (HL6.out i hi)
                        have HH7 : Hid (Nums (w7.setCell ⟨w.heap.size + 1, 3, none⟩ (.slice (some ⟨g7, 0, none⟩) (k + 1) cap7)) gh d.hi) := fun i hi => hcell gh _ _ k3 (by omega) (HH6.out i hi)
                        have hsz7 : W5.heap.size ≤ (w7.setCell ⟨w.heap.size + 1, 3, none⟩ (.slice (some ⟨g7, 0, none⟩) (k + 1) cap7)).heap.size := by
                          have h1 := hgrow7.size
                          simp at h1 ⊢
                          omega
                        have HB7 : Hid (Below w.heap.size w (w7.setCell ⟨w.heap.size + 1, 3, none⟩ (.slice (some ⟨g7, 0, none⟩) (k + 1) cap7))) := by
                          have h0 : Below w.heap.size w (W6.alloc (.cells #[.int .i64 (Mk.numV (Mk.wrd al k) : Int)] 3)) := HB6.out.alloc HB6.out.size _
                          have h1 : Below w.heap.size w w7 := Below.grown h0 hgrow7 (by simp; have := HB6.out.size; omega) (fun j hj => by have := (HOa.out.lt j hj).1; omega)
                          exact h1.setCell (by simp) _
                        clear hown7 hgrow7 hat7 hcell p0 p1 p2 p3 p4 pf0 pf1 pf2 pf3 pf4
                        go_roundw
                        case rel => exact ⟨k + 1, by omega, by go_num, HF1.out, _, HC7.out, HO7.out, HR7.out, HS7.out, HL7.out, HH7.out, hsz7, HB7.out⟩
                        case measure => simp [intOf]; omega
                      · have HN : Hid (Mk.readP s = none) := Mk.read_no HWd.out (by rw [HArgs.out]; unfold Mk.fits; rw [Mk.fitTo_no hnb hlt, Bool.and_false, Bool.and_false])
                        obtain ⟨b0, b1, b2, b3, b4, g0, g1, g2, g3, g4⟩ := HR6.out
                        go_wp2
                        obtain ⟨s0, s1, s2, s3, s4⟩ := HR6.out.store (.int .i64 (Mk.numV (Mk.wrd (Mk.words s) 0))) (.int .i64 (Mk.numV (Mk.wrd (Mk.words s) 1))) (.string d.text) (.slice av k cv) (.bool mcv)
                        try simp only [Exit.inBlock, Exit.then]
                        refine bodyPost_ret (v := .tuple #[.agg #[.int .i64 (Mk.numV (Mk.wrd (Mk.words s) 0)), .int .i64 (Mk.numV (Mk.wrd (Mk.words s) 1)), .string d.text, .slice av k cv, .bool mcv], .bool false]) ?_ rfl (ReadIs.no HN.out ?_ rfl)
                        · simp [results, Tryz.results29, go_sem, s0, s1, s2, s3, s4]
                        · exact ((((HB6.out.setCell (Nat.le_refl _) _).setCell (Nat.le_refl _) _).setCell (Nat.le_refl _) _).setCell (Nat.le_refl _) _).setCell (Nat.le_refl _) _
                    · obtain rfl : k = al.length := by omega
                      have HY : Hid (Mk.readP s = some ⟨(Mk.numV (Mk.wrd (Mk.words s) 0)), (Mk.numV (Mk.wrd (Mk.words s) 1)), d, al.map Mk.numV, mcv⟩) := by
                        have h := Mk.read_yes HLong.out H3.out HWd.out (by rw [HAB.out, HMok.out, HArgs.out]; unfold Mk.fits; rw [HFit.out, show decide (al.length = d.lo.length) = true by simp [HLn.out]]; rfl)
                        rw [HArgs.out, HMis.out] at h
                        exact h
                      obtain ⟨b0, b1, b2, b3, b4, g0, g1, g2, g3, g4⟩ := HR.out
                      go_wp2
                      obtain ⟨s0, s1, s2, s3, s4⟩ := HR.out.store (.int .i64 (Mk.numV (Mk.wrd (Mk.words s) 0))) (.int .i64 (Mk.numV (Mk.wrd (Mk.words s) 1))) (.string d.text) (.slice av al.length cv) (.bool mcv)
                      try simp only [Exit.inBlock, Exit.then]
                      refine bodyPost_ret (v := .tuple #[.agg #[.int .i64 (Mk.numV (Mk.wrd (Mk.words s) 0)), .int .i64 (Mk.numV (Mk.wrd (Mk.words s) 1)), .string d.text, .slice av al.length cv, .bool mcv], .bool true]) ?_ rfl ⟨?_, ?_⟩
                      · simp [results, Tryz.results29, go_sem, s0, s1, s2, s3, s4]
                      · exact ((((HB.out.setCell (Nat.le_refl _) _).setCell (Nat.le_refl _) _).setCell (Nat.le_refl _) _).setCell (Nat.le_refl _) _).setCell (Nat.le_refl _) _
                      · rw [HY.out]
                        refine ⟨_, rfl, ?_⟩
                        have h5 : w.heap.size < W5.heap.size := HR5.out.lt
                        have ho := HOw.out
                        rw [List.take_length] at ho
                        simp only [List.length_map, List.map_map]
                        have ho' := ownsRow_setCell_below (ownsRow_setCell_below (ownsRow_setCell_below (ownsRow_setCell_below (ownsRow_setCell_below ho (a := ⟨w.heap.size, 0, none⟩) h5 (.int .i64 (Mk.numV (Mk.wrd (Mk.words s) 0)))) (a := ⟨w.heap.size, 1, none⟩) h5 (.int .i64 (Mk.numV (Mk.wrd (Mk.words s) 1)))) (a := ⟨w.heap.size, 2, none⟩) h5 (.string d.text)) (a := ⟨w.heap.size, 3, none⟩) h5 (.slice av al.length cv)) (a := ⟨w.heap.size, 4, none⟩) h5 (.bool mcv)
                        exact own_base ho' (Nat.le_of_lt h5)
                · have hlen' : ((al.length : Int) == (d.lo.length : Int)) = false := by rw [beq_eq_false_iff_ne]; omega
                  have HN : Hid (Mk.readP s = none) := Mk.read_no HWd.out (by rw [HArgs.out]; unfold Mk.fits; rw [show decide (al.length = d.lo.length) = false by simp [hlen], Bool.false_and, Bool.and_false])
                  obtain ⟨b0, b1, b2, b3, b4, g0, g1, g2, g3, g4⟩ := HR5.out
                  clear hlen
                  go_wp2
                  obtain ⟨s0, s1, s2, s3, s4⟩ := HR5.out.store (.int .i64 (Mk.numV (Mk.wrd (Mk.words s) 0))) (.int .i64 (Mk.numV (Mk.wrd (Mk.words s) 1))) (.string d.text) (.slice none 0 0) (.bool mcv)
                  try simp only [Exit.inBlock, Exit.then]
                  refine bodyPost_ret (v := .tuple #[.agg #[.int .i64 (Mk.numV (Mk.wrd (Mk.words s) 0)), .int .i64 (Mk.numV (Mk.wrd (Mk.words s) 1)), .string d.text, .slice none 0 0, .bool mcv], .bool false]) ?_ rfl (ReadIs.no HN.out ?_ rfl)
                  · simp [results, Tryz.results29, go_sem, s0, s1, s2, s3, s4]
                  · exact ((((HB5.out.setCell (Nat.le_refl _) _).setCell (Nat.le_refl _) _).setCell (Nat.le_refl _) _).setCell (Nat.le_refl _) _).setCell (Nat.le_refl _) _
              · have hU2 : ((Mk.wrd rest mm).toList != [117]) = true := by rw [bne, hU]; rfl
                have hM2 : ((Mk.wrd rest mm).toList != [109]) = true := by rw [bne, hM]; rfl
                have HN : Hid (Mk.readP s = none) := Mk.read_no HWd.out (by
                  have : Mk.modeOk d ((Mk.words s).drop 3) = false := by unfold Mk.modeOk; rw [hm, ← HRest.out, HRl.out, Nat.add_sub_cancel, isU_is, isM_is, hU, hM]; simp
                  rw [this, Bool.and_false, Bool.false_and])
                obtain ⟨b0, b1, b2, b3, b4, g0, g1, g2, g3, g4⟩ := HR4.out
                go_wp2
                obtain ⟨s0, s1, s2, s3, s4⟩ := HR4.out.store (.int .i64 (Mk.numV (Mk.wrd (Mk.words s) 0))) (.int .i64 (Mk.numV (Mk.wrd (Mk.words s) 1))) (.string d.text) (.slice none 0 0) (.bool false)
                try simp only [Exit.inBlock, Exit.then]
                refine bodyPost_ret (v := .tuple #[.agg #[.int .i64 (Mk.numV (Mk.wrd (Mk.words s) 0)), .int .i64 (Mk.numV (Mk.wrd (Mk.words s) 1)), .string d.text, .slice none 0 0, .bool false], .bool false]) ?_ rfl (ReadIs.no HN.out ?_ rfl)
                · simp [results, Tryz.results29, go_sem, s0, s1, s2, s3, s4]
                · exact ((((HB4.out.setCell (Nat.le_refl _) _).setCell (Nat.le_refl _) _).setCell (Nat.le_refl _) _).setCell (Nat.le_refl _) _).setCell (Nat.le_refl _) _
        · rw [hm] at hmode
          have HArgs : Hid (Mk.args d ((Mk.words s).drop 3) = rest) := by unfold Mk.args; rw [hm, ← HRest.out]; rfl
          have HMok : Hid (Mk.modeOk d ((Mk.words s).drop 3) = true) := by unfold Mk.modeOk; rw [hm]; rfl
          have HMis : Hid (Mk.modeIs d ((Mk.words s).drop 3) = false) := by unfold Mk.modeIs; rw [hm]; rfl
          obtain ⟨al, hal⟩ : ∃ al, al = rest := ⟨_, rfl⟩
          obtain ⟨W5, hW5⟩ : ∃ W5, W5 = W4 := ⟨_, rfl⟩
          obtain ⟨mcv, hmcv⟩ : ∃ mcv, mcv = false := ⟨_, rfl⟩
          have HAl : Hid (al.length ≤ 21) := (by rw [hal]; omega : al.length ≤ 21)
          have HWs : Hid (∀ i, (Mk.wrd al i).size ≤ 1000000) := by rw [hal]; exact HWr.out
          have HC5 : Hid (Cb W5 (w.heap.size + 1) (Mk.numV (Mk.wrd (Mk.words s) 0)) (Mk.numV (Mk.wrd (Mk.words s) 1)) d.text (.slice none 0 0) mcv) := by rw [hW5, hmcv]; exact HC4.out
          have HR5 : Hid (Cb W5 w.heap.size 0 0 ⟨#[]⟩ (.slice none 0 0) false) := by rw [hW5]; exact HR4.out
          have HS5 : Hid (Strs W5 gw off al) := by rw [hW5, hal]; exact HSr.out
          have HL5 : Hid (Nums W5 gl d.lo) := by rw [hW5]; exact HL4.out
          have HH5 : Hid (Nums W5 gh d.hi) := by rw [hW5]; exact HH4.out
          have HB5 : Hid (Below w.heap.size w W5) := by rw [hW5]; exact HB4.out
          have k1 : gw < W5.heap.size := by rw [hW5]; exact m1
          have k2 : gl < W5.heap.size := by rw [hW5]; exact m2
          have k3 : gh < W5.heap.size := by rw [hW5]; exact m3
          rw [← hal] at HArgs
          rw [← hmcv] at HMis
          rw [← hal, ← hW5]
          clear hal hW5 hmcv hm a0 a1 a2 a3 a4 fa0 fa1 fa2 fa3 fa4
          obtain ⟨a0, a1, a2, a3, a4, fa0, fa1, fa2, fa3, fa4⟩ := HC5.out
          have al20 : al.length ≤ 21 := by have := HAl.out; omega
          have HLo : Hid (d.lo.length = d.hi.length ∧ d.lo.length ≤ 3) := Mk.lo_hi d
          by_cases hlen : al.length = d.lo.length
          · have hlen' : ((al.length : Int) == (d.lo.length : Int)) = true := by rw [beq_iff_eq]; omega
            have hlen2 : ((al.length : Int) != (d.lo.length : Int)) = false := by rw [bne, hlen']; rfl
            have HLn : Hid (al.length = d.lo.length) := hlen
            clear hlen
            go_wp2
            go_loopw [14] (fun j wr => ∃ k : Nat, k ≤ al.length ∧ j = .int .i64 k ∧ Mk.fitTo al d k = true ∧ ∃ v, Cb wr (w.heap.size + 1) (Mk.numV (Mk.wrd (Mk.words s) 0)) (Mk.numV (Mk.wrd (Mk.words s) 1)) d.text v mcv ∧ wr.ownsRow W5.heap.size 3 1 v k ((al.take k).map fun x => .int .i64 (Mk.numV x : Int)) ∧ Cb wr w.heap.size 0 0 ⟨#[]⟩ (.slice none 0 0) false ∧ Strs wr gw off al ∧ Nums wr gl d.lo ∧ Nums wr gh d.hi ∧ W5.heap.size ≤ wr.heap.size ∧ Below w.heap.size w wr) (fun j _ => al.length - (intOf j).toNat)
            case atStart => exact ⟨0, Nat.zero_le _, rfl, rfl, _, HC5.out, ⟨by simp, .inl ⟨rfl, rfl⟩⟩, HR5.out, HS5.out, HL5.out, HH5.out, Nat.le_refl _, HB5.out⟩
            case round =>
              obtain ⟨k, hk, rfl, hfit, v, hC, hown, hR, hS, hL, hH, hsz, hB⟩ := hrel
              obtain ⟨av, cv, rfl⟩ := own_form hown
              have HFit : Hid (Mk.fitTo al d k = true) := hfit
              have HC : Hid (Cb wr (w.heap.size + 1) (Mk.numV (Mk.wrd (Mk.words s) 0)) (Mk.numV (Mk.wrd (Mk.words s) 1)) d.text (.slice av k cv) mcv) := hC
              have HR : Hid (Cb wr w.heap.size 0 0 ⟨#[]⟩ (.slice none 0 0) false) := hR
              have HB : Hid (Below w.heap.size w wr) := hB
              have HOw : Hid (wr.ownsRow W5.heap.size 3 1 (.slice av k cv) k ((al.take k).map fun x => .int .i64 (Mk.numV x : Int))) := hown
              have HSt : Hid (Strs wr gw off al) := hS
              have HL : Hid (Nums wr gl d.lo) := hL
              have HH : Hid (Nums wr gh d.hi) := hH
              clear hfit hC hown hR hS hL hH hB a0 a1 a2 a3 a4 fa0 fa1 fa2 fa3 fa4
              obtain ⟨a0, a1, a2, a3, a4, fa0, fa1, fa2, fa3, fa4⟩ := HC.out
              by_cases hlt : k < al.length
              · have hlt' : (k : Int) < (al.length : Int) := by omega
                have hlt2 : (k : Int) < (d.lo.length : Int) := by have := HLn.out; omega
                have e1 := HSt.out k hlt
                have e2 := HL.out k (by have := HLn.out; omega)
                have e3 := HH.out k (by have := HLn.out; have := HLo.out; omega)
                rw [← Mk.nth_at] at e2 e3
                have hsk : (Mk.wrd al k).size ≤ 1000000 := HWs.out k
                have HNm : Hid (∀ w : World, Calls Tryz.prog 48 #[.string (Mk.wrd al k), .int .i64 (Mk.nth d.lo k), .int .i64 (Mk.nth d.hi k)] w fun e w' => e = .returned (.tuple #[.int .i64 (Mk.numV (Mk.wrd al k) : Int), .bool (Mk.numB (Mk.wrd al k) (Mk.nth d.lo k) (Mk.nth d.hi k))]) ∧ w' = w) := fun w => number_any _ _ _ w hsk
                go_wp2
                go_quiet ((go_at_call 48; exact Calls.quiet_of_same (HNm.out _)))
                have hbq : Below wr.heap.size wr (wr.drewN nq) := below_drewN (Below.refl _ _) nq
                have HC6 : Hid (Cb (wr.drewN nq) (w.heap.size + 1) (Mk.numV (Mk.wrd (Mk.words s) 0)) (Mk.numV (Mk.wrd (Mk.words s) 1)) d.text (.slice av k cv) mcv) := HC.out.below hbq HC.out.lt
                have HR6 : Hid (Cb (wr.drewN nq) w.heap.size 0 0 ⟨#[]⟩ (.slice none 0 0) false) := HR.out.below hbq HR.out.lt
                have HB6 : Hid (Below w.heap.size w (wr.drewN nq)) := HB.out.trans (hbq.mono HB.out.size)
                have HO6 : Hid ((wr.drewN nq).ownsRow W5.heap.size 3 1 (.slice av k cv) k ((al.take k).map fun x => .int .i64 (Mk.numV x : Int))) := own_below HOw.out hbq (fun k hk => (HOw.out.lt k hk).2)
                have HS6 : Hid (Strs (wr.drewN nq) gw off al) := HSt.out.below hbq (by omega)
                have HL6 : Hid (Nums (wr.drewN nq) gl d.lo) := HL.out.below hbq (by omega)
                have HH6 : Hid (Nums (wr.drewN nq) gh d.hi) := HH.out.below hbq (by omega)
                have hsz6 : W5.heap.size ≤ (wr.drewN nq).heap.size := Nat.le_trans hsz hbq.size
                clear hbq a0 a1 a2 a3 a4 fa0 fa1 fa2 fa3 fa4 e1 e2 e3
                generalize wr.drewN nq = W6 at *
                obtain ⟨a0, a1, a2, a3, a4, fa0, fa1, fa2, fa3, fa4⟩ := HC6.out
                rcases Bool.eq_false_or_eq_true (Mk.numB (Mk.wrd al k) (Mk.nth d.lo k) (Mk.nth d.hi k)) with hnb | hnb
                · have HF1 : Hid (Mk.fitTo al d (k + 1) = true) := by
                    show (Mk.fitTo al d k && _) = true
                    rw [HFit.out, hnb]; rfl
                  have hbase : W5.heap.size ≤ W6.heap.size + 1 := by omega
                  have HCa : Hid (Cb (W6.alloc (.cells #[.int .i64 (Mk.numV (Mk.wrd al k) : Int)] 3)) (w.heap.size + 1) (Mk.numV (Mk.wrd (Mk.words s) 0)) (Mk.numV (Mk.wrd (Mk.words s) 1)) d.text (.slice av k cv) mcv) := HC6.out.below ((Below.refl _ _).alloc (Nat.le_refl _) _) HC6.out.lt
                  have HRa : Hid (Cb (W6.alloc (.cells #[.int .i64 (Mk.numV (Mk.wrd al k) : Int)] 3)) w.heap.size 0 0 ⟨#[]⟩ (.slice none 0 0) false) := HR6.out.below ((Below.refl _ _).alloc (Nat.le_refl _) _) HR6.out.lt
                  have HOa : Hid ((W6.alloc (.cells #[.int .i64 (Mk.numV (Mk.wrd al k) : Int)] 3)).ownsRow W5.heap.size 3 1 (.slice av k cv) k ((al.take k).map fun x => .int .i64 (Mk.numV x : Int))) := World.ownsRow.alloc HO6.out _
                  have hfar : ∀ b, b < W5.heap.size → some b ≠ (Value.slice av k cv).ownBlock := fun b hb e => by have := (HOa.out.lt b e.symm).1; omega
                  have HFar : Hid (∀ b, b < W5.heap.size → some b ≠ (Value.slice av k cv).ownBlock) := hfar
                  have hsz5 : w.heap.size + 1 < W5.heap.size := HC5.out.lt
                  clear hfar
                  go_wp2_with (at_builtin; (refine wpList_append_lies _ rfl _ _ _ rfl W5.heap.size 3 i0 _ 1 8 Tryz.underlying53 hi0 hzz0 hzz1 hzz2 rfl (by omega) (.slice av k cv) k ((al.take k).map fun x => .int .i64 (Mk.numV x : Int)) rfl HOa.out ⟨W6.heap.size, 0, none⟩ 1 1 [.int .i64 (Mk.numV (Mk.wrd al k) : Int)] rfl rfl (World.news_of_block (cs := #[.int .i64 (Mk.numV (Mk.wrd al k) : Int)]) (t := 3) (fr := (0, 0)) (heap_alloc_new W6 _)) (by simp [Value.oneCell']) (by omega) (by unfold maxLen; omega) (by omega) (by simp; omega) (W6.heap.size + 1) (by simp) ?_; intro g7 cap7 w7 hown7 hgrow7 hat7 hlt7; obtain ⟨p0, p1, p2, p3, p4, pf0, pf1, pf2, pf3, pf4⟩ := HCa.out.grown hgrow7 (HFar.out _ hsz5)))
                  have HC7 : Hid (Cb (w7.setCell ⟨w.heap.size + 1, 3, none⟩ (.slice (some ⟨g7, 0, none⟩) (k + 1) cap7)) (w.heap.size + 1) (Mk.numV (Mk.wrd (Mk.words s) 0)) (Mk.numV (Mk.wrd (Mk.words s) 1)) d.text (.slice (some ⟨g7, 0, none⟩) (k + 1) cap7) mcv) := (HCa.out.grown hgrow7 (HFar.out _ hsz5)).setN _
                  have HR7 : Hid (Cb (w7.setCell ⟨w.heap.size + 1, 3, none⟩ (.slice (some ⟨g7, 0, none⟩) (k + 1) cap7)) w.heap.size 0 0 ⟨#[]⟩ (.slice none 0 0) false) := (HRa.out.grown hgrow7 (HFar.out _ (by omega))).other _ (by omega)
                  have HO7 : Hid ((w7.setCell ⟨w.heap.size + 1, 3, none⟩ (.slice (some ⟨g7, 0, none⟩) (k + 1) cap7)).ownsRow W5.heap.size 3 1 (.slice (some ⟨g7, 0, none⟩) (k + 1) cap7) (k + 1) ((al.take (k + 1)).map fun x => .int .i64 (Mk.numV x : Int))) := by
                    rw [Mk.take_snoc al k hlt, List.map_append, List.map_cons, List.map_nil, ← Mk.wrd_at hlt]
                    exact ownsRow_setCell_below hown7 (by show w.heap.size + 1 < W5.heap.size; exact hsz5) _
                  have hcell : ∀ b i u, b < W5.heap.size → b ≠ w.heap.size + 1 → W6.cell? ⟨b, i, none⟩ = some u → (w7.setCell ⟨w.heap.size + 1, 3, none⟩ (.slice (some ⟨g7, 0, none⟩) (k + 1) cap7)).cell? ⟨b, i, none⟩ = some u := fun b i u hb hne h => cell_set_ne (.inl hne) ((hgrow7.cell_far ⟨b, i, none⟩ (by show b < _; simp; have := blk_lt h; omega) (HFar.out b hb)).trans (cell_al h))
                  have HS7 : Hid (Strs (w7.setCell ⟨w.heap.size + 1, 3, none⟩ (.slice (some ⟨g7, 0, none⟩) (k + 1) cap7)) gw off al) := fun i hi => hcell gw _ _ k1 (by omega) (HS6.out i hi)
                  have HL7 : Hid (Nums (w7.setCell ⟨w.heap.size + 1, 3, none⟩ (.slice (some ⟨g7, 0, none⟩) (k + 1) cap7)) gl d.lo) := fun i hi => hcell gl _ _ k2 (by omega) (HL6.out i hi)
                  have HH7 : Hid (Nums (w7.setCell ⟨w.heap.size + 1, 3, none⟩ (.slice (some ⟨g7, 0, none⟩) (k + 1) cap7)) gh d.hi) := fun i hi => hcell gh _ _ k3 (by omega) (HH6.out i hi)
                  have hsz7 : W5.heap.size ≤ (w7.setCell ⟨w.heap.size + 1, 3, none⟩ (.slice (some ⟨g7, 0, none⟩) (k + 1) cap7)).heap.size := by
                    have h1 := hgrow7.size
                    simp at h1 ⊢
                    omega
                  have HB7 : Hid (Below w.heap.size w (w7.setCell ⟨w.heap.size + 1, 3, none⟩ (.slice (some ⟨g7, 0, none⟩) (k + 1) cap7))) := by
                    have h0 : Below w.heap.size w (W6.alloc (.cells #[.int .i64 (Mk.numV (Mk.wrd al k) : Int)] 3)) := HB6.out.alloc HB6.out.size _
                    have h1 : Below w.heap.size w w7 := Below.grown h0 hgrow7 (by simp; have := HB6.out.size; omega) (fun j hj => by have := (HOa.out.lt j hj).1; omega)
                    exact h1.setCell (by simp) _
                  clear hown7 hgrow7 hat7 hcell p0 p1 p2 p3 p4 pf0 pf1 pf2 pf3 pf4
                  go_roundw
                  case rel => exact ⟨k + 1, by omega, by go_num, HF1.out, _, HC7.out, HO7.out, HR7.out, HS7.out, HL7.out, HH7.out, hsz7, HB7.out⟩
                  case measure => simp [intOf]; omega
                · have HN : Hid (Mk.readP s = none) := Mk.read_no HWd.out (by rw [HArgs.out]; unfold Mk.fits; rw [Mk.fitTo_no hnb hlt, Bool.and_false, Bool.and_false])
                  obtain ⟨b0, b1, b2, b3, b4, g0, g1, g2, g3, g4⟩ := HR6.out
                  go_wp2
                  obtain ⟨s0, s1, s2, s3, s4⟩ := HR6.out.store (.int .i64 (Mk.numV (Mk.wrd (Mk.words s) 0))) (.int .i64 (Mk.numV (Mk.wrd (Mk.words s) 1))) (.string d.text) (.slice av k cv) (.bool mcv)
                  try simp only [Exit.inBlock, Exit.then]
                  refine bodyPost_ret (v := .tuple #[.agg #[.int .i64 (Mk.numV (Mk.wrd (Mk.words s) 0)), .int .i64 (Mk.numV (Mk.wrd (Mk.words s) 1)), .string d.text, .slice av k cv, .bool mcv], .bool false]) ?_ rfl (ReadIs.no HN.out ?_ rfl)
                  · simp [results, Tryz.results29, go_sem, s0, s1, s2, s3, s4]
                  · exact ((((HB6.out.setCell (Nat.le_refl _) _).setCell (Nat.le_refl _) _).setCell (Nat.le_refl _) _).setCell (Nat.le_refl _) _).setCell (Nat.le_refl _) _
              · obtain rfl : k = al.length := by omega
                have HY : Hid (Mk.readP s = some ⟨(Mk.numV (Mk.wrd (Mk.words s) 0)), (Mk.numV (Mk.wrd (Mk.words s) 1)), d, al.map Mk.numV, mcv⟩) := by
                  have h := Mk.read_yes HLong.out H3.out HWd.out (by rw [HAB.out, HMok.out, HArgs.out]; unfold Mk.fits; rw [HFit.out, show decide (al.length = d.lo.length) = true by simp [HLn.out]]; rfl)
                  rw [HArgs.out, HMis.out] at h
                  exact h
                obtain ⟨b0, b1, b2, b3, b4, g0, g1, g2, g3, g4⟩ := HR.out
                go_wp2
                obtain ⟨s0, s1, s2, s3, s4⟩ := HR.out.store (.int .i64 (Mk.numV (Mk.wrd (Mk.words s) 0))) (.int .i64 (Mk.numV (Mk.wrd (Mk.words s) 1))) (.string d.text) (.slice av al.length cv) (.bool mcv)
                try simp only [Exit.inBlock, Exit.then]
                refine bodyPost_ret (v := .tuple #[.agg #[.int .i64 (Mk.numV (Mk.wrd (Mk.words s) 0)), .int .i64 (Mk.numV (Mk.wrd (Mk.words s) 1)), .string d.text, .slice av al.length cv, .bool mcv], .bool true]) ?_ rfl ⟨?_, ?_⟩
                · simp [results, Tryz.results29, go_sem, s0, s1, s2, s3, s4]
                · exact ((((HB.out.setCell (Nat.le_refl _) _).setCell (Nat.le_refl _) _).setCell (Nat.le_refl _) _).setCell (Nat.le_refl _) _).setCell (Nat.le_refl _) _
                · rw [HY.out]
                  refine ⟨_, rfl, ?_⟩
                  have h5 : w.heap.size < W5.heap.size := HR5.out.lt
                  have ho := HOw.out
                  rw [List.take_length] at ho
                  simp only [List.length_map, List.map_map]
                  have ho' := ownsRow_setCell_below (ownsRow_setCell_below (ownsRow_setCell_below (ownsRow_setCell_below (ownsRow_setCell_below ho (a := ⟨w.heap.size, 0, none⟩) h5 (.int .i64 (Mk.numV (Mk.wrd (Mk.words s) 0)))) (a := ⟨w.heap.size, 1, none⟩) h5 (.int .i64 (Mk.numV (Mk.wrd (Mk.words s) 1)))) (a := ⟨w.heap.size, 2, none⟩) h5 (.string d.text)) (a := ⟨w.heap.size, 3, none⟩) h5 (.slice av al.length cv)) (a := ⟨w.heap.size, 4, none⟩) h5 (.bool mcv)
                  exact own_base ho' (Nat.le_of_lt h5)
          · have hlen' : ((al.length : Int) == (d.lo.length : Int)) = false := by rw [beq_eq_false_iff_ne]; omega
            have HN : Hid (Mk.readP s = none) := Mk.read_no HWd.out (by rw [HArgs.out]; unfold Mk.fits; rw [show decide (al.length = d.lo.length) = false by simp [hlen], Bool.false_and, Bool.and_false])
            obtain ⟨b0, b1, b2, b3, b4, g0, g1, g2, g3, g4⟩ := HR5.out
            clear hlen
            go_wp2
            obtain ⟨s0, s1, s2, s3, s4⟩ := HR5.out.store (.int .i64 (Mk.numV (Mk.wrd (Mk.words s) 0))) (.int .i64 (Mk.numV (Mk.wrd (Mk.words s) 1))) (.string d.text) (.slice none 0 0) (.bool mcv)
            try simp only [Exit.inBlock, Exit.then]
            refine bodyPost_ret (v := .tuple #[.agg #[.int .i64 (Mk.numV (Mk.wrd (Mk.words s) 0)), .int .i64 (Mk.numV (Mk.wrd (Mk.words s) 1)), .string d.text, .slice none 0 0, .bool mcv], .bool false]) ?_ rfl (ReadIs.no HN.out ?_ rfl)
            · simp [results, Tryz.results29, go_sem, s0, s1, s2, s3, s4]
            · exact ((((HB5.out.setCell (Nat.le_refl _) _).setCell (Nat.le_refl _) _).setCell (Nat.le_refl _) _).setCell (Nat.le_refl _) _).setCell (Nat.le_refl _) _
      · have hab' : (Mk.numB (Mk.wrd (Mk.words s) 0) 0 3 && Mk.numB (Mk.wrd (Mk.words s) 1) 1 99) = false := by simpa using hab
        have HN : Hid (Mk.readP s = none) := Mk.read_no HWd.out (by rw [hab']; rfl)
        obtain ⟨a0, a1, a2, a3, a4, _, _, _, _, _⟩ := HC3.out
        obtain ⟨b0, b1, b2, b3, b4, g0, g1, g2, g3, g4⟩ := HR3.out
        clear hab
        rcases Bool.eq_false_or_eq_true (Mk.numB (Mk.wrd (Mk.words s) 0) 0 3) with ha | ha
        · have hb : Mk.numB (Mk.wrd (Mk.words s) 1) 1 99 = false := by rw [ha, Bool.true_and] at hab'; exact hab'
          clear hab'
          go_wp2
          obtain ⟨s0, s1, s2, s3, s4⟩ := HR3.out.store (.int .i64 0) (.int .i64 0) (.string ⟨#[]⟩) (.slice none 0 0) (.bool false)
          try simp only [Exit.inBlock, Exit.then]
          refine bodyPost_ret (v := .tuple #[.agg #[.int .i64 0, .int .i64 0, .string ⟨#[]⟩, .slice none 0 0, .bool false], .bool false]) ?_ rfl (ReadIs.no HN.out ?_ rfl)
          · simp [results, Tryz.results29, go_sem, s0, s1, s2, s3, s4]
          · exact ((((HB3.out.setCell (Nat.le_refl _) _).setCell (Nat.le_refl _) _).setCell (Nat.le_refl _) _).setCell (Nat.le_refl _) _).setCell (Nat.le_refl _) _
        · clear hab'
          go_wp2
          obtain ⟨s0, s1, s2, s3, s4⟩ := HR3.out.store (.int .i64 0) (.int .i64 0) (.string ⟨#[]⟩) (.slice none 0 0) (.bool false)
          try simp only [Exit.inBlock, Exit.then]
          refine bodyPost_ret (v := .tuple #[.agg #[.int .i64 0, .int .i64 0, .string ⟨#[]⟩, .slice none 0 0, .bool false], .bool false]) ?_ rfl (ReadIs.no HN.out ?_ rfl)
          · simp [results, Tryz.results29, go_sem, s0, s1, s2, s3, s4]
          · exact ((((HB3.out.setCell (Nat.le_refl _) _).setCell (Nat.le_refl _) _).setCell (Nat.le_refl _) _).setCell (Nat.le_refl _) _).setCell (Nat.le_refl _) _

end Go.Proofs.YtmebcdpdpcpnmaaGreatDoor
