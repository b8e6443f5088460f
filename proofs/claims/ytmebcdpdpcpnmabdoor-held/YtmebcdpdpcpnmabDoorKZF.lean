import Derived.Test.YtmebcdpdpcpnmabDoorKZE
namespace Go.Proofs.YtmebcdpdpcpnmabDoor
open Go.RowKit

/-- what look tells -/
def Seen (b : Nat) (M : Mk.Mkt) (v : Value) (w : World) : Prop := ∃ av fa ov fo sv, v = .agg #[av, .int .i64 M.house, ov, sv] ∧ w.ownsRow b 27 1 av 4 ((List.range 4).map fa) ∧ (∀ j, j < 4 → w.ownsRow b 3 1 (fa j) 6 (numV (Mk.nums (Mk.cliT M j)).1)) ∧
  w.ownsRow b 27 1 ov 2 ((List.range 2).map fo) ∧ (∀ j, j < 2 → w.ownsRow b 3 1 (fo j) (4 * (M.bk j).length) (numV (Mk.nums (Mk.batT M j)).1)) ∧ w.ownsRow b 9 1 sv 2 ((List.range 2).map fun j => .string (Mk.sides (Mk.batT M j)))
theorem own_monoC {w : World} {base base' e size n : Nat} {v : Value} {xs : List Value} (h : w.ownsRow base e size v n xs) (hb : base' ≤ base) : w.ownsRow base' e size v n xs :=
  ⟨h.1, h.2.imp id (fun ⟨g, cap, cur, h1, h2, h3⟩ => ⟨g, cap, cur, h1, Nat.le_trans hb h2, h3⟩)⟩
section
variable {w w1 w7 : World} {gl lc : Nat} {M : Mk.Mkt} {av : Value} {ac : Nat} {fa : Nat → Value} {hh : Int} {ov : Value} {oc : Nat} {fo : Nat → Value} {sv : Value} {sc : Nat} {ob : Obj}
theorem Lk.rowA (h : Lk w gl lc M av ac fa hh ov oc fo sv sc w1) (hg : (w1.alloc ob).grownBy w7 av.ownBlock) : w7.rowIs (w.heap.size + 1) 38 4 (seenF av hh ov sv) :=
  h.row.of_block (grown_blocks hg _ h.row.lt (fun e => (own_kind' h.acc e.symm).ne (row_kind h.row) (by decide) rfl))
theorem Lk.rowO (h : Lk w gl lc M av ac fa hh ov oc fo sv sc w1) (hg : (w1.alloc ob).grownBy w7 ov.ownBlock) : w7.rowIs (w.heap.size + 1) 38 4 (seenF av hh ov sv) :=
  h.row.of_block (grown_blocks hg _ h.row.lt (fun e => (own_kind' h.ord e.symm).ne (row_kind h.row) (by decide) rfl))
theorem Lk.rowS (h : Lk w gl lc M av ac fa hh ov oc fo sv sc w1) (hg : (w1.alloc ob).grownBy w7 sv.ownBlock) : w7.rowIs (w.heap.size + 1) 38 4 (seenF av hh ov sv) :=
  h.row.of_block (grown_blocks hg _ h.row.lt (fun e => (own_kind' h.sid e.symm).ne (row_kind h.row) (by decide) rfl))
end
theorem Lk.seen {w wr : World} {gl lc : Nat} {M : Mk.Mkt} {av : Value} {fa : Nat → Value} {ov : Value} {fo : Nat → Value} {sv : Value} (h : Lk w gl lc M av 4 fa M.house ov 2 fo sv 2 wr) {x0 x1 x2 x3 : Value} :
    Seen w.heap.size M (.agg #[av, .int .i64 M.house, ov, sv]) ((((wr.setCell ⟨w.heap.size, 0, none⟩ x0).setCell ⟨w.heap.size, 1, none⟩ x1).setCell ⟨w.heap.size, 2, none⟩ x2).setCell ⟨w.heap.size, 3, none⟩ x3) ∧ Below w.heap.size w ((((wr.setCell ⟨w.heap.size, 0, none⟩ x0).setCell ⟨w.heap.size, 1, none⟩ x1).setCell ⟨w.heap.size, 2, none⟩ x2).setCell ⟨w.heap.size, 3, none⟩ x3) := by
  have kr : Kind wr w.heap.size 38 := row_kind h.res
  have stay : ∀ {v : Value} {m t : Nat} {xs : List Value}, wr.ownsRow w.heap.size t 1 v m xs → t ≠ 38 → ((((wr.setCell ⟨w.heap.size, 0, none⟩ x0).setCell ⟨w.heap.size, 1, none⟩ x1).setCell ⟨w.heap.size, 2, none⟩ x2).setCell ⟨w.heap.size, 3, none⟩ x3).ownsRow w.heap.size t 1 v m xs := fun ho ht => by
    have hne := fun e => (own_kind' ho e).ne kr ht rfl
    exact own_setC (own_setC (own_setC (own_setC ho hne) hne) hne) hne
  have hl : ∀ (u : World), Below w.heap.size w u → ∀ i x, Below w.heap.size w (u.setCell ⟨w.heap.size, i, none⟩ x) := fun u hb i x => hb.setCell (Nat.le_refl _) _
  exact ⟨⟨av, fa, ov, fo, sv, rfl, stay h.acc (by decide), fun j hj => stay (h.inn j hj) (by decide), stay h.ord (by decide), fun j hj => stay (h.inn2 j hj) (by decide), stay h.sid (by decide)⟩, hl _ (hl _ (hl _ (hl _ h.bel _ _) _ _) _ _) _ _⟩
theorem prt_at {w : World} {b gl lc : Nat} {M : Mk.Mkt} (h : w.ownsRow b 9 1 (.slice (some ⟨gl, 0, none⟩) 7 lc) 7 (prtL M)) {j : Nat} (hj : j < 7) : w.cell? ⟨gl, j, none⟩ = (prtL M)[j]? := h.cellAt j (by omega)

theorem prt_cli {w : World} {b gl lc : Nat} {M : Mk.Mkt} (h : w.ownsRow b 9 1 (.slice (some ⟨gl, 0, none⟩) 7 lc) 7 (prtL M)) {c : Nat} (hc : c < 4) : w.cell? ⟨gl, c, none⟩ = some (.string (Mk.cliT M c)) := by
  rw [prt_at h (by omega)]
  match c, hc with
  | 0, _ => rfl
  | 1, _ => rfl
  | 2, _ => rfl
  | 3, _ => rfl
theorem prt_bat {w : World} {b gl lc : Nat} {M : Mk.Mkt} (h : w.ownsRow b 9 1 (.slice (some ⟨gl, 0, none⟩) 7 lc) 7 (prtL M)) {v : Nat} (hv : v < 2) : w.cell? ⟨gl, 5 + v, none⟩ = some (.string (Mk.batT M v)) := by
  rw [prt_at h (by omega)]
  match v, hv with
  | 0, _ => rfl
  | 1, _ => rfl
theorem Mk.cliT_le {M : Mk.Mkt} (hM : M.Fine) {c : Nat} (hc : c < 4) : (Mk.cliT M c).size ≤ 29 := by
  have h1 := Mk.purseI_le (hM.cf c hc).2 (hM.ch c hc).2
  have h2 := Mk.purseI_le (hM.sf 0 c (by omega) hc).2 (hM.sh 0 c (by omega) hc).2
  have h3 := Mk.purseI_le (hM.sf 1 c (by omega) hc).2 (hM.sh 1 c (by omega) hc).2
  unfold Mk.cliT
  simp only [ByteArray.size_append]
  have e : (ByteArray.mk #[32]).size = 1 := rfl
  omega
theorem Mk.batT_le {M : Mk.Mkt} (hM : M.Fine) {v : Nat} (hv : v < 2) : (Mk.batT M v).size ≤ 241 := by
  have h1 := Mk.addB_le hM hv ⟨#[]⟩ (M.bk v).length (Nat.le_refl _)
  have h2 := hM.len v hv
  have e : (ByteArray.mk #[]).size = 0 := rfl
  have e2 : (Mk.modT (M.md v)).size = 1 := by unfold Mk.modT; split <;> rfl
  unfold Mk.batT
  rw [ByteArray.size_append]
  omega

theorem sidesTo_size (s : ByteArray) : ∀ k, (Mk.sidesTo s k).size ≤ k
  | 0 => Nat.le_refl 0
  | k + 1 => by
    have := sidesTo_size s k
    simp only [Mk.sidesTo]
    split
    · rw [ByteArray.size_append, ByteArray.size_extract]; omega
    · omega

set_option maxRecDepth 100000 in
set_option maxHeartbeats 4000000 in
theorem look_any (p : Nat) (vb : Nat → Value) (M : Mk.Mkt) (w : World) (hM : M.Fine) (hP : PM w p vb M) (hT : Tab w) :
    Calls Tryd.prog 15 #[.pointer (some ⟨p, 0, none⟩)] w fun e w' => ∃ v, e = .returned (.tuple #[v, .bool true]) ∧ Seen w.heap.size M v w' ∧ Below w.heap.size w w' := by
  have HM : Hid M.Fine := hM
  have HP : Hid (PM w p vb M) := hP
  have HT : Hid (Tab w) := hT
  clear hM hP hT
  obtain ⟨i0, hi0, hz0, hz1, hz2⟩ := info_parts Tryd.infoInts
  obtain ⟨j0, hj0, hy0, hy1, hy2⟩ := info_parts Tryd.infoStr
  have HB0 : Hid (Below w.heap.size w ((w.alloc (.cells #[.slice none 0 0, .int .i64 0, .slice none 0 0, .slice none 0 0] 38)).alloc (.cells #[.slice none 0 0, .int .i64 0, .slice none 0 0, .slice none 0 0] 38))) := ((Below.refl _ _).alloc (Nat.le_refl _) _).alloc (by simp) _
  have HR0 : Hid (((w.alloc (.cells #[.slice none 0 0, .int .i64 0, .slice none 0 0, .slice none 0 0] 38)).alloc (.cells #[.slice none 0 0, .int .i64 0, .slice none 0 0, .slice none 0 0] 38)).rowIs w.heap.size 38 4 (seenF (.slice none 0 0) 0 (.slice none 0 0) (.slice none 0 0))) := World.rowIs.alloc (World.rowIs_alloc w #[.slice none 0 0, .int .i64 0, .slice none 0 0, .slice none 0 0] 38 _ seen_nil) _
  have HQ0 : Hid (((w.alloc (.cells #[.slice none 0 0, .int .i64 0, .slice none 0 0, .slice none 0 0] 38)).alloc (.cells #[.slice none 0 0, .int .i64 0, .slice none 0 0, .slice none 0 0] 38)).rowIs (w.heap.size + 1) 38 4 (seenF (.slice none 0 0) 0 (.slice none 0 0) (.slice none 0 0))) := (by
    have h := World.rowIs_alloc (w.alloc (.cells #[.slice none 0 0, .int .i64 0, .slice none 0 0, .slice none 0 0] 38)) #[.slice none 0 0, .int .i64 0, .slice none 0 0, .slice none 0 0] 38 _ seen_nil
    simpa using h : ((w.alloc (.cells #[.slice none 0 0, .int .i64 0, .slice none 0 0, .slice none 0 0] 38)).alloc (.cells #[.slice none 0 0, .int .i64 0, .slice none 0 0, .slice none 0 0] 38)).rowIs (w.heap.size + 1) 38 4 (seenF (.slice none 0 0) 0 (.slice none 0 0) (.slice none 0 0)))
  go_enter Tryd.func15, Tryd.ntmps15
  go_wp2_with fail
  generalize ((w.alloc (.cells #[.slice none 0 0, .int .i64 0, .slice none 0 0, .slice none 0 0] 38)).alloc (.cells #[.slice none 0 0, .int .i64 0, .slice none 0 0, .slice none 0 0] 38)) = W1 at *
  have hfin := Mk.showM_le HM.out
  refine (pshow_any p vb M _ HM.out (HP.out.below HB0.out) (HT.out.next HB0.out)).mono ?_
  rintro e w2 ⟨rfl, hb2⟩
  have HR2 : Hid (w2.rowIs w.heap.size 38 4 (seenF (.slice none 0 0) 0 (.slice none 0 0) (.slice none 0 0))) := HR0.out.of_block (hb2.block _ HR0.out.lt)
  have HQ2 : Hid (w2.rowIs (w.heap.size + 1) 38 4 (seenF (.slice none 0 0) 0 (.slice none 0 0) (.slice none 0 0))) := HQ0.out.of_block (hb2.block _ HQ0.out.lt)
  have HB2 : Hid (Below w.heap.size w w2) := HB0.out.trans (hb2.mono HB0.out.size)
  clear hb2
  have hsz1 : ¬ (65536 : Int) < ((Mk.showM M).size : Int) := by omega
  go_wp2_with fail
  refine (parts_any (Mk.showM M) _ (by omega)).mono ?_
  rintro e w3 ⟨lv, rfl, hown3, hb3⟩
  rw [Mk.parts_show HM.out] at hown3
  have hown3' : w3.ownsRow w2.heap.size 9 1 lv 7 (prtL M) := hown3
  obtain ⟨la, lc, rfl⟩ := own_form hown3'
  obtain ⟨gl, rfl⟩ := own_some hown3' (by omega)
  have HL3 : Hid (Lk w gl lc M nilS 0 (fun _ => nilS) 0 nilS 0 (fun _ => nilS) nilS 0 w3) := (⟨HQ2.out.of_block (hb3.block _ HQ2.out.lt), HR2.out.of_block (hb3.block _ HR2.out.lt), own_monoC hown3' HB2.out.size, ⟨by simp, .inl ⟨rfl, rfl⟩⟩, fun j hj => (by omega), ⟨by simp, .inl ⟨rfl, rfl⟩⟩, fun j hj => (by omega), ⟨by simp, .inl ⟨rfl, rfl⟩⟩, fun k hk => (by cases hk), fun h => (by cases h), HB2.out.trans (hb3.mono HB2.out.size)⟩ : Lk w gl lc M nilS 0 (fun _ => nilS) 0 nilS 0 (fun _ => nilS) nilS 0 w3)
  clear hown3 hown3' hb3 hfin
  go_wp2_with fail
  go_loopw [7] (fun cv wr => ∃ (c : Nat) (av : Value) (fa : Nat → Value), c ≤ 4 ∧ cv = .int .i64 c ∧ Lk w gl lc M av c fa 0 nilS 0 (fun _ => nilS) nilS 0 wr) (fun cv _ => 4 - (intOf cv).toNat)
  case atStart => exact ⟨0, _, _, Nat.zero_le _, rfl, HL3.out⟩
  case round =>
    obtain ⟨c, av, fa, hc, rfl, hL⟩ := hrel
    have HLr : Hid (Lk w gl lc M av c fa 0 nilS 0 (fun _ => nilS) nilS 0 wr) := hL
    clear hL
    by_cases hlt : c < 4
    · have hlt' : (c : Int) < 4 := by omega
      have hc7 : (c : Int) < 7 := by omega
      have c0 := prt_cli HLr.out.prt hlt
      have hsz := Mk.cliT_le HM.out hlt
      go_wp2_with fail
      refine (numbers_any (Mk.cliT M c) _ (by omega)).mono ?_
      rintro e w4 ⟨nv, rfl, hown4, hb4⟩
      have e6 : (Mk.nums (Mk.cliT M c)).1.length = 6 := by rw [Mk.nums_cli HM.out hlt]; rfl
      rw [e6] at hown4
      obtain ⟨na, nc, rfl⟩ := own_form hown4
      have HL4 : Hid (Lk w gl lc M av c fa 0 nilS 0 (fun _ => nilS) nilS 0 w4) := HLr.out.next hb4
      have HN4 := (show Hid (w4.ownsRow w.heap.size 3 1 (.slice na 6 nc) 6 (numV (Mk.nums (Mk.cliT M c)).1)) from own_monoC hown4 HLr.out.bel.size)
      clear c0 hb4 hown4 e6
      have a0 := HL4.out.row.cell (i := 0) (by omega)
      simp only [seenF] at a0
      have hacc := HL4.out.acc
      have hbs := HL4.out.bel.size
      go_wp2_with (at_builtin; (refine wpList_append_lies _ rfl _ _ _ rfl w.heap.size 27 i0 _ 1 24 Tryd.underlying35 hi0 hz0 hz1 hz2 rfl (by omega) _ c ((List.range c).map fa) rfl (World.ownsRow.alloc hacc _) ⟨w4.heap.size, 0, none⟩ 1 1 [.slice na 6 nc] rfl rfl (World.news_of_block (cs := #[.slice na 6 nc]) (t := 27) (fr := (0, 0)) (heap_alloc_new w4 _)) (by simp [Value.oneCell']) (by omega) (by unfold maxLen; omega) (by omega) (by simp; omega) (w4.heap.size + 1) (by simp) ?_; intro g7 cap' w7 hown7 hgrow hat hlt7; have hq7 := Lk.rowA HL4.out hgrow; have b0 := hq7.cell (i := 0) (by omega); have z0 := hq7.frozen 0; simp only [seenF] at b0))
      have HL7 : Hid (Lk w gl lc M (.slice (some ⟨g7, 0, none⟩) (c + 1) cap') (c + 1) (upd fa c (.slice na 6 nc)) 0 nilS 0 (fun _ => nilS) nilS 0 (w7.setCell ⟨w.heap.size + 1, 0, none⟩ (.slice (some ⟨g7, 0, none⟩) (c + 1) cap'))) := HL4.out.pushA HN4.out hown7 hgrow hat
      clear a0 b0 z0 hq7 hown7 hgrow hat hlt7 hacc
      go_wp2_with fail
      go_roundw
      case rel => exact ⟨c + 1, _, _, by omega, by go_num, HL7.out⟩
      case measure => simp [intOf]; omega
    · obtain rfl : c = 4 := by omega
      have c4 : wr.cell? ⟨gl, 4, none⟩ = some (.string (Mk.digI M.house)) := prt_at HLr.out.prt (by omega)
      have hsz := Mk.digI_le HM.out.house.2
      go_wp2_with fail
      refine (numbers_any (Mk.digI M.house) _ (by omega)).mono ?_
      rintro e w4 ⟨nv, rfl, hown4, hb4⟩
      rw [Mk.nums_house HM.out] at hown4
      have hown4' : w4.ownsRow wr.heap.size 3 1 nv 1 [.int .i64 (M.house.toNat : Int)] := hown4
      obtain ⟨na, nc, rfl⟩ := own_form hown4'
      obtain ⟨gn, rfl⟩ := own_some hown4' (by omega)
      have hh0 : (M.house.toNat : Int) = M.house := by have := HM.out.house; omega
      have n0 : w4.cell? ⟨gn, 0, none⟩ = some (.int .i64 M.house) := by rw [← hh0]; exact hown4'.cellAt 0 (by omega)
      have HL4 : Hid (Lk w gl lc M av 4 fa 0 nilS 0 (fun _ => nilS) nilS 0 w4) := HLr.out.next hb4
      clear c4 hb4 hown4 hown4' hh0
      have a1 := HL4.out.row.cell (i := 1) (by omega)
      simp only [seenF] at a1
      have z1 := HL4.out.row.frozen 1
      have HL5 : Hid (Lk w gl lc M av 4 fa M.house nilS 0 (fun _ => nilS) nilS 0 (w4.setCell ⟨w.heap.size + 1, 1, none⟩ (.int .i64 M.house))) := HL4.out.setH M.house
      go_wp2_with fail
      generalize w4.setCell ⟨w.heap.size + 1, 1, none⟩ (.int .i64 M.house) = W5 at *
      clear n0 a1 z1 hsz
      go_loopw [10] (fun vv wr => ∃ (v : Nat) (ov : Value) (fo : Nat → Value) (sv : Value), v ≤ 2 ∧ vv = .int .i64 v ∧ Lk w gl lc M av 4 fa M.house ov v fo sv v wr) (fun vv _ => 2 - (intOf vv).toNat)
      case atStart => exact ⟨0, _, _, _, Nat.zero_le _, rfl, HL5.out⟩
      case round =>
        obtain ⟨v, ov, fo, sv, hv, rfl, hL⟩ := hrel
        have HLv : Hid (Lk w gl lc M av 4 fa M.house ov v fo sv v wr) := hL
        clear hL
        by_cases hlt : v < 2
        · have hlt' : (v : Int) < 2 := by omega
          have hv7 : (5 : Int) + (v : Int) < 7 := by omega
          have c0 := prt_bat HLv.out.prt hlt
          have hsz := Mk.batT_le HM.out hlt
          have hl12 := HM.out.len v hlt
          go_wp2_with fail
          refine (numbers_any (Mk.batT M v) _ (by omega)).mono ?_
          rintro e w6 ⟨nv, rfl, hown6, hb6⟩
          have e6 : (Mk.nums (Mk.batT M v)).1.length = 4 * (M.bk v).length := by rw [Mk.nums_bat HM.out hlt, Mk.ordN_len]
          rw [e6] at hown6
          obtain ⟨na, nc, rfl⟩ := own_form hown6
          have HL6 : Hid (Lk w gl lc M av 4 fa M.house ov v fo sv v w6) := HLv.out.next hb6
          have HN6 := (show Hid (w6.ownsRow w.heap.size 3 1 (.slice na (4 * (M.bk v).length) nc) (4 * (M.bk v).length) (numV (Mk.nums (Mk.batT M v)).1)) from own_monoC hown6 HLv.out.bel.size)
          clear c0 hb6 hown6 e6
          go_wp2_with fail
          go_loopw [13, 14] (fun sd j wr => wr = w6 ∧ ∃ k : Nat, k ≤ (Mk.batT M v).size ∧ j = .int .i64 k ∧ sd = .string (Mk.sidesTo (Mk.batT M v) k)) (fun _ j _ => (Mk.batT M v).size - (intOf j).toNat)
          case atStart => exact ⟨rfl, 0, Nat.zero_le _, rfl, rfl⟩
          case round =>
            obtain ⟨hwr, k, hk, rfl, rfl⟩ := hrel
            obtain rfl := hwr
            have hss := sidesTo_size (Mk.batT M v) k
            by_cases hltk : k < (Mk.batT M v).size
            · have hltk' : (k : Int) < ((Mk.batT M v).size : Int) := by omega
              have HB : Hid ((Mk.batT M v)[k].toNat = Mk.bt (Mk.batT M v) k) := Mk.bt_at hltk
              by_cases h66 : (Mk.batT M v)[k].toNat = 66 ∨ (Mk.batT M v)[k].toNat = 83
              · have HE : Hid (Mk.sidesTo (Mk.batT M v) (k + 1) = Mk.sidesTo (Mk.batT M v) k ++ (Mk.batT M v).extract k (k + 1)) := (by simp only [Mk.sidesTo]; rw [← HB.out, if_pos h66] : Mk.sidesTo (Mk.batT M v) (k + 1) = Mk.sidesTo (Mk.batT M v) k ++ (Mk.batT M v).extract k (k + 1))
                have hex : ((Mk.batT M v).extract k (k + 1)).size = 1 := by rw [ByteArray.size_extract]; omega
                rcases h66 with h66 | h66
                · have b1 : (((Mk.batT M v)[k].toNat : Int) == 66) = true := by rw [beq_iff_eq]; omega
                  clear h66
                  go_wp2_with fail
                  go_roundw
                  case rel => exact ⟨by first | rfl | trivial, k + 1, by omega, by go_num, by rw [HE.out]⟩
                  case measure => simp [intOf]; omega
                · have b1 : (((Mk.batT M v)[k].toNat : Int) == 66) = false := by rw [beq_eq_false_iff_ne]; omega
                  have b2 : (((Mk.batT M v)[k].toNat : Int) == 83) = true := by rw [beq_iff_eq]; omega
                  clear h66
                  go_wp2_with fail
                  go_roundw
                  case rel => exact ⟨by first | rfl | trivial, k + 1, by omega, by go_num, by rw [HE.out]⟩
                  case measure => simp [intOf]; omega
              · have HE : Hid (Mk.sidesTo (Mk.batT M v) (k + 1) = Mk.sidesTo (Mk.batT M v) k) := (by simp only [Mk.sidesTo]; rw [← HB.out, if_neg h66] : Mk.sidesTo (Mk.batT M v) (k + 1) = Mk.sidesTo (Mk.batT M v) k)
                have b1 : (((Mk.batT M v)[k].toNat : Int) == 66) = false := by rw [beq_eq_false_iff_ne]; omega
                have b2 : (((Mk.batT M v)[k].toNat : Int) == 83) = false := by rw [beq_eq_false_iff_ne]; omega
                clear h66
                go_wp2_with fail
                go_roundw
                case rel => exact ⟨by first | rfl | trivial, k + 1, by omega, by go_num, by rw [HE.out]⟩
                case measure => simp [intOf]; omega
            · obtain rfl : k = (Mk.batT M v).size := by omega
              have HSz : Hid ((Mk.sidesTo (Mk.batT M v) (Mk.batT M v).size).size = (M.bk v).length) := (by
                have h := Mk.sides_bat HM.out hlt
                unfold Mk.sides at h
                rw [h, Mk.sidL_size] : (Mk.sidesTo (Mk.batT M v) (Mk.batT M v).size).size = (M.bk v).length)
              have HSd : Hid (Mk.sidesTo (Mk.batT M v) (Mk.batT M v).size = Mk.sides (Mk.batT M v)) := rfl
              rw [HSd.out]
              rw [HSd.out] at hss
              have hz4 : (Mk.sides (Mk.batT M v)).size = (M.bk v).length := HSz.out
              have hz5 : (((4 * (M.bk v).length : Nat) : Int) == 4 * ((Mk.sides (Mk.batT M v)).size : Int)) = true := by rw [hz4, beq_iff_eq]; omega
              have a0 := HL6.out.row.cell (i := 2) (by omega)
              simp only [seenF] at a0
              have hacc := HL6.out.ord
              have hbs := HL6.out.bel.size
              go_upto_region 32 with fail
              go_upto_region 33 with (at_builtin; (refine wpList_append_lies _ rfl _ _ _ rfl w.heap.size 27 i0 _ 1 24 Tryd.underlying35 hi0 hz0 hz1 hz2 rfl (by omega) _ v ((List.range v).map fo) rfl (World.ownsRow.alloc hacc _) ⟨wr.heap.size, 0, none⟩ 1 1 [.slice na (4 * (M.bk v).length) nc] rfl rfl (World.news_of_block (cs := #[.slice na (4 * (M.bk v).length) nc]) (t := 27) (fr := (0, 0)) (heap_alloc_new wr _)) (by simp [Value.oneCell']) (by omega) (by unfold maxLen; omega) (by omega) (by simp; omega) (wr.heap.size + 1) (by simp) ?_; intro g7 cap' w7 hown7 hgrow hat hlt7; have hq7 := Lk.rowO HL6.out hgrow; have b0 := hq7.cell (i := 2) (by omega); have z0 := hq7.frozen 2; simp only [seenF] at b0))
              have HL7 : Hid (Lk w gl lc M av 4 fa M.house (.slice (some ⟨g7, 0, none⟩) (v + 1) cap') (v + 1) (upd fo v (.slice na (4 * (M.bk v).length) nc)) sv v (w7.setCell ⟨w.heap.size + 1, 2, none⟩ (.slice (some ⟨g7, 0, none⟩) (v + 1) cap'))) := HL6.out.pushO HN6.out hown7 hgrow hat
              clear a0 b0 z0 hq7 hown7 hgrow hat hlt7 hacc hbs
              generalize w7.setCell ⟨w.heap.size + 1, 2, none⟩ (.slice (some ⟨g7, 0, none⟩) (v + 1) cap') = W7 at *
              have a0 := HL7.out.row.cell (i := 3) (by omega)
              simp only [seenF] at a0
              have hacc := HL7.out.sid
              have hbs := HL7.out.bel.size
              go_wp2_with (at_builtin; (refine wpList_append_lies _ rfl _ _ _ rfl w.heap.size 9 j0 _ 1 16 Tryd.underlying36 hj0 hy0 hy1 hy2 rfl (by omega) _ v ((List.range v).map fun j => .string (Mk.sides (Mk.batT M j))) rfl (World.ownsRow.alloc hacc _) ⟨W7.heap.size, 0, none⟩ 1 1 [.string (Mk.sides (Mk.batT M v))] rfl rfl (World.news_of_block (cs := #[.string (Mk.sides (Mk.batT M v))]) (t := 9) (fr := (0, 0)) (heap_alloc_new W7 _)) (by simp [Value.oneCell']) (by omega) (by unfold maxLen; omega) (by omega) (by simp; omega) (W7.heap.size + 1) (by simp) ?_; intro g8 cap8 w8 hown8 hgrow8 hat8 hlt8; have hq8 := Lk.rowS HL7.out hgrow8; have b0 := hq8.cell (i := 3) (by omega); have z0 := hq8.frozen 3; simp only [seenF] at b0))
              have HL8 : Hid (Lk w gl lc M av 4 fa M.house (.slice (some ⟨g7, 0, none⟩) (v + 1) cap') (v + 1) (upd fo v (.slice na (4 * (M.bk v).length) nc)) (.slice (some ⟨g8, 0, none⟩) (v + 1) cap8) (v + 1) (w8.setCell ⟨w.heap.size + 1, 3, none⟩ (.slice (some ⟨g8, 0, none⟩) (v + 1) cap8))) := HL7.out.pushS hown8 hgrow8 hat8
              clear a0 b0 z0 hq8 hown8 hgrow8 hat8 hlt8 hacc hbs
              go_wp2_with fail
              go_roundw
              case rel => exact ⟨v + 1, _, _, _, by omega, by go_num, HL8.out⟩
              case measure => simp [intOf]; omega
        · obtain rfl : v = 2 := by omega
          obtain ⟨xa, xc, rfl⟩ := own_form HLv.out.acc
          obtain ⟨ya, yc, rfl⟩ := own_form HLv.out.ord
          obtain ⟨za, zc, rfl⟩ := own_form HLv.out.sid
          have q0 := HLv.out.row.cell (i := 0) (by omega)
          have q1 := HLv.out.row.cell (i := 1) (by omega)
          have q2 := HLv.out.row.cell (i := 2) (by omega)
          have q3 := HLv.out.row.cell (i := 3) (by omega)
          have r0 := HLv.out.res.cell (i := 0) (by omega)
          have r1 := HLv.out.res.cell (i := 1) (by omega)
          have r2 := HLv.out.res.cell (i := 2) (by omega)
          have r3 := HLv.out.res.cell (i := 3) (by omega)
          have f0 := HLv.out.res.frozen 0
          have f1 := HLv.out.res.frozen 1
          have f2 := HLv.out.res.frozen 2
          have f3 := HLv.out.res.frozen 3
          simp only [seenF] at q0 q1 q2 q3 r0 r1 r2 r3
          have HF : Hid (Seen w.heap.size M (.agg #[.slice xa 4 xc, .int .i64 M.house, .slice ya 2 yc, .slice za 2 zc]) ((((wr.setCell ⟨w.heap.size, 0, none⟩ (.slice xa 4 xc)).setCell ⟨w.heap.size, 1, none⟩ (.int .i64 M.house)).setCell ⟨w.heap.size, 2, none⟩ (.slice ya 2 yc)).setCell ⟨w.heap.size, 3, none⟩ (.slice za 2 zc)) ∧
              Below w.heap.size w ((((wr.setCell ⟨w.heap.size, 0, none⟩ (.slice xa 4 xc)).setCell ⟨w.heap.size, 1, none⟩ (.int .i64 M.house)).setCell ⟨w.heap.size, 2, none⟩ (.slice ya 2 yc)).setCell ⟨w.heap.size, 3, none⟩ (.slice za 2 zc))) := HLv.out.seen
          go_wp2_with fail
          refine bodyPost_ret (v := .tuple #[.agg #[.slice xa 4 xc, .int .i64 M.house, .slice ya 2 yc, .slice za 2 zc], .bool true]) ?_ rfl ⟨_, rfl, HF.out.1, HF.out.2⟩
          have g3 := fun x0 x1 x2 x3 => cell_set_same (u := x3) (cell_set_ne (b' := w.heap.size) (o' := 2) (u := x2) (by omega) (cell_set_ne (b' := w.heap.size) (o' := 1) (u := x1) (by omega) (cell_set_ne (b' := w.heap.size) (o' := 0) (u := x0) (by omega) r3)))
          have g2 := fun x0 x1 x2 x3 => cell_set_ne (b' := w.heap.size) (o' := 3) (u := x3) (by omega) (cell_set_same (u := x2) (cell_set_ne (b' := w.heap.size) (o' := 1) (u := x1) (by omega) (cell_set_ne (b' := w.heap.size) (o' := 0) (u := x0) (by omega) r2)))
          have g1 := fun x0 x1 x2 x3 => cell_set_ne (b' := w.heap.size) (o' := 3) (u := x3) (by omega) (cell_set_ne (b' := w.heap.size) (o' := 2) (u := x2) (by omega) (cell_set_same (u := x1) (cell_set_ne (b' := w.heap.size) (o' := 0) (u := x0) (by omega) r1)))
          have g0 := fun x0 x1 x2 x3 => cell_set_ne (b' := w.heap.size) (o' := 3) (u := x3) (by omega) (cell_set_ne (b' := w.heap.size) (o' := 2) (u := x2) (by omega) (cell_set_ne (b' := w.heap.size) (o' := 1) (u := x1) (by omega) (cell_set_same (u := x0) r0)))
          simp [results, Tryd.results15, go_sem, g0, g1, g2, g3]

end Go.Proofs.YtmebcdpdpcpnmabDoor
