import Derived.Test.YtmebcdpdpcpnmaaGreatDoorA3
namespace Go.Proofs.YtmebcdpdpcpnmaaGreatDoor
open Go.RowKit

/-- levelAt's memory at a round's head: its result's block, its level's block -/
structure Lv (w wr : World) (p d s : Int) : Prop where
  below : Below w.heap.size w wr
  size : w.heap.size + 1 < wr.heap.size
  c0 : wr.cell? ⟨w.heap.size + 1, 0, none⟩ = some (.int .i64 p)
  c1 : wr.cell? ⟨w.heap.size + 1, 1, none⟩ = some (.int .i64 d)
  c2 : wr.cell? ⟨w.heap.size + 1, 2, none⟩ = some (.int .i64 s)
  f1 : wr.frozen? ⟨w.heap.size + 1, 1, none⟩ = false
  f2 : wr.frozen? ⟨w.heap.size + 1, 2, none⟩ = false
  r0 : wr.cell? ⟨w.heap.size, 0, none⟩ = some (.int .i64 0)
  r1 : wr.cell? ⟨w.heap.size, 1, none⟩ = some (.int .i64 0)
  r2 : wr.cell? ⟨w.heap.size, 2, none⟩ = some (.int .i64 0)
  g0 : wr.frozen? ⟨w.heap.size, 0, none⟩ = false
  g1 : wr.frozen? ⟨w.heap.size, 1, none⟩ = false
  g2 : wr.frozen? ⟨w.heap.size, 2, none⟩ = false

theorem cell_al {w : World} {b o : Nat} {v : Value} {ob : Obj} (h : w.cell? ⟨b, o, none⟩ = some v) : (w.alloc ob).cell? ⟨b, o, none⟩ = some v := by
  rw [World.cell?_alloc_past _ _ _ (blk_lt h)]; exact h
theorem froz_al {w : World} {b o : Nat} {v : Bool} {ob : Obj} (hb : b < w.heap.size) (h : w.frozen? ⟨b, o, none⟩ = v) : (w.alloc ob).frozen? ⟨b, o, none⟩ = v := by
  rw [← h]; exact (((Below.refl w.heap.size w).alloc (Nat.le_refl _) ob).frozen (p := ⟨b, o, none⟩) hb)
theorem cell_set_ne {w : World} {b o b' o' : Nat} {v u : Value} (hne : b ≠ b' ∨ o ≠ o') (h : w.cell? ⟨b, o, none⟩ = some v) : (w.setCell ⟨b', o', none⟩ u).cell? ⟨b, o, none⟩ = some v := by
  rw [World.cell?_setCell_other]; exact h
  intro e; injection e with e1 e2; omega

theorem cell_set_same {w : World} {b o : Nat} {v u : Value} (h : w.cell? ⟨b, o, none⟩ = some v) : (w.setCell ⟨b, o, none⟩ u).cell? ⟨b, o, none⟩ = some u := World.cell?_setCell_same _ _ _ h

theorem Lv.alloc {w wr : World} {p d s : Int} (h : Lv w wr p d s) (o : Obj) : Lv w (wr.alloc o) p d s := by
  have hs := h.size
  exact ⟨h.below.alloc (by omega) o, by simp; omega, cell_al h.c0, cell_al h.c1, cell_al h.c2, froz_al hs h.f1, froz_al hs h.f2, cell_al h.r0, cell_al h.r1, cell_al h.r2, froz_al (by omega) h.g0, froz_al (by omega) h.g1, froz_al (by omega) h.g2⟩
theorem Lv.setD {w wr : World} {p d s : Int} (h : Lv w wr p d s) (d' : Int) : Lv w (wr.setCell ⟨w.heap.size + 1, 1, none⟩ (.int .i64 d')) p d' s :=
  ⟨h.below.setCell (by simp) _, by simpa using h.size, cell_set_ne (by omega) h.c0, cell_set_same h.c1, cell_set_ne (by omega) h.c2, by simpa using h.f1, by simpa using h.f2, cell_set_ne (by omega) h.r0, cell_set_ne (by omega) h.r1, cell_set_ne (by omega) h.r2, by simpa using h.g0, by simpa using h.g1, by simpa using h.g2⟩
theorem Lv.setS {w wr : World} {p d s : Int} (h : Lv w wr p d s) (s' : Int) : Lv w (wr.setCell ⟨w.heap.size + 1, 2, none⟩ (.int .i64 s')) p d s' :=
  ⟨h.below.setCell (by simp) _, by simpa using h.size, cell_set_ne (by omega) h.c0, cell_set_ne (by omega) h.c1, cell_set_same h.c2, by simpa using h.f1, by simpa using h.f2, cell_set_ne (by omega) h.r0, cell_set_ne (by omega) h.r1, cell_set_ne (by omega) h.r2, by simpa using h.g0, by simpa using h.g1, by simpa using h.g2⟩

set_option maxHeartbeats 1000000 in
theorem levelAt_some (b off cap : Nat) (l : List Mk.Ord) (p : Int) (w : World) (hv : Mk.validB 20 l = true) (hR : At w b off l) :
    Calls Tryz.prog 88 #[.slice (some ⟨b, off, none⟩) l.length cap, .int .i64 p] w fun e w' => e = .returned (.agg #[.int .i64 p, .int .i64 (Mk.dem l p), .int .i64 (Mk.sup l p)]) ∧ Below w.heap.size w w' := by
  obtain ⟨h12, hok⟩ := Mk.ok_of_valid hv
  have HV : Hid (Mk.validB 20 l = true) := hv
  have HO : Hid (∀ o ∈ l, 1 ≤ o.price ∧ o.price ≤ 99 ∧ 1 ≤ o.qty ∧ o.qty ≤ 20) := hok
  have HR : Hid (At w b off l) := hR
  clear hv hok hR
  go_enter Tryz.func88, Tryz.ntmps88
  go_wp2
  go_loopw [12] (fun i wr => ∃ k : Nat, k ≤ l.length ∧ i = .int .i64 k ∧ Lv w wr p (Mk.sumf (Mk.sideq false p) (l.take k)) (Mk.sumf (Mk.sideq true p) (l.take k))) (fun i _ => l.length - (intOf i).toNat)
  case atStart =>
    refine ⟨0, Nat.zero_le _, rfl, ?_⟩
    exact ⟨((Below.refl _ _).alloc (Nat.le_refl _) _).alloc (by simp) _, by simp, by simp, by simp [Mk.sumf], by simp [Mk.sumf], by simp [go_sem], by simp [go_sem], by simp, by simp, by simp, by simp [go_sem], by simp [go_sem], by simp [go_sem]⟩
  case round =>
    obtain ⟨k, hk, rfl, hb⟩ := hrel
    have Hb : Hid (Lv w wr p (Mk.sumf (Mk.sideq false p) (l.take k)) (Mk.sumf (Mk.sideq true p) (l.take k))) := hb
    obtain ⟨_, hsz, e0, e1, e2, f1, f2, r0, r1, r2, g0, g1, g2⟩ := hb
    have hsz' : w.heap.size < wr.heap.size := by omega
    have bd := Mk.side_take_bd HV.out false p k
    have bs := Mk.side_take_bd HV.out true p k
    by_cases hlt : k < l.length
    · obtain ⟨c0, c1, c2⟩ := At.below HR.out Hb.out.below k hlt
      have hbl := blk_lt c0
      have hd := Mk.sumf_take_succ (Mk.sideq false p) l k hlt
      have hs := Mk.sumf_take_succ (Mk.sideq true p) l k hlt
      have hq := HO.out _ (List.getElem_mem hlt)
      have hlt' : (k : Int) < (l.length : Int) := by omega
      revert c0 c1 c2 hd hs hq
      generalize l[k] = o
      obtain ⟨s, pr, q⟩ := o
      intro c0 c1 c2 hd hs hq
      simp only at c0 c1 c2 hq
      obtain ⟨q1, q2⟩ : 0 ≤ q ∧ q ≤ 20 := by omega
      clear hq
      rw [Mk.sideq_mk] at hd hs
      rcases Bool.eq_false_or_eq_true (Mk.willB s pr p) with hw | hw <;> rw [hw] at hd hs <;> cases s <;> simp at hd hs
      all_goals
        have HD := (show Hid _ from hd)
        have HS := (show Hid _ from hs)
        clear hd hs
        go_wp2_with (go_at_call 91; refine (mwilling_any _ _ _ _ _).mono ?_; rintro e w' ⟨rfl, rfl⟩)
        go_roundw
        case rel =>
          refine ⟨k + 1, by omega, by go_num, ?_⟩
          rw [HD.out, HS.out]
          first
            | exact (Hb.out.alloc _).alloc _
            | exact ((Hb.out.setD _).alloc _).alloc _
            | exact ((Hb.out.setS _).alloc _).alloc _
            | exact ((Hb.out.alloc _).alloc _).setD _
            | exact ((Hb.out.alloc _).alloc _).setS _
        case measure => simp [intOf]; omega
    · go_wp2
      have : k = l.length := by omega
      subst this
      rw [List.take_length] at *
      refine bodyPost_ret (v := .agg #[.int .i64 p, .int .i64 (Mk.dem l p), .int .i64 (Mk.sup l p)]) ?_ rfl ⟨rfl, ((Hb.out.below.setCell (by simp) _).setCell (by simp) _).setCell (by simp) _⟩
      have q2 := fun a b c => cell_set_same (u := c) (cell_set_ne (b' := w.heap.size) (o' := 1) (u := b) (by omega) (cell_set_ne (b' := w.heap.size) (o' := 0) (u := a) (by omega) r2))
      have q1 := fun a b c => cell_set_ne (b' := w.heap.size) (o' := 2) (u := c) (by omega) (cell_set_same (u := b) (cell_set_ne (b' := w.heap.size) (o' := 0) (u := a) (by omega) r1))
      have q0 := fun a b c => cell_set_ne (b' := w.heap.size) (o' := 2) (u := c) (by omega) (cell_set_ne (b' := w.heap.size) (o' := 1) (u := b) (by omega) (cell_set_same (u := a) r0))
      simp [results, Tryz.results88, go_sem, q0, q1, q2]
      exact ⟨rfl, rfl⟩

end Go.Proofs.YtmebcdpdpcpnmaaGreatDoor
