import Derived.Test.YtmebcdpdpcpnmabDoorKZH
namespace Go.Proofs.YtmebcdpdpcpnmabDoor
open Go.RowKit

/-- the six numbers of a client -/
def Mk.accI (M : Mk.Mkt) (c : Nat) : Nat → Int
  | 0 => M.cf c
  | 1 => M.ch c
  | 2 => M.sf 0 c
  | 3 => M.sh 0 c
  | 4 => M.sf 1 c
  | _ => M.sh 1 c
theorem seen_acc {b : Nat} {M : Mk.Mkt} (hM : M.Fine) {sv : Value} {w : World} (h : Seen b M sv w) :
    ∃ ga ca ov sd, sv = .agg #[.slice (some ⟨ga, 0, none⟩) 4 ca, .int .i64 M.house, ov, sd] ∧ ∀ c, c < 4 → ∃ gc cc, w.cell? ⟨ga, c, none⟩ = some (.slice (some ⟨gc, 0, none⟩) 6 cc) ∧ ∀ i, i < 6 → w.cell? ⟨gc, i, none⟩ = some (.int .i64 (Mk.accI M c i)) := by
  obtain ⟨av, fa, ov, fo, sd, rfl, hacc, hinn, _⟩ := h
  obtain ⟨aa, ca, rfl⟩ := own_form hacc
  obtain ⟨ga, rfl⟩ := own_some hacc (by omega)
  refine ⟨ga, ca, ov, sd, rfl, fun c hc => ?_⟩
  have hi := hinn c hc
  obtain ⟨xa, cc, hx⟩ := own_form hi
  rw [hx] at hi
  obtain ⟨gc, rfl⟩ := own_some hi (by omega)
  refine ⟨gc, cc, ?_, fun i hi6 => ?_⟩
  · rw [hacc.cellAt c (by omega), List.getElem?_map, List.getElem?_range hc, ← hx]; rfl
  · rw [hi.cellAt i (by omega), Mk.nums_cli hM hc]
    have h0 := hM.cf c hc
    have h1 := hM.ch c hc
    have h2 := hM.sf 0 c (by omega) hc
    have h3 := hM.sh 0 c (by omega) hc
    have h4 := hM.sf 1 c (by omega) hc
    have h5 := hM.sh 1 c (by omega) hc
    match i, hi6 with
    | 0, _ => show some (Value.int .i64 ((M.cf c).toNat : Int)) = some (.int .i64 (M.cf c)); rw [Int.toNat_of_nonneg h0.1]
    | 1, _ => show some (Value.int .i64 ((M.ch c).toNat : Int)) = some (.int .i64 (M.ch c)); rw [Int.toNat_of_nonneg h1.1]
    | 2, _ => show some (Value.int .i64 ((M.sf 0 c).toNat : Int)) = some (.int .i64 (M.sf 0 c)); rw [Int.toNat_of_nonneg h2.1]
    | 3, _ => show some (Value.int .i64 ((M.sh 0 c).toNat : Int)) = some (.int .i64 (M.sh 0 c)); rw [Int.toNat_of_nonneg h3.1]
    | 4, _ => show some (Value.int .i64 ((M.sf 1 c).toNat : Int)) = some (.int .i64 (M.sf 1 c)); rw [Int.toNat_of_nonneg h4.1]
    | 5, _ => show some (Value.int .i64 ((M.sh 1 c).toNat : Int)) = some (.int .i64 (M.sh 1 c)); rw [Int.toNat_of_nonneg h5.1]

set_option maxRecDepth 100000 in
set_option maxHeartbeats 2000000 in
theorem kept_any (b : Nat) (M : Mk.Mkt) (sv : Value) (gi : Nat) (x : Nat → Int) (w : World) (hM : M.Fine) (hs : Seen b M sv w) (hr : w.rowIs gi 3 3 (fun i => .int .i64 (x i))) (hk : Mk.Kp M x) :
    Calls Tryd.prog 16 #[sv, .slice (some ⟨gi, 0, none⟩) 3 3] w fun e w' => e = .returned (.bool true) ∧ Below w.heap.size w w' := by
  obtain ⟨ga, ca, ov, sd, rfl, hc⟩ := seen_acc hM hs
  have HM : Hid M.Fine := hM
  have HK : Hid (Mk.Kp M x) := hk
  have HB : Hid (Below w.heap.size w (w.alloc (.cells #[.slice (some ⟨ga, 0, none⟩) 4 ca, .int .i64 M.house, ov, sd] 38))) := (Below.refl _ _).alloc (Nat.le_refl _) _
  have HC : Hid (∀ i u, (#[.slice (some ⟨ga, 0, none⟩) 4 ca, .int .i64 M.house, ov, sd] : Array Value)[i]? = some u → (w.alloc (.cells #[.slice (some ⟨ga, 0, none⟩) 4 ca, .int .i64 M.house, ov, sd] 38)).cell? ⟨w.heap.size, i, none⟩ = some u) := fun i u h => by simpa using h
  have HR : Hid ((w.alloc (.cells #[.slice (some ⟨ga, 0, none⟩) 4 ca, .int .i64 M.house, ov, sd] 38)).rowIs gi 3 3 (fun i => .int .i64 (x i))) := World.rowIs.alloc hr _
  have HA : Hid (∀ c, c < 4 → ∃ gc cc, (w.alloc (.cells #[.slice (some ⟨ga, 0, none⟩) 4 ca, .int .i64 M.house, ov, sd] 38)).cell? ⟨ga, c, none⟩ = some (.slice (some ⟨gc, 0, none⟩) 6 cc) ∧ ∀ i, i < 6 → (w.alloc (.cells #[.slice (some ⟨ga, 0, none⟩) 4 ca, .int .i64 M.house, ov, sd] 38)).cell? ⟨gc, i, none⟩ = some (.int .i64 (Mk.accI M c i))) := fun c h => by
    obtain ⟨gc, cc, h1, h2⟩ := hc c h
    exact ⟨gc, cc, (HB.out.cell (p := ⟨ga, c, none⟩) (blk_lt h1)).trans h1, fun i hi => (HB.out.cell (p := ⟨gc, i, none⟩) (blk_lt (h2 i hi))).trans (h2 i hi)⟩
  have htot := totTo_bd (f := M.cf) (h := M.ch) (fun c hc => ⟨(hM.cf c hc).1, (hM.cf c hc).2, (hM.ch c hc).1, (hM.ch c hc).2⟩)
  have hhouse := hM.house
  clear hM hs hr hk hc
  go_enter Tryd.func16, Tryd.ntmps16
  go_upto_region 1 with fail
  generalize w.alloc (.cells #[.slice (some ⟨ga, 0, none⟩) 4 ca, .int .i64 M.house, ov, sd] 38) = W1 at *
  have x1 := HC.out 1 _ rfl
  go_wp2_with fail
  clear x1
  go_loopw [5, 6] (fun cs cv wr => ∃ c : Nat, c ≤ 4 ∧ cv = .int .i64 c ∧ cs = .int .i64 (M.house + totTo M.cf M.ch c) ∧ Below W1.heap.size W1 wr) (fun _ cv _ => 4 - (intOf cv).toNat)
  case atStart => exact ⟨0, Nat.zero_le _, rfl, by simp [totTo], Below.refl _ _⟩
  case round =>
    obtain ⟨c, hc, rfl, rfl, hb⟩ := hrel
    have Hb : Hid (Below W1.heap.size W1 wr) := hb
    have hco : ∀ {g i : Nat} {u : Value}, W1.cell? ⟨g, i, none⟩ = some u → wr.cell? ⟨g, i, none⟩ = some u := fun {g i u} h => (hb.cell (p := ⟨g, i, none⟩) (blk_lt h)).trans h
    have ht := htot c hc
    by_cases hlt : c < 4
    · have hlt' : (c : Int) < 4 := by omega
      obtain ⟨gc, cc, h1, h2⟩ := HA.out c hlt
      have y0 := hco (HC.out 0 _ rfl)
      have y1 := hco h1
      have y2 := hco (h2 0 (by omega))
      have y3 := hco (h2 1 (by omega))
      simp only [Mk.accI] at y2 y3
      have b0 := HM.out.cf c hlt
      have b1 := HM.out.ch c hlt
      have HE : Hid (M.house + totTo M.cf M.ch (c + 1) = M.house + totTo M.cf M.ch c + M.cf c + M.ch c) := (by simp only [totTo]; omega : M.house + totTo M.cf M.ch (c + 1) = M.house + totTo M.cf M.ch c + M.cf c + M.ch c)
      clear hco hb h1 h2
      go_wp2_with fail
      go_quiet (fail)
      have HB2 : Hid (Below W1.heap.size W1 (wr.drewN nq)) := Hb.out.trans ((below_drewN (Below.refl wr.heap.size wr) nq).mono Hb.out.size)
      go_wp2_with fail
      go_roundw
      case rel => exact ⟨c + 1, by omega, by go_num, by rw [HE.out], HB2.out⟩
      case measure => simp [intOf]; omega
    · obtain rfl : c = 4 := by omega
      have r0 := hco (HR.out.cell (i := 0) (by omega))
      have hk0 := HK.out.1
      rw [show M.house + totTo M.cf M.ch 4 = x 0 by omega]
      clear hco hb hk0
      go_wp2_with fail
      clear r0
      go_loopw [7] (fun vv wr => ∃ v : Nat, v ≤ 2 ∧ vv = .int .i64 v ∧ Below W1.heap.size W1 wr) (fun vv _ => 2 - (intOf vv).toNat)
      case atStart => exact ⟨0, Nat.zero_le _, rfl, Hb.out⟩
      case round =>
        obtain ⟨v, hv, rfl, hb⟩ := hrel
        have Hb2 : Hid (Below W1.heap.size W1 wr) := hb
        clear hb
        by_cases hlt : v < 2
        · have hlt' : (v : Int) < 2 := by omega
          have htv := totTo_bd (f := M.sf v) (h := M.sh v) (fun c hc => ⟨(HM.out.sf v c hlt hc).1, (HM.out.sf v c hlt hc).2, (HM.out.sh v c hlt hc).1, (HM.out.sh v c hlt hc).2⟩)
          go_wp2_with fail
          go_loopw [8, 9] (fun nv cv wr => ∃ c : Nat, c ≤ 4 ∧ cv = .int .i64 c ∧ nv = .int .i64 (totTo (M.sf v) (M.sh v) c) ∧ Below W1.heap.size W1 wr) (fun _ cv _ => 4 - (intOf cv).toNat)
          case atStart => exact ⟨0, Nat.zero_le _, rfl, by simp [totTo], Hb2.out⟩
          case round =>
            obtain ⟨c, hc, rfl, rfl, hb⟩ := hrel
            have Hb3 : Hid (Below W1.heap.size W1 wr) := hb
            have hco : ∀ {g i : Nat} {u : Value}, W1.cell? ⟨g, i, none⟩ = some u → wr.cell? ⟨g, i, none⟩ = some u := fun {g i u} h => (hb.cell (p := ⟨g, i, none⟩) (blk_lt h)).trans h
            have ht := htv c hc
            by_cases hlt2 : c < 4
            · have hlt2' : (c : Int) < 4 := by omega
              obtain ⟨gc, cc, h1, h2⟩ := HA.out c hlt2
              have y0 := hco (HC.out 0 _ rfl)
              have y1 := hco h1
              have y2 : wr.cell? ⟨gc, 2 + 2 * v, none⟩ = some (.int .i64 (M.sf v c)) := by
                have h := hco (h2 (2 + 2 * v) (by omega))
                have h5 : v = 0 ∨ v = 1 := by omega
                rcases h5 with rfl | rfl <;> exact h
              have y3 : wr.cell? ⟨gc, 3 + 2 * v, none⟩ = some (.int .i64 (M.sh v c)) := by
                have h := hco (h2 (3 + 2 * v) (by omega))
                have h5 : v = 0 ∨ v = 1 := by omega
                rcases h5 with rfl | rfl <;> exact h
              have b0 := HM.out.sf v c hlt hlt2
              have b1 := HM.out.sh v c hlt hlt2
              have i2 : (2 : Int) + 2 * (v : Int) < 6 := by omega
              have i3 : (3 : Int) + 2 * (v : Int) < 6 := by omega
              have HE : Hid (totTo (M.sf v) (M.sh v) (c + 1) = totTo (M.sf v) (M.sh v) c + M.sf v c + M.sh v c) := rfl
              clear hco hb h1 h2
              go_wp2_with fail
              go_quiet (fail)
              have HB2 : Hid (Below W1.heap.size W1 (wr.drewN nq)) := Hb3.out.trans ((below_drewN (Below.refl wr.heap.size wr) nq).mono Hb3.out.size)
              go_wp2_with fail
              go_roundw
              case rel => exact ⟨c + 1, by omega, by go_num, by rw [HE.out], HB2.out⟩
              case measure => simp [intOf]; omega
            · obtain rfl : c = 4 := by omega
              have r1 := hco (HR.out.cell (i := 1 + v) (by omega))
              have hkv := HK.out.2 v hlt
              rw [hkv]
              have i1 : (1 : Int) + (v : Int) < 3 := by omega
              clear hco hb
              go_wp2_with fail
              go_roundw
              case rel => exact ⟨v + 1, by omega, by go_num, Hb3.out⟩
              case measure => simp [intOf]; omega
        · obtain rfl : v = 2 := by omega
          have HF : Hid (Below w.heap.size w wr) := HB.out.trans (Hb2.out.mono HB.out.size)
          go_wp2_with fail
          go_ret
          exact ⟨rfl, HF.out⟩

end Go.Proofs.YtmebcdpdpcpnmabDoor
