import Derived.Test.YtmebcdpdpcpnmabDoorKZK
namespace Go.Proofs.YtmebcdpdpcpnmabDoor
open Go.RowKit

def Mk.ndV (M : Mk.Mkt) (c : Nat) : Nat → Nat → Int
  | 0 => fun _ => 0
  | v + 1 => Mk.ndTo (M.bk v) c v (Mk.ndV M c v) (M.bk v).length
theorem ndV_bd {M : Mk.Mkt} (hM : M.Fine) (c : Nat) : ∀ v, v ≤ 2 → ∀ j, 0 ≤ Mk.ndV M c v j ∧ Mk.ndV M c v j ≤ 23760 * v
  | 0, _, j => by simp [Mk.ndV]
  | v + 1, h, j => by
    have ih := ndV_bd hM c v (by omega)
    have := nd_bd (l := M.bk v) (hM.ord v (by omega)) (c := c) (v := v) ih (M.bk v).length (Nat.le_refl _) j
    have hl := hM.len v (by omega)
    simp only [Mk.ndV]
    omega
theorem sid_byte {M : Mk.Mkt} (hM : M.Fine) {v : Nat} (hv : v < 2) {i : Nat} (hi : i < (M.bk v).length) : Mk.bt (Mk.sides (Mk.batT M v)) i = if (Mk.std (M.bk v) i).o.sell then 83 else 66 := by
  rw [Mk.sides_bat hM hv]
  exact sid_at _ _ i hi
theorem sid_size {M : Mk.Mkt} (hM : M.Fine) {v : Nat} (hv : v < 2) : (Mk.sides (Mk.batT M v)).size = (M.bk v).length := by
  rw [Mk.sides_bat hM hv, Mk.sidL_size]

set_option maxRecDepth 100000 in
set_option maxHeartbeats 4000000 in
theorem lneeds_any (b : Nat) (M : Mk.Mkt) (sv : Value) (c : Nat) (w : World) (hM : M.Fine) (hs : Seen b M sv w) :
    Calls Tryd.prog 17 #[sv, .int .i64 c] w fun e w' => ∃ g, e = .returned (.slice (some ⟨g, 0, none⟩) 3 3) ∧ w'.rowIs g 3 3 (fun j => .int .i64 (Mk.ndAll M c j)) ∧ w.heap.size ≤ g ∧ Below w.heap.size w w' := by
  obtain ⟨av, go, co, gs, cs, rfl, hc⟩ := seen_ord hM hs
  have HM : Hid M.Fine := hM
  have HB : Hid (Below w.heap.size w (w.alloc (.cells #[av, .int .i64 M.house, .slice (some ⟨go, 0, none⟩) 2 co, .slice (some ⟨gs, 0, none⟩) 2 cs] 38))) := (Below.refl _ _).alloc (Nat.le_refl _) _
  have HC : Hid (∀ i u, (#[av, .int .i64 M.house, .slice (some ⟨go, 0, none⟩) 2 co, .slice (some ⟨gs, 0, none⟩) 2 cs] : Array Value)[i]? = some u → (w.alloc (.cells #[av, .int .i64 M.house, .slice (some ⟨go, 0, none⟩) 2 co, .slice (some ⟨gs, 0, none⟩) 2 cs] 38)).cell? ⟨w.heap.size, i, none⟩ = some u) := fun i u h => by simpa using h
  have HA := (show Hid (∀ v, v < 2 → ∃ oa oc, w.cell? ⟨go, v, none⟩ = some (.slice oa (4 * (M.bk v).length) oc) ∧ 4 * (M.bk v).length ≤ oc ∧ w.cell? ⟨gs, v, none⟩ = some (.string (Mk.sides (Mk.batT M v))) ∧ ∀ i, i < (M.bk v).length → ∃ g, oa = some ⟨g, 0, none⟩ ∧ w.cell? ⟨g, 4 * i + 1, none⟩ = some (.int .i64 (Mk.std (M.bk v) i).who) ∧ w.cell? ⟨g, 4 * i + 2, none⟩ = some (.int .i64 (Mk.std (M.bk v) i).o.price) ∧ w.cell? ⟨g, 4 * i + 3, none⟩ = some (.int .i64 (Mk.std (M.bk v) i).o.qty)) from hc)
  clear hM hs hc
  go_enter Tryd.func17, Tryd.ntmps17
  go_upto_region 1 with fail
  generalize w.alloc (.cells #[av, .int .i64 M.house, .slice (some ⟨go, 0, none⟩) 2 co, .slice (some ⟨gs, 0, none⟩) 2 cs] 38) = W1 at *
  have hmk := mk_ints3 (w := W1)
  have HI : Hid ((W1.alloc (.cells #[.int .i64 0, .int .i64 0, .int .i64 0] 3)).rowIs W1.heap.size 3 3 (fun j => .int .i64 ((fun _ => (0 : Int)) j))) := World.rowIs_alloc W1 #[.int .i64 0, .int .i64 0, .int .i64 0] 3 _ (fun i hi => by
    match i, hi with
    | 0, _ => rfl
    | 1, _ => rfl
    | 2, _ => rfl)
  have HB2 : Hid (Below W1.heap.size W1 (W1.alloc (.cells #[.int .i64 0, .int .i64 0, .int .i64 0] 3))) := (Below.refl _ _).alloc (Nat.le_refl _) _
  have hW1 : w.heap.size < W1.heap.size := blk_lt (HC.out 1 _ rfl)
  go_wp2_with fail
  clear hmk
  generalize W1.alloc (.cells #[.int .i64 0, .int .i64 0, .int .i64 0] 3) = W2 at *
  generalize hg : W1.heap.size = g at *
  clear hg
  have HW : Hid (∀ {k i : Nat} {u : Value}, w.cell? ⟨k, i, none⟩ = some u → W2.cell? ⟨k, i, none⟩ = some u ∧ k ≠ g) := (fun {k i u} h => by
    have hk := blk_lt h
    have h1 := (HB.out.cell (p := ⟨k, i, none⟩) hk).trans h
    exact ⟨(HB2.out.cell (p := ⟨k, i, none⟩) (by show k < g; omega)).trans h1, by omega⟩ : ∀ {k i : Nat} {u : Value}, w.cell? ⟨k, i, none⟩ = some u → W2.cell? ⟨k, i, none⟩ = some u ∧ k ≠ g)
  have HW0 : Hid (∀ i u, (#[av, .int .i64 M.house, .slice (some ⟨go, 0, none⟩) 2 co, .slice (some ⟨gs, 0, none⟩) 2 cs] : Array Value)[i]? = some u → W2.cell? ⟨w.heap.size, i, none⟩ = some u) := fun i u h => (HB2.out.cell (p := ⟨w.heap.size, i, none⟩) hW1).trans (HC.out i u h)
  go_loopw [6] (fun vv wr => ∃ v : Nat, v ≤ 2 ∧ vv = .int .i64 v ∧ wr.rowIs g 3 3 (fun j => .int .i64 (Mk.ndV M c v j)) ∧ Only (fun k => k = g) W2 wr) (fun vv _ => 2 - (intOf vv).toNat)
  case atStart => exact ⟨0, Nat.zero_le _, rfl, HI.out, Only.refl _ _⟩
  case round =>
    obtain ⟨v, hv, rfl, hIr, hOr⟩ := hrel
    have HIr : Hid (wr.rowIs g 3 3 (fun j => .int .i64 (Mk.ndV M c v j))) := hIr
    have HOr : Hid (Only (fun k => k = g) W2 wr) := hOr
    clear hIr hOr
    by_cases hlt : v < 2
    · have hlt' : (v : Int) < 2 := by omega
      have HV : Hid (Mk.ndV M c (v + 1) = Mk.ndTo (M.bk v) c v (Mk.ndV M c v) (M.bk v).length) := rfl
      have hvb := ndV_bd HM.out c v hv
      have hlen := HM.out.len v hlt
      obtain ⟨oa, oc, ho1, ho2, ho3, ho4⟩ := HA.out v hlt
      have HS4 := (show Hid (∀ i, i < (M.bk v).length → ∃ g, oa = some ⟨g, 0, none⟩ ∧ w.cell? ⟨g, 4 * i + 1, none⟩ = some (.int .i64 (Mk.std (M.bk v) i).who) ∧ w.cell? ⟨g, 4 * i + 2, none⟩ = some (.int .i64 (Mk.std (M.bk v) i).o.price) ∧ w.cell? ⟨g, 4 * i + 3, none⟩ = some (.int .i64 (Mk.std (M.bk v) i).o.qty)) from ho4)
      have HO1 : Hid (w.cell? ⟨go, v, none⟩ = some (.slice oa (4 * (M.bk v).length) oc)) := ho1
      have HO3 : Hid (w.cell? ⟨gs, v, none⟩ = some (.string (Mk.sides (Mk.batT M v)))) := ho3
      have hsz := sid_size HM.out hlt
      clear ho1 ho3 ho4
      go_wp2_with fail
      go_loopw [7] (fun iv wr => ∃ i : Nat, i ≤ (M.bk v).length ∧ iv = .int .i64 i ∧ wr.rowIs g 3 3 (fun j => .int .i64 (Mk.ndTo (M.bk v) c v (Mk.ndV M c v) i j)) ∧ Only (fun k => k = g) W2 wr) (fun iv _ => (M.bk v).length - (intOf iv).toNat)
      case atStart => exact ⟨0, Nat.zero_le _, rfl, HIr.out, HOr.out⟩
      case round =>
        obtain ⟨i, hi, rfl, hIi, hOi⟩ := hrel
        have HIi : Hid (wr.rowIs g 3 3 (fun j => .int .i64 (Mk.ndTo (M.bk v) c v (Mk.ndV M c v) i j))) := hIi
        have HOi : Hid (Only (fun k => k = g) W2 wr) := hOi
        have hco : ∀ {k j : Nat} {u : Value}, w.cell? ⟨k, j, none⟩ = some u → wr.cell? ⟨k, j, none⟩ = some u := fun {k j u} h => (hOi.cell (blk_lt (HW.out h).1) (HW.out h).2).trans (HW.out h).1
        have t2 : wr.cell? ⟨w.heap.size, 2, none⟩ = some (.slice (some ⟨go, 0, none⟩) 2 co) := (hOi.cell (blk_lt (HW0.out 2 _ rfl)) (by omega)).trans (HW0.out 2 _ rfl)
        have t3 : wr.cell? ⟨w.heap.size, 3, none⟩ = some (.slice (some ⟨gs, 0, none⟩) 2 cs) := (hOi.cell (blk_lt (HW0.out 3 _ rfl)) (by omega)).trans (HW0.out 3 _ rfl)
        have s3 := hco HO3.out
        have s1 := hco HO1.out
        clear hIi hOi
        by_cases hlti : i < (M.bk v).length
        · have hlti' : (i : Int) < ((Mk.sides (Mk.batT M v)).size : Int) := by omega
          obtain ⟨go2, rfl, p1, p2, p3⟩ := HS4.out i hlti
          have q1 := hco p1
          have q2 := hco p2
          have q3 := hco p3
          have hb := Mk.std_bds HM.out hlt hlti
          have hnb := nd_bd (l := M.bk v) (HM.out.ord v hlt) (c := c) (v := v) hvb i hi
          have HE : Hid (Mk.ndTo (M.bk v) c v (Mk.ndV M c v) (i + 1) = Mk.ndStep c v (Mk.std (M.bk v) i) (Mk.ndTo (M.bk v) c v (Mk.ndV M c v) i)) := rfl
          have hby : (Mk.sides (Mk.batT M v))[i].toNat = if (Mk.std (M.bk v) i).o.sell then 83 else 66 := (Mk.bt_at (by omega)).trans (sid_byte HM.out hlt hlti)
          have HU0 : Hid (∀ W, Only (fun k => k = g) W2 W → W.cell? ⟨go2, 4 * i + 1, none⟩ = some (.int .i64 (Mk.std (M.bk v) i).who) ∧ W.cell? ⟨w.heap.size, 3, none⟩ = some (.slice (some ⟨gs, 0, none⟩) 2 cs) ∧ W.cell? ⟨gs, v, none⟩ = some (.string (Mk.sides (Mk.batT M v)))) := (fun W hOW => ⟨(hOW.cell (blk_lt (HW.out p1).1) (HW.out p1).2).trans (HW.out p1).1, (hOW.cell (blk_lt (HW0.out 3 _ rfl)) (by omega)).trans (HW0.out 3 _ rfl), (hOW.cell (blk_lt (HW.out HO3.out).1) (HW.out HO3.out).2).trans (HW.out HO3.out).1⟩ : ∀ W, Only (fun k => k = g) W2 W → W.cell? ⟨go2, 4 * i + 1, none⟩ = some (.int .i64 (Mk.std (M.bk v) i).who) ∧ W.cell? ⟨w.heap.size, 3, none⟩ = some (.slice (some ⟨gs, 0, none⟩) 2 cs) ∧ W.cell? ⟨gs, v, none⟩ = some (.string (Mk.sides (Mk.batT M v))))
          clear hco p1 p2 p3
          generalize Mk.std (M.bk v) i = x at *
          generalize Mk.ndTo (M.bk v) c v (Mk.ndV M c v) i = y at *
          have b0 := hnb 0
          have b1 := hnb (1 + v)
          have hm := mul_bd3 (a := x.o.price) (b := x.o.qty) (A := 99) (B := 20) ⟨by omega, by omega⟩ ⟨by omega, by omega⟩
          have i4 : (4 : Int) * (i : Int) + 4 ≤ (oc : Int) := by omega
          have i5 : (4 : Int) * (i : Int) ≤ 4 * (i : Int) + 4 := by omega
          have r0 := HIi.out.cell (i := 0) (by omega)
          have r1 := HIi.out.cell (i := 1 + v) (by omega)
          have z0 := HIi.out.frozen 0
          have z1 := HIi.out.frozen (1 + v)
          by_cases hw : x.who = (c : Int)
          · have hw' : (x.who == (c : Int)) = true := by simpa using hw
            cases hsl : x.o.sell
            · rw [hsl] at hby
              have hby' : (((Mk.sides (Mk.batT M v))[i].toNat : Int) == 83) = false := by rw [hby]; rfl
              have hby2 : (((Mk.sides (Mk.batT M v))[i].toNat : Int) == 66) = true := by rw [hby]; rfl
              have hwg : IntKind.i64.wrap (x.o.price * x.o.qty) = x.o.price * x.o.qty := IntWalk.i64_in _ (by omega)
              clear hby
              have HN : Hid (Mk.ndStep c v x y = upd y (0) (y 0 + x.o.price * x.o.qty)) := (by unfold Mk.ndStep; rw [if_pos hw, hsl]; rfl : Mk.ndStep c v x y = upd y (0) (y 0 + x.o.price * x.o.qty))
              have HIn : Hid ((wr.setCell ⟨g, 0, none⟩ (.int .i64 (y 0 + x.o.price * x.o.qty))).drew.rowIs g 3 3 (fun j => .int .i64 (upd y (0) (y 0 + x.o.price * x.o.qty) j))) := (World.rowIs.drew (HIi.out.set (0) _)).congr (fun k hk => by unfold upd; split <;> rfl)
              have HOn : Hid (Only (fun k => k = g) W2 (wr.setCell ⟨g, 0, none⟩ (.int .i64 (y 0 + x.o.price * x.o.qty))).drew) := (Only.set (S := fun k => k = g) HOi.out (k := g) rfl _).next (Below.refl _ _).drew
              clear hw hsl
              go_wp2_with fail
              go_region
              generalize (wr.setCell ⟨g, 0, none⟩ (.int .i64 (y 0 + x.o.price * x.o.qty))).drew = W9 at *
              go_wp2_with fail
              go_roundw
              case rel => exact ⟨i + 1, by omega, by go_num, by rw [HE.out, HN.out]; exact HIn.out, HOn.out⟩
              case measure => simp [intOf]; omega
            · rw [hsl] at hby
              have hby' : (((Mk.sides (Mk.batT M v))[i].toNat : Int) == 83) = true := by rw [hby]; rfl
              have hby2 : (((Mk.sides (Mk.batT M v))[i].toNat : Int) == 66) = false := by rw [hby]; rfl
              have i6 : (1 : Int) + (v : Int) < 3 := by omega
              clear hby
              have HN : Hid (Mk.ndStep c v x y = upd y (1 + v) (y (1 + v) + x.o.qty)) := (by unfold Mk.ndStep; rw [if_pos hw, hsl]; rfl : Mk.ndStep c v x y = upd y (1 + v) (y (1 + v) + x.o.qty))
              have HIn : Hid ((wr.setCell ⟨g, 1 + v, none⟩ (.int .i64 (y (1 + v) + x.o.qty))).drew.rowIs g 3 3 (fun j => .int .i64 (upd y (1 + v) (y (1 + v) + x.o.qty) j))) := (World.rowIs.drew (HIi.out.set (1 + v) _)).congr (fun k hk => by unfold upd; split <;> rfl)
              have HOn : Hid (Only (fun k => k = g) W2 (wr.setCell ⟨g, 1 + v, none⟩ (.int .i64 (y (1 + v) + x.o.qty))).drew) := (Only.set (S := fun k => k = g) HOi.out (k := g) rfl _).next (Below.refl _ _).drew
              have HU : Hid (∀ W, Only (fun k => k = g) W2 W → W.cell? ⟨go2, 4 * i + 1, none⟩ = some (.int .i64 x.who) ∧ W.cell? ⟨w.heap.size, 3, none⟩ = some (.slice (some ⟨gs, 0, none⟩) 2 cs) ∧ W.cell? ⟨gs, v, none⟩ = some (.string (Mk.sides (Mk.batT M v)))) := HU0.out
              clear hw hsl
              go_wp2_with fail
              go_region
              generalize (wr.setCell ⟨g, 1 + v, none⟩ (.int .i64 (y (1 + v) + x.o.qty))).drew = W9 at *
              have u1 := HU.out W9 HOn.out
              have u2 := u1.1
              have u3 := u1.2.1
              have u4 := u1.2.2
              clear u1 q1 q2 q3 t2 t3 s1 s3 r0 r1 z0 z1
              go_wp2_with fail
              go_roundw
              case rel => exact ⟨i + 1, by omega, by go_num, by rw [HE.out, HN.out]; exact HIn.out, HOn.out⟩
              case measure => simp [intOf]; omega
          · have hw' : (x.who == (c : Int)) = false := by simpa using hw
            have HN : Hid (Mk.ndStep c v x y = y) := (by unfold Mk.ndStep; rw [if_neg hw] : Mk.ndStep c v x y = y)
            clear hw
            go_wp2_with fail
            go_roundw
            case rel => exact ⟨i + 1, by omega, by go_num, by rw [HE.out, HN.out]; exact HIi.out, HOi.out⟩
            case measure => simp [intOf]; omega
        · obtain rfl : i = (M.bk v).length := by omega
          have hlti' : ¬ ((M.bk v).length : Int) < ((Mk.sides (Mk.batT M v)).size : Int) := by omega
          clear hco
          go_wp2_with fail
          go_roundw
          case rel => exact ⟨v + 1, by omega, by go_num, HIi.out, HOi.out⟩
          case measure => simp [intOf]; omega
    · obtain rfl : v = 2 := by omega
      have HF : Hid (Below w.heap.size w wr) := (by
        have h2 := HB.out.trans (HB2.out.mono (by omega : w.heap.size ≤ g))
        exact h2.trans ⟨HOr.out.os, HOr.out.tape, HOr.out.output, HOr.out.size, fun k hk => HOr.out.block k (Nat.lt_of_lt_of_le hk h2.size) (fun e => by omega)⟩ : Below w.heap.size w wr)
      go_wp2_with fail
      go_ret
      exact ⟨g, rfl, HIr.out, by omega, HF.out⟩

end Go.Proofs.YtmebcdpdpcpnmabDoor
