import Derived.Test.YtmebcdpdpcpnmaaGreatDoorJ15
import Derived.Test.YtmebcdpdpcpnmaaGreatDoorJ27
namespace Go.Proofs.YtmebcdpdpcpnmaaGreatDoor
open Go.RowKit

/-- what the buyers get -/
def buyF (l : List Mk.Ord) (f : Nat → Int) (i : Nat) : Int := if (l.getD i Mk.ozero).sell = false then f i else 0
theorem buyF_bd {l : List Mk.Ord} {f : Nat → Int} (h : ∀ i, i < l.length → 0 ≤ f i ∧ f i ≤ 20) : ∀ k, k ≤ l.length → 0 ≤ Mk.sumn (buyF l f) k ∧ Mk.sumn (buyF l f) k ≤ 20 * k
  | 0, _ => by simp [Mk.sumn]
  | k + 1, hk => by
    have ih := buyF_bd h k (by omega)
    have h1 := h k (by omega)
    have e : Mk.sumn (buyF l f) (k + 1) = Mk.sumn (buyF l f) k + buyF l f k := rfl
    rw [e]
    unfold buyF at *
    split <;> omega

set_option maxRecDepth 100000 in
set_option maxHeartbeats 2000000 in
theorem bought_some (b off cap g gc : Nat) (l : List Mk.Ord) (f : Nat → Int) (w : World) (h12 : l.length ≤ 12) (hR : At w b off l) (hrow : w.rowIs g 3 l.length (fun i => .int .i64 (f i))) (hf : ∀ i, i < l.length → 0 ≤ f i ∧ f i ≤ 20) :
    Calls Tryz.prog 131 #[.slice (some ⟨b, off, none⟩) l.length cap, .slice (some ⟨g, 0, none⟩) l.length gc] w fun e w' => e = .returned (.int .i64 (Mk.sideSum l false f)) ∧ Below w.heap.size w w' := by
  have HR : Hid (At w b off l) := hR
  have HRow : Hid (w.rowIs g 3 l.length (fun i => .int .i64 (f i))) := hrow
  have HF : Hid (∀ i, i < l.length → 0 ≤ f i ∧ f i ≤ 20) := hf
  clear hR hrow hf
  go_enter Tryz.func131, Tryz.ntmps131
  go_wp2
  go_loopw [5, 10] (fun s j wr => ∃ k : Nat, k ≤ l.length ∧ j = .int .i64 k ∧ s = .int .i64 (Mk.sumn (buyF l f) k) ∧ Below w.heap.size w wr) (fun _ j _ => l.length - (intOf j).toNat)
  case atStart => exact ⟨0, Nat.zero_le _, rfl, rfl, Below.refl _ _⟩
  case round =>
    obtain ⟨k, hk, rfl, rfl, hb⟩ := hrel
    have Hb : Hid (Below w.heap.size w wr) := hb
    clear hb
    have sb := buyF_bd HF.out k hk
    by_cases hlt : k < l.length
    · obtain ⟨c0, c1, c2⟩ := At.below HR.out Hb.out k hlt
      have c3 : wr.cell? ⟨g, k, none⟩ = some (.int .i64 (f k)) := (Hb.out.cell (p := ⟨g, k, none⟩) HRow.out.lt).trans (HRow.out.cell hlt)
      have hfk := HF.out k hlt
      have hlt' : (k : Int) < (l.length : Int) := by omega
      have hbl := blk_lt c0
      have hgl := blk_lt c3
      have hE : Mk.sumn (buyF l f) (k + 1) = Mk.sumn (buyF l f) k + if l[k].sell = false then f k else 0 := by
        show Mk.sumn (buyF l f) k + buyF l f k = _
        unfold buyF
        rw [Mk.getD_at hlt]
      have HA : Hid (∀ ob, Below w.heap.size w (wr.alloc ob)) := fun ob => Hb.out.alloc Hb.out.size ob
      have HK : Hid (k < l.length) := hlt
      revert c0 c1 c2 hE
      generalize l[k] = o
      obtain ⟨s, pr, q⟩ := o
      intro c0 c1 c2 hE
      simp only at c0 c1 c2
      cases s
      · have HE : Hid (Mk.sumn (buyF l f) (k + 1) = Mk.sumn (buyF l f) k + f k) := (by rw [hE]; rfl : Mk.sumn (buyF l f) (k + 1) = Mk.sumn (buyF l f) k + f k)
        clear hE
        go_wp2
        go_roundw
        case rel => exact ⟨k + 1, by omega, by go_num, by rw [HE.out], HA.out _⟩
        case measure => simp [intOf]; omega
      · have HE : Hid (Mk.sumn (buyF l f) (k + 1) = Mk.sumn (buyF l f) k) := (by rw [hE]; simp : Mk.sumn (buyF l f) (k + 1) = Mk.sumn (buyF l f) k)
        clear hE
        go_wp2
        go_roundw
        case rel => exact ⟨k + 1, by omega, by go_num, by rw [HE.out], HA.out _⟩
        case measure => simp [intOf]; omega
    · obtain rfl : k = l.length := by omega
      go_wp2
      go_ret
      exact ⟨rfl, Hb.out⟩

set_option maxRecDepth 100000 in
set_option maxHeartbeats 2000000 in
theorem bought_nil (a : Option Addr) (cap g gc : Nat) (w : World) :
    Calls Tryz.prog 131 #[.slice a 0 cap, .slice (some ⟨g, 0, none⟩) 0 gc] w fun e w' => e = .returned (.int .i64 0) ∧ Below w.heap.size w w' := by
  go_enter Tryz.func131, Tryz.ntmps131
  go_wp2
  go_loop [5, 10] (fun s j => j = .int .i64 0 ∧ s = .int .i64 0) (fun _ j => 0)
  case atStart => exact ⟨rfl, rfl⟩
  case round =>
    obtain ⟨rfl, rfl⟩ := hrel
    go_wp2
    go_ret
    exact ⟨rfl, Below.refl _ _⟩

theorem bought_any (a : Option Addr) (cap g gc : Nat) (l : List Mk.Ord) (f : Nat → Int) (w : World) (h12 : l.length ≤ 12) (hR : Rd w a l) (hrow : w.rowIs g 3 l.length (fun i => .int .i64 (f i))) (hf : ∀ i, i < l.length → 0 ≤ f i ∧ f i ≤ 20) :
    Calls Tryz.prog 131 #[.slice a l.length cap, .slice (some ⟨g, 0, none⟩) l.length gc] w fun e w' => e = .returned (.int .i64 (Mk.sideSum l false f)) ∧ Below w.heap.size w w' := by
  rcases hR with rfl | ⟨b, off, rfl, hR⟩
  · exact bought_nil a cap g gc w
  · exact bought_some b off cap g gc l f w h12 hR hrow hf

/-- what a batch is cleared to, as a value -/
abbrev trV (ga : Option Addr) (n c : Nat) (V P G : Int) : Value := .agg #[.slice ga n c, .int .i64 V, .int .i64 P, .int .i64 G]

set_option maxRecDepth 100000 in
set_option maxHeartbeats 2000000 in
theorem tshow_any (ga : Option Addr) (n c : Nat) (V P G : Int) (w : World) (bV : 0 ≤ V ∧ V ≤ 9999) (bP : 0 ≤ P ∧ P ≤ 9999) (bG : 0 ≤ G ∧ G ≤ 9999) (hT : Tab w) :
    Calls Tryz.prog 125 #[trV ga n c V P G] w fun e w' => e = .returned (.string (Mk.shutT V P G)) ∧ Below w.heap.size w w' := by
  have HB1 : Hid (Below w.heap.size w (w.alloc (.cells #[.slice ga n c, .int .i64 V, .int .i64 P, .int .i64 G] 179))) := (Below.refl _ _).alloc (Nat.le_refl _) _
  have HT1 : Hid (Tab (w.alloc (.cells #[.slice ga n c, .int .i64 V, .int .i64 P, .int .i64 G] 179))) := hT.next HB1.out
  have x1 : (w.alloc (.cells #[.slice ga n c, .int .i64 V, .int .i64 P, .int .i64 G] 179)).cell? ⟨w.heap.size, 1, none⟩ = some (.int .i64 V) := by simp
  have x2 : (w.alloc (.cells #[.slice ga n c, .int .i64 V, .int .i64 P, .int .i64 G] 179)).cell? ⟨w.heap.size, 2, none⟩ = some (.int .i64 P) := by simp
  have x3 : (w.alloc (.cells #[.slice ga n c, .int .i64 V, .int .i64 P, .int .i64 G] 179)).cell? ⟨w.heap.size, 3, none⟩ = some (.int .i64 G) := by simp
  have hwl : w.heap.size < (w.alloc (.cells #[.slice ga n c, .int .i64 V, .int .i64 P, .int .i64 G] 179)).heap.size := by simp
  clear hT
  go_enter Tryz.func125, Tryz.ntmps125
  go_upto_region 1 with fail
  generalize w.alloc (.cells #[.slice ga n c, .int .i64 V, .int .i64 P, .int .i64 G] 179) = W1 at *
  by_cases hV0 : V = 0
  · have HX : Hid (Mk.shutT V P G = ⟨#[48]⟩) := (by unfold Mk.shutT; rw [if_pos hV0] : Mk.shutT V P G = ⟨#[48]⟩)
    have hV1 : (V == 0) = true := by simpa using hV0
    clear hV0
    go_wp2_with fail
    go_ret
    exact ⟨by rw [HX.out]; rfl, HB1.out⟩
  · have hV1 : (V == 0) = false := by simpa using hV0
    have HX : Hid (Mk.shutT V P G = Mk.digI V ++ ⟨#[64]⟩ ++ Mk.digI P ++ ⟨#[47]⟩ ++ Mk.digI G) := (by unfold Mk.shutT; rw [if_neg hV0] : Mk.shutT V P G = Mk.digI V ++ ⟨#[64]⟩ ++ Mk.digI P ++ ⟨#[47]⟩ ++ Mk.digI G)
    have t1 := Mk.digI_le bV.2
    have t2 := Mk.digI_le bP.2
    have t3 := Mk.digI_le bG.2
    clear hV0
    go_wp2_with fail
    refine (itoaI_any V bV _ HT1.out).mono ?_
    rintro e w3 ⟨rfl, hb3⟩
    have HB3 : Hid (Below w.heap.size w w3) := HB1.out.trans (hb3.mono HB1.out.size)
    have HT3 : Hid (Tab w3) := HT1.out.next hb3
    have y2 : w3.cell? ⟨w.heap.size, 2, none⟩ = some (.int .i64 P) := (hb3.cell (p := ⟨w.heap.size, 2, none⟩) hwl).trans x2
    have y3 : w3.cell? ⟨w.heap.size, 3, none⟩ = some (.int .i64 G) := (hb3.cell (p := ⟨w.heap.size, 3, none⟩) hwl).trans x3
    have hwl3 : w.heap.size < w3.heap.size := Nat.lt_of_lt_of_le hwl hb3.size
    clear hb3 x1 x2 x3
    go_wp2_with fail
    refine (itoaI_any P bP _ HT3.out).mono ?_
    rintro e w4 ⟨rfl, hb4⟩
    have HB4 : Hid (Below w.heap.size w w4) := HB3.out.trans (hb4.mono HB3.out.size)
    have HT4 : Hid (Tab w4) := HT3.out.next hb4
    have u3 : w4.cell? ⟨w.heap.size, 3, none⟩ = some (.int .i64 G) := (hb4.cell (p := ⟨w.heap.size, 3, none⟩) hwl3).trans y3
    clear hb4 y2 y3
    go_wp2_with fail
    refine (itoaI_any G bG _ HT4.out).mono ?_
    rintro e w5 ⟨rfl, hb5⟩
    have HB5 : Hid (Below w.heap.size w w5) := HB4.out.trans (hb5.mono HB4.out.size)
    clear hb5
    go_wp2_with fail
    go_ret
    exact ⟨by rw [HX.out]; rfl, HB5.out⟩

end Go.Proofs.YtmebcdpdpcpnmaaGreatDoor
