import Derived.Test.YtmebcdpdpcpnmabDoorKZ7
namespace Go.Proofs.YtmebcdpdpcpnmabDoor
open Go.RowKit

/-- three markets of the call's own, apart -/
structure Own3 (w : World) (px py pz : Nat) (Mx My Mz : Mk.Mkt) (kx ky kz : Nat) (wr : World) : Prop where
  lies : ∃ vx vy vz, (PM wr px vx Mx ∧ PM wr py vy My ∧ PM wr pz vz Mz) ∧ (∀ q, PHas px vx q → w.heap.size ≤ q ∧ ¬ PHas py vy q ∧ ¬ PHas pz vz q) ∧ (∀ q, PHas py vy q → w.heap.size ≤ q ∧ ¬ PHas pz vz q) ∧ ∀ q, PHas pz vz q → w.heap.size ≤ q
  ix : AInv Mx kx
  iy : AInv My ky
  iz : AInv Mz kz
  bel : Below w.heap.size w wr
section
variable {w w1 w2 : World} {px py pz : Nat} {Mx My Mz : Mk.Mkt} {kx ky kz : Nat} {e : Ending} {d : Mk.Dd}
theorem Own3.next (h : Own3 w px py pz Mx My Mz kx ky kz w1) (hb : Below w1.heap.size w1 w2) : Own3 w px py pz Mx My Mz kx ky kz w2 := by
  obtain ⟨vx, vy, vz, ⟨hx, hy, hz⟩, hn⟩ := h.lies
  exact ⟨⟨vx, vy, vz, ⟨hx.below hb, hy.below hb, hz.below hb⟩, hn⟩, h.ix, h.iy, h.iz, h.bel.trans (hb.mono h.bel.size)⟩
/-- a deed in the first -/
theorem Own3.didx {LG : Mk.Mkt → ByteArray} (hS : PSide LG) (h : Own3 w px py pz Mx My Mz kx ky kz w1) (hk : kx ≤ 1048576) (hd : d.Ok) (hT : Tab w) :
    Calls Tryd.prog 13 #[.pointer (some ⟨px, 0, none⟩), .agg #[.int .i64 (d.w : Int), .int .i64 (d.who : Int), .int .i64 (d.v : Int), .int .i64 (d.a : Int), .int .i64 (d.b : Int)]] w1 fun e w2 => (∃ v, e = .returned v) ∧ Own3 w px py pz (Mk.didM Mx d).2.2 My Mz (kx + 1) ky kz w2 := by
  obtain ⟨vx, vy, vz, ⟨hx, hy, hz⟩, n1, n2, n3⟩ := h.lies
  refine (did_any hS px vx Mx kx d hd w1 h.ix hk hx (hT.next h.bel)).mono fun e w2 hD => ?_
  obtain ⟨he, vx', hP, hO, hN⟩ := hD
  refine ⟨⟨_, he⟩, ⟨vx', vy, vz, ⟨hP, hy.blocks (fun q hq => hO.block q (hy.lt hq) (fun hq' => (n1 q hq').2.1 hq)), hz.blocks (fun q hq => hO.block q (hz.lt hq) (fun hq' => (n1 q hq').2.2 hq))⟩, fun q hq => (hN q hq).elim (n1 q) (fun h2 => ⟨Nat.le_trans h.bel.size h2, fun hq' => by have := hy.lt hq'; omega, fun hq' => by have := hz.lt hq'; omega⟩), n2, n3⟩,
    did_inv h.ix d, h.iy, h.iz, below_only h.bel hO (fun q hq => (n1 q hq).1) h.bel.size⟩
/-- .. in the second -/
theorem Own3.didy {LG : Mk.Mkt → ByteArray} (hS : PSide LG) (h : Own3 w px py pz Mx My Mz kx ky kz w1) (hk : ky ≤ 1048576) (hd : d.Ok) (hT : Tab w) :
    Calls Tryd.prog 13 #[.pointer (some ⟨py, 0, none⟩), .agg #[.int .i64 (d.w : Int), .int .i64 (d.who : Int), .int .i64 (d.v : Int), .int .i64 (d.a : Int), .int .i64 (d.b : Int)]] w1 fun e w2 => (∃ v, e = .returned v) ∧ Own3 w px py pz Mx (Mk.didM My d).2.2 Mz kx (ky + 1) kz w2 := by
  obtain ⟨vx, vy, vz, ⟨hx, hy, hz⟩, n1, n2, n3⟩ := h.lies
  refine (did_any hS py vy My ky d hd w1 h.iy hk hy (hT.next h.bel)).mono fun e w2 hD => ?_
  obtain ⟨he, vy', hP, hO, hN⟩ := hD
  refine ⟨⟨_, he⟩, ⟨vx, vy', vz, ⟨hx.blocks (fun q hq => hO.block q (hx.lt hq) (fun hq' => (n1 q hq).2.1 hq')), hP, hz.blocks (fun q hq => hO.block q (hz.lt hq) (fun hq' => (n2 q hq').2 hq))⟩, fun q hq => ⟨(n1 q hq).1, fun hq' => (hN q hq').elim (n1 q hq).2.1 (fun h2 => by have := hx.lt hq; omega), (n1 q hq).2.2⟩,
    fun q hq => (hN q hq).elim (n2 q) (fun h2 => ⟨Nat.le_trans h.bel.size h2, fun hq' => by have := hz.lt hq'; omega⟩), n3⟩, h.ix, did_inv h.iy d, h.iz, below_only h.bel hO (fun q hq => (n2 q hq).1) h.bel.size⟩
/-- .. in the third -/
theorem Own3.didz {LG : Mk.Mkt → ByteArray} (hS : PSide LG) (h : Own3 w px py pz Mx My Mz kx ky kz w1) (hk : kz ≤ 1048576) (hd : d.Ok) (hT : Tab w) :
    Calls Tryd.prog 13 #[.pointer (some ⟨pz, 0, none⟩), .agg #[.int .i64 (d.w : Int), .int .i64 (d.who : Int), .int .i64 (d.v : Int), .int .i64 (d.a : Int), .int .i64 (d.b : Int)]] w1 fun e w2 => (∃ v, e = .returned v) ∧ Own3 w px py pz Mx My (Mk.didM Mz d).2.2 kx ky (kz + 1) w2 := by
  obtain ⟨vx, vy, vz, ⟨hx, hy, hz⟩, n1, n2, n3⟩ := h.lies
  refine (did_any hS pz vz Mz kz d hd w1 h.iz hk hz (hT.next h.bel)).mono fun e w2 hD => ?_
  obtain ⟨he, vz', hP, hO, hN⟩ := hD
  refine ⟨⟨_, he⟩, ⟨vx, vy, vz', ⟨hx.blocks (fun q hq => hO.block q (hx.lt hq) (fun hq' => (n1 q hq).2.2 hq')), hy.blocks (fun q hq => hO.block q (hy.lt hq) (fun hq' => (n2 q hq).2 hq')), hP⟩, fun q hq => ⟨(n1 q hq).1, (n1 q hq).2.1, fun hq' => (hN q hq').elim (n1 q hq).2.2 (fun h2 => by have := hx.lt hq; omega)⟩,
    fun q hq => ⟨(n2 q hq).1, fun hq' => (hN q hq').elim (n2 q hq).2 (fun h2 => by have := hy.lt hq; omega)⟩, fun q hq => (hN q hq).elim (n3 q) (fun h2 => Nat.le_trans h.bel.size h2)⟩, h.ix, h.iy, did_inv h.iz d, below_only h.bel hO n3 h.bel.size⟩
end

/-- the market after k deeds -/
def Mk.runTo (D : Nat → Mk.Dd) : Nat → Mk.Mkt
  | 0 => Mk.Mkt.new
  | k + 1 => (Mk.didM (Mk.runTo D k) (D k)).2.2
def Mk.lsTo (M : Mk.Mkt) : Nat → Int
  | 0 => 0
  | c + 1 => Mk.lsTo M c + M.ls c
theorem did_mono {M : Mk.Mkt} {k : Nat} (hI : AInv M k) {d : Mk.Dd} (hd : d.Ok) (c : Nat) : M.ls c ≤ (Mk.didM M d).2.2.ls c := by
  unfold Mk.didM
  split
  · rename_i hl
    have hls := hI.well.ls d.who hd.who
    have hr : 1 ≤ (M.ls d.who).toNat + 1 ∧ (M.ls d.who).toNat + 1 ≤ 99 := by omega
    have hc := Mk.read_cmd hd hr
    have e := doM_next (M := M) (s := Mk.cmdN M d) hc (by show (((M.ls d.who).toNat + 1 : Nat) : Int) = M.ls d.who + 1; omega)
    rw [e]
    show M.ls c ≤ upd (Mk.allM M (d.read ((M.ls d.who).toNat + 1))).2.2.ls d.who (((M.ls d.who).toNat + 1 : Nat) : Int) c
    rw [(all_ls hI.sound hI.one (Mk.read_ok hc).1).1]
    by_cases ec : c = d.who
    · subst ec; rw [upd_self]; omega
    · rw [upd_ne _ _ ec]; exact Int.le_refl _
  · exact Int.le_refl _
theorem run_inv (D : Nat → Mk.Dd) : ∀ k, AInv (Mk.runTo D k) k
  | 0 => all_new
  | k + 1 => did_inv (run_inv D k) (D k)
theorem run_ls {D : Nat → Mk.Dd} : ∀ {k : Nat}, (∀ i, i < k → (D i).Ok) → 1 ≤ k → 1 ≤ (Mk.runTo D k).ls (D 0).who
  | 0, _, h => by omega
  | k + 1, hD, _ => by
    by_cases hk : 1 ≤ k
    · exact Int.le_trans (run_ls (fun i hi => hD i (by omega)) hk) (did_mono (run_inv D k) (hD k (by omega)) _)
    · obtain rfl : k = 0 := by omega
      have h := (did_last (M := Mk.Mkt.new) all_new (hD 0 (by omega)) (by rfl)).1
      show 1 ≤ (Mk.didM Mk.Mkt.new (D 0)).2.2.ls (D 0).who
      rw [h]
      exact Int.le_refl _
theorem lsTo_bd {M : Mk.Mkt} {k : Nat} (hI : AInv M k) : ∀ c, c ≤ 4 → 0 ≤ Mk.lsTo M c ∧ Mk.lsTo M c ≤ 99 * c
  | 0, _ => by simp [Mk.lsTo]
  | c + 1, hc => by
    have := lsTo_bd hI c (by omega)
    have := hI.well.ls c (by omega)
    simp only [Mk.lsTo]
    omega
theorem lsTo_ge {M : Mk.Mkt} {k : Nat} (hI : AInv M k) (j : Nat) : ∀ c, c ≤ 4 → j < c → M.ls j ≤ Mk.lsTo M c
  | 0, _, h => by omega
  | c + 1, hc, h => by
    have h0 := lsTo_bd hI c (by omega)
    have h1 := hI.well.ls c (by omega)
    simp only [Mk.lsTo]
    by_cases e : j = c
    · subst e; omega
    · have := lsTo_ge hI j c (by omega) (by omega)
      omega
/-- plain deeds of a list -/
theorem plain_all (l : List (Nat → Int)) (hf : ∀ d ∈ l, Fits64 d) : ∃ D : Nat → Mk.Dd, ∀ i (h : i < l.length), (D i).Ok ∧ ∀ w, Calls Tryd.prog 12 #[rawV l[i]] w fun e w' => e = .returned (ddV (D i)) ∧ Below w.heap.size w w' := by
  have each : ∀ i, ∃ d : Mk.Dd, ∀ (h : i < l.length), d.Ok ∧ ∀ w, Calls Tryd.prog 12 #[rawV l[i]] w fun e w' => e = .returned (ddV d) ∧ Below w.heap.size w w' := fun i => by
    by_cases h : i < l.length
    · obtain ⟨d, hd, hp⟩ := plain_fix l[i] (hf _ (List.getElem_mem _))
      exact ⟨d, fun _ => ⟨hd, hp⟩⟩
    · exact ⟨⟨0, 0, 0, 0, 0⟩, fun h' => absurd h' h⟩
  exact ⟨fun i => Classical.choose (each i), fun i => Classical.choose_spec (each i)⟩

set_option maxRecDepth 100000 in
set_option maxHeartbeats 4000000 in
theorem twins_law {LG : Mk.Mkt → ByteArray} (hS : PSide LG) (a a2 : Option Addr) (cap cap2 : Nat) (l l2 : List (Nat → Int)) (w : World) (hf : ∀ d ∈ l, Fits64 d) (hf2 : ∀ d ∈ l2, Fits64 d) (hR : RdD w a l) (hR2 : RdD w a2 l2) (hT : Tab w) :
    Calls Tryd.prog 7 #[.slice a l.length cap, .slice a2 l2.length cap2] w fun e w' => e = .returned (.bool true) ∧ Below w.heap.size w w' := by
  have HS : Hid (PSide LG) := hS
  have HR : Hid (RdD w a l) := hR
  have HR2 : Hid (RdD w a2 l2) := hR2
  have HT : Hid (Tab w) := hT
  obtain ⟨D, hD⟩ := plain_all l hf
  obtain ⟨E, hE⟩ := plain_all l2 hf2
  have HD := (show Hid (∀ i (h : i < l.length), (D i).Ok ∧ ∀ w, Calls Tryd.prog 12 #[rawV l[i]] w fun e w' => e = .returned (ddV (D i)) ∧ Below w.heap.size w w') from hD)
  have HE := (show Hid (∀ i (h : i < l2.length), (E i).Ok ∧ ∀ w, Calls Tryd.prog 12 #[rawV l2[i]] w fun e w' => e = .returned (ddV (E i)) ∧ Below w.heap.size w w') from hE)
  clear hS hR hR2 hT hf hf2 hD hE
  go_enter Tryd.func7, Tryd.ntmps7
  go_wp2_with fail
  refine (some_any a l.length cap w).mono ?_
  rintro e w1' ⟨rfl, hw1⟩
  obtain rfl := hw1.symm
  go_wp2_with fail
  refine (some_any a2 l2.length cap2 w).mono ?_
  rintro e w1' ⟨rfl, hw1⟩
  obtain rfl := hw1.symm
  by_cases hs : l.length ≤ 1048576
  · have hd : decide (l.length ≤ 1048576) = true := by simpa using hs
    rw [hd]
    clear hd
    by_cases hs2 : l2.length ≤ 1048576
    · have hd : decide (l2.length ≤ 1048576) = true := by simpa using hs2
      rw [hd]
      clear hd
      go_wp2_with fail
      refine (pnew_any _).mono ?_
      rintro e w2 ⟨rfl, hP2, hb2⟩
      have HP2 : Hid (PM w2 w.heap.size nilV Mk.Mkt.new) := hP2
      have HB2 : Hid (Below w.heap.size w w2) := hb2
      have hp2 : w.heap.size < w2.heap.size := hP2.lt (.inl rfl)
      clear hP2 hb2
      go_wp2_with fail
      refine (pnew_any _).mono ?_
      rintro e w3 ⟨rfl, hP3, hb3⟩
      have HP3 : Hid (PM w3 w2.heap.size nilV Mk.Mkt.new) := hP3
      have HB3 : Hid (Below w2.heap.size w2 w3) := hb3
      have hp3 : w2.heap.size < w3.heap.size := hP3.lt (.inl rfl)
      clear hP3 hb3
      go_wp2_with fail
      refine (pnew_any _).mono ?_
      rintro e w4 ⟨rfl, hP4, hb4⟩
      have HO4 : Hid (Own3 w w.heap.size w2.heap.size w3.heap.size Mk.Mkt.new Mk.Mkt.new Mk.Mkt.new 0 0 0 w4) := (by
        have hnil : ∀ p q, PHas p nilV q → q = p := fun p q h => by
          rcases h with h | ⟨v, _, h⟩
          · exact h
          · cases h
        have hb : Below w2.heap.size w2 w4 := HB3.out.trans (hb4.mono HB3.out.size)
        refine ⟨⟨nilV, nilV, nilV, ⟨HP2.out.below hb, HP3.out.below hb4, hP4⟩, fun q hq => ?_, fun q hq => ?_, fun q hq => ?_⟩, all_new, all_new, all_new, HB2.out.trans (hb.mono HB2.out.size)⟩
        · rw [hnil _ q hq]; exact ⟨Nat.le_refl _, fun h => by have := hnil _ _ h; omega, fun h => by have := hnil _ _ h; omega⟩
        · rw [hnil _ q hq]; exact ⟨by omega, fun h => by have := hnil _ _ h; omega⟩
        · rw [hnil _ q hq]; omega : Own3 w w.heap.size w2.heap.size w3.heap.size Mk.Mkt.new Mk.Mkt.new Mk.Mkt.new 0 0 0 w4)
      generalize w3.heap.size = pz at *
      generalize w2.heap.size = py at *
      clear hP4 hb4 HP2 HP3 HB2 HB3 hp2 hp3
      go_wp2_with fail
      go_loopw [10] (fun j wr => ∃ k : Nat, k ≤ l.length ∧ j = .int .i64 k ∧ Own3 w w.heap.size py pz (Mk.runTo D k) Mk.Mkt.new Mk.Mkt.new k 0 0 wr) (fun j _ => l.length - (intOf j).toNat)
      case atStart => exact ⟨0, Nat.zero_le _, rfl, HO4.out⟩
      case round =>
        obtain ⟨k, hk, rfl, hO⟩ := hrel
        have HO : Hid (Own3 w w.heap.size py pz (Mk.runTo D k) Mk.Mkt.new Mk.Mkt.new k 0 0 wr) := hO
        clear hO
        by_cases hlt : k < l.length
        · have hlt' : (k : Int) < (l.length : Int) := by omega
          obtain ⟨hd, hpl⟩ := HD.out k hlt
          have HDk : Hid (D k).Ok := hd
          have HPl := (show Hid (∀ w, Calls Tryd.prog 12 #[rawV l[k]] w fun e w' => e = .returned (ddV (D k)) ∧ Below w.heap.size w w') from hpl)
          have HRn : Hid (Mk.runTo D (k + 1) = (Mk.didM (Mk.runTo D k) (D k)).2.2) := rfl
          obtain ⟨gb, off, rfl, hc⟩ : ∃ gb off, a = some ⟨gb, off, none⟩ ∧ ∀ i (h : i < l.length), wr.cell? ⟨gb, off + i * 5, none⟩ = some (.int .i64 (l[i] 0)) ∧ wr.cell? ⟨gb, off + i * 5 + 1, none⟩ = some (.int .i64 (l[i] 1)) ∧ wr.cell? ⟨gb, off + i * 5 + 2, none⟩ = some (.int .i64 (l[i] 2)) ∧ wr.cell? ⟨gb, off + i * 5 + 3, none⟩ = some (.int .i64 (l[i] 3)) ∧ wr.cell? ⟨gb, off + i * 5 + 4, none⟩ = some (.int .i64 (l[i] 4)) := by
            rcases HR.out.below HO.out.bel with h | h
            · rw [h] at hlt; cases hlt
            · exact h
          obtain ⟨c0, c1, c2, c3, c4⟩ := hc k hlt
          clear hc hpl hd
          generalize l[k] = x at *
          generalize D k = d at *
          go_wp2_with fail
          refine (HPl.out _).mono ?_
          rintro e w5 ⟨rfl, hb5⟩
          have HO5 : Hid (Own3 w w.heap.size py pz (Mk.runTo D k) Mk.Mkt.new Mk.Mkt.new k 0 0 (w5.alloc (.cells #[.int .i64 (d.w : Int), .int .i64 (d.who : Int), .int .i64 (d.v : Int), .int .i64 (d.a : Int), .int .i64 (d.b : Int)] 29))) := (HO.out.next hb5).next ((Below.refl _ _).alloc (Nat.le_refl _) _)
          clear c0 c1 c2 c3 c4 hb5
          simp only [ddV]
          go_wp2_with fail
          generalize w5.alloc (.cells #[.int .i64 (d.w : Int), .int .i64 (d.who : Int), .int .i64 (d.v : Int), .int .i64 (d.a : Int), .int .i64 (d.b : Int)] 29) = W5 at *
          refine (HO5.out.didx HS.out (by omega) HDk.out HT.out).mono ?_
          rintro e w6 ⟨⟨v, rfl⟩, hO6⟩
          rw [← HRn.out] at hO6
          have HO6 : Hid (Own3 w w.heap.size py pz (Mk.runTo D (k + 1)) Mk.Mkt.new Mk.Mkt.new (k + 1) 0 0 w6) := hO6
          clear hO6
          go_wp2_with fail
          go_roundw
          case rel => exact ⟨k + 1, by omega, by go_num, HO6.out⟩
          case measure => simp [intOf]; omega
        · obtain rfl : k = l.length := by omega
          go_wp2_with fail
          clear hlt hk
          go_loopw [12] (fun j wr => ∃ (k : Nat) (Mz : Mk.Mkt) (kz : Nat), k ≤ l.length ∧ j = .int .i64 k ∧ kz ≤ k ∧ Own3 w w.heap.size py pz (Mk.runTo D l.length) (Mk.runTo D k) Mz l.length k kz wr) (fun j _ => l.length - (intOf j).toNat)
          case atStart => exact ⟨0, Mk.Mkt.new, 0, Nat.zero_le _, rfl, Nat.le_refl _, HO.out⟩
          case round =>
            obtain ⟨k, Mz, kz, hk, rfl, hkz, hO2⟩ := hrel
            have HO2 : Hid (Own3 w w.heap.size py pz (Mk.runTo D l.length) (Mk.runTo D k) Mz l.length k kz wr) := hO2
            clear hO2
            by_cases hlt : k < l.length
            · have hlt' : (k : Int) < (l.length : Int) := by omega
              obtain ⟨hd, hpl⟩ := HD.out k hlt
              have HDk : Hid (D k).Ok := hd
              have HPl := (show Hid (∀ w, Calls Tryd.prog 12 #[rawV l[k]] w fun e w' => e = .returned (ddV (D k)) ∧ Below w.heap.size w w') from hpl)
              have HRn : Hid (Mk.runTo D (k + 1) = (Mk.didM (Mk.runTo D k) (D k)).2.2) := rfl
              obtain ⟨gb, off, rfl, hc⟩ : ∃ gb off, a = some ⟨gb, off, none⟩ ∧ ∀ i (h : i < l.length), wr.cell? ⟨gb, off + i * 5, none⟩ = some (.int .i64 (l[i] 0)) ∧ wr.cell? ⟨gb, off + i * 5 + 1, none⟩ = some (.int .i64 (l[i] 1)) ∧ wr.cell? ⟨gb, off + i * 5 + 2, none⟩ = some (.int .i64 (l[i] 2)) ∧ wr.cell? ⟨gb, off + i * 5 + 3, none⟩ = some (.int .i64 (l[i] 3)) ∧ wr.cell? ⟨gb, off + i * 5 + 4, none⟩ = some (.int .i64 (l[i] 4)) := by
                rcases HR.out.below HO2.out.bel with h | h
                · rw [h] at hlt; cases hlt
                · exact h
              obtain ⟨c0, c1, c2, c3, c4⟩ := hc k hlt
              clear hc hpl hd
              generalize l[k] = x at *
              generalize D k = d at *
              go_wp2_with fail
              refine (HPl.out _).mono ?_
              rintro e w5 ⟨rfl, hb5⟩
              have HO5 : Hid (Own3 w w.heap.size py pz (Mk.runTo D l.length) (Mk.runTo D k) Mz l.length k kz (w5.alloc (.cells #[.int .i64 (d.w : Int), .int .i64 (d.who : Int), .int .i64 (d.v : Int), .int .i64 (d.a : Int), .int .i64 (d.b : Int)] 29))) := (HO2.out.next hb5).next ((Below.refl _ _).alloc (Nat.le_refl _) _)
              clear c0 c1 c2 c3 c4 hb5
              simp only [ddV]
              go_wp2_with fail
              generalize w5.alloc (.cells #[.int .i64 (d.w : Int), .int .i64 (d.who : Int), .int .i64 (d.v : Int), .int .i64 (d.a : Int), .int .i64 (d.b : Int)] 29) = W5 at *
              refine (HO5.out.didy HS.out (by omega) HDk.out HT.out).mono ?_
              rintro e w6 ⟨⟨v, rfl⟩, hO6⟩
              rw [← HRn.out] at hO6
              have HO6 : Hid (Own3 w w.heap.size py pz (Mk.runTo D l.length) (Mk.runTo D (k + 1)) Mz l.length (k + 1) kz w6) := hO6
              clear hO6
              by_cases h2 : k < l2.length
              · have h2' : (k : Int) < (l2.length : Int) := by omega
                obtain ⟨hd2, hpl2⟩ := HE.out k h2
                have HDk2 : Hid (E k).Ok := hd2
                have HPl2 := (show Hid (∀ w, Calls Tryd.prog 12 #[rawV l2[k]] w fun e w' => e = .returned (ddV (E k)) ∧ Below w.heap.size w w') from hpl2)
                obtain ⟨gb2, off2, rfl, hc⟩ : ∃ gb off, a2 = some ⟨gb, off, none⟩ ∧ ∀ i (h : i < l2.length), w6.cell? ⟨gb, off + i * 5, none⟩ = some (.int .i64 (l2[i] 0)) ∧ w6.cell? ⟨gb, off + i * 5 + 1, none⟩ = some (.int .i64 (l2[i] 1)) ∧ w6.cell? ⟨gb, off + i * 5 + 2, none⟩ = some (.int .i64 (l2[i] 2)) ∧ w6.cell? ⟨gb, off + i * 5 + 3, none⟩ = some (.int .i64 (l2[i] 3)) ∧ w6.cell? ⟨gb, off + i * 5 + 4, none⟩ = some (.int .i64 (l2[i] 4)) := by
                  rcases HR2.out.below HO6.out.bel with h | h
                  · rw [h] at h2; cases h2
                  · exact h
                obtain ⟨c0, c1, c2, c3, c4⟩ := hc k h2
                clear hc hpl2 hd2
                generalize l2[k] = x2 at *
                generalize E k = d2 at *
                go_wp2_with fail
                refine (HPl2.out _).mono ?_
                rintro e w7 ⟨rfl, hb7⟩
                have HO7 : Hid (Own3 w w.heap.size py pz (Mk.runTo D l.length) (Mk.runTo D (k + 1)) Mz l.length (k + 1) kz (w7.alloc (.cells #[.int .i64 (d2.w : Int), .int .i64 (d2.who : Int), .int .i64 (d2.v : Int), .int .i64 (d2.a : Int), .int .i64 (d2.b : Int)] 29))) := (HO6.out.next hb7).next ((Below.refl _ _).alloc (Nat.le_refl _) _)
                clear c0 c1 c2 c3 c4 hb7
                simp only [ddV]
                go_wp2_with fail
                generalize w7.alloc (.cells #[.int .i64 (d2.w : Int), .int .i64 (d2.who : Int), .int .i64 (d2.v : Int), .int .i64 (d2.a : Int), .int .i64 (d2.b : Int)] 29) = W7 at *
                refine (HO7.out.didz HS.out (by omega) HDk2.out HT.out).mono ?_
                rintro e w8 ⟨⟨v2, rfl⟩, hO8⟩
                have HO8 : Hid (Own3 w w.heap.size py pz (Mk.runTo D l.length) (Mk.runTo D (k + 1)) (Mk.didM Mz d2).2.2 l.length (k + 1) (kz + 1) w8) := hO8
                clear hO8
                go_wp2_with fail
                go_roundw
                case rel => exact ⟨k + 1, _, kz + 1, by omega, by go_num, by omega, HO8.out⟩
                case measure => simp [intOf]; omega
              · have h2' : ¬ (k : Int) < (l2.length : Int) := by omega
                go_wp2_with fail
                go_roundw
                case rel => exact ⟨k + 1, _, kz, by omega, by go_num, by omega, HO6.out⟩
                case measure => simp [intOf]; omega
            · obtain rfl : k = l.length := by omega
              obtain ⟨vx, vy, vz, ⟨hx, hy, _⟩, _⟩ := HO2.out.lies
              have HPx : Hid (PM wr w.heap.size vx (Mk.runTo D l.length)) := hx
              have HPy : Hid (PM wr py vy (Mk.runTo D l.length)) := hy
              have HI : Hid (AInv (Mk.runTo D l.length) l.length) := HO2.out.ix
              have HTr : Hid (Tab wr) := HT.out.next HO2.out.bel
              clear hx hy
              go_wp2_with fail
              refine (pshow_any _ vx _ _ HI.out.well.fine HPx.out HTr.out).mono ?_
              rintro e w5 ⟨rfl, hb5⟩
              have HB5 : Hid (Below wr.heap.size wr w5) := hb5
              clear hb5
              go_wp2_with fail
              refine (pshow_any _ vy _ _ HI.out.well.fine (HPy.out.below HB5.out) (HTr.out.next HB5.out)).mono ?_
              rintro e w6 ⟨rfl, hb6⟩
              have HB6 : Hid (Below wr.heap.size wr w6) := HB5.out.trans (hb6.mono HB5.out.size)
              clear hb6
              go_wp2_with fail
              refine (HS.out.logs _ vx _ l.length _ HI.out (by omega) (HPx.out.below HB6.out)).mono ?_
              rintro e w7 ⟨rfl, hb7⟩
              have HB7 : Hid (Below wr.heap.size wr w7) := HB6.out.trans (hb7.mono HB6.out.size)
              clear hb7
              go_wp2_with fail
              refine (HS.out.logs _ vy _ l.length _ HI.out (by omega) (HPy.out.below HB7.out)).mono ?_
              rintro e w8 ⟨rfl, hb8⟩
              have HB8 : Hid (Below wr.heap.size wr w8) := HB7.out.trans (hb8.mono HB7.out.size)
              have HP8 : Hid (PM w8 py vy (Mk.runTo D l.length)) := HPy.out.below HB8.out
              have HB9 : Hid (Below w.heap.size w w8) := HO2.out.bel.trans (HB8.out.mono HO2.out.bel.size)
              clear hb8
              have HG : Hid (l.length = 0 ∨ 1 ≤ Mk.lsTo (Mk.runTo D l.length) 4) := (by
                by_cases h0 : l.length = 0
                · exact .inl h0
                · right
                  have h1 := run_ls (D := D) (k := l.length) (fun i hi => (HD.out i hi).1) (by omega)
                  exact Int.le_trans h1 (lsTo_ge HI.out _ 4 (by omega) (HD.out 0 (by omega)).1.who) : l.length = 0 ∨ 1 ≤ Mk.lsTo (Mk.runTo D l.length) 4)
              generalize Mk.runTo D l.length = M at *
              go_wp2_with fail
              go_loopw [19, 20] (fun nv cv wr => ∃ c : Nat, c ≤ 4 ∧ cv = .int .i64 c ∧ nv = .int .i64 (Mk.lsTo M c) ∧ PM wr py vy M ∧ Below w.heap.size w wr) (fun _ cv _ => 4 - (intOf cv).toNat)
              case atStart => exact ⟨0, Nat.zero_le _, rfl, rfl, HP8.out, HB9.out⟩
              case round =>
                obtain ⟨c, hc, rfl, rfl, hPr, hbr⟩ := hrel
                have HPr : Hid (PM wr py vy M) := hPr
                have HBr : Hid (Below w.heap.size w wr) := hbr
                have hbd := lsTo_bd HI.out c hc
                clear hPr hbr
                by_cases hlt : c < 4
                · have hlt' : (c : Int) < 4 := by omega
                  have hl := HI.out.well.ls c hlt
                  have HL : Hid (Mk.lastM M (c : Int) = M.ls c) := (by unfold Mk.lastM; rw [if_pos ⟨by omega, by omega⟩]; simp : Mk.lastM M (c : Int) = M.ls c)
                  have HE1 : Hid (Mk.lsTo M (c + 1) = Mk.lsTo M c + M.ls c) := rfl
                  go_wp2_with fail
                  refine (plast_any py vy M _ _ HPr.out).mono ?_
                  rintro e w10 ⟨rfl, hb10⟩
                  rw [HL.out]
                  have HP10 : Hid (PM w10 py vy M) := HPr.out.below hb10
                  have HB10 : Hid (Below w.heap.size w w10) := HBr.out.trans (hb10.mono HBr.out.size)
                  clear hb10
                  go_wp2_with fail
                  go_roundw
                  case rel => exact ⟨c + 1, by omega, by go_num, by rw [HE1.out], HP10.out, HB10.out⟩
                  case measure => simp [intOf]; omega
                · obtain rfl : c = 4 := by omega
                  by_cases h0 : 0 < Mk.lsTo M 4
                  · go_wp2_with fail
                    go_ret
                    exact ⟨rfl, HBr.out⟩
                  · have h1 : l.length = 0 := by
                      rcases HG.out with h | h
                      · exact h
                      · omega
                    have h2 : ((l.length : Int) == 0) = true := by simpa using h1
                    go_wp2_with fail
                    go_ret
                    exact ⟨rfl, HBr.out⟩
    · have hd : decide (l2.length ≤ 1048576) = false := by simpa using hs2
      rw [hd]
      clear hd
      go_wp2_with fail
      go_ret
      exact ⟨rfl, Below.refl _ _⟩
  · have hd : decide (l.length ≤ 1048576) = false := by simpa using hs
    rw [hd]
    clear hd
    go_wp2_with fail
    go_ret
    exact ⟨rfl, Below.refl _ _⟩

end Go.Proofs.YtmebcdpdpcpnmabDoor
