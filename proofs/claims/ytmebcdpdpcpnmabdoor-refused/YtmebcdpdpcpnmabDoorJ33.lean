import Derived.Test.YtmebcdpdpcpnmabDoorJ29
import Derived.Test.YtmebcdpdpcpnmabDoorJ32
import Derived.BigQuiet
namespace Go.Proofs.YtmebcdpdpcpnmabDoor
open Go.RowKit

set_option maxRecDepth 100000 in
theorem plog_any (p : Nat) (vb : Nat → Value) (M : Mk.Mkt) (w : World) (hP : PM w p vb M) : Calls Tryd.prog 21 #[.pointer (some ⟨p, 0, none⟩)] w fun e w' => e = .returned (.string M.disk) ∧ Below w.heap.size w w' := by
  have f1 := hP.lg
  clear hP
  go_enter Tryd.func21, Tryd.ntmps21
  go_wp2
  go_ret
  exact ⟨rfl, Below.refl _ _⟩

/-- what redo leaves -/
def RedoT (p : Nat) (vb : Nat → Value) (M : Mk.Mkt) (T : ByteArray) (w : World) (e : Ending) (w' : World) : Prop :=
  (∃ c, Mk.readP T = some c ∧ (c.r : Int) = M.ls c.who + 1 ∧ e = .returned (.bool true) ∧ ∃ vb', PM w' p vb' (Mk.doM (Mk.allM M) M T).2.2 ∧ Only (PHas p vb) w w' ∧ ∀ k, PHas p vb' k → PHas p vb k ∨ w.heap.size ≤ k) ∨
  (e = .returned (.bool false) ∧ Below w.heap.size w w' ∧ (Mk.readP T = none ∨ ∃ c, Mk.readP T = some c ∧ ¬ (c.r : Int) = M.ls c.who + 1))

set_option maxRecDepth 100000 in
set_option maxHeartbeats 4000000 in
theorem predo_any (p : Nat) (vb : Nat → Value) (M : Mk.Mkt) (k : Nat) (s : ByteArray) (w : World) (hA : AInv M k) (hk : k ≤ 1200000) (hP : PM w p vb M) (hT : Tab w) :
    Calls Tryd.prog 35 #[.pointer (some ⟨p, 0, none⟩), .string s] w fun e w' => RedoT p vb M s w e w' := by
  have HP : Hid (PM w p vb M) := hP
  have HT : Hid (Tab w) := hT
  have HA : Hid (AInv M k) := hA
  have HDk : Hid (M.disk.size ≤ 100000000) := (by have := hA.well.disk; omega : M.disk.size ≤ 100000000)
  clear hP hT hA
  go_enter Tryd.func35, Tryd.ntmps35
  go_wp2_with fail
  refine (readRequest_any s w).mono ?_
  rintro e w1 ⟨hb1, hm⟩
  have HB1 : Hid (Below w.heap.size w w1) := hb1
  cases hrd : Mk.readP s with
  | none =>
    rw [hrd] at hm
    obtain rfl := hm
    have HD : Hid (Mk.readP s = none) := hrd
    clear hrd hb1
    go_wp2_with fail
    refine bodyPost_ret (v := .bool false) ?_ rfl (.inr ⟨rfl, ?_, .inl HD.out⟩)
    · simp [results, Tryd.results35, go_sem]
    · exact HB1.out.alloc HB1.out.size _
  | some c =>
    rw [hrd] at hm
    obtain rfl := hm
    obtain ⟨hok, h20⟩ := Mk.read_ok hrd
    have HC : Hid (Mk.readP s = some c) := hrd
    have HOk : Hid c.Ok := hok
    have hwho : c.who < 4 := hok.who
    have hr1 : 1 ≤ c.r ∧ c.r ≤ 99 := hok.r
    have hw' : (c.who : Int) < 4 := by omega
    have bl := HA.out.well.ls c.who hwho
    clear hrd hok hb1
    have HB2 : Hid (Below w.heap.size w (w1.alloc (rqO c.who c.r c.d.text c.voy c.amt c.pri c.qty c.ord c.mc))) := HB1.out.alloc HB1.out.size _
    have HP2 : Hid (PM (w1.alloc (rqO c.who c.r c.d.text c.voy c.amt c.pri c.qty c.ord c.mc)) p vb M) := HP.out.below HB2.out
    have HC2 : Hid (∀ i u, (#[.int .i64 (c.who : Int), .int .i64 (c.r : Int), .string c.d.text, .int .i64 (c.voy : Int), .int .i64 (c.amt : Int), .int .i64 (c.pri : Int), .int .i64 (c.qty : Int), .int .i64 (c.ord : Int), .int .i64 (mdI c.mc)] : Array Value)[i]? = some u → (w1.alloc (rqO c.who c.r c.d.text c.voy c.amt c.pri c.qty c.ord c.mc)).cell? ⟨w1.heap.size, i, none⟩ = some u) := fun i u h => by simpa using h
    have hl2 : w1.heap.size < (w1.alloc (rqO c.who c.r c.d.text c.voy c.amt c.pri c.qty c.ord c.mc)).heap.size := by simp
    go_upto_region 4 with fail
    generalize w1.alloc (rqO c.who c.r c.d.text c.voy c.amt c.pri c.qty c.ord c.mc) = W2 at *
    generalize w1.heap.size = B at *
    have x0 := HC2.out 0 _ rfl
    have x1 := HC2.out 1 _ rfl
    have f0 := HP2.out.re hwho (k := 0) (by omega)
    simp only [reF, Nat.add_zero] at f0
    have hpl := HP2.out.box.lt
    by_cases h4 : (c.r : Int) = M.ls c.who + 1
    · have h4' : ((c.r : Int) != M.ls c.who + 1) = false := by rw [bne_eq_false_iff_eq]; exact h4
      have HN : Hid ((c.r : Int) = M.ls c.who + 1) := h4
      clear h4
      go_quiet (fail)
      have hbq : Below W2.heap.size W2 (W2.drewN nq) := below_drewN (Below.refl _ _) nq
      have HP3 : Hid (PM (W2.drewN nq) p vb M) := HP2.out.below hbq
      have HB3 : Hid (Below w.heap.size w (W2.drewN nq)) := HB2.out.trans (hbq.mono HB2.out.size)
      have HC3 : Hid (∀ i u, (#[.int .i64 (c.who : Int), .int .i64 (c.r : Int), .string c.d.text, .int .i64 (c.voy : Int), .int .i64 (c.amt : Int), .int .i64 (c.pri : Int), .int .i64 (c.qty : Int), .int .i64 (c.ord : Int), .int .i64 (mdI c.mc)] : Array Value)[i]? = some u → (W2.drewN nq).cell? ⟨B, i, none⟩ = some u) := fun i u h => (hbq.cell (p := ⟨B, i, none⟩) hl2).trans (HC2.out i u h)
      clear x0 x1 f0 hpl hbq h4' HC2
      generalize W2.drewN nq = W3 at *
      have x0 := HC3.out 0 _ rfl
      have x1 := HC3.out 1 _ rfl
      have x2 := HC3.out 2 _ rfl
      have x3 := HC3.out 3 _ rfl
      have x4 := HC3.out 4 _ rfl
      have x5 := HC3.out 5 _ rfl
      have x6 := HC3.out 6 _ rfl
      have x7 := HC3.out 7 _ rfl
      have x8 := HC3.out 8 _ rfl
      have HQ : Hid (Calls Tryd.prog 33 #[.pointer (some ⟨p, 0, none⟩), reqV c, .string s] W3 fun e w' => PDoT p vb ((Mk.allM M c).1, (Mk.allM M c).2.1, { (Mk.allM M c).2.2 with ls := upd (Mk.allM M c).2.2.ls c.who c.r, tx := upd (Mk.allM M c).2.2.tx c.who (Mk.allM M c).1, er := upd (Mk.allM M c).2.2.er c.who (Mk.allM M c).2.1, disk := M.disk ++ (Mk.frame s ++ s) }) W3 e w') := pserve_any p vb M c s (Mk.allM M c).1 (Mk.allM M c).2.1 (Mk.allM M c).2.2 W3 hwho h20 HDk.out HP3.out (HT.out.next HB3.out) (fun W hW hT => all_carry_onto close_ok HA.out HOk.out _ W hW hT)
      have HE : Hid ((Mk.doM (Mk.allM M) M s).2.2 = { (Mk.allM M c).2.2 with ls := upd (Mk.allM M c).2.2.ls c.who c.r, tx := upd (Mk.allM M c).2.2.tx c.who (Mk.allM M c).1, er := upd (Mk.allM M c).2.2.er c.who (Mk.allM M c).2.1, disk := M.disk ++ (Mk.frame s ++ s) }) := (by
        have h1 := HN.out
        unfold Mk.doM
        rw [HC.out]
        show (if (c.r : Int) = M.ls c.who then (M.tx c.who, M.er c.who, M) else if (c.r : Int) < M.ls c.who then (⟨#[]⟩, 3, M) else if M.ls c.who + 1 < (c.r : Int) then (⟨#[]⟩, 4, M) else ((Mk.allM M c).1, (Mk.allM M c).2.1, { (Mk.allM M c).2.2 with ls := upd (Mk.allM M c).2.2.ls c.who c.r, tx := upd (Mk.allM M c).2.2.tx c.who (Mk.allM M c).1, er := upd (Mk.allM M c).2.2.er c.who (Mk.allM M c).2.1, disk := (Mk.allM M c).2.2.disk ++ Mk.frame s ++ s }) : ByteArray × Int × Mk.Mkt).2.2 = _
        rw [if_neg (by omega), if_neg (by omega), if_neg (by omega)]
        show ({ (Mk.allM M c).2.2 with ls := upd (Mk.allM M c).2.2.ls c.who c.r, tx := upd (Mk.allM M c).2.2.tx c.who (Mk.allM M c).1, er := upd (Mk.allM M c).2.2.er c.who (Mk.allM M c).2.1, disk := (Mk.allM M c).2.2.disk ++ Mk.frame s ++ s } : Mk.Mkt) = _
        rw [(all_ls HA.out.sound HA.out.one HOk.out).2, ByteArray.append_assoc] : (Mk.doM (Mk.allM M) M s).2.2 = { (Mk.allM M c).2.2 with ls := upd (Mk.allM M c).2.2.ls c.who c.r, tx := upd (Mk.allM M c).2.2.tx c.who (Mk.allM M c).1, er := upd (Mk.allM M c).2.2.er c.who (Mk.allM M c).2.1, disk := M.disk ++ (Mk.frame s ++ s) })
      go_wp2_with fail
      refine HQ.out.mono ?_
      rintro e W5 hD5
      have hD5' := pdoT_next HB3.out hD5
      obtain rfl := hD5.1
      have HD5 : Hid (PDoT p vb ((Mk.allM M c).1, (Mk.allM M c).2.1, { (Mk.allM M c).2.2 with ls := upd (Mk.allM M c).2.2.ls c.who c.r, tx := upd (Mk.allM M c).2.2.tx c.who (Mk.allM M c).1, er := upd (Mk.allM M c).2.2.er c.who (Mk.allM M c).2.1, disk := M.disk ++ (Mk.frame s ++ s) }) w (.returned (.tuple #[.string (Mk.allM M c).1, .int .i64 (Mk.allM M c).2.1])) W5) := hD5'
      clear hD5'
      clear hD5 x0 x1 x2 x3 x4 x5 x6 x7 x8 HQ
      go_wp2_with fail
      obtain ⟨_, vb', hP5, hO5, hN5⟩ := HD5.out
      refine bodyPost_ret (v := .bool true) ?_ rfl (.inl ⟨c, HC.out, HN.out, rfl, vb', ?_, hO5, hN5⟩)
      · simp [results, Tryd.results35, go_sem]
      · rw [HE.out]; exact hP5
    · have h4' : ((c.r : Int) != M.ls c.who + 1) = true := by rw [bne_iff_ne]; exact h4
      have HN : Hid (¬ (c.r : Int) = M.ls c.who + 1) := h4
      clear h4
      go_quiet (fail)
      have HB4 : Hid (Below w.heap.size w (W2.drewN nq)) := below_drewN HB2.out nq
      go_wp2_with fail
      refine bodyPost_ret (v := .bool false) ?_ rfl (.inr ⟨rfl, HB4.out, .inr ⟨c, HC.out, HN.out⟩⟩)
      simp [results, Tryd.results35, go_sem]

/-- the two digits that a frame begins with -/
theorem head_two {s : ByteArray} {i : Nat} (h : ¬ s.size < i + 2) : Mk.rgOk ((s.extract i s.size).extract 0 2) 99 = (Mk.isD s i && Mk.isD s (i + 1)) ∧ ((Mk.isD s i && Mk.isD s (i + 1)) = true → Mk.rgV ((s.extract i s.size).extract 0 2) 99 = Mk.two s i ∧ Mk.two s i ≤ 99) := by
  have e : (s.extract i s.size).extract 0 2 = s.extract i (i + 2) := Mk.extract_two s i 0 2 (by omega)
  rw [e]
  have hz : (s.extract i (i + 2)).size = 2 := by rw [ByteArray.size_extract]; omega
  have b0 : Mk.bt (s.extract i (i + 2)) 0 = Mk.bt s i := by
    rw [← Mk.bt_at (show 0 < (s.extract i (i + 2)).size by omega), ← Mk.bt_at (show i < s.size by omega), ByteArray.getElem_extract]
    rfl
  have b1 : Mk.bt (s.extract i (i + 2)) 1 = Mk.bt s (i + 1) := by
    rw [← Mk.bt_at (show 1 < (s.extract i (i + 2)).size by omega), ← Mk.bt_at (show i + 1 < s.size by omega), ByteArray.getElem_extract]
  have d : Mk.digs (s.extract i (i + 2)) 2 = (Mk.isD s i && Mk.isD s (i + 1)) := by
    show ((true && Mk.isD _ 0) && Mk.isD _ 1) = _
    unfold Mk.isD
    rw [b0, b1, Bool.true_and]
  have n : Mk.numTo (s.extract i (i + 2)) 2 = Mk.two s i := by
    show ((0 * 10 + (Mk.bt _ 0 - 48)) * 10 + (Mk.bt _ 1 - 48)) = _
    rw [b0, b1]
    unfold Mk.two
    omega
  have hle : (Mk.isD s i && Mk.isD s (i + 1)) = true → Mk.two s i ≤ 99 := by
    intro h
    unfold Mk.isD at h
    simp only [Bool.and_eq_true, decide_eq_true_eq] at h
    unfold Mk.two
    omega
  have ok : Mk.rgOk (s.extract i (i + 2)) 99 = (Mk.isD s i && Mk.isD s (i + 1)) := by
    unfold Mk.rgOk
    rw [hz, d, n]
    cases hb : (Mk.isD s i && Mk.isD s (i + 1)) with
    | false => rfl
    | true => rw [decide_eq_true (hle hb)]; rfl
  refine ⟨ok, fun hb => ⟨?_, hle hb⟩⟩
  unfold Mk.rgV
  rw [ok, hb, hz, n]
  rfl

theorem popen_no {s : ByteArray} {w w' : World} (h : Mk.openM s = none) (hb : Below w.heap.size w w') : POpenT (Mk.openM s) w (.returned (.tuple #[.pointer none, .int .i64 11])) w' := by
  rw [h]; exact ⟨rfl, hb⟩
theorem popen_yes {s : ByteArray} {w w' : World} {M : Mk.Mkt} {p : Nat} {vb : Nat → Value} (h : Mk.openM s = some M) (hP : PM w' p vb M) (hn : ∀ k, PHas p vb k → w.heap.size ≤ k) (hb : Below w.heap.size w w') : POpenT (Mk.openM s) w (.returned (.tuple #[.pointer (some ⟨p, 0, none⟩), .int .i64 0])) w' := by
  rw [h]; exact ⟨p, vb, rfl, hP, hn, hb⟩
/-- how long a text is -/
def strLen : Value → Nat
  | .string t => t.size
  | _ => 0

set_option maxRecDepth 100000 in
set_option maxHeartbeats 4000000 in
theorem popen_any (s : ByteArray) (w : World) (hs : s.size ≤ 2000000) (hT : Tab w) :
    Calls Tryd.prog 24 #[.string s] w fun e w' => POpenT (Mk.openM s) w e w' := by
  by_cases h9 : 9000 < s.size
  · have HX : Hid (Mk.openM s = none) := if_pos h9
    have h9' : (9000 : Int) < (s.size : Int) := by omega
    go_enter Tryd.func24, Tryd.ntmps24
    go_wp2
    go_ret2
    exact popen_no HX.out (Below.refl _ _)
  · have h9' : ¬ (9000 : Int) < (s.size : Int) := by omega
    have HX : Hid (Mk.openM s = Mk.openG s (s.size + 1) 0 Mk.Mkt.new) := if_neg h9
    have HT : Hid (Tab w) := hT
    clear hT
    go_enter Tryd.func24, Tryd.ntmps24
    go_wp2_with fail
    refine (pnew_any w).mono ?_
    rintro e w1 ⟨rfl, hP1, hb1⟩
    have HP1 : Hid (PM w1 w.heap.size nilV Mk.Mkt.new) := hP1
    have HN1 : Hid (∀ k, PHas w.heap.size nilV k → w.heap.size ≤ k) := by
      rintro k (rfl | ⟨v, _, hk⟩)
      · exact Nat.le_refl _
      · simp [nilV, Value.ownBlock] at hk
    have HB1 : Hid (Below w.heap.size w w1) := hb1
    have HE0 : Hid (s.extract 0 s.size = s) := ByteArray.extract_zero_size
    clear hP1 hb1
    generalize hp : w.heap.size = p at *
    have Hp : Hid (w.heap.size = p) := hp
    clear hp
    go_wp2_with fail
    go_loopw [5] (fun j wr => ∃ (i f k : Nat) (M : Mk.Mkt) (vb : Nat → Value), j = .string (s.extract i s.size) ∧ i ≤ s.size ∧ s.size < f + i ∧ k ≤ i ∧ Mk.openM s = Mk.openG s f i M ∧ AInv M k ∧ PM wr p vb M ∧ (∀ k, PHas p vb k → p ≤ k) ∧ Below p w wr) (fun j _ => strLen j)
    case atStart => exact ⟨0, s.size + 1, 0, Mk.Mkt.new, nilV, by rw [HE0.out], Nat.zero_le _, by omega, Nat.le_refl _, HX.out, all_new, HP1.out, HN1.out, HB1.out⟩
    case round =>
      obtain ⟨i, f, k, M, vb, rfl, hi, hf, hk, hE, hA, hP, hn, hb⟩ := hrel
      have HE : Hid (Mk.openM s = Mk.openG s f i M) := hE
      have HA : Hid (AInv M k) := hA
      have HP : Hid (PM wr p vb M) := hP
      have HN : Hid (∀ k, PHas p vb k → p ≤ k) := hn
      have Hb : Hid (Below p w wr) := hb
      clear hE hA hP hn hb
      have hRs : (s.extract i s.size).size = s.size - i := by rw [ByteArray.size_extract, Nat.min_self]
      by_cases h2 : s.size < i + 2
      · have h2' : ¬ (2 : Int) ≤ ((s.extract i s.size).size : Int) := by omega
        have HY : Hid (f ≠ 0 → Mk.openM s = some M) := fun hf0 => by
          obtain ⟨f', rfl⟩ := Nat.exists_eq_succ_of_ne_zero hf0
          rw [HE.out]; exact Mk.openG_end h2
        generalize s.extract i s.size = R at *
        go_wp2
        go_ret2
        exact popen_yes (HY.out (by omega)) HP.out (by rw [Hp.out]; exact HN.out) (by rw [Hp.out]; exact Hb.out)
      · obtain ⟨f', rfl⟩ : ∃ f', f = f' + 1 := ⟨f - 1, by omega⟩
        have H2 : Hid (¬ s.size < i + 2) := h2
        have HH := (show Hid _ from head_two h2)
        have hRs2 : ((s.extract i s.size).extract 2 (s.extract i s.size).size) = s.extract (i + 2) s.size := by
          rw [hRs, Mk.extract_two s i 2 _ (by omega), show i + (s.size - i) = s.size by omega]
        have hR2 : (2 : Int) ≤ ((s.extract i s.size).size : Int) := by omega
        have HRs2 : Hid (((s.extract i s.size).extract 2 (s.extract i s.size).size) = s.extract (i + 2) s.size) := hRs2
        have HD : Hid ((Mk.isD s i && Mk.isD s (i + 1)) = false → Mk.openM s = none) := fun h => by
          rw [HE.out]
          exact Mk.openG_bad H2.out h
        have HMs : Hid (∀ j, i < j → j ≤ s.size → strLen (.string (s.extract j s.size)) < strLen (.string (s.extract i s.size))) := fun j h1 h3 => by
          show (s.extract j s.size).size < (s.extract i s.size).size
          rw [ByteArray.size_extract, ByteArray.size_extract]
          omega
        clear hRs2 hRs
        generalize s.extract i s.size = R at *
        have hR0 : (R.extract 0 2).size ≤ 2 := by rw [ByteArray.size_extract]; omega
        generalize hH0 : R.extract 0 2 = H0 at *
        go_wp2_with fail
        refine (readDigits_any H0 99 wr (by omega) (by omega)).mono ?_
        rintro e w2 ⟨rfl, hw2⟩
        obtain rfl := hw2.symm
        rw [HH.out.1]
        cases hdg : (Mk.isD s i && Mk.isD s (i + 1)) with
        | false =>
          go_wp2
          go_ret2
          exact popen_no (HD.out hdg) (by rw [Hp.out]; exact Hb.out)
        | true =>
          obtain ⟨hN, hN99⟩ := HH.out.2 hdg
          have HDg : Hid (¬ (Mk.isD s i && Mk.isD s (i + 1)) = false) := (by rw [hdg]; decide : ¬ (Mk.isD s i && Mk.isD s (i + 1)) = false)
          rw [hN]
          have HPc : Hid (Mk.piece s i = s.extract (i + 2) (i + 2 + Mk.two s i)) := rfl
          clear hN HH hdg hH0 hR0
          generalize hNN : Mk.two s i = N at *
          have HNN : Hid (Mk.two s i = N) := hNN
          clear hNN
          have hBs : (s.extract (i + 2) s.size).size = s.size - (i + 2) := by rw [ByteArray.size_extract, Nat.min_self]
          by_cases hc : s.size < i + 2 + N
          · have hc' : ((s.extract (i + 2) s.size).size : Int) < (N : Int) := by omega
            have HY : Hid (Mk.openM s = some M) := (by rw [HE.out]; exact Mk.openG_cut H2.out HDg.out (by rw [HNN.out]; exact hc) : Mk.openM s = some M)
            go_upto_region 10 with fail
            rw [HRs2.out]
            generalize s.extract (i + 2) s.size = Bh at *
            go_wp2
            go_ret2
            exact popen_yes HY.out HP.out (by rw [Hp.out]; exact HN.out) (by rw [Hp.out]; exact Hb.out)
          · have hc' : ¬ ((s.extract (i + 2) s.size).size : Int) < (N : Int) := by omega
            have HCc : Hid (¬ s.size < i + 2 + Mk.two s i) := (by rw [HNN.out]; exact hc : ¬ s.size < i + 2 + Mk.two s i)
            have hpc : (s.extract (i + 2) s.size).extract 0 N = Mk.piece s i := by rw [HPc.out, Mk.extract_two s (i + 2) 0 N (by omega)]
            have hrs : (s.extract (i + 2) s.size).extract N (s.extract (i + 2) s.size).size = s.extract (i + 2 + N) s.size := by
              rw [hBs, Mk.extract_two s (i + 2) N _ (by omega), show i + 2 + (s.size - (i + 2)) = s.size by omega]
            have HRs3 : Hid ((s.extract (i + 2) s.size).extract N (s.extract (i + 2) s.size).size = s.extract (i + 2 + N) s.size) := hrs
            have HPc2 : Hid ((s.extract (i + 2) s.size).extract 0 N = Mk.piece s i) := hpc
            have hle : (N : Int) ≤ ((s.extract (i + 2) s.size).size : Int) := by omega
            clear hpc hrs hBs
            go_upto_region 10 with fail
            rw [HRs2.out]
            generalize s.extract (i + 2) s.size = Bh at *
            go_wp2_with fail
            rw [HPc2.out]
            refine (predo_any p vb M k (Mk.piece s i) wr HA.out (by omega) HP.out (HT.out.below (fun g hg => by have := HT.out.lt g hg; have := Hp.out; omega) Hb.out)).mono ?_
            rintro e w6 (⟨c, hrd, hnx, rfl, vb', hP6, hO6, hN6⟩ | ⟨rfl, hb6, hno⟩)
            · have HY : Hid (Mk.openM s = Mk.openG s f' (i + 2 + N) (Mk.doM (Mk.allM M) M (Mk.piece s i)).2.2) := (by rw [HE.out, Mk.openG_yes H2.out HDg.out HCc.out hrd hnx, HNN.out] : Mk.openM s = Mk.openG s f' (i + 2 + N) (Mk.doM (Mk.allM M) M (Mk.piece s i)).2.2)
              have HA6 : Hid (AInv (Mk.doM (Mk.allM M) M (Mk.piece s i)).2.2 (k + 1)) := all_step (Mk.piece s i) HA.out
              have HP6 : Hid (PM w6 p vb' (Mk.doM (Mk.allM M) M (Mk.piece s i)).2.2) := hP6
              have HN6 : Hid (∀ k, PHas p vb' k → p ≤ k) := fun k hk' => by
                rcases hN6 k hk' with h | h
                · exact HN.out k h
                · exact Nat.le_trans (by have := Hb.out.size; have := Hp.out; omega) h
              have HB6 : Hid (Below p w w6) := ⟨hO6.os.trans Hb.out.os, hO6.tape.trans Hb.out.tape, hO6.output.trans Hb.out.output, Nat.le_trans Hb.out.size hO6.size, fun k hk' => (hO6.block k (Nat.lt_of_lt_of_le hk' (by have := Hb.out.size; have := Hp.out; omega)) (fun h => by have := HN.out k h; omega)).trans (Hb.out.block k hk')⟩
              clear hrd hnx hP6 hO6 hN6
              go_wp2
              rw [HRs3.out]
              go_roundw
              case rel => exact ⟨i + 2 + N, f', k + 1, _, vb', rfl, by omega, by omega, by omega, HY.out, HA6.out, HP6.out, HN6.out, HB6.out⟩
              case measure => exact HMs.out _ (by omega) (by omega)
            · have HY : Hid (Mk.openM s = none) := (by
                rw [HE.out]
                rcases hno with h | ⟨c, hc, hn⟩
                · exact Mk.openG_no H2.out HDg.out HCc.out h
                · exact Mk.openG_gap H2.out HDg.out HCc.out hc hn : Mk.openM s = none)
              have HB7 : Hid (Below p w w6) := Hb.out.trans (hb6.mono (by have := Hb.out.size; have := Hp.out; omega))
              clear hno hb6
              go_wp2
              go_ret2
              exact popen_no HY.out (by rw [Hp.out]; exact HB7.out)

theorem prog_log : ProgLog := ⟨fun p vb M k s w h hk _ hP hT => all_dos close_ok p vb M k s w h (by omega) hP hT, fun p vb M _ w _ _ hP => plog_any p vb M w hP, fun s w hs hT => popen_any s w (by omega) hT⟩

end Go.Proofs.YtmebcdpdpcpnmabDoor

namespace Go.Proofs.YtmebcdpdpcpnmabDoor
open Go.RowKit

theorem pside : PSide (fun M => M.disk) := ⟨fun p vb M k s w h hk _ hP hT => all_dos close_ok p vb M k s w h (by omega) hP hT, fun p vb M _ w _ _ hP => plog_any p vb M w hP⟩

end Go.Proofs.YtmebcdpdpcpnmabDoor
