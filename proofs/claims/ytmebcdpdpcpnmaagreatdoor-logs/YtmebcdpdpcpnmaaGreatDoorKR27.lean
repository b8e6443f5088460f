import Derived.Test.YtmebcdpdpcpnmaaGreatDoorKPlainO
import Derived.Test.YtmebcdpdpcpnmaaGreatDoorJ11
import Derived.BigQuiet
namespace Go.Proofs.YtmebcdpdpcpnmaaGreatDoor
open Go.RowKit

/-- what the document's Open leaves -/
def ROpenT (x : Option Mk.Mkt) (w : World) (e : Ending) (w' : World) : Prop :=
  match x with
  | none => e = .returned (.tuple #[.pointer none, .int .i64 11]) ∧ Below w.heap.size w w'
  | some M => ∃ p b, e = .returned (.tuple #[.pointer (some ⟨p, 0, none⟩), .int .i64 0]) ∧ Ref w' p b M ∧ (∀ k, b.has p k → w.heap.size ≤ k) ∧ Below w.heap.size w w'
theorem ropen_no {s : ByteArray} {w w' : World} (h : Mk.openM s = none) (hb : Below w.heap.size w w') : ROpenT (Mk.openM s) w (.returned (.tuple #[.pointer none, .int .i64 11])) w' := by
  rw [h]; exact ⟨rfl, hb⟩
theorem ropen_yes {s : ByteArray} {w w' : World} {M : Mk.Mkt} {p : Nat} {b : RB} (h : Mk.openM s = some M) (hR : Ref w' p b M) (hn : ∀ k, b.has p k → w.heap.size ≤ k) (hb : Below w.heap.size w w') : ROpenT (Mk.openM s) w (.returned (.tuple #[.pointer (some ⟨p, 0, none⟩), .int .i64 0])) w' := by
  rw [h]; exact ⟨p, b, rfl, hR, hn, hb⟩

set_option maxRecDepth 100000 in
set_option maxHeartbeats 4000000 in
theorem ropen_any (s : ByteArray) (w : World) (hs : s.size ≤ 2000000) :
    Calls Tryz.prog 19 #[.string s] w fun e w' => ROpenT (Mk.openM s) w e w' := by
  by_cases h9 : 9000 < s.size
  · have HX : Hid (Mk.openM s = none) := if_pos h9
    have h9' : (9000 : Int) < (s.size : Int) := by omega
    go_enter Tryz.func19, Tryz.ntmps19
    go_wp2
    go_ret2
    exact ropen_no HX.out (Below.refl _ _)
  · have h9' : ¬ (9000 : Int) < (s.size : Int) := by omega
    have HX : Hid (Mk.openM s = Mk.openG s (s.size + 1) 0 Mk.Mkt.new) := if_neg h9
    go_enter Tryz.func19, Tryz.ntmps19
    go_wp2_with fail
    refine (rnew_any w).mono ?_
    rintro e w1 ⟨p, b0, rfl, hR1, hn1, hb1⟩
    have HR1 : Hid (Ref w1 p b0 Mk.Mkt.new) := hR1
    have HN1 : Hid (∀ k, b0.has p k → w.heap.size ≤ k) := hn1
    have HB1 : Hid (Below w.heap.size w w1) := hb1
    clear hR1 hn1 hb1
    go_wp2_with fail
    go_loopw [5] (fun j wr => ∃ (i f k : Nat) (M : Mk.Mkt) (b : RB), j = .int .i64 i ∧ i ≤ s.size ∧ s.size < f + i ∧ k ≤ i ∧ Mk.openM s = Mk.openG s f i M ∧ AInv M k ∧ Ref wr p b M ∧ (∀ k, b.has p k → w.heap.size ≤ k) ∧ Below w.heap.size w wr) (fun j _ => s.size - (intOf j).toNat)
    case atStart => exact ⟨0, s.size + 1, 0, Mk.Mkt.new, b0, rfl, Nat.zero_le _, by omega, Nat.le_refl _, HX.out, all_new, HR1.out, HN1.out, HB1.out⟩
    case round =>
      obtain ⟨i, f, k, M, b, rfl, hi, hf, hk, hE, hA, hR, hn, hb⟩ := hrel
      have HE : Hid (Mk.openM s = Mk.openG s f i M) := hE
      have HA : Hid (AInv M k) := hA
      have HR : Hid (Ref wr p b M) := hR
      have HN : Hid (∀ k, b.has p k → w.heap.size ≤ k) := hn
      have Hb : Hid (Below w.heap.size w wr) := hb
      clear hE hA hR hn hb
      by_cases h2 : s.size < i + 2
      · have h2' : ¬ (2 : Int) ≤ (s.size : Int) - (i : Int) := by omega
        have HY : Hid (f ≠ 0 → Mk.openM s = some M) := fun hf0 => by
          obtain ⟨f', rfl⟩ := Nat.exists_eq_succ_of_ne_zero hf0
          rw [HE.out]; exact Mk.openG_end h2
        go_wp2
        go_ret2
        exact ropen_yes (HY.out (by omega)) HR.out HN.out Hb.out
      · have h2' : (2 : Int) ≤ (s.size : Int) - (i : Int) := by omega
        obtain ⟨f', rfl⟩ : ∃ f', f = f' + 1 := ⟨f - 1, by omega⟩
        have hi0 : i < s.size := by omega
        have hi1 : i + 1 < s.size := by omega
        have hi0' : (i : Int) < (s.size : Int) := by omega
        have hi1' : (i : Int) + 1 < (s.size : Int) := by omega
        have HB0 : Hid (s[i].toNat = Mk.bt s i) := Mk.bt_at hi0
        have HB1' : Hid (s[i + 1].toNat = Mk.bt s (i + 1)) := Mk.bt_at hi1
        have q0 : s[i].toNat < 256 := UInt8.toNat_lt _
        have q1 : s[i + 1].toNat < 256 := UInt8.toNat_lt _
        have HD : Hid (¬ (48 ≤ s[i].toNat ∧ s[i].toNat ≤ 57 ∧ 48 ≤ s[i + 1].toNat ∧ s[i + 1].toNat ≤ 57) → Mk.openM s = none) := fun h => by
          rw [HE.out]
          refine Mk.openG_bad h2 ?_
          rw [HB0.out, HB1'.out] at h
          unfold Mk.isD
          rw [Bool.eq_false_iff]
          intro h'
          simp only [Bool.and_eq_true, decide_eq_true_eq] at h'
          exact h ⟨h'.1.1, h'.1.2, h'.2.1, h'.2.2⟩
        by_cases g1 : (s[i].toNat : Int) < 48
        · go_wp2
          go_ret2
          exact ropen_no (HD.out (by omega)) Hb.out
        by_cases g2 : (57 : Int) < (s[i].toNat : Int)
        · go_wp2
          go_ret2
          exact ropen_no (HD.out (by omega)) Hb.out
        by_cases g3 : (s[i + 1].toNat : Int) < 48
        · go_wp2
          go_ret2
          exact ropen_no (HD.out (by omega)) Hb.out
        by_cases g4 : (57 : Int) < (s[i + 1].toNat : Int)
        · go_wp2
          go_ret2
          exact ropen_no (HD.out (by omega)) Hb.out
        have b0 : 0 ≤ (s[i].toNat : Int) - 48 ∧ (s[i].toNat : Int) - 48 ≤ 9 := by omega
        have b1 : 0 ≤ (s[i + 1].toNat : Int) - 48 ∧ (s[i + 1].toNat : Int) - 48 ≤ 9 := by omega
        go_upto_region 8 with fail
        go_quiet (fail)
        have hbq : Below wr.heap.size wr (wr.drewN nq) := below_drewN (Below.refl _ _) nq
        have HR1 : Hid (Ref (wr.drewN nq) p b M) := HR.out.below hbq
        have Hb1 : Hid (Below w.heap.size w (wr.drewN nq)) := Hb.out.trans (hbq.mono Hb.out.size)
        have hN : 10 * ((s[i].toNat : Int) - 48) + ((s[i + 1].toNat : Int) - 48) = (Mk.two s i : Int) := by
          unfold Mk.two
          rw [← HB0.out, ← HB1'.out]
          omega
        have HDg : Hid (¬ (Mk.isD s i && Mk.isD s (i + 1)) = false) := (by
          unfold Mk.isD
          rw [← HB0.out, ← HB1'.out]
          intro h'
          rw [Bool.eq_false_iff] at h'
          exact h' (by simp only [Bool.and_eq_true, decide_eq_true_eq]; omega) : ¬ (Mk.isD s i && Mk.isD s (i + 1)) = false)
        have hN99 : Mk.two s i ≤ 99 := by omega
        rw [hN]
        clear hN b0 b1 HB0 HB1' HD hbq HR Hb
        have H2 : Hid (¬ s.size < i + 2) := h2
        generalize wr.drewN nq = W1 at *
        generalize hNN : Mk.two s i = N at *
        have HNN : Hid (Mk.two s i = N) := hNN
        clear hNN
        by_cases hc : s.size < i + 2 + N
        · have hc' : (s.size : Int) - (i : Int) - 2 < (N : Int) := by omega
          have HY : Hid (Mk.openM s = some M) := (by rw [HE.out]; exact Mk.openG_cut H2.out HDg.out (by rw [HNN.out]; exact hc) : Mk.openM s = some M)
          go_wp2
          go_ret2
          exact ropen_yes HY.out HR1.out HN.out Hb1.out
        · have hc' : ¬ (s.size : Int) - (i : Int) - 2 < (N : Int) := by omega
          have HCc : Hid (¬ s.size < i + 2 + Mk.two s i) := (by rw [HNN.out]; exact hc : ¬ s.size < i + 2 + Mk.two s i)
          have HPc : Hid (Mk.piece s i = s.extract (i + 2) (i + 2 + N)) := (by unfold Mk.piece; rw [HNN.out] : Mk.piece s i = s.extract (i + 2) (i + 2 + N))
          have hps : (s.extract (i + 2) (i + 2 + N)).size ≤ 99 := by rw [ByteArray.size_extract]; omega
          go_upto_region 11 with fail
          generalize s.extract (i + 2) (i + 2 + N) = T at *
          go_wp2_with fail
          refine (read_any T W1 (by omega)).mono ?_
          rintro e w2 ⟨hb2, hm⟩
          have HB2 : Hid (Below w.heap.size w w2) := Hb1.out.trans (hb2.mono Hb1.out.size)
          have HR2 : Hid (Ref w2 p b M) := HR1.out.below hb2
          cases hrd : Mk.readP T with
          | none =>
            rw [hrd] at hm
            obtain ⟨i', j', t, a, l, c, m, rfl⟩ := hm
            have HY : Hid (Mk.openM s = none) := (by rw [HE.out]; exact Mk.openG_no H2.out HDg.out HCc.out (by rw [HPc.out]; exact hrd) : Mk.openM s = none)
            have HB3 : Hid (∀ ob n, Below w.heap.size w ((w2.alloc ob).drewN n)) := fun ob n => below_drewN (HB2.out.alloc HB2.out.size ob) n
            clear hrd hb2
            go_upto_region 12 with fail
            go_quiet (fail)
            go_wp2
            go_ret2
            exact ropen_no HY.out (HB3.out _ _)
          | some c =>
            rw [hrd] at hm
            obtain ⟨v, rfl, hown⟩ := hm
            obtain ⟨va, vc, rfl⟩ := own_form hown
            obtain ⟨hok, h20⟩ := Mk.read_ok hrd
            have HRd : Hid (Mk.readP (Mk.piece s i) = some c) := (by rw [HPc.out]; exact hrd : Mk.readP (Mk.piece s i) = some c)
            have HRdT : Hid (Mk.readP T = some c) := hrd
            clear hown hrd hb2
            obtain ⟨who, r, d, n, mc⟩ := c
            have hwho : who < 4 := hok.who
            have hr1 : 1 ≤ r ∧ r ≤ 99 := hok.r
            have hw' : (who : Int) < 4 := by omega
            have bl := HA.out.well.ls who hwho
            have HB3 : Hid (Below w.heap.size w (w2.alloc (.cells #[.int .i64 (who : Int), .int .i64 (r : Int), .string d.text, .slice va n.length vc, .bool mc] 83))) := HB2.out.alloc HB2.out.size _
            have HR3 : Hid (Ref (w2.alloc (.cells #[.int .i64 (who : Int), .int .i64 (r : Int), .string d.text, .slice va n.length vc, .bool mc] 83)) p b M) := HR2.out.below ((Below.refl _ _).alloc (Nat.le_refl _) _)
            have x0 : (w2.alloc (.cells #[.int .i64 (who : Int), .int .i64 (r : Int), .string d.text, .slice va n.length vc, .bool mc] 83)).cell? ⟨w2.heap.size, 0, none⟩ = some (.int .i64 (who : Int)) := by simp
            have x1 : (w2.alloc (.cells #[.int .i64 (who : Int), .int .i64 (r : Int), .string d.text, .slice va n.length vc, .bool mc] 83)).cell? ⟨w2.heap.size, 1, none⟩ = some (.int .i64 (r : Int)) := by simp
            clear hok
            go_upto_region 12 with fail
            generalize w2.alloc (.cells #[.int .i64 (who : Int), .int .i64 (r : Int), .string d.text, .slice va n.length vc, .bool mc] 83) = W3 at *
            generalize w2.heap.size = B at *
            have f6 := HR3.out.box.cell (i := 6) (by omega)
            have cl := HR3.out.lasts.cell hwho
            simp only [mktF] at f6
            have HB4 : Hid (∀ n, Below w.heap.size w (W3.drewN n)) := fun n => below_drewN HB3.out n
            by_cases h4 : (r : Int) = M.ls who + 1
            · have h4' : ((r : Int) != M.ls who + 1) = false := by rw [bne_eq_false_iff_eq]; exact h4
              have HY : Hid (Mk.openM s = Mk.openG s f' (i + 2 + N) (Mk.doM (Mk.allM M) M T).2.2) := (by rw [HE.out, Mk.openG_yes H2.out HDg.out HCc.out HRd.out h4, HPc.out, HNN.out] : Mk.openM s = Mk.openG s f' (i + 2 + N) (Mk.doM (Mk.allM M) M T).2.2)
              clear h4
              go_quiet (fail)
              have HR5 : Hid (Ref (W3.drewN nq) p b M) := HR3.out.below (below_drewN (Below.refl _ _) nq)
              have HB5 : Hid (Below w.heap.size w (W3.drewN nq)) := HB4.out nq
              clear f6 cl x0 x1 h4'
              generalize W3.drewN nq = W5 at *
              have HDo : Hid (Calls Tryz.prog 30 #[.pointer (some ⟨p, 0, none⟩), .string T] W5 fun e w' => DoT p b (Mk.doM (Mk.allM M) M T) W5 e w') :=
                do_any2 p b M T W5 (Mk.allM M) HA.out.well.ls (by have := HA.out.well.disk; omega) (by omega) HR5.out (fun c hc _ => ⟨(all_ls HA.out.sound HA.out.one (Mk.read_ok hc).1).2, fun W g cap hW hn hgn => all_does p b M c HA.out.sound HA.out.one (Mk.read_ok hc).1 W g cap hW hn hgn⟩)
              go_wp2_with fail
              refine HDo.out.mono ?_
              rintro e w6 ⟨rfl, b', hR6, ho6, hn6⟩
              have HR6 : Hid (Ref w6 p b' (Mk.doM (Mk.allM M) M T).2.2) := hR6
              have HN6 : Hid (∀ k, b'.has p k → w.heap.size ≤ k) := fun k hk' => by
                rcases hn6 k hk' with h | h
                · exact HN.out k h
                · exact Nat.le_trans HB5.out.size h
              have HB6 : Hid (Below w.heap.size w w6) := ⟨ho6.os.trans HB5.out.os, ho6.tape.trans HB5.out.tape, ho6.output.trans HB5.out.output, Nat.le_trans HB5.out.size ho6.size, fun k hk' => (ho6.block k (Nat.lt_of_lt_of_le hk' HB5.out.size) (fun h => by have := HN.out k h; omega)).trans (HB5.out.block k hk')⟩
              have HA6 : Hid (AInv (Mk.doM (Mk.allM M) M T).2.2 (k + 1)) := all_step T HA.out
              clear hR6 ho6 hn6
              go_wp2
              go_roundw
              case rel => exact ⟨i + 2 + N, f', k + 1, _, b', by go_num, by omega, by omega, by omega, HY.out, HA6.out, HR6.out, HN6.out, HB6.out⟩
              case measure => simp [intOf]; omega
            · have h4' : ((r : Int) != M.ls who + 1) = true := by rw [bne_iff_ne]; exact h4
              have HY : Hid (Mk.openM s = none) := (by rw [HE.out]; exact Mk.openG_gap H2.out HDg.out HCc.out HRd.out h4 : Mk.openM s = none)
              clear h4
              go_quiet (fail)
              go_wp2
              go_ret2
              exact ropen_no HY.out (HB4.out _)

end Go.Proofs.YtmebcdpdpcpnmaaGreatDoor
