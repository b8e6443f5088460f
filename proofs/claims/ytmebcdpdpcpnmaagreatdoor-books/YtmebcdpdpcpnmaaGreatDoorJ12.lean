import Derived.Test.YtmebcdpdpcpnmaaGreatDoorJ11
import Derived.Test.YtmebcdpdpcpnmaaGreatDoorJ6
import Derived.Orders
import Derived.Deep.Quiet
namespace Go.Proofs.YtmebcdpdpcpnmaaGreatDoor
open Go.RowKit

/-- what 'does' leaves: a text, an error, the market -/
def DoT (p : Nat) (b : RB) (x : ByteArray × Int × Mk.Mkt) (w : World) (e : Ending) (w' : World) : Prop :=
  e = .returned (.tuple #[.string x.1, .int .i64 x.2.1]) ∧ ∃ b', Ref w' p b' x.2.2 ∧ Only (b.has p) w w' ∧ ∀ k, b'.has p k → b.has p k ∨ w.heap.size ≤ k

theorem wt_pay : ((Mk.Wd.text .pay).toList == [112, 97, 121]) = true := by simp [Mk.Wd.text]
theorem wt_draw1 : ((Mk.Wd.text .draw).toList == [112, 97, 121]) = false := by simp [Mk.Wd.text]
theorem wt_draw2 : ((Mk.Wd.text .draw).toList == [100, 114, 97, 119]) = true := by simp [Mk.Wd.text]
theorem wt_bring1 : ((Mk.Wd.text .bring).toList == [112, 97, 121]) = false := by simp [Mk.Wd.text]
theorem wt_bring2 : ((Mk.Wd.text .bring).toList == [100, 114, 97, 119]) = false := by simp [Mk.Wd.text]
theorem wt_bring3 : ((Mk.Wd.text .bring).toList == [98, 114, 105, 110, 103]) = true := by simp [Mk.Wd.text]
theorem wt_fetch1 : ((Mk.Wd.text .fetch).toList == [112, 97, 121]) = false := by simp [Mk.Wd.text]
theorem wt_fetch2 : ((Mk.Wd.text .fetch).toList == [100, 114, 97, 119]) = false := by simp [Mk.Wd.text]
theorem wt_fetch3 : ((Mk.Wd.text .fetch).toList == [98, 114, 105, 110, 103]) = false := by simp [Mk.Wd.text]
theorem wt_fetch4 : ((Mk.Wd.text .fetch).toList == [102, 101, 116, 99, 104]) = true := by simp [Mk.Wd.text]
theorem doT_of {p : Nat} {b : RB} {x : Int × Mk.Mkt} {w w1 w2 : World} (hb : Below w.heap.size w w1) (hR : Ref w2 p b x.2) (ho : Only (b.has p) w1 w2) : DoT p b (⟨#[]⟩, x.1, x.2) w (.returned (.tuple #[.string ⟨#[]⟩, .int .i64 x.1])) w2 :=
  ⟨rfl, b, hR, (Only.of_below hb).trans ho (fun _ _ h => h), fun _ h => .inl h⟩

set_option maxRecDepth 100000 in
set_option maxHeartbeats 2000000 in
theorem does_pay (p g len cap : Nat) (b : RB) (M : Mk.Mkt) (who : Nat) (r n : Int) (mc : Bool) (w : World) (hM : M.Fine) (hR : Ref w p b M) (hw : who < 4) (hn : 0 ≤ n ∧ n ≤ 9999) (hl : 1 ≤ len) (hg : w.cell? ⟨g, 0, none⟩ = some (.int .i64 n)) :
    Calls Tryz.prog 50 #[.pointer (some ⟨p, 0, none⟩), cmdV who r .pay (.slice (some ⟨g, 0, none⟩) len cap) mc] w fun e w' => DoT p b (⟨#[]⟩, (Mk.payM M who n).1, (Mk.payM M who n).2) w e w' := by
  have HM : Hid M.Fine := hM
  have HR : Hid (Ref w p b M) := hR
  have hgl := blk_lt hg
  have HB : Hid (∀ ob, Below w.heap.size w (w.alloc ob)) := fun ob => (Below.refl _ _).alloc (Nat.le_refl _) ob
  have t0 := wt_pay
  clear hM hR
  go_enter Tryz.func50, Tryz.ntmps50
  go_wp2_with fail
  refine (money_pay p g len cap b M who r n mc _ HM.out (HR.out.below (HB.out _)) hw hn hl (((HB.out _).cell (p := ⟨g, 0, none⟩) hgl).trans hg)).mono ?_
  rintro e w2 ⟨rfl, hR2, ho⟩
  have HD : Hid (DoT p b (⟨#[]⟩, (Mk.payM M who n).1, (Mk.payM M who n).2) w (.returned (.tuple #[.string ⟨#[]⟩, .int .i64 (Mk.payM M who n).1])) w2) := doT_of (HB.out _) hR2 ho
  clear hR2 ho
  go_wp2_with fail
  refine bodyPost_ret (v := .tuple #[.string ⟨#[]⟩, .int .i64 (Mk.payM M who n).1]) ?_ rfl HD.out
  simp [results, Tryz.results50, go_sem]

set_option maxRecDepth 100000 in
set_option maxHeartbeats 2000000 in
theorem does_draw (p g len cap : Nat) (b : RB) (M : Mk.Mkt) (who : Nat) (r n : Int) (mc : Bool) (w : World) (hM : M.Fine) (hR : Ref w p b M) (hw : who < 4) (hn : 0 ≤ n ∧ n ≤ 9999) (hl : 1 ≤ len) (hg : w.cell? ⟨g, 0, none⟩ = some (.int .i64 n)) :
    Calls Tryz.prog 50 #[.pointer (some ⟨p, 0, none⟩), cmdV who r .draw (.slice (some ⟨g, 0, none⟩) len cap) mc] w fun e w' => DoT p b (⟨#[]⟩, (Mk.drawM M who n).1, (Mk.drawM M who n).2) w e w' := by
  have HM : Hid M.Fine := hM
  have HR : Hid (Ref w p b M) := hR
  have hgl := blk_lt hg
  have HB : Hid (∀ ob, Below w.heap.size w (w.alloc ob)) := fun ob => (Below.refl _ _).alloc (Nat.le_refl _) ob
  have t0 := wt_draw1
  have t1 := wt_draw2
  clear hM hR
  go_enter Tryz.func50, Tryz.ntmps50
  go_wp2_with fail
  refine (money_draw p g len cap b M who r n mc _ HM.out (HR.out.below (HB.out _)) hw hn hl (((HB.out _).cell (p := ⟨g, 0, none⟩) hgl).trans hg)).mono ?_
  rintro e w2 ⟨rfl, hR2, ho⟩
  have HD : Hid (DoT p b (⟨#[]⟩, (Mk.drawM M who n).1, (Mk.drawM M who n).2) w (.returned (.tuple #[.string ⟨#[]⟩, .int .i64 (Mk.drawM M who n).1])) w2) := doT_of (HB.out _) hR2 ho
  clear hR2 ho
  go_wp2_with fail
  refine bodyPost_ret (v := .tuple #[.string ⟨#[]⟩, .int .i64 (Mk.drawM M who n).1]) ?_ rfl HD.out
  simp [results, Tryz.results50, go_sem]

set_option maxRecDepth 100000 in
set_option maxHeartbeats 2000000 in
theorem does_bring (p g len cap : Nat) (b : RB) (M : Mk.Mkt) (who u : Nat) (r n : Int) (mc : Bool) (w : World) (hM : M.Fine) (hR : Ref w p b M) (hw : who < 4) (hu : u < 2) (hn : 0 ≤ n ∧ n ≤ 9999) (hl : 2 ≤ len) (hg : w.cell? ⟨g, 0, none⟩ = some (.int .i64 (u : Int))) (hg1 : w.cell? ⟨g, 1, none⟩ = some (.int .i64 n)) :
    Calls Tryz.prog 50 #[.pointer (some ⟨p, 0, none⟩), cmdV who r .bring (.slice (some ⟨g, 0, none⟩) len cap) mc] w fun e w' => DoT p b (⟨#[]⟩, (Mk.bringM M u who n).1, (Mk.bringM M u who n).2) w e w' := by
  have HM : Hid M.Fine := hM
  have HR : Hid (Ref w p b M) := hR
  have hgl := blk_lt hg
  have HB : Hid (∀ ob, Below w.heap.size w (w.alloc ob)) := fun ob => (Below.refl _ _).alloc (Nat.le_refl _) ob
  have t0 := wt_bring1
  have t1 := wt_bring2
  have t2 := wt_bring3
  clear hM hR
  go_enter Tryz.func50, Tryz.ntmps50
  go_wp2_with fail
  refine (goods_bring p g len cap b M who u r n mc _ HM.out (HR.out.below (HB.out _)) hw hu hn hl (((HB.out _).cell (p := ⟨g, 0, none⟩) hgl).trans hg) (((HB.out _).cell (p := ⟨g, 1, none⟩) hgl).trans hg1)).mono ?_
  rintro e w2 ⟨rfl, hR2, ho⟩
  have HD : Hid (DoT p b (⟨#[]⟩, (Mk.bringM M u who n).1, (Mk.bringM M u who n).2) w (.returned (.tuple #[.string ⟨#[]⟩, .int .i64 (Mk.bringM M u who n).1])) w2) := doT_of (HB.out _) hR2 ho
  clear hR2 ho
  go_wp2_with fail
  refine bodyPost_ret (v := .tuple #[.string ⟨#[]⟩, .int .i64 (Mk.bringM M u who n).1]) ?_ rfl HD.out
  simp [results, Tryz.results50, go_sem]

set_option maxRecDepth 100000 in
set_option maxHeartbeats 2000000 in
theorem does_fetch (p g len cap : Nat) (b : RB) (M : Mk.Mkt) (who u : Nat) (r n : Int) (mc : Bool) (w : World) (hM : M.Fine) (hR : Ref w p b M) (hw : who < 4) (hu : u < 2) (hn : 0 ≤ n ∧ n ≤ 9999) (hl : 2 ≤ len) (hg : w.cell? ⟨g, 0, none⟩ = some (.int .i64 (u : Int))) (hg1 : w.cell? ⟨g, 1, none⟩ = some (.int .i64 n)) :
    Calls Tryz.prog 50 #[.pointer (some ⟨p, 0, none⟩), cmdV who r .fetch (.slice (some ⟨g, 0, none⟩) len cap) mc] w fun e w' => DoT p b (⟨#[]⟩, (Mk.fetchM M u who n).1, (Mk.fetchM M u who n).2) w e w' := by
  have HM : Hid M.Fine := hM
  have HR : Hid (Ref w p b M) := hR
  have hgl := blk_lt hg
  have HB : Hid (∀ ob, Below w.heap.size w (w.alloc ob)) := fun ob => (Below.refl _ _).alloc (Nat.le_refl _) ob
  have t0 := wt_fetch1
  have t1 := wt_fetch2
  have t2 := wt_fetch3
  have t3 := wt_fetch4
  clear hM hR
  go_enter Tryz.func50, Tryz.ntmps50
  go_wp2_with fail
  refine (goods_fetch p g len cap b M who u r n mc _ HM.out (HR.out.below (HB.out _)) hw hu hn hl (((HB.out _).cell (p := ⟨g, 0, none⟩) hgl).trans hg) (((HB.out _).cell (p := ⟨g, 1, none⟩) hgl).trans hg1)).mono ?_
  rintro e w2 ⟨rfl, hR2, ho⟩
  have HD : Hid (DoT p b (⟨#[]⟩, (Mk.fetchM M u who n).1, (Mk.fetchM M u who n).2) w (.returned (.tuple #[.string ⟨#[]⟩, .int .i64 (Mk.fetchM M u who n).1])) w2) := doT_of (HB.out _) hR2 ho
  clear hR2 ho
  go_wp2_with fail
  refine bodyPost_ret (v := .tuple #[.string ⟨#[]⟩, .int .i64 (Mk.fetchM M u who n).1]) ?_ rfl HD.out
  simp [results, Tryz.results50, go_sem]

end Go.Proofs.YtmebcdpdpcpnmaaGreatDoor

/- Plain mathematics of the document's market: what a command that was read is like. -/
namespace Mk

theorem fitTo_yes {l : List ByteArray} {d : Wd} : ∀ {m k : Nat}, fitTo l d m = true → k < m → numB (wrd l k) (nth d.lo k) (nth d.hi k) = true
  | 0, k, _, hk => by omega
  | m + 1, k, h, hk => by
    simp only [fitTo, Bool.and_eq_true] at h
    by_cases e : k = m
    · subst e; exact h.2
    · exact fitTo_yes h.1 (by omega)
theorem numB_le {s : ByteArray} {lo hi : Nat} (h : numB s lo hi = true) : lo ≤ numV s ∧ numV s ≤ hi := by
  simp only [numB, Bool.and_eq_true, decide_eq_true_eq] at h
  exact ⟨h.1.2, h.2⟩

structure Cmd.Ok (c : Cmd) : Prop where
  who : c.who < 4
  r : 1 ≤ c.r ∧ c.r ≤ 99
  len : c.n.length = c.d.lo.length
  num : ∀ i, i < c.n.length → nth c.d.lo i ≤ nth c.n i ∧ nth c.n i ≤ nth c.d.hi i

theorem read_ok {s : ByteArray} {c : Cmd} (h : readP s = some c) : c.Ok ∧ s.size ≤ 20 := by
  unfold readP at h
  split at h
  · cases h
  · rename_i h20
    split at h
    · cases h
    · split at h
      · cases h
      · rename_i d hd
        split at h
        · rename_i hc
          simp only [Bool.and_eq_true] at hc
          obtain ⟨⟨⟨h0, h1⟩, _⟩, hf⟩ := hc
          cases h
          simp only [fits, Bool.and_eq_true, decide_eq_true_eq] at hf
          refine ⟨⟨?_, ?_, ?_, ?_⟩, by omega⟩
          · have := numB_le h0; show numV _ < 4; omega
          · exact numB_le h1
          · show (List.map numV _).length = _; rw [List.length_map]; exact hf.1
          · intro i hi
            have hi' : i < (args d ((words s).drop 3)).length := by simpa using hi
            have := numB_le (fitTo_yes hf.2 hi')
            rw [wrd_at hi'] at this
            show nth d.lo i ≤ nth (List.map numV _) i ∧ nth (List.map numV _) i ≤ nth d.hi i
            rw [nth_at (l := List.map numV (args d ((words s).drop 3))) (by rw [List.length_map]; exact hi')]
            simpa using this
        · cases h

end Mk

namespace Go.Proofs.YtmebcdpdpcpnmaaGreatDoor
open Go.RowKit

/-- the frame that a command is kept in -/
def Mk.frame (s : ByteArray) : ByteArray := ⟨#[UInt8.ofNat (48 + s.size / 10), UInt8.ofNat (48 + s.size % 10)]⟩
/-- Do: P8, P9 (X: what a command that is next does) -/
def Mk.doM (X : Mk.Cmd → ByteArray × Int × Mk.Mkt) (M : Mk.Mkt) (s : ByteArray) : ByteArray × Int × Mk.Mkt :=
  match Mk.readP s with
  | none => (⟨#[]⟩, 2, M)
  | some c =>
    if (c.r : Int) = M.ls c.who then (M.tx c.who, M.er c.who, M)
    else if (c.r : Int) < M.ls c.who then (⟨#[]⟩, 3, M)
    else if M.ls c.who + 1 < (c.r : Int) then (⟨#[]⟩, 4, M)
    else ((X c).1, (X c).2.1, { (X c).2.2 with ls := upd (X c).2.2.ls c.who c.r, tx := upd (X c).2.2.tx c.who (X c).1, er := upd (X c).2.2.er c.who (X c).2.1, disk := (X c).2.2.disk ++ Mk.frame s ++ s })

theorem doT_same {p : Nat} {b : RB} {M : Mk.Mkt} {w w' : World} {t : ByteArray} {e : Int} (hR : Ref w p b M) (hb : Below w.heap.size w w') : DoT p b (t, e, M) w (.returned (.tuple #[.string t, .int .i64 e])) w' :=
  ⟨rfl, b, hR.below hb, Only.of_below hb, fun _ h => .inl h⟩

theorem Only.cell {S : Nat → Prop} {w w' : World} (h : Only S w w') {k i : Nat} (hk : k < w.heap.size) (hn : ¬ S k) : w'.cell? ⟨k, i, none⟩ = w.cell? ⟨k, i, none⟩ := World.cell?_of_block (w := w) (h.block k hk hn)

/-- string([]byte{a, b}), two digits -/
theorem conv_two (w : World) (s : ByteArray) (h : s.size ≤ 20) : (convert 114 9 (.slice (some ⟨w.heap.size, 0, none⟩) 2 2)).run Tryz.prog (w.alloc (.cells #[.int .u8 (48 + (s.size : Int) / 10), .int .u8 (48 + (s.size : Int) % 10)] 5)) = .ok (.string (Mk.frame s)) (w.alloc (.cells #[.int .u8 (48 + (s.size : Int) / 10), .int .u8 (48 + (s.size : Int) % 10)] 5)) := by
  refine run_convert_bytes_back (w.alloc (.cells #[.int .u8 (48 + (s.size : Int) / 10), .int .u8 (48 + (s.size : Int) % 10)] 5)) 114 9 5 ⟨w.heap.size, 0, none⟩ 2 [UInt8.ofNat (48 + s.size / 10), UInt8.ofNat (48 + s.size % 10)] Tryz.underlying114 Tryz.underlying5 Tryz.underlying9 (fun j hj => ?_)
  have e1 : ((UInt8.ofNat (48 + s.size / 10)).toNat : Int) = 48 + (s.size : Int) / 10 := by
    rw [UInt8.toNat_ofNat']
    omega
  have e2 : ((UInt8.ofNat (48 + s.size % 10)).toNat : Int) = 48 + (s.size : Int) % 10 := by
    rw [UInt8.toNat_ofNat']
    omega
  have : j = 0 ∨ j = 1 := by simp at hj; omega
  rcases this with rfl | rfl
  · simp only [List.getElem_cons_zero, e1]
    simp [Addr.add]
  · simp only [List.getElem_cons_succ, List.getElem_cons_zero, e2]
    simp [Addr.add]
theorem frame_size (s : ByteArray) : (Mk.frame s).size = 2 := rfl

set_option maxRecDepth 100000 in
set_option maxHeartbeats 2000000 in
theorem do_any2 (p : Nat) (b : RB) (M : Mk.Mkt) (s : ByteArray) (w : World) (X : Mk.Cmd → ByteArray × Int × Mk.Mkt) (hls : ∀ c, c < 4 → 0 ≤ M.ls c ∧ M.ls c ≤ 99) (hd : M.disk.size ≤ 100000000) (hs : s.size ≤ 2000000) (hR : Ref w p b M)
    (hX : ∀ c, Mk.readP s = some c → (c.r : Int) = M.ls c.who + 1 → (X c).2.2.disk = M.disk ∧ ∀ W g cap, Ref W p b M → (∀ (i : Nat) (h : i < c.n.length), W.cell? ⟨g, i, none⟩ = some (.int .i64 (c.n[i] : Int))) → ¬ b.has p g →
      Calls Tryz.prog 50 #[.pointer (some ⟨p, 0, none⟩), cmdV c.who c.r c.d (.slice (some ⟨g, 0, none⟩) c.n.length cap) c.mc] W fun e w' => DoT p b (X c) W e w') :
    Calls Tryz.prog 30 #[.pointer (some ⟨p, 0, none⟩), .string s] w fun e w' => DoT p b (Mk.doM X M s) w e w' := by
  have HR : Hid (Ref w p b M) := hR
  have HX : Hid (∀ c, Mk.readP s = some c → (c.r : Int) = M.ls c.who + 1 → (X c).2.2.disk = M.disk ∧ ∀ W g cap, Ref W p b M → (∀ (i : Nat) (h : i < c.n.length), W.cell? ⟨g, i, none⟩ = some (.int .i64 (c.n[i] : Int))) → ¬ b.has p g →
      Calls Tryz.prog 50 #[.pointer (some ⟨p, 0, none⟩), cmdV c.who c.r c.d (.slice (some ⟨g, 0, none⟩) c.n.length cap) c.mc] W fun e w' => DoT p b (X c) W e w') := hX
  clear hX hR
  go_enter Tryz.func30, Tryz.ntmps30
  go_wp2_with fail
  refine (read_any s w hs).mono ?_
  rintro e w1 ⟨hb1, hm⟩
  have HB1 : Hid (Below w.heap.size w w1) := hb1
  cases hrd : Mk.readP s with
  | none =>
    rw [hrd] at hm
    obtain ⟨i, j, t, a, l, c, m, rfl⟩ := hm
    have HD : Hid (Mk.doM X M s = (⟨#[]⟩, 2, M)) := (by unfold Mk.doM; rw [hrd] : Mk.doM X M s = (⟨#[]⟩, 2, M))
    clear hrd hb1
    go_wp2_with fail
    rw [HD.out]
    refine bodyPost_ret (v := .tuple #[.string ⟨#[]⟩, .int .i64 2]) ?_ rfl (doT_same HR.out ?_)
    · simp [results, Tryz.results30, go_sem]
    · exact HB1.out.alloc HB1.out.size _
  | some c =>
    rw [hrd] at hm
    obtain ⟨v, rfl, hown⟩ := hm
    obtain ⟨hok, h20⟩ := Mk.read_ok hrd
    have hlen : 1 ≤ c.n.length := by rw [hok.len]; cases c.d <;> simp [Mk.Wd.lo]
    have hcells : ∀ g, (∃ cap cur, w1.heap[g]? = some (.cells cur 3 (0, 0)) ∧ c.n.length ≤ cap ∧ cur.size = cap * 1 ∧ cur.toList.take (c.n.length * 1) = c.n.map fun (x : Nat) => Value.int .i64 (x : Int)) → ∀ (i : Nat) (h : i < c.n.length), w1.cell? ⟨g, i, none⟩ = some (.int .i64 (c.n[i] : Int)) := by
      rintro g ⟨cap, cur, hgc, hcap, hsz, htk⟩ i hi
      have e1 : (cur.toList.take (c.n.length * 1))[i]? = some (.int .i64 (c.n[i] : Int)) := by rw [htk, List.getElem?_map, List.getElem?_eq_getElem hi]; rfl
      rw [List.getElem?_take_of_lt (by omega)] at e1
      simp [World.cell?, hgc]
      simpa using e1
    have HC : Hid (Mk.readP s = some c) := hrd
    rcases hown.2 with ⟨_, h0⟩ | ⟨g, cap, cur, rfl, hg0, hgc, hcap, hmx, hsz, htk⟩
    · omega
    · have HN : Hid (∀ (i : Nat) (h : i < c.n.length), w1.cell? ⟨g, i, none⟩ = some (.int .i64 (c.n[i] : Int))) := hcells g ⟨cap, cur, hgc, hcap, hsz, htk⟩
      have HGn : Hid (¬ b.has p g) := fun h => by have := HR.out.lt h; omega
      have hgl : g < w1.heap.size := (Array.getElem?_eq_some_iff.1 hgc).1
      clear hcells hgc hcap hmx hsz htk hown hrd
      obtain ⟨who, r, d, n, mc⟩ := c
      have hwho : who < 4 := hok.who
      have hr1 : 1 ≤ r ∧ r ≤ 99 := hok.r
      have hw' : (who : Int) < 4 := by omega
      have bl := hls who hwho
      have HB2 : Hid (Below w.heap.size w (w1.alloc (.cells #[.int .i64 (who : Int), .int .i64 (r : Int), .string d.text, .slice (some ⟨g, 0, none⟩) n.length cap, .bool mc] 83))) := HB1.out.alloc HB1.out.size _
      have HR2 : Hid (Ref (w1.alloc (.cells #[.int .i64 (who : Int), .int .i64 (r : Int), .string d.text, .slice (some ⟨g, 0, none⟩) n.length cap, .bool mc] 83)) p b M) := HR.out.below HB2.out
      have HX2 : Hid (∀ i u, (#[.int .i64 (who : Int), .int .i64 (r : Int), .string d.text, .slice (some ⟨g, 0, none⟩) n.length cap, .bool mc] : Array Value)[i]? = some u → (w1.alloc (.cells #[.int .i64 (who : Int), .int .i64 (r : Int), .string d.text, .slice (some ⟨g, 0, none⟩) n.length cap, .bool mc] 83)).cell? ⟨w1.heap.size, i, none⟩ = some u) := fun i u h => by simpa using h
      have HN2 : Hid (∀ (i : Nat) (h : i < n.length), (w1.alloc (.cells #[.int .i64 (who : Int), .int .i64 (r : Int), .string d.text, .slice (some ⟨g, 0, none⟩) n.length cap, .bool mc] 83)).cell? ⟨g, i, none⟩ = some (.int .i64 (n[i] : Int))) := fun i h => (((Below.refl _ _).alloc (Nat.le_refl _) _ : Below w1.heap.size w1 _).cell (p := ⟨g, i, none⟩) hgl).trans (HN.out i h)
      have hwB : w.heap.size ≤ w1.heap.size := HB1.out.size
      have HwB : Hid (w1.heap.size < (w1.alloc (.cells #[.int .i64 (who : Int), .int .i64 (r : Int), .string d.text, .slice (some ⟨g, 0, none⟩) n.length cap, .bool mc] 83)).heap.size) := (by simp : w1.heap.size < (w1.alloc (.cells #[.int .i64 (who : Int), .int .i64 (r : Int), .string d.text, .slice (some ⟨g, 0, none⟩) n.length cap, .bool mc] 83)).heap.size)
      clear hok hlen HN hgl hb1
      go_wp2_with fail
      generalize w1.alloc (.cells #[.int .i64 (who : Int), .int .i64 (r : Int), .string d.text, .slice (some ⟨g, 0, none⟩) n.length cap, .bool mc] 83) = W2 at *
      generalize w1.heap.size = B at *
      have x0 := HX2.out 0 _ rfl
      have f6 := HR2.out.box.cell (i := 6) (by omega)
      have cl := HR2.out.lasts.cell hwho
      simp only [mktF] at f6
      go_quiet (fail)
      have hbq : Below W2.heap.size W2 (W2.drewN nq) := below_drewN (Below.refl _ _) nq
      have HB3 : Hid (Below w.heap.size w (W2.drewN nq)) := HB2.out.trans (hbq.mono HB2.out.size)
      have HR3 : Hid (Ref (W2.drewN nq) p b M) := HR2.out.below hbq
      have HX3 : Hid (∀ i u, (#[.int .i64 (who : Int), .int .i64 (r : Int), .string d.text, .slice (some ⟨g, 0, none⟩) n.length cap, .bool mc] : Array Value)[i]? = some u → (W2.drewN nq).cell? ⟨B, i, none⟩ = some u) := fun i u h => (hbq.cell (p := ⟨B, i, none⟩) HwB.out).trans (HX2.out i u h)
      have HN3 : Hid (∀ (i : Nat) (h : i < n.length), (W2.drewN nq).cell? ⟨g, i, none⟩ = some (.int .i64 (n[i] : Int))) := fun i h => (hbq.cell (p := ⟨g, i, none⟩) (blk_lt (HN2.out i h))).trans (HN2.out i h)
      have HwB3 : Hid (B < (W2.drewN nq).heap.size) := Nat.lt_of_lt_of_le HwB.out hbq.size
      generalize W2.drewN nq = W3 at *
      clear hbq f6 cl x0 HR2 HX2 HN2 HB2 HwB
      have x0 := HX3.out 0 _ rfl
      have x1 := HX3.out 1 _ rfl
      by_cases h1 : (r : Int) = M.ls who
      · have HD : Hid (Mk.doM X M s = (M.tx who, M.er who, M)) := (by unfold Mk.doM; rw [HC.out]; exact if_pos h1 : Mk.doM X M s = (M.tx who, M.er who, M))
        have h1' : ((r : Int) == M.ls who) = true := by rw [beq_iff_eq]; exact h1
        have f7 := HR3.out.box.cell (i := 7) (by omega)
        have f8 := HR3.out.box.cell (i := 8) (by omega)
        have c7 := HR3.out.texts.cell hwho
        have c8 := HR3.out.errs.cell hwho
        simp only [mktF] at f7 f8
        clear h1
        go_wp2_with fail
        go_quiet (fail)
        have HB4 : Hid (Below w.heap.size w (W3.drewN nq)) := below_drewN HB3.out nq
        generalize W3.drewN nq = W4 at *
        go_wp2_with fail
        rw [HD.out]
        refine bodyPost_ret (v := .tuple #[.string (M.tx who), .int .i64 (M.er who)]) ?_ rfl (doT_same HR.out HB4.out)
        simp [results, Tryz.results30, go_sem]
      · have h1' : ((r : Int) == M.ls who) = false := by rw [beq_eq_false_iff_ne]; exact h1
        by_cases h2 : (r : Int) < M.ls who
        · have HD : Hid (Mk.doM X M s = (⟨#[]⟩, 3, M)) := (by unfold Mk.doM; rw [HC.out]; exact (if_neg h1).trans (if_pos h2) : Mk.doM X M s = (⟨#[]⟩, 3, M))
          clear h1
          go_wp2_with fail
          rw [HD.out]
          refine bodyPost_ret (v := .tuple #[.string ⟨#[]⟩, .int .i64 3]) ?_ rfl (doT_same HR.out HB3.out)
          simp [results, Tryz.results30, go_sem]
        · by_cases h3 : M.ls who + 1 < (r : Int)
          · have HD : Hid (Mk.doM X M s = (⟨#[]⟩, 4, M)) := (by unfold Mk.doM; rw [HC.out]; exact (if_neg h1).trans ((if_neg h2).trans (if_pos h3)) : Mk.doM X M s = (⟨#[]⟩, 4, M))
            clear h1
            go_wp2_with fail
            rw [HD.out]
            refine bodyPost_ret (v := .tuple #[.string ⟨#[]⟩, .int .i64 4]) ?_ rfl (doT_same HR.out HB3.out)
            simp [results, Tryz.results30, go_sem]
          · have hnext : (r : Int) = M.ls who + 1 := by omega
            have hq := HX.out ⟨who, r, d, n, mc⟩ HC.out hnext
            have hD : Mk.doM X M s = ((X ⟨who, r, d, n, mc⟩).1, (X ⟨who, r, d, n, mc⟩).2.1, { (X ⟨who, r, d, n, mc⟩).2.2 with ls := upd (X ⟨who, r, d, n, mc⟩).2.2.ls who r, tx := upd (X ⟨who, r, d, n, mc⟩).2.2.tx who (X ⟨who, r, d, n, mc⟩).1, er := upd (X ⟨who, r, d, n, mc⟩).2.2.er who (X ⟨who, r, d, n, mc⟩).2.1, disk := (X ⟨who, r, d, n, mc⟩).2.2.disk ++ Mk.frame s ++ s }) := by
              unfold Mk.doM; rw [HC.out]; exact (if_neg h1).trans ((if_neg h2).trans (if_neg h3))
            clear h1 HX hnext
            generalize X ⟨who, r, d, n, mc⟩ = x at *
            obtain ⟨t, er, M'⟩ := x
            have HQ : Hid (M'.disk = M.disk ∧ ∀ W g cap, Ref W p b M → (∀ (i : Nat) (h : i < n.length), W.cell? ⟨g, i, none⟩ = some (.int .i64 (n[i] : Int))) → ¬ b.has p g →
              Calls Tryz.prog 50 #[.pointer (some ⟨p, 0, none⟩), cmdV who r d (.slice (some ⟨g, 0, none⟩) n.length cap) mc] W fun e w' => DoT p b (t, er, M') W e w') := hq
            have HD : Hid (Mk.doM X M s = (t, er, { M' with ls := upd M'.ls who r, tx := upd M'.tx who t, er := upd M'.er who er, disk := M'.disk ++ Mk.frame s ++ s })) := hD
            clear hq hD
            have x2 := HX3.out 2 _ rfl
            have x3 := HX3.out 3 _ rfl
            have x4 := HX3.out 4 _ rfl
            go_wp2_with fail
            refine (HQ.out.2 W3 g cap HR3.out HN3.out HGn.out).mono ?_
            rintro e W5 ⟨rfl, b', hR5, ho5, hnew⟩
            have nB0 : ¬ b.has p B := fun h => by have := HR.out.lt h; omega
            have nB : ¬ b'.has p B := fun h => by
              rcases hnew B h with h | h
              · exact nB0 h
              · have := HwB3.out; omega
            have HnB : Hid (¬ b'.has p B) := nB
            have HR5 : Hid (Ref W5 p b' M') := hR5
            have HO5 : Hid (Only (b.has p) W3 W5) := ho5
            have HNew : Hid (∀ k, b'.has p k → b.has p k ∨ W3.heap.size ≤ k) := hnew
            have HX5 : Hid (∀ i u, (#[.int .i64 (who : Int), .int .i64 (r : Int), .string d.text, .slice (some ⟨g, 0, none⟩) n.length cap, .bool mc] : Array Value)[i]? = some u → W5.cell? ⟨B, i, none⟩ = some u) := fun i u h => (ho5.cell HwB3.out nB0).trans (HX3.out i u h)
            have HwB5 : Hid (B < W5.heap.size) := Nat.lt_of_lt_of_le HwB3.out ho5.size
            clear hR5 ho5 hnew nB nB0 x0 x1 x2 x3 x4
            have x0 := HX5.out 0 _ rfl
            have x1 := HX5.out 1 _ rfl
            have f6 := HR5.out.box.cell (i := 6) (by omega)
            have cl := HR5.out.lasts.cell hwho
            have z6 := HR5.out.lasts.frozen who
            simp only [mktF] at f6
            go_wp2_with fail
            go_region
            have HR6 : Hid (Ref ((W5.setCell ⟨b'.bL, who, none⟩ (.int .i64 (r : Int))).drew) p b' { M' with ls := upd M'.ls who r }) := (HR5.out.setLs who _).below (Below.refl _ _).drew
            have HO6 : Hid (Only (b'.has p) W5 ((W5.setCell ⟨b'.bL, who, none⟩ (.int .i64 (r : Int))).drew)) := ((Only.refl _ _).set (.inr (.inr (.inr (.inr (.inr (.inr (.inr (.inl rfl)))))))) _).next (Below.refl _ _).drew
            generalize (W5.setCell ⟨b'.bL, who, none⟩ (.int .i64 (r : Int))).drew = W6 at *
            have HX6 : Hid (∀ i u, (#[.int .i64 (who : Int), .int .i64 (r : Int), .string d.text, .slice (some ⟨g, 0, none⟩) n.length cap, .bool mc] : Array Value)[i]? = some u → W6.cell? ⟨B, i, none⟩ = some u) := fun i u h => (HO6.out.cell HwB5.out HnB.out).trans (HX5.out i u h)
            have HwB6 : Hid (B < W6.heap.size) := Nat.lt_of_lt_of_le HwB5.out HO6.out.size
            clear x0 x1 f6 cl z6
            have x0 := HX6.out 0 _ rfl
            have f7 := HR6.out.box.cell (i := 7) (by omega)
            have cl := HR6.out.texts.cell hwho
            have z7 := HR6.out.texts.frozen who
            simp only [mktF] at f7
            go_wp2_with fail
            go_region
            have HR7 : Hid (Ref ((W6.setCell ⟨b'.bT, who, none⟩ (.string t)).drew) p b' { M' with ls := upd M'.ls who r, tx := upd M'.tx who t }) := (HR6.out.setTx who _).below (Below.refl _ _).drew
            have HO7 : Hid (Only (b'.has p) W6 ((W6.setCell ⟨b'.bT, who, none⟩ (.string t)).drew)) := ((Only.refl _ _).set (.inr (.inr (.inr (.inr (.inr (.inr (.inr (.inr (.inl rfl))))))))) _).next (Below.refl _ _).drew
            generalize (W6.setCell ⟨b'.bT, who, none⟩ (.string t)).drew = W7 at *
            have HX7 : Hid (∀ i u, (#[.int .i64 (who : Int), .int .i64 (r : Int), .string d.text, .slice (some ⟨g, 0, none⟩) n.length cap, .bool mc] : Array Value)[i]? = some u → W7.cell? ⟨B, i, none⟩ = some u) := fun i u h => (HO7.out.cell HwB6.out HnB.out).trans (HX6.out i u h)
            have HwB7 : Hid (B < W7.heap.size) := Nat.lt_of_lt_of_le HwB6.out HO7.out.size
            clear x0 f7 cl z7
            have x0 := HX7.out 0 _ rfl
            have f8 := HR7.out.box.cell (i := 8) (by omega)
            have cl := HR7.out.errs.cell hwho
            have z8 := HR7.out.errs.frozen who
            simp only [mktF] at f8
            go_wp2_with fail
            go_region
            have HR8 : Hid (Ref ((W7.setCell ⟨b'.bE, who, none⟩ (.int .i64 er)).drew) p b' { M' with ls := upd M'.ls who r, tx := upd M'.tx who t, er := upd M'.er who er }) := (HR7.out.setEr who _).below (Below.refl _ _).drew
            have HO8 : Hid (Only (b'.has p) W7 ((W7.setCell ⟨b'.bE, who, none⟩ (.int .i64 er)).drew)) := ((Only.refl _ _).set (.inr (.inr (.inr (.inr (.inr (.inr (.inr (.inr (.inr (.inl rfl)))))))))) _).next (Below.refl _ _).drew
            generalize (W7.setCell ⟨b'.bE, who, none⟩ (.int .i64 er)).drew = W8 at *
            clear x0 f8 cl z8
            have f9 := HR8.out.box.cell (i := 9) (by omega)
            have z9 := HR8.out.box.frozen 9
            simp only [mktF] at f9
            have hdk : M'.disk.size ≤ 100000000 := by rw [HQ.out.1]; exact hd
            have hcv : (convert 114 9 (.slice (some ⟨W8.heap.size, 0, none⟩) 2 2)).run Tryz.prog ((W8.alloc (.cells #[.int .u8 (48 + (s.size : Int) / 10), .int .u8 (48 + (s.size : Int) % 10)] 5)).drew) = .ok (.string (Mk.frame s)) ((W8.alloc (.cells #[.int .u8 (48 + (s.size : Int) / 10), .int .u8 (48 + (s.size : Int) % 10)] 5)).drew) := conv_two W8.drew s h20
            have hfs := frame_size s
            have ha1 : ∀ w : World, (Op.stringOp .add M'.disk (Mk.frame s)).run Tryz.prog w = .ok (.string (M'.disk ++ Mk.frame s)) w := fun w => run_string_add_sum w _ _ (by omega)
            have ha2 : ∀ w : World, (Op.stringOp .add (M'.disk ++ Mk.frame s) s).run Tryz.prog w = .ok (.string (M'.disk ++ Mk.frame s ++ s)) w := fun w => run_string_add_sum w _ _ (by rw [ByteArray.size_append]; omega)
            have hpl := HR8.out.box.lt
            have h20' : (s.size : Int) ≤ 20 := by omega
            have hs0 : (0 : Int) ≤ (s.size : Int) := by omega
            clear hdk hfs h20 hs
            go_wp2_with fail
            go_region
            have HR9 : Hid (Ref (((W8.setCell ⟨p, 9, none⟩ (.string (M'.disk ++ Mk.frame s ++ s))).alloc (.cells #[.int .u8 (48 + (s.size : Int) / 10), .int .u8 (48 + (s.size : Int) % 10)] 5)).drew) p b' { M' with ls := upd M'.ls who r, tx := upd M'.tx who t, er := upd M'.er who er, disk := M'.disk ++ Mk.frame s ++ s }) := (HR8.out.setDisk _).below ((Below.refl _ _).alloc (Nat.le_refl _) _).drew
            have HO9 : Hid (Only (b'.has p) W8 (((W8.setCell ⟨p, 9, none⟩ (.string (M'.disk ++ Mk.frame s ++ s))).alloc (.cells #[.int .u8 (48 + (s.size : Int) / 10), .int .u8 (48 + (s.size : Int) % 10)] 5)).drew)) := ((Only.refl _ _).set (.inl rfl) _).next ((Below.refl _ _).alloc (Nat.le_refl _) _).drew
            generalize ((W8.setCell ⟨p, 9, none⟩ (.string (M'.disk ++ Mk.frame s ++ s))).alloc (.cells #[.int .u8 (48 + (s.size : Int) / 10), .int .u8 (48 + (s.size : Int) % 10)] 5)).drew = W9 at *
            clear hcv ha1 ha2 f9 z9
            go_wp2_with fail
            rw [HD.out]
            have hw3 := HB3.out.size
            have hsub : ∀ k, k < w.heap.size → b'.has p k → b.has p k := fun k hk h => by
              rcases HNew.out k h with h | h
              · exact h
              · omega
            refine bodyPost_ret (v := .tuple #[.string t, .int .i64 er]) ?_ rfl ⟨rfl, b', HR9.out, ?_, ?_⟩
            · simp [results, Tryz.results30, go_sem]
            · exact ((((((Only.of_below HB3.out).trans HO5.out (fun _ _ h => h)).trans HO6.out hsub).trans HO7.out hsub).trans HO8.out hsub).trans HO9.out hsub)
            · intro k hk
              rcases HNew.out k hk with h | h
              · exact .inl h
              · right; omega
theorem do_any (p : Nat) (b : RB) (M : Mk.Mkt) (s : ByteArray) (w : World) (X : Mk.Cmd → ByteArray × Int × Mk.Mkt) (hls : ∀ c, c < 4 → 0 ≤ M.ls c ∧ M.ls c ≤ 99) (hd : M.disk.size ≤ 100000000) (hs : s.size ≤ 2000000) (hR : Ref w p b M)
    (hX : ∀ c, Mk.readP s = some c → (c.r : Int) = M.ls c.who + 1 → (X c).2.2.disk = M.disk ∧ ∀ W g cap, Ref W p b M → (∀ (i : Nat) (h : i < c.n.length), W.cell? ⟨g, i, none⟩ = some (.int .i64 (c.n[i] : Int))) →
      Calls Tryz.prog 50 #[.pointer (some ⟨p, 0, none⟩), cmdV c.who c.r c.d (.slice (some ⟨g, 0, none⟩) c.n.length cap) c.mc] W fun e w' => DoT p b (X c) W e w') :
    Calls Tryz.prog 30 #[.pointer (some ⟨p, 0, none⟩), .string s] w fun e w' => DoT p b (Mk.doM X M s) w e w' :=
  do_any2 p b M s w X hls hd hs hR (fun c hc h => ⟨(hX c hc h).1, fun W g cap h1 h2 _ => (hX c hc h).2 W g cap h1 h2⟩)

end Go.Proofs.YtmebcdpdpcpnmaaGreatDoor

/- A region in any order whose operations are quiet but for one that waits for all the others. -/
namespace Go
section
variable {P : Program} {md : Region.Mode} {C : World → Prop} {ops ops' : Array Oper} {m : Nat} {o o' : Oper}

theorem ready_ne (hlow : ∀ i x, ops[i]? = some x → ∀ e ∈ x.after, Region.binds md e = true → e.on < i) (L : Array Bool) : ∀ (j : Nat) (x : Oper), ops[j]? = some x → L.getD j true = false → Region.ready md ops L ≠ [] := by
  intro j
  induction j using Nat.strongRecOn with
  | _ j ih =>
    intro x hx hj hnil
    have hn : j ∉ Region.ready md ops L := by rw [hnil]; exact List.not_mem_nil
    rw [mem_ready] at hn
    apply hn
    refine ⟨hj, x, hx, fun e he hb => ?_⟩
    cases hv : L.getD e.on false with
    | true => rfl
    | false =>
      exfalso
      have hlt := hlow j x hx e he hb
      have hjl : j < ops.size := (Array.getElem?_eq_some_iff.1 hx).1
      have hel : e.on < ops.size := by omega
      have hL : e.on < L.size := by
        have : j < L.size := by
          rcases Nat.lt_or_ge j L.size with h | h
          · exact h
          · simp [Array.getElem?_eq_none h] at hj
        omega
      refine ih e.on hlt (ops[e.on]) (Array.getElem?_eq_getElem hel) ?_ hnil
      simp [hL] at hv ⊢
      exact hv

theorem wpAny_of_quiet_last {Q : Exit → Act → World → Prop} (hm : ops[m]? = some o) (hm' : ops'[m]? = some o') (heq : ∀ i, i ≠ m → ops'[i]? = ops[i]?) (hsz : ops'.size = ops.size) (haft : o'.after = o.after)
    (hg : ∀ (i : Nat) (x : Oper), ops[i]? = some x → x.guard = none) (hg' : o'.guard = none) (hd' : o'.dst = none)
    (hlow : ∀ i x, ops[i]? = some x → ∀ e ∈ x.after, Region.binds md e = true → e.on < i) (hlast : ∀ j, j < ops.size → j ≠ m → ∃ e ∈ o.after, Region.binds md e = true ∧ e.on = j) :
    ∀ n L a w, L.size = ops.size → L.getD m true = false → C w → wpAnyQ P md ops' C (fun a' => ∀ w', C w' → o.wp P a' w' (fun a w => Q .normal a w) Q) n L a → wpAny P md ops Q n L a w := by
  have hready : ∀ L, Region.ready md ops' L = Region.ready md ops L := by
    intro L
    unfold Region.ready
    rw [hsz]
    refine List.filter_congr (fun i _ => ?_)
    by_cases e : i = m
    · subst e; rw [hm, hm']; simp [haft]
    · rw [heq i e]
  intro n
  induction n with
  | zero =>
    intro L a w _ hL _ h
    exact absurd ((hready L).symm.trans h.1) (ready_ne hlow L m o hm hL)
  | succ n ih =>
    intro L a w hs hL hC h
    refine ⟨fun hn => absurd hn (ready_ne hlow L m o hm hL), fun i hi => ?_⟩
    have hq := h.2 i (by rw [hready]; exact hi)
    by_cases e : i = m
    · subst e
      have hall : Region.ready md ops (L.setIfInBounds i true) = [] := by
        apply List.eq_nil_iff_forall_not_mem.2
        intro j hj
        obtain ⟨hj1, x, hx, _⟩ := mem_ready.1 hj
        have hjl : j < ops.size := (Array.getElem?_eq_some_iff.1 hx).1
        obtain ⟨_, x', hx', hdep⟩ := mem_ready.1 hi
        rw [hm] at hx'
        cases hx'
        by_cases e : j = i
        · subst e; simp [hs, hjl] at hj1
        · obtain ⟨d, hd, hb, rfl⟩ := hlast j hjl e
          have := hdep d hd hb
          have hl : d.on < L.size := by omega
          simp [hl] at this
          simp [hl, Ne.symm e, this] at hj1
      have hQ0 : ∀ w', C w' → o.wp P a w' (fun a w => Q .normal a w) Q := by
        have hq' : wpAnyQ P md ops' C (fun a' => ∀ w', C w' → o.wp P a' w' (fun a w => Q .normal a w) Q) n (L.setIfInBounds i true) a := by
          unfold qOp at hq
          simp only [hm'] at hq
          have hw : Region.wanted o' (yielded ops' a.tmps) = true := by simp [Region.wanted, hg']
          simp only [hw, if_true] at hq
          obtain ⟨v, hv, hk⟩ := hq
          rw [hd'] at hk
          exact hk
        cases n with
        | zero => exact hq'.2
        | succ k => exact hq'.1 (by rw [hready]; exact hall)
      unfold wpOp
      simp only [hm]
      have hw : Region.wanted o (yielded ops a.tmps) = true := by simp [Region.wanted, hg i o hm]
      simp only [hw, if_true]
      left
      refine Oper.wp_mono (fun a' w' hk => ?_) (hQ0 w hC)
      cases n with
      | zero => exact ⟨hall, hk⟩
      | succ k => exact ⟨fun _ => hk, fun j hj => by rw [hall] at hj; cases hj⟩
    · have h1 : wpOp P ops' Q i (wpAny P md ops Q n (L.setIfInBounds i true)) a w := by
        refine wpOp_of_qOp hC (fun a' w' hc hk => ih _ a' w' (by simpa using hs) ?_ hc hk) hq
        simp [e] at hL ⊢
        exact hL
      obtain ⟨_, x, hx, _⟩ := mem_ready.1 hi
      unfold wpOp at h1 ⊢
      rw [heq i e, hx] at h1
      rw [hx]
      have hw : ∀ ps : Array Oper, Region.wanted x (yielded ps a.tmps) = true := fun ps => by simp [Region.wanted, hg i x hx]
      simp only [hw, if_true] at h1 ⊢
      exact h1
end
end Go
