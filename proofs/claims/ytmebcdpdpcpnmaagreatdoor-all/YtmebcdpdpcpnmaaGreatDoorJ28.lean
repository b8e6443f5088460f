import Derived.Test.YtmebcdpdpcpnmaaGreatDoorJ27
import Derived.Deep.CutBlock
namespace Go.Proofs.YtmebcdpdpcpnmaaGreatDoor
open Go.RowKit

/-- the market when k orders were looked at -/
def Mk.letTo (M : Mk.Mkt) (v who : Nat) (n : Int) (k : Nat) : Mk.Mkt :=
  match ((M.bk v).take k).find? (Mk.hit n who) with
  | none => M
  | some x => Mk.holdM M v who x.o (-1)
theorem own_next {w w' : World} {base e size n : Nat} {v : Value} {xs : List Value} (h : w.ownsRow base e size v n xs) (hb : Below w.heap.size w w') : w'.ownsRow base e size v n xs := own_below h hb (fun k hk => (h.lt k hk).2)
theorem take_std {l : List Mk.Stand} {k : Nat} (h : k < l.length) : l.take (k + 1) = l.take k ++ [Mk.std l k] := by rw [List.take_succ_eq_append_getElem h, Mk.std_at h]
theorem find_take_none {l : List Mk.Stand} {f : Mk.Stand → Bool} {k : Nat} (hk : k ≤ l.length) (h : ∀ i, i < k → f (Mk.std l i) = false) : (l.take k).find? f = none := by
  rw [List.find?_eq_none]
  intro x hx
  obtain ⟨i, hi, rfl⟩ := List.mem_iff_getElem.1 hx
  have hi' : i < k := by simp at hi; omega
  have := h i hi'
  rw [Mk.std_at (by omega)] at this
  simp [this]

/-- another row of orders, of the document's, that is none of its blocks -/
theorem Ref.setBk' {w w1 : World} {p : Nat} {b : RB} {M : Mk.Mkt} (h : Ref w p b M) {v : Nat} (hv : v < 2) {v' : Value} {r : List Mk.Stand} (hs : ∀ k, b.has p k → (b.bv v).ownBlock ≠ some k → w1.heap[k]? = w.heap[k]?)
    (ho : w1.ownsRow 0 122 5 v' r.length (standC r)) (hn : ∀ k, v'.ownBlock = some k → (b.bv v).ownBlock = some k ∨ ¬ b.has p k) :
    Ref (w1.setCell ⟨b.bB, v, none⟩ v') p { b with bv := upd b.bv v v' } { M with bk := upd M.bk v r } := by
  have far : ∀ {k t : Nat}, Kind w k t → t ≠ 122 → (b.bv v).ownBlock ≠ some k := fun hk ht e => (own_kind' (h.bk v hv) e).ne hk (Ne.symm ht) rfl
  have e0 := hs p (.inl rfl) (far (row_kind h.box) (by decide))
  have e1 := hs b.bC (.inr (.inl rfl)) (far (row_kind h.cash) (by decide))
  have e2 := hs b.bS (.inr (.inr (.inl rfl))) (far (row_kind h.slots) (by decide))
  have e3 : ∀ u, u < 2 → w1.heap[b.sb u]? = w.heap[b.sb u]? := fun u hu => hs (b.sb u) (.inr (.inr (.inr (.inl ⟨u, hu, rfl⟩)))) (far (row_kind (h.sl u hu)) (by decide))
  have e4 := hs b.bM (.inr (.inr (.inr (.inr (.inl rfl))))) (far (row_kind h.modes) (by decide))
  have e5 := hs b.bB (.inr (.inr (.inr (.inr (.inr (.inl rfl)))))) (far (row_kind h.books) (by decide))
  have e6 := hs b.bCm (.inr (.inr (.inr (.inr (.inr (.inr (.inl rfl))))))) (far (row_kind h.came) (by decide))
  have e7 := hs b.bL (.inr (.inr (.inr (.inr (.inr (.inr (.inr (.inl rfl)))))))) (far (row_kind h.lasts) (by decide))
  have e8 := hs b.bT (.inr (.inr (.inr (.inr (.inr (.inr (.inr (.inr (.inl rfl))))))))) (far (row_kind h.texts) (by decide))
  have e9 := hs b.bE (.inr (.inr (.inr (.inr (.inr (.inr (.inr (.inr (.inr (.inl rfl)))))))))) (far (row_kind h.errs) (by decide))
  have kB : Kind w b.bB 118 := row_kind h.books
  have kB1 : Kind w1 b.bB 118 := row_kind (h.books.of_block e5)
  refine ⟨((h.box.of_block e0).setOther ((row_kind h.box).ne kB (by decide)) _).congr (fun j hj => by match j, hj with | 0, _ => rfl | 1, _ => rfl | 2, _ => rfl | 3, _ => rfl | 4, _ => rfl | 5, _ => rfl | 6, _ => rfl | 7, _ => rfl | 8, _ => rfl | 9, _ => rfl),
    (h.cash.of_block e1).setOther ((row_kind h.cash).ne kB (by decide)) _, (h.slots.of_block e2).setOther ((row_kind h.slots).ne kB (by decide)) _, fun u hu => ((h.sl u hu).of_block (e3 u hu)).setOther ((row_kind (h.sl u hu)).ne kB (by decide)) _,
    (h.modes.of_block e4).setOther ((row_kind h.modes).ne kB (by decide)) _, ((h.books.of_block e5).set v v').congr (fun j _ => by unfold upd; rfl), fun u hu => ?_, (h.came.of_block e6).setOther ((row_kind h.came).ne kB (by decide)) _,
    (h.lasts.of_block e7).setOther ((row_kind h.lasts).ne kB (by decide)) _, (h.texts.of_block e8).setOther ((row_kind h.texts).ne kB (by decide)) _, (h.errs.of_block e9).setOther ((row_kind h.errs).ne kB (by decide)) _, h.d1, h.d2, h.e1, h.e2, h.e3, fun k h0 h1 => ?_⟩
  · by_cases e : u = v
    · subst e
      show World.ownsRow _ 0 122 5 (upd b.bv u v' u) (upd M.bk u r u).length (standC (upd M.bk u r u))
      rw [upd_self, upd_self]
      exact own_set ho kB1 (by decide)
    · show World.ownsRow _ 0 122 5 (upd b.bv v v' u) (upd M.bk v r u).length (standC (upd M.bk v r u))
      rw [upd_ne _ _ e, upd_ne _ _ e]
      refine own_set (own_block (h.bk u hu) (fun k hk => hs k (.inr (.inr (.inr (.inr (.inr (.inr (.inr (.inr (.inr (.inr ⟨u, hu, hk⟩)))))))))) (fun e' => ?_))) kB1 (by decide)
      rcases (show u = 0 ∧ v = 1 ∨ u = 1 ∧ v = 0 by omega) with ⟨rfl, rfl⟩ | ⟨rfl, rfl⟩
      · exact h.vv k hk e'
      · exact h.vv k e' hk
  · have h0' : (upd b.bv v v' 0).ownBlock = some k := h0
    have h1' : (upd b.bv v v' 1).ownBlock = some k := h1
    rcases (show v = 0 ∨ v = 1 by omega) with rfl | rfl
    · rw [upd_self] at h0'
      rw [upd_ne _ _ (by omega)] at h1'
      rcases hn k h0' with e | e
      · exact h.vv k e h1'
      · exact e (.inr (.inr (.inr (.inr (.inr (.inr (.inr (.inr (.inr (.inr ⟨1, by omega, h1'⟩))))))))))
    · rw [upd_ne _ _ (by omega)] at h0'
      rw [upd_self] at h1'
      rcases hn k h1' with e | e
      · exact h.vv k h0' e
      · exact e (.inr (.inr (.inr (.inr (.inr (.inr (.inr (.inr (.inr (.inr ⟨0, by omega, h0'⟩))))))))))

set_option maxRecDepth 100000 in
set_option maxHeartbeats 4000000 in
theorem rdrop_any (p g cap : Nat) (b : RB) (M : Mk.Mkt) (who v : Nat) (r n : Int) (d : Mk.Wd) (mc : Bool) (w : World) (hM : M.Fine) (hR : Ref w p b M) (hw : who < 4) (hv : v < 2)
    (hU : ∀ i j, i < (M.bk v).length → j < (M.bk v).length → Mk.hit n who (Mk.std (M.bk v) i) = true → Mk.hit n who (Mk.std (M.bk v) j) = true → i = j)
    (g0 : w.cell? ⟨g, 0, none⟩ = some (.int .i64 (v : Int))) (g1 : w.cell? ⟨g, 1, none⟩ = some (.int .i64 n)) (hgn : ¬ b.has p g) :
    Calls Tryz.prog 82 #[.pointer (some ⟨p, 0, none⟩), cmdV who r d (.slice (some ⟨g, 0, none⟩) 2 cap) mc] w fun e w' =>
      e = .returned (.int .i64 (Mk.dropM M v who n).1) ∧ ∃ b', Ref w' p b' (Mk.dropM M v who n).2 ∧ Only (b.has p) w w' ∧ ∀ k, b'.has p k → b.has p k ∨ w.heap.size ≤ k := by
  obtain ⟨i0, hi0, hz0, hz1, hz2⟩ := info_parts Tryz.infoStand
  have HM : Hid M.Fine := hM
  have HR0 : Hid (Ref w p b M) := hR
  have HU := (show Hid _ from hU)
  have HGn : Hid (¬ b.has p g) := hgn
  have hgl0 := blk_lt g0
  have HB1 : Hid (Below w.heap.size w (w.alloc (.cells #[.int .i64 (who : Int), .int .i64 r, .string d.text, .slice (some ⟨g, 0, none⟩) 2 cap, .bool mc] 83))) := (Below.refl _ _).alloc (Nat.le_refl _) _
  have HC1 : Hid (∀ i u, (#[.int .i64 (who : Int), .int .i64 r, .string d.text, .slice (some ⟨g, 0, none⟩) 2 cap, .bool mc] : Array Value)[i]? = some u → (w.alloc (.cells #[.int .i64 (who : Int), .int .i64 r, .string d.text, .slice (some ⟨g, 0, none⟩) 2 cap, .bool mc] 83)).cell? ⟨w.heap.size, i, none⟩ = some u) := fun i u h => by simpa using h
  have hcl : w.heap.size < (w.alloc (.cells #[.int .i64 (who : Int), .int .i64 r, .string d.text, .slice (some ⟨g, 0, none⟩) 2 cap, .bool mc] 83)).heap.size := by simp
  have k0 : (w.alloc (.cells #[.int .i64 (who : Int), .int .i64 r, .string d.text, .slice (some ⟨g, 0, none⟩) 2 cap, .bool mc] 83)).cell? ⟨g, 0, none⟩ = some (.int .i64 (v : Int)) := cell_al g0
  have HK1 : Hid ((w.alloc (.cells #[.int .i64 (who : Int), .int .i64 r, .string d.text, .slice (some ⟨g, 0, none⟩) 2 cap, .bool mc] 83)).cell? ⟨g, 1, none⟩ = some (.int .i64 n)) := cell_al g1
  have hv' : (v : Int) < 2 := by omega
  have hlen := hM.len v hv
  clear hM hR g0 g1 hU hgn
  go_enter Tryz.func82, Tryz.ntmps82
  go_upto_region 1 with fail
  generalize w.alloc (.cells #[.int .i64 (who : Int), .int .i64 r, .string d.text, .slice (some ⟨g, 0, none⟩) 2 cap, .bool mc] 83) = W1 at *
  have x3 := HC1.out 3 _ rfl
  have HR1 : Hid (Ref W1 p b M) := HR0.out.below HB1.out
  go_wp2_with fail
  clear x3 k0
  have hlt0 : ∀ k, b.has p k → k < w.heap.size := fun k h => HR0.out.lt h
  have HLt0 := (show Hid _ from hlt0)
  clear hlt0
  go_loopw [6, 7, 8] (fun lv fd j wr => ∃ k : Nat, k ≤ (M.bk v).length ∧ j = .int .i64 k ∧ fd = .bool (((M.bk v).take k).any (Mk.hit n who)) ∧ wr.ownsRow W1.heap.size 122 5 lv (((M.bk v).take k).filter (fun y => !Mk.hit n who y)).length (standC (((M.bk v).take k).filter (fun y => !Mk.hit n who y))) ∧ Ref wr p b (Mk.letTo M v who n k) ∧ Only (b.has p) w wr ∧ Only (b.has p) W1 wr) (fun _ _ j _ => (M.bk v).length - (intOf j).toNat)
  case atStart => exact ⟨0, Nat.zero_le _, rfl, rfl, ⟨by simp [standC], .inl ⟨rfl, by simp⟩⟩, HR1.out, Only.of_below HB1.out, Only.refl _ _⟩
  case round =>
    obtain ⟨k, hk, rfl, rfl, hown, hRk, hO, hO1⟩ := hrel
    have hbkk : (Mk.letTo M v who n k).bk = M.bk := by
      unfold Mk.letTo
      split
      · rfl
      · unfold Mk.holdM; split <;> rfl
    have hsz := hO.size
    have f4 := hRk.box.cell (i := 4) (by omega)
    have n4 := hRk.books.cell hv
    simp only [mktF] at f4
    have hb := hRk.bk v hv
    rw [hbkk] at hb
    obtain ⟨ba, bc, hbv⟩ := own_form hb
    rw [hbv] at n4 hb
    have x0 : wr.cell? ⟨w.heap.size, 0, none⟩ = some (.int .i64 (who : Int)) := (hO1.cell hcl (fun h => by have := HLt0.out _ h; omega)).trans (HC1.out 0 _ rfl)
    have x3 : wr.cell? ⟨w.heap.size, 3, none⟩ = some (.slice (some ⟨g, 0, none⟩) 2 cap) := (hO1.cell hcl (fun h => by have := HLt0.out _ h; omega)).trans (HC1.out 3 _ rfl)
    have x7 : wr.cell? ⟨g, 1, none⟩ = some (.int .i64 n) := (hO1.cell (blk_lt HK1.out) HGn.out).trans HK1.out
    have HRk : Hid (Ref wr p b (Mk.letTo M v who n k)) := hRk
    have HO : Hid (Only (b.has p) w wr) := hO
    have HO1 : Hid (Only (b.has p) W1 wr) := hO1
    have HOw := (show Hid _ from hown)
    have HBk : Hid ((Mk.letTo M v who n k).bk = M.bk) := hbkk
    clear hRk hO hO1 hbkk
    by_cases hlt : k < (M.bk v).length
    · have hlt' : (k : Int) < ((M.bk v).length : Int) := by omega
      obtain ⟨gg, rfl⟩ := own_some hb (by omega)
      obtain ⟨s0, s1, s2, s3, s4⟩ := stand_cells hb rfl hlt
      clear hb hown
      have hb2 : Below wr.heap.size wr (wr.alloc (.cells #[.int .i64 (Mk.std (M.bk v) k).n, .int .i64 (Mk.std (M.bk v) k).who, .bool (Mk.std (M.bk v) k).o.sell, .int .i64 (Mk.std (M.bk v) k).o.price, .int .i64 (Mk.std (M.bk v) k).o.qty] 122)) := (Below.refl _ _).alloc (Nat.le_refl _) _
      have HR2 : Hid (Ref (wr.alloc (.cells #[.int .i64 (Mk.std (M.bk v) k).n, .int .i64 (Mk.std (M.bk v) k).who, .bool (Mk.std (M.bk v) k).o.sell, .int .i64 (Mk.std (M.bk v) k).o.price, .int .i64 (Mk.std (M.bk v) k).o.qty] 122)) p b (Mk.letTo M v who n k)) := HRk.out.below hb2
      have HO2 : Hid (Only (b.has p) w (wr.alloc (.cells #[.int .i64 (Mk.std (M.bk v) k).n, .int .i64 (Mk.std (M.bk v) k).who, .bool (Mk.std (M.bk v) k).o.sell, .int .i64 (Mk.std (M.bk v) k).o.price, .int .i64 (Mk.std (M.bk v) k).o.qty] 122))) := HO.out.next hb2
      have HO12 : Hid (Only (b.has p) W1 (wr.alloc (.cells #[.int .i64 (Mk.std (M.bk v) k).n, .int .i64 (Mk.std (M.bk v) k).who, .bool (Mk.std (M.bk v) k).o.sell, .int .i64 (Mk.std (M.bk v) k).o.price, .int .i64 (Mk.std (M.bk v) k).o.qty] 122))) := HO1.out.next hb2
      have HE2 : Hid (∀ i u, (#[.int .i64 (Mk.std (M.bk v) k).n, .int .i64 (Mk.std (M.bk v) k).who, .bool (Mk.std (M.bk v) k).o.sell, .int .i64 (Mk.std (M.bk v) k).o.price, .int .i64 (Mk.std (M.bk v) k).o.qty] : Array Value)[i]? = some u → (wr.alloc (.cells #[.int .i64 (Mk.std (M.bk v) k).n, .int .i64 (Mk.std (M.bk v) k).who, .bool (Mk.std (M.bk v) k).o.sell, .int .i64 (Mk.std (M.bk v) k).o.price, .int .i64 (Mk.std (M.bk v) k).o.qty] 122)).cell? ⟨wr.heap.size, i, none⟩ = some u) := fun i u h => by simpa using h
      have HL2 := (show Hid _ from own_next HOw.out hb2)
      have y0 : (wr.alloc (.cells #[.int .i64 (Mk.std (M.bk v) k).n, .int .i64 (Mk.std (M.bk v) k).who, .bool (Mk.std (M.bk v) k).o.sell, .int .i64 (Mk.std (M.bk v) k).o.price, .int .i64 (Mk.std (M.bk v) k).o.qty] 122)).cell? ⟨w.heap.size, 0, none⟩ = some (.int .i64 (who : Int)) := cell_al x0
      have y3 : (wr.alloc (.cells #[.int .i64 (Mk.std (M.bk v) k).n, .int .i64 (Mk.std (M.bk v) k).who, .bool (Mk.std (M.bk v) k).o.sell, .int .i64 (Mk.std (M.bk v) k).o.price, .int .i64 (Mk.std (M.bk v) k).o.qty] 122)).cell? ⟨w.heap.size, 3, none⟩ = some (.slice (some ⟨g, 0, none⟩) 2 cap) := cell_al x3
      have y7 : (wr.alloc (.cells #[.int .i64 (Mk.std (M.bk v) k).n, .int .i64 (Mk.std (M.bk v) k).who, .bool (Mk.std (M.bk v) k).o.sell, .int .i64 (Mk.std (M.bk v) k).o.price, .int .i64 (Mk.std (M.bk v) k).o.qty] 122)).cell? ⟨g, 1, none⟩ = some (.int .i64 n) := cell_al x7
      have hEl : wr.heap.size < (wr.alloc (.cells #[.int .i64 (Mk.std (M.bk v) k).n, .int .i64 (Mk.std (M.bk v) k).who, .bool (Mk.std (M.bk v) k).o.sell, .int .i64 (Mk.std (M.bk v) k).o.price, .int .i64 (Mk.std (M.bk v) k).o.qty] 122)).heap.size := by simp
      have hEw : w.heap.size ≤ wr.heap.size := hsz
      have hsz2 : w.heap.size ≤ (wr.alloc (.cells #[.int .i64 (Mk.std (M.bk v) k).n, .int .i64 (Mk.std (M.bk v) k).who, .bool (Mk.std (M.bk v) k).o.sell, .int .i64 (Mk.std (M.bk v) k).o.price, .int .i64 (Mk.std (M.bk v) k).o.qty] 122)).heap.size := by simp; omega
      clear hb2 x0 x3 x7
      by_cases hn1 : ((Mk.std (M.bk v) k).n == n) = true
      · by_cases hw1 : ((Mk.std (M.bk v) k).who == (who : Int)) = true
        · have hht : Hid (Mk.hit n who (Mk.std (M.bk v) k) = true) := (by unfold Mk.hit; rw [hn1, hw1]; rfl : Mk.hit n who (Mk.std (M.bk v) k) = true)
          go_wp2_with fail
          generalize wr.alloc (.cells #[.int .i64 (Mk.std (M.bk v) k).n, .int .i64 (Mk.std (M.bk v) k).who, .bool (Mk.std (M.bk v) k).o.sell, .int .i64 (Mk.std (M.bk v) k).o.price, .int .i64 (Mk.std (M.bk v) k).o.qty] 122) = W2 at *
          generalize wr.heap.size = E at *
          have a0 := HE2.out 0 _ rfl
          have a1 := HE2.out 1 _ rfl
          go_quiet (fail)
          have hb3 : Below W2.heap.size W2 (W2.drewN nq) := below_drewN (Below.refl _ _) nq
          have HB3 : Hid (∀ Z, Only (b.has p) Z W2 → Only (b.has p) Z (W2.drewN nq)) := fun Z h => h.next hb3
          have HR3 : Hid (Ref (W2.drewN nq) p b (Mk.letTo M v who n k)) := HR2.out.below hb3
          have HE3 : Hid (∀ i u, (#[.int .i64 (Mk.std (M.bk v) k).n, .int .i64 (Mk.std (M.bk v) k).who, .bool (Mk.std (M.bk v) k).o.sell, .int .i64 (Mk.std (M.bk v) k).o.price, .int .i64 (Mk.std (M.bk v) k).o.qty] : Array Value)[i]? = some u → (W2.drewN nq).cell? ⟨E, i, none⟩ = some u) := fun i u h => (hb3.cell (p := ⟨E, i, none⟩) hEl).trans (HE2.out i u h)
          have HL3 := (show Hid _ from own_next HL2.out hb3)
          have z0 : (W2.drewN nq).cell? ⟨w.heap.size, 0, none⟩ = some (.int .i64 (who : Int)) := (hb3.cell (p := ⟨w.heap.size, 0, none⟩) (blk_lt y0)).trans y0
          have hE3 : E < (W2.drewN nq).heap.size := hEl
          have hsz3 : w.heap.size ≤ (W2.drewN nq).heap.size := Nat.le_trans hsz2 hb3.size
          clear hb3 a0 a1 y0 y3 y7
          generalize W2.drewN nq = W3 at *
          have a0 := HE3.out 0 _ rfl
          have a1 := HE3.out 1 _ rfl
          have a2 := HE3.out 2 _ rfl
          have a3 := HE3.out 3 _ rfl
          have a4 := HE3.out 4 _ rfl
          have hst := HM.out.ord v hv _ (show Mk.std (M.bk v) k ∈ M.bk v by rw [Mk.std_at hlt]; exact List.getElem_mem _)
          have hno : ∀ i, i < k → Mk.hit n who (Mk.std (M.bk v) i) = false := fun i hi => by
            cases h : Mk.hit n who (Mk.std (M.bk v) i)
            · rfl
            · exact absurd (HU.out i k (by omega) hlt h hht.out) (by omega)
          have HK0 : Hid (Mk.letTo M v who n k = M) := (by unfold Mk.letTo; rw [find_take_none (by omega) hno] : Mk.letTo M v who n k = M)
          have HF1 : Hid (((M.bk v).take (k + 1)).any (Mk.hit n who) = true) := (by rw [take_std hlt, List.any_append]; simp [hht.out] : ((M.bk v).take (k + 1)).any (Mk.hit n who) = true)
          have HF2 : Hid (((M.bk v).take (k + 1)).filter (fun y => !Mk.hit n who y) = ((M.bk v).take k).filter (fun y => !Mk.hit n who y)) := (by rw [take_std hlt, List.filter_append]; simp [hht.out] : ((M.bk v).take (k + 1)).filter (fun y => !Mk.hit n who y) = ((M.bk v).take k).filter (fun y => !Mk.hit n who y))
          have HF3 : Hid (Mk.letTo M v who n (k + 1) = Mk.holdM M v who (Mk.std (M.bk v) k).o (-1)) := (by
            unfold Mk.letTo
            rw [take_std hlt, List.find?_append, find_take_none (by omega) hno]
            have e1 : ([Mk.std (M.bk v) k] : List Mk.Stand).find? (Mk.hit n who) = some (Mk.std (M.bk v) k) := by simp [hht.out]
            rw [e1]; rfl : Mk.letTo M v who n (k + 1) = Mk.holdM M v who (Mk.std (M.bk v) k).o (-1))
          have HR3' : Hid (Ref W3 p b M) := (by have h := HR3.out; rw [HK0.out] at h; exact h : Ref W3 p b M)
          have HO3 : Hid (Only (b.has p) w W3 ∧ Only (b.has p) W1 W3) := ⟨HB3.out w HO2.out, HB3.out W1 HO12.out⟩
          clear hno
          go_wp2_with fail
          refine (holds_any p b M v who (Mk.std (M.bk v) k).o.sell (Mk.std (M.bk v) k).o.price (Mk.std (M.bk v) k).o.qty true W3 HM.out HR3'.out hw hv ⟨hst.1, hst.2.1⟩ ⟨hst.2.2.1, hst.2.2.2⟩).mono ?_
          rintro e w5 ⟨rfl, hR5, ho5⟩
          have HR5 := (show Hid _ from hR5)
          have hO5 : Only (b.has p) W3 w5 := ho5
          have HO5 : Hid (Only (b.has p) w w5 ∧ Only (b.has p) W1 w5) := ⟨HO3.out.1.trans (S' := b.has p) hO5 (fun _ _ h => h), HO3.out.2.trans (S' := b.has p) hO5 (fun _ _ h => h)⟩
          have hl3 : W3.ownsRow W1.heap.size 122 5 u6 (((M.bk v).take k).filter (fun y => !Mk.hit n who y)).length (standC (((M.bk v).take k).filter (fun y => !Mk.hit n who y))) := HL3.out
          have HLv : Hid (w5.ownsRow W1.heap.size 122 5 u6 (((M.bk v).take k).filter (fun y => !Mk.hit n who y)).length (standC (((M.bk v).take k).filter (fun y => !Mk.hit n who y)))) := own_block hl3 (fun j hj => hO5.block j (hl3.lt j hj).2 (fun h => by have h1 := HLt0.out j h; have h2 := own_ge hl3 j hj; have : w.heap.size < W1.heap.size := hcl; omega))
          clear hR5 ho5 hO5 hl3
          go_wp2_with fail
          go_roundw
          case rel =>
            refine ⟨k + 1, by omega, by go_num, by rw [HF1.out], by rw [HF2.out]; exact HLv.out, by rw [HF3.out]; exact HR5.out, HO5.out.1, HO5.out.2⟩
          case measure => simp [intOf]; omega
        · have hw1' : ((Mk.std (M.bk v) k).who == (who : Int)) = false := by simpa using hw1
          have hnh : Hid (Mk.hit n who (Mk.std (M.bk v) k) = false) := (by unfold Mk.hit; rw [hw1', Bool.and_false] : Mk.hit n who (Mk.std (M.bk v) k) = false)
          clear hw1
          go_wp2_with fail
          generalize wr.alloc (.cells #[.int .i64 (Mk.std (M.bk v) k).n, .int .i64 (Mk.std (M.bk v) k).who, .bool (Mk.std (M.bk v) k).o.sell, .int .i64 (Mk.std (M.bk v) k).o.price, .int .i64 (Mk.std (M.bk v) k).o.qty] 122) = W2 at *
          generalize wr.heap.size = E at *
          have a0 := HE2.out 0 _ rfl
          have a1 := HE2.out 1 _ rfl
          go_quiet (fail)
          have hb3 : Below W2.heap.size W2 (W2.drewN nq) := below_drewN (Below.refl _ _) nq
          have HB3 : Hid (∀ Z, Only (b.has p) Z W2 → Only (b.has p) Z (W2.drewN nq)) := fun Z h => h.next hb3
          have HR3 : Hid (Ref (W2.drewN nq) p b (Mk.letTo M v who n k)) := HR2.out.below hb3
          have HE3 : Hid (∀ i u, (#[.int .i64 (Mk.std (M.bk v) k).n, .int .i64 (Mk.std (M.bk v) k).who, .bool (Mk.std (M.bk v) k).o.sell, .int .i64 (Mk.std (M.bk v) k).o.price, .int .i64 (Mk.std (M.bk v) k).o.qty] : Array Value)[i]? = some u → (W2.drewN nq).cell? ⟨E, i, none⟩ = some u) := fun i u h => (hb3.cell (p := ⟨E, i, none⟩) hEl).trans (HE2.out i u h)
          have HL3 := (show Hid _ from own_next HL2.out hb3)
          have z0 : (W2.drewN nq).cell? ⟨w.heap.size, 0, none⟩ = some (.int .i64 (who : Int)) := (hb3.cell (p := ⟨w.heap.size, 0, none⟩) (blk_lt y0)).trans y0
          have hE3 : E < (W2.drewN nq).heap.size := hEl
          have hsz3 : w.heap.size ≤ (W2.drewN nq).heap.size := Nat.le_trans hsz2 hb3.size
          clear hb3 a0 a1 y0 y3 y7
          generalize W2.drewN nq = W3 at *
          have a0 := HE3.out 0 _ rfl
          have a1 := HE3.out 1 _ rfl
          have a2 := HE3.out 2 _ rfl
          have a3 := HE3.out 3 _ rfl
          have a4 := HE3.out 4 _ rfl
          have HF1 : Hid (((M.bk v).take (k + 1)).any (Mk.hit n who) = ((M.bk v).take k).any (Mk.hit n who)) := (by rw [take_std hlt, List.any_append]; simp [hnh.out] : ((M.bk v).take (k + 1)).any (Mk.hit n who) = ((M.bk v).take k).any (Mk.hit n who))
          have HF2 : Hid (((M.bk v).take (k + 1)).filter (fun y => !Mk.hit n who y) = ((M.bk v).take k).filter (fun y => !Mk.hit n who y) ++ [Mk.std (M.bk v) k]) := (by rw [take_std hlt, List.filter_append]; simp [hnh.out] : ((M.bk v).take (k + 1)).filter (fun y => !Mk.hit n who y) = ((M.bk v).take k).filter (fun y => !Mk.hit n who y) ++ [Mk.std (M.bk v) k])
          have HF3 : Hid (Mk.letTo M v who n (k + 1) = Mk.letTo M v who n k) := (by
            unfold Mk.letTo
            rw [take_std hlt, List.find?_append]
            have e1 : ([Mk.std (M.bk v) k] : List Mk.Stand).find? (Mk.hit n who) = none := by simp [hnh.out]
            rw [e1]
            cases ((M.bk v).take k).find? (Mk.hit n who) <;> rfl : Mk.letTo M v who n (k + 1) = Mk.letTo M v who n k)
          have hle : (((M.bk v).take k).filter (fun y => !Mk.hit n who y)).length ≤ 12 := by
            have h1 := List.length_filter_le (fun y : Mk.Stand => !Mk.hit n who y) ((M.bk v).take k)
            have h2 := List.length_take_le k (M.bk v)
            omega
          generalize hrr : ((M.bk v).take k).filter (fun y => !Mk.hit n who y) = rr at *
          have hl3 := HL3.out
          clear hrr
          have hsz1 : W1.heap.size ≤ W3.heap.size := (HB3.out W1 HO12.out).size
          go_wp2_with (at_builtin; (refine wpList_append_lies _ rfl _ _ _ rfl W1.heap.size 122 i0 _ 5 40 Tryz.underlying118 hi0 hz0 hz1 hz2 rfl (by omega) _ rr.length (standC rr) rfl (World.ownsRow.alloc hl3 _) ⟨W3.heap.size, 0, none⟩ 1 1 [.int .i64 (Mk.std (M.bk v) k).n, .int .i64 (Mk.std (M.bk v) k).who, .bool (Mk.std (M.bk v) k).o.sell, .int .i64 (Mk.std (M.bk v) k).o.price, .int .i64 (Mk.std (M.bk v) k).o.qty] rfl rfl (World.news_of_block (cs := #[.int .i64 (Mk.std (M.bk v) k).n, .int .i64 (Mk.std (M.bk v) k).who, .bool (Mk.std (M.bk v) k).o.sell, .int .i64 (Mk.std (M.bk v) k).o.price, .int .i64 (Mk.std (M.bk v) k).o.qty]) (t := 122) (fr := (0, 0)) (heap_alloc_new W3 _)) (by simp [Value.oneCell']) (by omega) (by unfold maxLen; omega) (by omega) (by simp; omega) (W3.heap.size + 1) (by simp) ?_; intro g7 cap' w7 hown7 hgrow hat hlt7))
          have hge := own_ge hl3
          have hblk : ∀ j, j < W1.heap.size → w7.heap[j]? = W3.heap[j]? := fun j hj => by
            rw [hgrow.block j (by simp; omega) (fun e' => by have := hge j e'.symm; omega)]
            exact Below.heap_alloc _ _ _ (by omega)
          have hs7 : W3.heap.size ≤ w7.heap.size := by have := hgrow.size; simp at this; omega
          have hW1 : w.heap.size < W1.heap.size := hcl
          have HO7 : Hid (Only (b.has p) w w7) := (⟨hgrow.os.trans (HB3.out w HO2.out).os, hgrow.tape.trans (HB3.out w HO2.out).tape, hgrow.output.trans (HB3.out w HO2.out).output, by omega, fun j hj hn => (hblk j (by omega)).trans ((HB3.out w HO2.out).block j hj hn)⟩ : Only (b.has p) w w7)
          have HO71 : Hid (Only (b.has p) W1 w7) := (⟨hgrow.os.trans (HB3.out W1 HO12.out).os, hgrow.tape.trans (HB3.out W1 HO12.out).tape, hgrow.output.trans (HB3.out W1 HO12.out).output, Nat.le_trans (HB3.out W1 HO12.out).size hs7, fun j hj hn => (hblk j hj).trans ((HB3.out W1 HO12.out).block j hj hn)⟩ : Only (b.has p) W1 w7)
          have HR7 : Hid (Ref w7 p b (Mk.letTo M v who n k)) := HR3.out.blocks (fun j hj => hblk j (by have := HLt0.out j hj; omega))
          have HOw7 := (show Hid _ from hown7)
          clear hown7 hgrow hat hlt7 hge hblk hl3
          go_wp2_with fail
          go_roundw
          case rel =>
            refine ⟨k + 1, by omega, by go_num, by rw [HF1.out], ?_, by rw [HF3.out]; exact HR7.out, HO7.out, HO71.out⟩
            rw [HF2.out, standC_snoc, List.length_append]
            exact HOw7.out
          case measure => simp [intOf]; omega
      · have hn1' : ((Mk.std (M.bk v) k).n == n) = false := by simpa using hn1
        have hnh : Hid (Mk.hit n who (Mk.std (M.bk v) k) = false) := (by unfold Mk.hit; rw [hn1', Bool.false_and] : Mk.hit n who (Mk.std (M.bk v) k) = false)
        clear hn1
        go_wp2_with fail
        generalize wr.alloc (.cells #[.int .i64 (Mk.std (M.bk v) k).n, .int .i64 (Mk.std (M.bk v) k).who, .bool (Mk.std (M.bk v) k).o.sell, .int .i64 (Mk.std (M.bk v) k).o.price, .int .i64 (Mk.std (M.bk v) k).o.qty] 122) = W2 at *
        generalize wr.heap.size = E at *
        have a0 := HE2.out 0 _ rfl
        have a1 := HE2.out 1 _ rfl
        go_quiet (fail)
        have hb3 : Below W2.heap.size W2 (W2.drewN nq) := below_drewN (Below.refl _ _) nq
        have HB3 : Hid (∀ Z, Only (b.has p) Z W2 → Only (b.has p) Z (W2.drewN nq)) := fun Z h => h.next hb3
        have HR3 : Hid (Ref (W2.drewN nq) p b (Mk.letTo M v who n k)) := HR2.out.below hb3
        have HE3 : Hid (∀ i u, (#[.int .i64 (Mk.std (M.bk v) k).n, .int .i64 (Mk.std (M.bk v) k).who, .bool (Mk.std (M.bk v) k).o.sell, .int .i64 (Mk.std (M.bk v) k).o.price, .int .i64 (Mk.std (M.bk v) k).o.qty] : Array Value)[i]? = some u → (W2.drewN nq).cell? ⟨E, i, none⟩ = some u) := fun i u h => (hb3.cell (p := ⟨E, i, none⟩) hEl).trans (HE2.out i u h)
        have HL3 := (show Hid _ from own_next HL2.out hb3)
        have z0 : (W2.drewN nq).cell? ⟨w.heap.size, 0, none⟩ = some (.int .i64 (who : Int)) := (hb3.cell (p := ⟨w.heap.size, 0, none⟩) (blk_lt y0)).trans y0
        have hE3 : E < (W2.drewN nq).heap.size := hEl
        have hsz3 : w.heap.size ≤ (W2.drewN nq).heap.size := Nat.le_trans hsz2 hb3.size
        clear hb3 a0 a1 y0 y3 y7
        generalize W2.drewN nq = W3 at *
        have a0 := HE3.out 0 _ rfl
        have a1 := HE3.out 1 _ rfl
        have a2 := HE3.out 2 _ rfl
        have a3 := HE3.out 3 _ rfl
        have a4 := HE3.out 4 _ rfl
        have HF1 : Hid (((M.bk v).take (k + 1)).any (Mk.hit n who) = ((M.bk v).take k).any (Mk.hit n who)) := (by rw [take_std hlt, List.any_append]; simp [hnh.out] : ((M.bk v).take (k + 1)).any (Mk.hit n who) = ((M.bk v).take k).any (Mk.hit n who))
        have HF2 : Hid (((M.bk v).take (k + 1)).filter (fun y => !Mk.hit n who y) = ((M.bk v).take k).filter (fun y => !Mk.hit n who y) ++ [Mk.std (M.bk v) k]) := (by rw [take_std hlt, List.filter_append]; simp [hnh.out] : ((M.bk v).take (k + 1)).filter (fun y => !Mk.hit n who y) = ((M.bk v).take k).filter (fun y => !Mk.hit n who y) ++ [Mk.std (M.bk v) k])
        have HF3 : Hid (Mk.letTo M v who n (k + 1) = Mk.letTo M v who n k) := (by
          unfold Mk.letTo
          rw [take_std hlt, List.find?_append]
          have e1 : ([Mk.std (M.bk v) k] : List Mk.Stand).find? (Mk.hit n who) = none := by simp [hnh.out]
          rw [e1]
          cases ((M.bk v).take k).find? (Mk.hit n who) <;> rfl : Mk.letTo M v who n (k + 1) = Mk.letTo M v who n k)
        have hle : (((M.bk v).take k).filter (fun y => !Mk.hit n who y)).length ≤ 12 := by
          have h1 := List.length_filter_le (fun y : Mk.Stand => !Mk.hit n who y) ((M.bk v).take k)
          have h2 := List.length_take_le k (M.bk v)
          omega
        generalize hrr : ((M.bk v).take k).filter (fun y => !Mk.hit n who y) = rr at *
        have hl3 := HL3.out
        clear hrr
        have hsz1 : W1.heap.size ≤ W3.heap.size := (HB3.out W1 HO12.out).size
        go_wp2_with (at_builtin; (refine wpList_append_lies _ rfl _ _ _ rfl W1.heap.size 122 i0 _ 5 40 Tryz.underlying118 hi0 hz0 hz1 hz2 rfl (by omega) _ rr.length (standC rr) rfl (World.ownsRow.alloc hl3 _) ⟨W3.heap.size, 0, none⟩ 1 1 [.int .i64 (Mk.std (M.bk v) k).n, .int .i64 (Mk.std (M.bk v) k).who, .bool (Mk.std (M.bk v) k).o.sell, .int .i64 (Mk.std (M.bk v) k).o.price, .int .i64 (Mk.std (M.bk v) k).o.qty] rfl rfl (World.news_of_block (cs := #[.int .i64 (Mk.std (M.bk v) k).n, .int .i64 (Mk.std (M.bk v) k).who, .bool (Mk.std (M.bk v) k).o.sell, .int .i64 (Mk.std (M.bk v) k).o.price, .int .i64 (Mk.std (M.bk v) k).o.qty]) (t := 122) (fr := (0, 0)) (heap_alloc_new W3 _)) (by simp [Value.oneCell']) (by omega) (by unfold maxLen; omega) (by omega) (by simp; omega) (W3.heap.size + 1) (by simp) ?_; intro g7 cap' w7 hown7 hgrow hat hlt7))
        have hge := own_ge hl3
        have hblk : ∀ j, j < W1.heap.size → w7.heap[j]? = W3.heap[j]? := fun j hj => by
          rw [hgrow.block j (by simp; omega) (fun e' => by have := hge j e'.symm; omega)]
          exact Below.heap_alloc _ _ _ (by omega)
        have hs7 : W3.heap.size ≤ w7.heap.size := by have := hgrow.size; simp at this; omega
        have hW1 : w.heap.size < W1.heap.size := hcl
        have HO7 : Hid (Only (b.has p) w w7) := (⟨hgrow.os.trans (HB3.out w HO2.out).os, hgrow.tape.trans (HB3.out w HO2.out).tape, hgrow.output.trans (HB3.out w HO2.out).output, by omega, fun j hj hn => (hblk j (by omega)).trans ((HB3.out w HO2.out).block j hj hn)⟩ : Only (b.has p) w w7)
        have HO71 : Hid (Only (b.has p) W1 w7) := (⟨hgrow.os.trans (HB3.out W1 HO12.out).os, hgrow.tape.trans (HB3.out W1 HO12.out).tape, hgrow.output.trans (HB3.out W1 HO12.out).output, Nat.le_trans (HB3.out W1 HO12.out).size hs7, fun j hj hn => (hblk j hj).trans ((HB3.out W1 HO12.out).block j hj hn)⟩ : Only (b.has p) W1 w7)
        have HR7 : Hid (Ref w7 p b (Mk.letTo M v who n k)) := HR3.out.blocks (fun j hj => hblk j (by have := HLt0.out j hj; omega))
        have HOw7 := (show Hid _ from hown7)
        clear hown7 hgrow hat hlt7 hge hblk hl3
        go_wp2_with fail
        go_roundw
        case rel =>
          refine ⟨k + 1, by omega, by go_num, by rw [HF1.out], ?_, by rw [HF3.out]; exact HR7.out, HO7.out, HO71.out⟩
          rw [HF2.out, standC_snoc, List.length_append]
          exact HOw7.out
        case measure => simp [intOf]; omega
    · obtain rfl : k = (M.bk v).length := by omega
      have HLt : Hid (Mk.letTo M v who n (M.bk v).length = (match (M.bk v).find? (Mk.hit n who) with | none => M | some x => Mk.holdM M v who x.o (-1))) := (by unfold Mk.letTo; rw [List.take_length] : Mk.letTo M v who n (M.bk v).length = (match (M.bk v).find? (Mk.hit n who) with | none => M | some x => Mk.holdM M v who x.o (-1)))
      have hown' := HOw.out
      rw [List.take_length] at hown'
      have HOwf := (show Hid _ from hown')
      clear hown'
      cases hfd : (M.bk v).find? (Mk.hit n who) with
      | none =>
        have hany : ((M.bk v).take (M.bk v).length).any (Mk.hit n who) = false := by
          rw [List.take_length, List.any_eq_false]
          exact fun x hx => by have := List.find?_eq_none.1 hfd x hx; exact this
        have HX : Hid (Mk.dropM M v who n = (10, M)) := (by unfold Mk.dropM; rw [hfd] : Mk.dropM M v who n = (10, M))
        have HRf : Hid (Ref wr p b M) := (by have := HRk.out; rw [HLt.out, hfd] at this; exact this : Ref wr p b M)
        rw [hany]
        clear hany hfd hb
        go_wp2_with fail
        go_ret
        rw [HX.out]
        exact ⟨rfl, b, HRf.out, HO.out, fun _ h => .inl h⟩
      | some x =>
        have hany : ((M.bk v).take (M.bk v).length).any (Mk.hit n who) = true := by
          rw [List.take_length, List.any_eq_true]
          exact ⟨x, List.mem_of_find?_eq_some hfd, List.find?_some hfd⟩
        have HX : Hid (Mk.dropM M v who n = (0, Mk.outM M v who n x)) := (by unfold Mk.dropM; rw [hfd] : Mk.dropM M v who n = (0, Mk.outM M v who n x))
        have HRf : Hid (Ref wr p b (Mk.holdM M v who x.o (-1))) := (by have := HRk.out; rw [HLt.out, hfd] at this; exact this : Ref wr p b (Mk.holdM M v who x.o (-1)))
        obtain ⟨la, lc, hlv⟩ := own_form HOwf.out
        subst hlv
        have zB := HRf.out.books.frozen v
        have hW1 : w.heap.size < W1.heap.size := hcl
        have hn8 : ∀ j, (Value.slice la ((M.bk v).filter (fun y => !Mk.hit n who y)).length lc).ownBlock = some j → (b.bv v).ownBlock = some j ∨ w.heap.size ≤ j := fun j hj => .inr (by have := own_ge HOwf.out j hj; omega)
        have hR8 : Ref (wr.setCell ⟨b.bB, v, none⟩ (.slice la ((M.bk v).filter (fun y => !Mk.hit n who y)).length lc)) p { b with bv := upd b.bv v (.slice la ((M.bk v).filter (fun y => !Mk.hit n who y)).length lc) } { Mk.holdM M v who x.o (-1) with bk := upd (Mk.holdM M v who x.o (-1)).bk v ((M.bk v).filter (fun y => !Mk.hit n who y)) } := by
          have hself : ∀ j, (Value.slice la ((M.bk v).filter (fun y => !Mk.hit n who y)).length lc).ownBlock = some j → (b.bv v).ownBlock = some j ∨ ¬ b.has p j := fun j hj => .inr (fun h => by have h1 := HLt0.out j h; have h2 := own_ge HOwf.out j hj; omega)
          exact HRf.out.setBk' (w1 := wr) hv (fun _ _ _ => rfl) (own_zero HOwf.out) hself
        have hbk2 : (Mk.holdM M v who x.o (-1)).bk = M.bk := by unfold Mk.holdM; split <;> rfl
        rw [hbk2] at hR8
        have HR8 := (show Hid _ from hR8)
        have HN8 : Hid (∀ j, RB.has { b with bv := upd b.bv v (.slice la ((M.bk v).filter (fun y => !Mk.hit n who y)).length lc) } p j → b.has p j ∨ w.heap.size ≤ j) := rb_new hv hn8
        have HO8 : Hid (Only (b.has p) w (wr.setCell ⟨b.bB, v, none⟩ (.slice la ((M.bk v).filter (fun y => !Mk.hit n who y)).length lc))) := HO.out.set (show b.has p b.bB from .inr (.inr (.inr (.inr (.inr (.inl rfl)))))) _
        rw [hany]
        clear hany hfd hb hR8 hn8
        go_wp2_with fail
        go_ret
        rw [HX.out]
        exact ⟨rfl, _, HR8.out, HO8.out, HN8.out⟩

end Go.Proofs.YtmebcdpdpcpnmaaGreatDoor
