import Derived.Test.YtmebcdpdpcpnmaaGreatDoorKL6
namespace Go.Proofs.YtmebcdpdpcpnmaaGreatDoor
open Go.RowKit

/-- a step of a script; its orders lie behind oa -/
structure OpD where
  kind : Int
  m : Int
  a : Int
  b : Int
  s : ByteArray
  oa : Option Addr
  cap : Nat
  os : List Mk.Ord

/-- the steps l lie in memory behind the slice address a -/
def AtOps (w : World) (b off : Nat) (l : List OpD) : Prop :=
  ∀ (i : Nat) (h : i < l.length), w.cell? ⟨b, off + i * 6, none⟩ = some (.int .i64 l[i].kind) ∧ w.cell? ⟨b, off + i * 6 + 1, none⟩ = some (.int .i64 l[i].m) ∧ w.cell? ⟨b, off + i * 6 + 2, none⟩ = some (.int .i64 l[i].a) ∧
    w.cell? ⟨b, off + i * 6 + 3, none⟩ = some (.int .i64 l[i].b) ∧ w.cell? ⟨b, off + i * 6 + 4, none⟩ = some (.string l[i].s) ∧ w.cell? ⟨b, off + i * 6 + 5, none⟩ = some (.slice l[i].oa l[i].os.length l[i].cap) ∧ Rd w l[i].oa l[i].os
def RdOps (w : World) (a : Option Addr) (l : List OpD) : Prop := l = [] ∨ ∃ b off : Nat, a = some ⟨b, off, none⟩ ∧ AtOps w b off l
/-- what is known of the numbers and sizes of a step -/
structure OpD.Fits (x : OpD) : Prop where
  a1 : -9223372036854775808 ≤ x.a
  a2 : x.a ≤ 9223372036854775807
  b1 : -9223372036854775808 ≤ x.b
  b2 : x.b ≤ 9223372036854775807
  s1 : x.s.size ≤ 140737488355328
  o1 : x.os.length ≤ 140737488355328
  m1 : -9223372036854775808 ≤ x.m
  m2 : x.m ≤ 9223372036854775807

theorem AtOps.below {w w' : World} {b off : Nat} {l : List OpD} (h : AtOps w b off l) (hb : Below w.heap.size w w') : AtOps w' b off l := by
  intro i hi
  obtain ⟨c0, c1, c2, c3, c4, c5, hR⟩ := h i hi
  have hl := blk_lt c0
  exact ⟨(hb.cell (p := ⟨b, _, none⟩) hl).trans c0, (hb.cell (p := ⟨b, _, none⟩) hl).trans c1, (hb.cell (p := ⟨b, _, none⟩) hl).trans c2, (hb.cell (p := ⟨b, _, none⟩) hl).trans c3, (hb.cell (p := ⟨b, _, none⟩) hl).trans c4, (hb.cell (p := ⟨b, _, none⟩) hl).trans c5, hR.below hb⟩
theorem RdOps.below {w w' : World} {a : Option Addr} {l : List OpD} (h : RdOps w a l) (hb : Below w.heap.size w w') : RdOps w' a l := by
  rcases h with h | ⟨b, off, h, hR⟩
  · exact .inl h
  · exact .inr ⟨b, off, h, hR.below hb⟩

set_option maxRecDepth 100000 in
set_option maxHeartbeats 1000000 in
theorem saysAny_nil (s : ByteArray) (w : World) :
    Calls Tryz.prog 11 #[.string s, .slice none 0 0] w fun e w' => e = .returned (.bool false) ∧ w' = w := by
  go_enter Tryz.func11, Tryz.ntmps11
  go_wp2
  go_loop [5] (fun i => i = .int .i64 0) (fun i => 0)
  case atStart => rfl
  case round =>
    subst hrel
    go_wp2
    go_ret
    exact ⟨rfl, rfl⟩

/-- what 'small' tells -/
def SmallIs (l : List OpD) (r : Bool) : Prop := r = true → l.length ≤ 1048576 ∧ ∀ (i : Nat) (h : i < l.length), (l[i].os.length ≤ 1048576 ∧ l[i].s.size ≤ 1048576)

set_option maxRecDepth 100000 in
set_option maxHeartbeats 2000000 in
theorem small_any (a : Option Addr) (cap : Nat) (l : List OpD) (w : World) (hf : ∀ x ∈ l, x.Fits) (hR : RdOps w a l) :
    Calls Tryz.prog 10 #[.slice a l.length cap] w fun e w' => ∃ r, e = .returned (.bool r) ∧ SmallIs l r ∧ Below w.heap.size w w' := by
  have HF : Hid (∀ x ∈ l, x.Fits) := hf
  have HR : Hid (RdOps w a l) := hR
  clear hf hR
  by_cases hl : l.length ≤ 1048576
  · have hl' : ¬ (1048576 : Int) < (l.length : Int) := by omega
    go_enter Tryz.func10, Tryz.ntmps10
    go_wp2
    go_loopw [3, 4] (fun x j wr => ∃ (k : Nat) (n : Int), k ≤ l.length ∧ j = .int .i64 k ∧ x = .int .i64 n ∧ 0 ≤ n ∧ n ≤ 1048576 ∧ (∀ (i : Nat) (h : i < l.length), i < k → (l[i].os.length ≤ 1048576 ∧ l[i].s.size ≤ 1048576)) ∧ Below w.heap.size w wr) (fun _ j _ => l.length - (intOf j).toNat)
    case atStart => exact ⟨0, l.length, Nat.zero_le _, rfl, rfl, by omega, by omega, fun i _ hi => by omega, Below.refl _ _⟩
    case round =>
      obtain ⟨k, n, hk, rfl, rfl, hn1, hn2, hall, hb⟩ := hrel
      have Hb : Hid (Below w.heap.size w wr) := hb
      have Hall : Hid (∀ (i : Nat) (h : i < l.length), i < k → (l[i].os.length ≤ 1048576 ∧ l[i].s.size ≤ 1048576)) := hall
      clear hb hall
      by_cases hlt : k < l.length
      · rcases HR.out with h | ⟨b, off, rfl, hA⟩
        · rw [h] at hlt; simp at hlt
        obtain ⟨c0, c1, c2, c3, c4, c5, _⟩ := AtOps.below hA Hb.out k hlt
        clear hA
        have hlt' : (k : Int) < (l.length : Int) := by omega
        obtain ⟨_, _, _, _, hs, ho, _, _⟩ := HF.out _ (List.getElem_mem hlt)
        by_cases hbig : (1048576 : Int) < n + (l[k].s.size : Int) + (l[k].os.length : Int)
        · go_wp2
          go_quiet (fail)
          go_wp2
          go_ret
          exact ⟨false, rfl, fun h => (by cases h), below_drewN Hb.out _⟩
        · have HA : Hid (∀ (i : Nat) (h : i < l.length), i < k + 1 → (l[i].os.length ≤ 1048576 ∧ l[i].s.size ≤ 1048576)) := fun i h hi => by
            by_cases e : i = k
            · subst e; exact ⟨by omega, by omega⟩
            · exact Hall.out i h (by omega)
          go_wp2
          go_quiet (fail)
          go_wp2
          go_roundw
          case rel => exact ⟨k + 1, n + (l[k].s.size : Int) + (l[k].os.length : Int), by omega, by go_num, by go_num, by omega, by omega, HA.out, below_drewN Hb.out _⟩
          case measure => simp [intOf]; omega
      · obtain rfl : k = l.length := by omega
        go_wp2
        go_ret
        exact ⟨true, rfl, fun _ => ⟨hl, fun i h => Hall.out i h h⟩, Hb.out⟩
  · have hl' : (1048576 : Int) < (l.length : Int) := by omega
    go_enter Tryz.func10, Tryz.ntmps10
    go_wp2
    go_ret
    exact ⟨false, rfl, fun h => (by cases h), Below.refl _ _⟩

theorem Left.of {G : Gst} {w w1 : World} {B : Nat} {o : Outs} {e : Ending} {w' : World} (h : Left G w1 B o e w') (hb : Below B w w1) : Left G w B o e w' := by
  obtain ⟨he, o', vo', vw', h1, h2, h3⟩ := h
  exact ⟨he, o', vo', vw', h1, h2, hb.trans h3⟩

set_option maxRecDepth 100000 in
set_option maxHeartbeats 2000000 in
theorem step_of {G : Gst} (B : Nat) (o : Outs) (kind m a b : Int) (s : ByteArray) (oa : Option Addr) (n cap : Nat) (w : World) (h1 : 1 ≤ kind) (h2 : kind ≤ 3) (hBw : B < w.heap.size)
    (hl : ∀ ob, Calls Tryz.prog 15 #[.pointer (some ⟨B, 0, none⟩), opV kind m a b s oa n cap] (w.alloc ob) fun e w' => Left G (w.alloc ob) B o e w') :
    Calls Tryz.prog 12 #[.pointer (some ⟨B, 0, none⟩), opV kind m a b s oa n cap] w fun e w' => Left G w B o e w' := by
  have HL := (show Hid _ from hl)
  clear hl
  go_enter Tryz.func12, Tryz.ntmps12
  go_wp2_with fail
  refine (HL.out _).mono ?_
  rintro e w2 ⟨rfl, o', vo', vw', hm', hS', hb'⟩
  have HS' : Hid (St G w2 B o' vo' vw') := hS'
  have HB' : Hid (Below B w w2) := ((Below.refl _ _).alloc (by omega) _).trans hb'
  clear hS' hb'
  go_wp2
  go_ret
  exact ⟨rfl, o', vo', vw', hm', HS'.out, HB'.out⟩

theorem step_any {G : Gst} (B : Nat) (o : Outs) (vo vw : Value) (x : OpD) (w : World) (h1 : 1 ≤ x.kind) (h2 : x.kind ≤ 3) (hm : o.m ≤ 1048576) (hn : x.os.length ≤ 1048576) (hf : x.Fits) (hR : Rd w x.oa x.os) (hS : St G w B o vo vw) :
    Calls Tryz.prog 12 #[.pointer (some ⟨B, 0, none⟩), opV x.kind x.m x.a x.b x.s x.oa x.os.length x.cap] w fun e w' => Left G w B o e w' := by
  have hb : ∀ ob, Below w.heap.size w (w.alloc ob) := fun ob => (Below.refl _ _).alloc (Nat.le_refl _) _
  refine step_of B o x.kind x.m x.a x.b x.s x.oa x.os.length x.cap w h1 h2 hS.lt (fun ob => ?_)
  obtain h | h | h : x.kind = 1 ∨ x.kind = 2 ∨ x.kind = 3 := by omega
  · rw [h]; exact lists_uniform B o vo vw _ _ _ _ _ _ x.os _ hm hn (hR.below (hb ob)) (hS.below (hb ob))
  · rw [h]; exact lists_mcafee B o vo vw _ _ _ _ _ _ x.os _ hm hn (hR.below (hb ob)) (hS.below (hb ob))
  · rw [h]; exact lists_write B o vo vw _ _ _ _ _ _ _ _ hm (hS.below (hb ob)) hf.a1 hf.a2 hf.b1 hf.b2

end Go.Proofs.YtmebcdpdpcpnmaaGreatDoor
