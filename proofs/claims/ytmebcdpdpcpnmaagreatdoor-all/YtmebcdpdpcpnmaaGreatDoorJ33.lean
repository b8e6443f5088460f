import Derived.Test.YtmebcdpdpcpnmaaGreatDoorJ32
import Derived.Test.YtmebcdpdpcpnmaaGreatDoorJ24
import Derived.Test.YtmebcdpdpcpnmaaGreatDoorJ25
namespace Go.Proofs.YtmebcdpdpcpnmaaGreatDoor
open Go.RowKit

/-- a step of a script; its orders lie behind oa -/
structure OpD where
  kind : Int
  m : Int
  a : Int
  b : Int
  s : ByteArray
  oa : Option Addr
  cap : Nat
  os : List Mk.Ord

/-- the steps l lie in memory behind the slice address a -/
def AtOps (w : World) (b off : Nat) (l : List OpD) : Prop :=
  ∀ (i : Nat) (h : i < l.length), w.cell? ⟨b, off + i * 6, none⟩ = some (.int .i64 l[i].kind) ∧ w.cell? ⟨b, off + i * 6 + 1, none⟩ = some (.int .i64 l[i].m) ∧ w.cell? ⟨b, off + i * 6 + 2, none⟩ = some (.int .i64 l[i].a) ∧
    w.cell? ⟨b, off + i * 6 + 3, none⟩ = some (.int .i64 l[i].b) ∧ w.cell? ⟨b, off + i * 6 + 4, none⟩ = some (.string l[i].s) ∧ w.cell? ⟨b, off + i * 6 + 5, none⟩ = some (.slice l[i].oa l[i].os.length l[i].cap) ∧ Rd w l[i].oa l[i].os
def RdOps (w : World) (a : Option Addr) (l : List OpD) : Prop := l = [] ∨ ∃ b off : Nat, a = some ⟨b, off, none⟩ ∧ AtOps w b off l
/-- what is known of the numbers and sizes of a step -/
structure OpD.Fits (x : OpD) : Prop where
  a1 : -9223372036854775808 ≤ x.a
  a2 : x.a ≤ 9223372036854775807
  b1 : -9223372036854775808 ≤ x.b
  b2 : x.b ≤ 9223372036854775807
  s1 : x.s.size ≤ 140737488355328
  o1 : x.os.length ≤ 140737488355328
  m1 : -9223372036854775808 ≤ x.m
  m2 : x.m ≤ 9223372036854775807

theorem AtOps.below {w w' : World} {b off : Nat} {l : List OpD} (h : AtOps w b off l) (hb : Below w.heap.size w w') : AtOps w' b off l := by
  intro i hi
  obtain ⟨c0, c1, c2, c3, c4, c5, hR⟩ := h i hi
  have hl := blk_lt c0
  exact ⟨(hb.cell (p := ⟨b, _, none⟩) hl).trans c0, (hb.cell (p := ⟨b, _, none⟩) hl).trans c1, (hb.cell (p := ⟨b, _, none⟩) hl).trans c2, (hb.cell (p := ⟨b, _, none⟩) hl).trans c3, (hb.cell (p := ⟨b, _, none⟩) hl).trans c4, (hb.cell (p := ⟨b, _, none⟩) hl).trans c5, hR.below hb⟩
theorem RdOps.below {w w' : World} {a : Option Addr} {l : List OpD} (h : RdOps w a l) (hb : Below w.heap.size w w') : RdOps w' a l := by
  rcases h with h | ⟨b, off, h, hR⟩
  · exact .inl h
  · exact .inr ⟨b, off, h, hR.below hb⟩

set_option maxRecDepth 100000 in
set_option maxHeartbeats 1000000 in
theorem saysAny_nil (s : ByteArray) (w : World) :
    Calls Tryz.prog 11 #[.string s, .slice none 0 0] w fun e w' => e = .returned (.bool false) ∧ w' = w := by
  go_enter Tryz.func11, Tryz.ntmps11
  go_wp2
  go_loop [5] (fun i => i = .int .i64 0) (fun i => 0)
  case atStart => rfl
  case round =>
    subst hrel
    go_wp2
    go_ret
    exact ⟨rfl, rfl⟩

/-- what 'small' tells -/
def SmallIs (l : List OpD) (r : Bool) : Prop := r = true → l.length ≤ 1048576 ∧ ∀ (i : Nat) (h : i < l.length), (l[i].os.length ≤ 1048576 ∧ l[i].s.size ≤ 1048576)

set_option maxRecDepth 100000 in
set_option maxHeartbeats 2000000 in
theorem small_any (a : Option Addr) (cap : Nat) (l : List OpD) (w : World) (hf : ∀ x ∈ l, x.Fits) (hR : RdOps w a l) :
    Calls Tryz.prog 10 #[.slice a l.length cap] w fun e w' => ∃ r, e = .returned (.bool r) ∧ SmallIs l r ∧ Below w.heap.size w w' := by
  have HF : Hid (∀ x ∈ l, x.Fits) := hf
  have HR : Hid (RdOps w a l) := hR
  clear hf hR
  by_cases hl : l.length ≤ 1048576
  · have hl' : ¬ (1048576 : Int) < (l.length : Int) := by omega
    go_enter Tryz.func10, Tryz.ntmps10
    go_wp2
    go_loopw [3, 4] (fun x j wr => ∃ (k : Nat) (n : Int), k ≤ l.length ∧ j = .int .i64 k ∧ x = .int .i64 n ∧ 0 ≤ n ∧ n ≤ 1048576 ∧ (∀ (i : Nat) (h : i < l.length), i < k → (l[i].os.length ≤ 1048576 ∧ l[i].s.size ≤ 1048576)) ∧ Below w.heap.size w wr) (fun _ j _ => l.length - (intOf j).toNat)
    case atStart => exact ⟨0, l.length, Nat.zero_le _, rfl, rfl, by omega, by omega, fun i _ hi => by omega, Below.refl _ _⟩
    case round =>
      obtain ⟨k, n, hk, rfl, rfl, hn1, hn2, hall, hb⟩ := hrel
      have Hb : Hid (Below w.heap.size w wr) := hb
      have Hall : Hid (∀ (i : Nat) (h : i < l.length), i < k → (l[i].os.length ≤ 1048576 ∧ l[i].s.size ≤ 1048576)) := hall
      clear hb hall
      by_cases hlt : k < l.length
      · rcases HR.out with h | ⟨b, off, rfl, hA⟩
        · rw [h] at hlt; simp at hlt
        obtain ⟨c0, c1, c2, c3, c4, c5, _⟩ := AtOps.below hA Hb.out k hlt
        clear hA
        have hlt' : (k : Int) < (l.length : Int) := by omega
        obtain ⟨_, _, _, _, hs, ho, _, _⟩ := HF.out _ (List.getElem_mem hlt)
        by_cases hbig : (1048576 : Int) < n + (l[k].s.size : Int) + (l[k].os.length : Int)
        · go_wp2
          go_quiet (fail)
          go_wp2
          go_ret
          exact ⟨false, rfl, fun h => (by cases h), below_drewN Hb.out _⟩
        · have HA : Hid (∀ (i : Nat) (h : i < l.length), i < k + 1 → (l[i].os.length ≤ 1048576 ∧ l[i].s.size ≤ 1048576)) := fun i h hi => by
            by_cases e : i = k
            · subst e; exact ⟨by omega, by omega⟩
            · exact Hall.out i h (by omega)
          go_wp2
          go_quiet (fail)
          go_wp2
          go_roundw
          case rel => exact ⟨k + 1, n + (l[k].s.size : Int) + (l[k].os.length : Int), by omega, by go_num, by go_num, by omega, by omega, HA.out, below_drewN Hb.out _⟩
          case measure => simp [intOf]; omega
      · obtain rfl : k = l.length := by omega
        go_wp2
        go_ret
        exact ⟨true, rfl, fun _ => ⟨hl, fun i h => Hall.out i h h⟩, Hb.out⟩
  · have hl' : (1048576 : Int) < (l.length : Int) := by omega
    go_enter Tryz.func10, Tryz.ntmps10
    go_wp2
    go_ret
    exact ⟨false, rfl, fun h => (by cases h), Below.refl _ _⟩

theorem Left.of {G : Gst} {w w1 : World} {B : Nat} {o : Outs} {e : Ending} {w' : World} (h : Left G w1 B o e w') (hb : Below B w w1) : Left G w B o e w' := by
  obtain ⟨he, o', vo', vw', h1, h2, h3⟩ := h
  exact ⟨he, o', vo', vw', h1, h2, hb.trans h3⟩

set_option maxRecDepth 100000 in
set_option maxHeartbeats 2000000 in
theorem step_of {G : Gst} (B : Nat) (o : Outs) (kind m a b : Int) (s : ByteArray) (oa : Option Addr) (n cap : Nat) (w : World) (h1 : 1 ≤ kind) (h2 : kind ≤ 3) (hBw : B < w.heap.size)
    (hl : ∀ ob, Calls Tryz.prog 15 #[.pointer (some ⟨B, 0, none⟩), opV kind m a b s oa n cap] (w.alloc ob) fun e w' => Left G (w.alloc ob) B o e w') :
    Calls Tryz.prog 12 #[.pointer (some ⟨B, 0, none⟩), opV kind m a b s oa n cap] w fun e w' => Left G w B o e w' := by
  have HL := (show Hid _ from hl)
  clear hl
  go_enter Tryz.func12, Tryz.ntmps12
  go_wp2_with fail
  refine (HL.out _).mono ?_
  rintro e w2 ⟨rfl, o', vo', vw', hm', hS', hb'⟩
  have HS' : Hid (St G w2 B o' vo' vw') := hS'
  have HB' : Hid (Below B w w2) := ((Below.refl _ _).alloc (by omega) _).trans hb'
  clear hS' hb'
  go_wp2
  go_ret
  exact ⟨rfl, o', vo', vw', hm', HS'.out, HB'.out⟩

theorem step_any {G : Gst} (B : Nat) (o : Outs) (vo vw : Value) (x : OpD) (w : World) (h1 : 1 ≤ x.kind) (h2 : x.kind ≤ 3) (hm : o.m ≤ 1048576) (hn : x.os.length ≤ 1048576) (hf : x.Fits) (hR : Rd w x.oa x.os) (hS : St G w B o vo vw) :
    Calls Tryz.prog 12 #[.pointer (some ⟨B, 0, none⟩), opV x.kind x.m x.a x.b x.s x.oa x.os.length x.cap] w fun e w' => Left G w B o e w' := by
  have hb : ∀ ob, Below w.heap.size w (w.alloc ob) := fun ob => (Below.refl _ _).alloc (Nat.le_refl _) _
  refine step_of B o x.kind x.m x.a x.b x.s x.oa x.os.length x.cap w h1 h2 hS.lt (fun ob => ?_)
  obtain h | h | h : x.kind = 1 ∨ x.kind = 2 ∨ x.kind = 3 := by omega
  · rw [h]; exact lists_uniform B o vo vw _ _ _ _ _ _ x.os _ hm hn (hR.below (hb ob)) (hS.below (hb ob))
  · rw [h]; exact lists_mcafee B o vo vw _ _ _ _ _ _ x.os _ hm hn (hR.below (hb ob)) (hS.below (hb ob))
  · rw [h]; exact lists_write B o vo vw _ _ _ _ _ _ _ _ hm (hS.below (hb ob)) hf.a1 hf.a2 hf.b1 hf.b2

end Go.Proofs.YtmebcdpdpcpnmaaGreatDoor

namespace Go.Proofs.YtmebcdpdpcpnmaaGreatDoor
open Go.RowKit

/-- nothing has come out yet -/
def Outs.none : Outs := ⟨0, fun _ => 0, fun _ => 0, fun _ => 0, fun _ _ => 0⟩
/-- nothing else lies there -/
def Gst.none : Gst := ⟨fun _ => False, fun _ => Option.none, .slice Option.none 0 0⟩
theorem St.born (w : World) : St Gst.none (w.alloc (.cells #[.slice none 0 0, .slice none 0 0, .slice none 0 0] 30)) w.heap.size Outs.none (.slice none 0 0) (.slice none 0 0) :=
  ⟨⟨by simp [Gst.none], by simp [go_sem], by simp, by simp, by simp [go_sem], by simp [go_sem], ⟨by simp [sls, Outs.none], .inl ⟨rfl, rfl⟩⟩, ⟨by simp [sls, Outs.none], .inl ⟨rfl, rfl⟩⟩, fun k hk => by simp [Value.ownBlock] at hk, fun _ h => h.elim⟩,
    fun i hi => absurd hi (Nat.not_lt_zero i), fun i hi => absurd hi (Nat.not_lt_zero i), fun i hi => absurd hi (Nat.not_lt_zero i), fun i hi => absurd hi (Nat.not_lt_zero i), fun i hi => absurd hi (Nat.not_lt_zero i), fun i j _ hj => absurd hj (Nat.not_lt_zero j), fun i hi => absurd hi (Nat.not_lt_zero i)⟩

set_option maxRecDepth 100000 in
set_option maxHeartbeats 2000000 in
theorem plays_lists (a : Option Addr) (cap : Nat) (l : List OpD) (w : World) (hf : ∀ x ∈ l, x.Fits) (hR : RdOps w a l) :
    Calls Tryz.prog 9 #[.slice a l.length cap, .int .i64 1, .int .i64 3, .slice none 0 0] w fun e w' => e = .returned (.bool true) ∧ Below w.heap.size w w' := by
  have HF : Hid (∀ x ∈ l, x.Fits) := hf
  have HR : Hid (RdOps w a l) := hR
  clear hf hR
  go_enter Tryz.func9, Tryz.ntmps9
  go_wp2_with fail
  refine (small_any a cap l _ HF.out HR.out).mono ?_
  rintro e w1 ⟨r, rfl, hsm, hb1⟩
  have HB1 : Hid (Below w.heap.size w w1) := hb1
  have HSm : Hid (SmallIs l r) := hsm
  clear hsm hb1
  cases r
  · go_wp2
    go_ret
    exact ⟨rfl, HB1.out⟩
  · obtain ⟨hlen, hos⟩ := HSm.out rfl
    have HO : Hid (∀ (i : Nat) (h : i < l.length), l[i].os.length ≤ 1048576) := fun i h => (hos i h).1
    clear hos
    have hsz := HB1.out.size
    go_wp2
    go_loopw [11] (fun j wr => ∃ k : Nat, k ≤ l.length ∧ j = .int .i64 k ∧ (∃ o vo vw, o.m ≤ k ∧ St Gst.none wr w1.heap.size o vo vw) ∧ Below w1.heap.size w1 wr) (fun j _ => l.length - (intOf j).toNat)
    case atStart => exact ⟨0, Nat.zero_le _, rfl, ⟨Outs.none, _, _, Nat.le_refl _, St.born w1⟩, (Below.refl _ _).alloc (Nat.le_refl _) _⟩
    case round =>
      obtain ⟨k, hk, rfl, ⟨o, vo, vw, hm, hS⟩, hb⟩ := hrel
      have Hb : Hid (Below w1.heap.size w1 wr) := hb
      have HS : Hid (St Gst.none wr w1.heap.size o vo vw) := hS
      have HBw : Hid (Below w.heap.size w wr) := HB1.out.trans (hb.mono hsz)
      have hBr : w1.heap.size < wr.heap.size := hS.lt
      clear hb hS
      by_cases hlt : k < l.length
      · rcases HR.out with h | ⟨b, off, rfl, hA⟩
        · rw [h] at hlt; simp at hlt
        obtain ⟨c0, c1, c2, c3, c4, c5, hRk⟩ := AtOps.below hA HBw.out k hlt
        clear hA
        have HRk : Hid (Rd wr l[k].oa l[k].os) := hRk
        have HFk : Hid (l[k].Fits) := HF.out _ (List.getElem_mem hlt)
        have hok := HO.out k hlt
        clear hRk
        have hbl := blk_lt c0
        have hlt' : (k : Int) < (l.length : Int) := by omega
        have HAl : Hid (∀ ob, Below wr.heap.size wr (wr.alloc ob)) := fun ob => (Below.refl _ _).alloc (Nat.le_refl _) ob
        by_cases h1 : l[k].kind < 1
        · go_wp2_with (go_at_call 11; refine (saysAny_nil _ _).mono ?_; rintro e w2 ⟨rfl, hw2⟩; obtain rfl := hw2.symm)
          go_roundw
          case rel => exact ⟨k + 1, by omega, by go_num, ⟨o, vo, vw, by omega, HS.out.below (HAl.out _)⟩, Hb.out.alloc Hb.out.size _⟩
          case measure => simp [intOf]; omega
        · by_cases h3 : 3 < l[k].kind
          · go_wp2_with (go_at_call 11; refine (saysAny_nil _ _).mono ?_; rintro e w2 ⟨rfl, hw2⟩; obtain rfl := hw2.symm)
            go_roundw
            case rel => exact ⟨k + 1, by omega, by go_num, ⟨o, vo, vw, by omega, HS.out.below (HAl.out _)⟩, Hb.out.alloc Hb.out.size _⟩
            case measure => simp [intOf]; omega
          · go_wp2_with fail
            refine (saysAny_nil _ _).mono ?_
            rintro e w2 ⟨rfl, hw2⟩
            obtain rfl := hw2.symm
            go_wp2_with fail
            refine (step_any w1.heap.size o vo vw l[k] _ (by omega) (by omega) (by omega) hok HFk.out (HRk.out.below (HAl.out _)) (HS.out.below (HAl.out _))).mono ?_
            rintro e w3 ⟨rfl, o3, vo3, vw3, hm3, hS3, hb3⟩
            have HS3 : Hid (St Gst.none w3 w1.heap.size o3 vo3 vw3) := hS3
            have HB3 : Hid (Below w1.heap.size w1 w3) := (Hb.out.alloc Hb.out.size _).trans hb3
            clear hS3 hb3
            go_wp2_with fail
            refine (looks_any w1.heap.size o3 vo3 vw3 _ (by omega) HS3.out).mono ?_
            rintro e w4 ⟨rfl, hb4⟩
            have HS4 : Hid (St Gst.none w4 w1.heap.size o3 vo3 vw3) := HS3.out.below hb4
            have HB4 : Hid (Below w1.heap.size w1 w4) := HB3.out.trans (hb4.mono HB3.out.size)
            clear hb4
            go_wp2
            go_roundw
            case rel => exact ⟨k + 1, by omega, by go_num, ⟨o3, vo3, vw3, by omega, HS4.out⟩, HB4.out⟩
            case measure => simp [intOf]; omega
      · go_wp2
        go_ret
        exact ⟨rfl, HBw.out⟩

set_option maxHeartbeats 1000000 in
theorem lists_law (a : Option Addr) (cap : Nat) (l : List OpD) (w : World) (hf : ∀ x ∈ l, x.Fits) (hR : RdOps w a l) :
    Calls Tryz.prog 3 #[.slice a l.length cap] w fun e w' => e = .returned (.bool true) ∧ Below w.heap.size w w' := by
  have HF : Hid (∀ x ∈ l, x.Fits) := hf
  have HR : Hid (RdOps w a l) := hR
  clear hf hR
  go_enter Tryz.func3, Tryz.ntmps3
  go_wp2_with fail
  refine (plays_lists a cap l _ HF.out HR.out).mono ?_
  rintro e w1 ⟨rfl, hb1⟩
  have HB1 : Hid (Below w.heap.size w w1) := hb1
  clear hb1
  go_wp2
  go_ret
  exact ⟨rfl, HB1.out⟩

end Go.Proofs.YtmebcdpdpcpnmaaGreatDoor

namespace Go.Proofs.YtmebcdpdpcpnmaaGreatDoor
open Go.RowKit

/-- the markets: how many; market i: its pair's block, the program's market's, the document's; what they hold -/
structure Mks where
  m : Nat
  q : Nat → Nat
  px : Nat → Nat
  pr : Nat → Nat
  vb : Nat → Nat → Value
  rb : Nat → RB
  Mp : Nat → Mk.Mkt
  Mr : Nat → Mk.Mkt
/-- whose block: 2 i: the program's market i; 2 i + 1: the document's -/
def Mks.own (s : Mks) (a k : Nat) : Prop := if a % 2 = 0 then PHas (s.px (a / 2)) (s.vb (a / 2)) k else (s.rb (a / 2)).has (s.pr (a / 2)) k
theorem Mks.own_p (s : Mks) (i k : Nat) : s.own (2 * i) k ↔ PHas (s.px i) (s.vb i) k := by
  unfold Mks.own
  rw [if_pos (by omega), show 2 * i / 2 = i by omega]
theorem Mks.own_r (s : Mks) (i k : Nat) : s.own (2 * i + 1) k ↔ (s.rb i).has (s.pr i) k := by
  unfold Mks.own
  rw [if_neg (by omega), show (2 * i + 1) / 2 = i by omega]

def prF (x r : Nat) : Nat → Value
  | 0 => .pointer (some ⟨x, 0, none⟩)
  | _ => .pointer (some ⟨r, 0, none⟩)
def ptrs (q : Nat → Nat) (m : Nat) : List Value := (List.range m).map (fun i => .pointer (some ⟨q i, 0, none⟩))
theorem ptrs_get (q : Nat → Nat) {m i : Nat} (hi : i < m) : (ptrs q m)[i]? = some (.pointer (some ⟨q i, 0, none⟩)) := by
  unfold ptrs; simp [List.getElem?_map, List.getElem?_range hi]

/-- the markets in memory, each apart from all the others -/
structure Sc (w : World) (B : Nat) (vm : Value) (s : Mks) : Prop where
  pair : ∀ i, i < s.m → w.rowIs (s.q i) 44 2 (prF (s.px i) (s.pr i))
  pm : ∀ i, i < s.m → PM w (s.px i) (s.vb i) (s.Mp i)
  rf : ∀ i, i < s.m → Ref w (s.pr i) (s.rb i) (s.Mr i)
  dis : ∀ a b, a < 2 * s.m → b < 2 * s.m → a ≠ b → ∀ k, s.own a k → ¬ s.own b k
  fix : ∀ a, a < 2 * s.m → ∀ k, s.own a k → B < k ∧ (∀ i, i < s.m → k ≠ s.q i) ∧ vm.ownBlock ≠ some k
  qB : ∀ i, i < s.m → B < s.q i ∧ vm.ownBlock ≠ some (s.q i)
/-- what else lies there and stays as it is: some blocks, and the rest of the World's box -/
structure Ext where
  X : Nat → Prop
  H : Nat → Option Obj
  v1 : Value
  v2 : Value
/-- .. and the row of them, in the World's box -/
structure Sm (E : Ext) (w : World) (B : Nat) (vm : Value) (s : Mks) : Prop where
  c0 : w.cell? ⟨B, 0, none⟩ = some vm
  z0 : w.frozen? ⟨B, 0, none⟩ = false
  c1 : w.cell? ⟨B, 1, none⟩ = some E.v1
  z1 : w.frozen? ⟨B, 1, none⟩ = false
  c2 : w.cell? ⟨B, 2, none⟩ = some E.v2
  z2 : w.frozen? ⟨B, 2, none⟩ = false
  own : w.ownsRow (B + 1) 42 1 vm s.m (ptrs s.q s.m)
  sc : Sc w B vm s
  ext : ∀ k, E.X k → k < w.heap.size ∧ w.heap[k]? = E.H k ∧ k ≠ B ∧ vm.ownBlock ≠ some k ∧ (∀ i, i < s.m → k ≠ s.q i) ∧ ∀ a, a < 2 * s.m → ¬ s.own a k

section
variable {E : Ext} {w w' : World} {B : Nat} {vm : Value} {s : Mks}
theorem Sc.lt (h : Sc w B vm s) {a k : Nat} (ha : a < 2 * s.m) (hk : s.own a k) : k < w.heap.size := by
  unfold Mks.own at hk
  split at hk
  · exact (h.pm _ (by omega)).lt hk
  · exact (h.rf _ (by omega)).lt hk
/-- whatever turns, if it is none of the blocks of theirs -/
theorem Sc.blocks (h : Sc w B vm s) (hq : ∀ i, i < s.m → w'.heap[s.q i]? = w.heap[s.q i]?) (hk : ∀ a, a < 2 * s.m → ∀ k, s.own a k → w'.heap[k]? = w.heap[k]?) : Sc w' B vm s :=
  ⟨fun i hi => (h.pair i hi).of_block (hq i hi), fun i hi => (h.pm i hi).blocks (fun k hk' => hk (2 * i) (by omega) k ((s.own_p i k).2 hk')), fun i hi => (h.rf i hi).blocks (fun k hk' => hk (2 * i + 1) (by omega) k ((s.own_r i k).2 hk')), h.dis, h.fix, h.qB⟩
theorem Sc.below (h : Sc w B vm s) (hb : Below w.heap.size w w') : Sc w' B vm s :=
  h.blocks (fun i hi => hb.block _ (h.pair i hi).lt) (fun _ ha k hk => hb.block k (h.lt ha hk))
theorem Sc.setB (h : Sc w B vm s) (i : Nat) (u : Value) : Sc (w.setCell ⟨B, i, none⟩ u) B vm s :=
  h.blocks (fun i hi => Below.heap_setCell w _ u _ (fun e => by have := (h.qB i hi).1; simp at e; omega)) (fun a ha k hk => Below.heap_setCell w _ u _ (fun e => by have := (h.fix a ha k hk).1; simp at e; omega))
theorem Sm.lt (h : Sm E w B vm s) : B < w.heap.size := blk_lt h.c0
theorem Sm.below (h : Sm E w B vm s) (hb : Below w.heap.size w w') : Sm E w' B vm s :=
  ⟨(hb.cell (p := ⟨B, 0, none⟩) h.lt).trans h.c0, (hb.frozen (p := ⟨B, 0, none⟩) h.lt).trans h.z0, (hb.cell (p := ⟨B, 1, none⟩) h.lt).trans h.c1, (hb.frozen (p := ⟨B, 1, none⟩) h.lt).trans h.z1, (hb.cell (p := ⟨B, 2, none⟩) h.lt).trans h.c2, (hb.frozen (p := ⟨B, 2, none⟩) h.lt).trans h.z2, own_below h.own hb (fun k hk => (h.own.lt k hk).2), h.sc.below hb,
    fun k hk => ⟨Nat.lt_of_lt_of_le (h.ext k hk).1 hb.size, (hb.block k (h.ext k hk).1).trans (h.ext k hk).2.1, (h.ext k hk).2.2⟩⟩
/-- one of them turns, and lays new blocks -/
theorem Sm.agent (h : Sm E w B vm s) {a0 : Nat} (ha : a0 < 2 * s.m) (s' : Mks) (hm : s'.m = s.m) (hq : s'.q = s.q) (hx : s'.px = s.px) (hr : s'.pr = s.pr) (hoth : ∀ a, a ≠ a0 → ∀ k, s'.own a k → s.own a k) (hself : ∀ k, s'.own a0 k → s.own a0 k ∨ w.heap.size ≤ k)
    (ho : Only (s.own a0) w w') (hpm : ∀ i, i < s.m → PM w' (s'.px i) (s'.vb i) (s'.Mp i)) (hrf : ∀ i, i < s.m → Ref w' (s'.pr i) (s'.rb i) (s'.Mr i)) : Sm E w' B vm s' := by
  have hB := h.lt
  have eB : w'.heap[B]? = w.heap[B]? := ho.block B hB (fun e => by have := (h.sc.fix a0 ha B e).1; omega)
  have hv : ∀ k, vm.ownBlock = some k → k < w.heap.size := fun k hk => (h.own.lt k hk).2
  refine ⟨(World.cell?_of_block (w := w) (a := ⟨B, 0, none⟩) eB).trans h.c0, (World.frozen?_of_block (w := w) (a := ⟨B, 0, none⟩) eB).trans h.z0, (World.cell?_of_block (w := w) (a := ⟨B, 1, none⟩) eB).trans h.c1, (World.frozen?_of_block (w := w) (a := ⟨B, 1, none⟩) eB).trans h.z1, (World.cell?_of_block (w := w) (a := ⟨B, 2, none⟩) eB).trans h.c2, (World.frozen?_of_block (w := w) (a := ⟨B, 2, none⟩) eB).trans h.z2, ?_, ⟨?_, ?_, ?_, ?_, ?_, ?_⟩, fun k hk => ?_⟩
  · rw [hm, hq]
    exact own_block h.own (fun k hk => ho.block k (hv k hk) (fun e => (h.sc.fix a0 ha k e).2.2 hk))
  · intro i hi
    rw [hm] at hi
    rw [hq, hx, hr]
    exact (h.sc.pair i hi).of_block (ho.block _ (h.sc.pair i hi).lt (fun e => (h.sc.fix a0 ha _ e).2.1 i hi rfl))
  · intro i hi; rw [hm] at hi; exact hpm i hi
  · intro i hi; rw [hm] at hi; exact hrf i hi
  · intro a b ha' hb' hab k hk1 hk2
    rw [hm] at ha' hb'
    by_cases e1 : a = a0
    · subst e1
      have hk2' := hoth b (fun e => hab e.symm) k hk2
      rcases hself k hk1 with h1 | h1
      · exact h.sc.dis a b ha' hb' hab k h1 hk2'
      · have := h.sc.lt hb' hk2'; omega
    · have hk1' := hoth a e1 k hk1
      by_cases e2 : b = a0
      · subst e2
        rcases hself k hk2 with h1 | h1
        · exact h.sc.dis a b ha' hb' hab k hk1' h1
        · have := h.sc.lt ha' hk1'; omega
      · exact h.sc.dis a b ha' hb' hab k hk1' (hoth b e2 k hk2)
  · intro a ha' k hk
    rw [hm] at ha'
    rw [hm, hq]
    by_cases e1 : a = a0
    · subst e1
      rcases hself k hk with h1 | h1
      · exact h.sc.fix a ha' k h1
      · refine ⟨by omega, fun i hi e => ?_, fun e => ?_⟩
        · have := (h.sc.pair i hi).lt; omega
        · have := hv k e; omega
    · exact h.sc.fix a ha' k (hoth a e1 k hk)
  · intro i hi
    rw [hm] at hi
    rw [hq]
    exact h.sc.qB i hi
  · obtain ⟨x1, x2, x3, x4, x5, x6⟩ := h.ext k hk
    refine ⟨Nat.lt_of_lt_of_le x1 ho.size, (ho.block k x1 (x6 a0 ha)).trans x2, x3, x4, fun i hi => ?_, fun a ha' hk' => ?_⟩
    · rw [hm] at hi
      rw [hq]
      exact x5 i hi
    · rw [hm] at ha'
      by_cases e1 : a = a0
      · subst e1
        rcases hself k hk' with h1 | h1
        · exact x6 a ha' h1
        · omega
      · exact x6 a ha' (hoth a e1 k hk')
/-- the program's market i turns -/
theorem Sm.atP (h : Sm E w B vm s) {i : Nat} (hi : i < s.m) {vb' : Nat → Value} {M' : Mk.Mkt} (hP : PM w' (s.px i) vb' M') (ho : Only (PHas (s.px i) (s.vb i)) w w') (hn : ∀ k, PHas (s.px i) vb' k → PHas (s.px i) (s.vb i) k ∨ w.heap.size ≤ k) :
    Sm E w' B vm { s with vb := upd s.vb i vb', Mp := upd s.Mp i M' } := by
  refine h.agent (a0 := 2 * i) (by omega) _ rfl rfl rfl rfl (fun a ha k hk => ?_) (fun k hk => ?_) ?_ (fun j hj => ?_) (fun j hj => ?_)
  · unfold Mks.own at hk ⊢
    split at hk
    · rename_i h0
      rw [if_pos h0]
      have : a / 2 ≠ i := by omega
      simp only [upd_ne _ _ this] at hk
      exact hk
    · rename_i h0
      rw [if_neg h0]
      exact hk
  · rw [Mks.own_p] at hk ⊢
    simp only [upd_self] at hk
    exact hn k hk
  · exact ⟨ho.os, ho.tape, ho.output, ho.size, fun k hk hk' => ho.block k hk (fun e => hk' ((s.own_p i k).2 e))⟩
  · by_cases e : j = i
    · subst e
      simp only [upd_self]
      exact hP
    · simp only [upd_ne _ _ e]
      exact (h.sc.pm j hj).blocks (fun k hk => ho.block k ((h.sc.pm j hj).lt hk) (fun e' => h.sc.dis (2 * j) (2 * i) (by omega) (by omega) (by omega) k ((s.own_p j k).2 hk) ((s.own_p i k).2 e')))
  · exact (h.sc.rf j hj).blocks (fun k hk => ho.block k ((h.sc.rf j hj).lt hk) (fun e' => h.sc.dis (2 * j + 1) (2 * i) (by omega) (by omega) (by omega) k ((s.own_r j k).2 hk) ((s.own_p i k).2 e')))
/-- the document's market i turns -/
theorem Sm.atR (h : Sm E w B vm s) {i : Nat} (hi : i < s.m) {b' : RB} {M' : Mk.Mkt} (hR : Ref w' (s.pr i) b' M') (ho : Only ((s.rb i).has (s.pr i)) w w') (hn : ∀ k, b'.has (s.pr i) k → (s.rb i).has (s.pr i) k ∨ w.heap.size ≤ k) :
    Sm E w' B vm { s with rb := upd s.rb i b', Mr := upd s.Mr i M' } := by
  refine h.agent (a0 := 2 * i + 1) (by omega) _ rfl rfl rfl rfl (fun a ha k hk => ?_) (fun k hk => ?_) ?_ (fun j hj => ?_) (fun j hj => ?_)
  · unfold Mks.own at hk ⊢
    split at hk
    · rename_i h0
      rw [if_pos h0]
      exact hk
    · rename_i h0
      rw [if_neg h0]
      have : a / 2 ≠ i := by omega
      simp only [upd_ne _ _ this] at hk
      exact hk
  · rw [Mks.own_r] at hk ⊢
    simp only [upd_self] at hk
    exact hn k hk
  · exact ⟨ho.os, ho.tape, ho.output, ho.size, fun k hk hk' => ho.block k hk (fun e => hk' ((s.own_r i k).2 e))⟩
  · exact (h.sc.pm j hj).blocks (fun k hk => ho.block k ((h.sc.pm j hj).lt hk) (fun e' => h.sc.dis (2 * j) (2 * i + 1) (by omega) (by omega) (by omega) k ((s.own_p j k).2 hk) ((s.own_r i k).2 e')))
  · by_cases e : j = i
    · subst e
      simp only [upd_self]
      exact hR
    · simp only [upd_ne _ _ e]
      exact (h.sc.rf j hj).blocks (fun k hk => ho.block k ((h.sc.rf j hj).lt hk) (fun e' => h.sc.dis (2 * j + 1) (2 * i + 1) (by omega) (by omega) (by omega) k ((s.own_r j k).2 hk) ((s.own_r i k).2 e')))
/-- nothing at the World's box or below it turns with one of them -/
theorem Sm.belowP (h : Sm E w B vm s) {i : Nat} (hi : i < s.m) (ho : Only (PHas (s.px i) (s.vb i)) w w') : Below B w w' :=
  ⟨ho.os, ho.tape, ho.output, ho.size, fun k hk => ho.block k (by have := h.lt; omega) (fun e => by have := (h.sc.fix (2 * i) (by omega) k ((s.own_p i k).2 e)).1; omega)⟩
theorem Sm.belowR (h : Sm E w B vm s) {i : Nat} (hi : i < s.m) (ho : Only ((s.rb i).has (s.pr i)) w w') : Below B w w' :=
  ⟨ho.os, ho.tape, ho.output, ho.size, fun k hk => ho.block k (by have := h.lt; omega) (fun e => by have := (h.sc.fix (2 * i + 1) (by omega) k ((s.own_r i k).2 e)).1; omega)⟩
end

end Go.Proofs.YtmebcdpdpcpnmaaGreatDoor
