import Derived.Test.YtmebcdpdpcpnmaaGreatDoorJ5
import Derived.Laws.Strings
import Derived.Test.YtmebcdpdpcpnmaaGreatDoorJ1
import Derived.Test.YtmebcdpdpcpnmaaGreatDoorJ3
import Derived.Deep.QuietTactic
import Derived.BigQuiet
import Derived.Test.YtmebcdpdpcpnmaaGreatDoorJ4
import Derived.Deep.Cut
namespace Go.Proofs.YtmebcdpdpcpnmaaGreatDoor
open Go.RowKit

theorem Tryz.infoStr : (Tryz.prog.info? 9).map (fun i => (i.zero, i.size, i.bytes)) = some (some (.string ⟨#[]⟩), 1, 16) := by kernel_rfl

set_option maxRecDepth 100000 in
set_option maxHeartbeats 2000000 in
theorem cut_any (s : ByteArray) (w : World) (hs : s.size ≤ 1000000) :
    Calls Tryz.prog 47 #[.string s] w fun e w' => ∃ v, e = .returned v ∧ w'.ownsRow w.heap.size 9 1 v (Mk.words s).length ((Mk.words s).map .string) ∧ Below w.heap.size w w' := by
  obtain ⟨i0, hi0, hz0, hz1, hz2⟩ := info_parts Tryz.infoStr
  go_enter Tryz.func47, Tryz.ntmps47
  go_wp2
  go_loopw [3, 4, 5] (fun v f j wr => ∃ k : Nat, k ≤ s.size ∧ j = .int .i64 k ∧ f = .int .i64 ((Mk.cutTo s k).2 : Int) ∧ wr.ownsRow w.heap.size 9 1 v (Mk.cutTo s k).1.length ((Mk.cutTo s k).1.map .string) ∧ Below w.heap.size w wr) (fun _ _ j _ => s.size - (intOf j).toNat)
  case atStart => exact ⟨0, Nat.zero_le _, rfl, rfl, ⟨by simp [Mk.cutTo], .inl ⟨rfl, rfl⟩⟩, Below.refl _ _⟩
  case round =>
    obtain ⟨k, hk, rfl, rfl, hown, hb⟩ := hrel
    have Hb : Hid (Below w.heap.size w wr) := hb
    clear hb
    obtain ⟨q1, q2⟩ := Mk.cutTo_le s k
    have q1' : ((Mk.cutTo s k).2 : Int) ≤ (k : Int) := by omega
    have hsz := Hb.out.size
    by_cases hlt : k < s.size
    · have hlt' : (k : Int) < (s.size : Int) := by omega
      have HB : Hid (s[k].toNat = Mk.bt s k) := Mk.bt_at hlt
      by_cases hsp : s[k].toNat = 32
      · have hsp' : ((s[k].toNat : Int) == 32) = true := by rw [beq_iff_eq]; omega
        have HC : Hid (Mk.cutTo s (k + 1) = ((Mk.cutTo s k).1 ++ [s.extract (Mk.cutTo s k).2 k], k + 1)) := Mk.cutTo_yes (by rw [← HB.out]; exact hsp)
        have hle : ((Mk.cutTo s k).2 : Int) ≤ (k : Int) ∧ (k : Int) ≤ (s.size : Int) := by omega
        clear hsp
        go_wp2_with (at_builtin; (refine wpList_append_lies _ rfl _ _ _ rfl w.heap.size 9 i0 _ 1 16 Tryz.underlying25 hi0 hz0 hz1 hz2 rfl (by omega) _ (Mk.cutTo s k).1.length ((Mk.cutTo s k).1.map .string) rfl (hown.alloc _) ⟨wr.heap.size, 0, none⟩ 1 1 [.string (s.extract (Mk.cutTo s k).2 k)] rfl rfl (World.news_of_block (cs := #[.string (s.extract (Mk.cutTo s k).2 k)]) (t := 9) (fr := (0, 0)) (heap_alloc_new wr _)) (by simp [Value.oneCell']) (by omega) (by unfold maxLen; omega) (by omega) (by simp; omega) (wr.heap.size + 1) (by simp) ?_; intro gg cap' w1 hown1 hgrow hat hlt1))
        have HO1 := (show Hid _ from hown1)
        have HB1 : Hid (Below w.heap.size w w1) := Below.grown (Hb.out.alloc hsz _) hgrow (by simp; omega) (fun j hj => own_ge hown j hj)
        clear hown1 hgrow hat hown
        go_wp2
        go_roundw
        case rel =>
          refine ⟨k + 1, by omega, by go_num, by rw [HC.out]; go_num, ?_, HB1.out⟩
          rw [HC.out]
          simp only [List.length_append, List.length_cons, List.length_nil, Nat.zero_add, List.map_append, List.map_cons, List.map_nil]
          exact HO1.out
        case measure => simp [intOf]; omega
      · have hsp' : ((s[k].toNat : Int) == 32) = false := by rw [beq_eq_false_iff_ne]; omega
        have HC : Hid (Mk.cutTo s (k + 1) = Mk.cutTo s k) := Mk.cutTo_no (by rw [← HB.out]; exact hsp)
        have HO1 := (show Hid _ from hown)
        clear hsp hown
        go_wp2
        go_roundw
        case rel =>
          refine ⟨k + 1, by omega, by go_num, by rw [HC.out], ?_, Hb.out⟩
          rw [HC.out]
          exact HO1.out
        case measure => simp [intOf]; omega
    · obtain rfl : k = s.size := by omega
      have HW : Hid (Mk.words s = (Mk.cutTo s s.size).1 ++ [s.extract (Mk.cutTo s s.size).2 s.size]) := rfl
      go_wp2_with (at_builtin; (refine wpList_append_lies _ rfl _ _ _ rfl w.heap.size 9 i0 _ 1 16 Tryz.underlying25 hi0 hz0 hz1 hz2 rfl (by omega) _ (Mk.cutTo s s.size).1.length ((Mk.cutTo s s.size).1.map .string) rfl (hown.alloc _) ⟨wr.heap.size, 0, none⟩ 1 1 [.string (s.extract (Mk.cutTo s s.size).2 s.size)] rfl rfl (World.news_of_block (cs := #[.string (s.extract (Mk.cutTo s s.size).2 s.size)]) (t := 9) (fr := (0, 0)) (heap_alloc_new wr _)) (by simp [Value.oneCell']) (by omega) (by unfold maxLen; omega) (by omega) (by simp; omega) (wr.heap.size + 1) (by simp) ?_; intro gg cap' w1 hown1 hgrow hat hlt1))
      have HO1 := (show Hid _ from hown1)
      have HB1 : Hid (Below w.heap.size w w1) := Below.grown (Hb.out.alloc hsz _) hgrow (by simp; omega) (fun j hj => own_ge hown j hj)
      clear hown1 hgrow hat hown
      go_wp2
      go_ret
      refine ⟨_, rfl, ?_, HB1.out⟩
      rw [HW.out]
      simp only [List.length_append, List.length_cons, List.length_nil, Nat.zero_add, List.map_append, List.map_cons, List.map_nil]
      exact HO1.out

end Go.Proofs.YtmebcdpdpcpnmaaGreatDoor

/- Plain mathematics of the document's market: the words of commands. -/
namespace Mk

inductive Wd where
  | pay
  | draw
  | bring
  | fetch
  | buy
  | sell
  | drop
  | mode
  | close

/-- the text of a word -/
def Wd.text : Wd → ByteArray
  | .pay => ⟨#[112, 97, 121]⟩
  | .draw => ⟨#[100, 114, 97, 119]⟩
  | .bring => ⟨#[98, 114, 105, 110, 103]⟩
  | .fetch => ⟨#[102, 101, 116, 99, 104]⟩
  | .buy => ⟨#[98, 117, 121]⟩
  | .sell => ⟨#[115, 101, 108, 108]⟩
  | .drop => ⟨#[100, 114, 111, 112]⟩
  | .mode => ⟨#[109, 111, 100, 101]⟩
  | .close => ⟨#[99, 108, 111, 115, 101]⟩
/-- the least and the greatest of the numbers that belong to a word -/
def Wd.lo : Wd → List Nat
  | .pay => [1]
  | .draw => [1]
  | .bring => [0, 1]
  | .fetch => [0, 1]
  | .buy => [0, 1, 1]
  | .sell => [0, 1, 1]
  | .drop => [0, 0]
  | .mode => [0]
  | .close => [0]
def Wd.hi : Wd → List Nat
  | .pay => [9999]
  | .draw => [9999]
  | .bring => [1, 999]
  | .fetch => [1, 999]
  | .buy => [1, 99, 20]
  | .sell => [1, 99, 20]
  | .drop => [1, 11]
  | .mode => [1]
  | .close => [1]

def isW (s : ByteArray) (d : Wd) : Bool := s.toList == d.text.toList
/-- the word that a text is -/
def wd (s : ByteArray) : Option Wd :=
  if isW s .pay then some .pay else
  if isW s .draw then some .draw else
  if isW s .bring then some .bring else
  if isW s .fetch then some .fetch else
  if isW s .buy then some .buy else
  if isW s .sell then some .sell else
  if isW s .drop then some .drop else
  if isW s .mode then some .mode else
  if isW s .close then some .close else
  none
theorem bytes_eq {a b : ByteArray} (h : a.data.toList = b.data.toList) : a = b := by
  cases a; cases b
  simp at h
  rw [h]
theorem isW_no {s : ByteArray} {d : Wd} (h : wd s = none) : isW s d = false := by
  unfold wd at h
  by_cases hpay : isW s .pay = true
  · rw [if_pos hpay] at h; cases h
  rw [if_neg hpay] at h
  by_cases hdraw : isW s .draw = true
  · rw [if_pos hdraw] at h; cases h
  rw [if_neg hdraw] at h
  by_cases hbring : isW s .bring = true
  · rw [if_pos hbring] at h; cases h
  rw [if_neg hbring] at h
  by_cases hfetch : isW s .fetch = true
  · rw [if_pos hfetch] at h; cases h
  rw [if_neg hfetch] at h
  by_cases hbuy : isW s .buy = true
  · rw [if_pos hbuy] at h; cases h
  rw [if_neg hbuy] at h
  by_cases hsell : isW s .sell = true
  · rw [if_pos hsell] at h; cases h
  rw [if_neg hsell] at h
  by_cases hdrop : isW s .drop = true
  · rw [if_pos hdrop] at h; cases h
  rw [if_neg hdrop] at h
  by_cases hmode : isW s .mode = true
  · rw [if_pos hmode] at h; cases h
  rw [if_neg hmode] at h
  by_cases hclose : isW s .close = true
  · rw [if_pos hclose] at h; cases h
  rw [if_neg hclose] at h
  cases d
  · exact Bool.eq_false_iff.2 hpay
  · exact Bool.eq_false_iff.2 hdraw
  · exact Bool.eq_false_iff.2 hbring
  · exact Bool.eq_false_iff.2 hfetch
  · exact Bool.eq_false_iff.2 hbuy
  · exact Bool.eq_false_iff.2 hsell
  · exact Bool.eq_false_iff.2 hdrop
  · exact Bool.eq_false_iff.2 hmode
  · exact Bool.eq_false_iff.2 hclose
theorem lo_hi (d : Wd) : d.lo.length = d.hi.length ∧ d.lo.length ≤ 3 := by cases d <;> decide

end Mk

namespace Go.Proofs.YtmebcdpdpcpnmaaGreatDoor
open Go.RowKit

theorem Mk.isW_text {s : ByteArray} {d : Mk.Wd} (h : Mk.isW s d = true) : s = d.text := by
  unfold Mk.isW at h
  have := eq_of_beq h
  rw [ByteArray.toList_eq, ByteArray.toList_eq] at this
  exact Mk.bytes_eq this
theorem Mk.wd_text {s : ByteArray} {d : Mk.Wd} (h : Mk.wd s = some d) : s = d.text := by
  unfold Mk.wd at h
  by_cases hpay : Mk.isW s .pay = true
  · rw [if_pos hpay] at h; injection h with h; subst h; exact Mk.isW_text hpay
  rw [if_neg hpay] at h
  by_cases hdraw : Mk.isW s .draw = true
  · rw [if_pos hdraw] at h; injection h with h; subst h; exact Mk.isW_text hdraw
  rw [if_neg hdraw] at h
  by_cases hbring : Mk.isW s .bring = true
  · rw [if_pos hbring] at h; injection h with h; subst h; exact Mk.isW_text hbring
  rw [if_neg hbring] at h
  by_cases hfetch : Mk.isW s .fetch = true
  · rw [if_pos hfetch] at h; injection h with h; subst h; exact Mk.isW_text hfetch
  rw [if_neg hfetch] at h
  by_cases hbuy : Mk.isW s .buy = true
  · rw [if_pos hbuy] at h; injection h with h; subst h; exact Mk.isW_text hbuy
  rw [if_neg hbuy] at h
  by_cases hsell : Mk.isW s .sell = true
  · rw [if_pos hsell] at h; injection h with h; subst h; exact Mk.isW_text hsell
  rw [if_neg hsell] at h
  by_cases hdrop : Mk.isW s .drop = true
  · rw [if_pos hdrop] at h; injection h with h; subst h; exact Mk.isW_text hdrop
  rw [if_neg hdrop] at h
  by_cases hmode : Mk.isW s .mode = true
  · rw [if_pos hmode] at h; injection h with h; subst h; exact Mk.isW_text hmode
  rw [if_neg hmode] at h
  by_cases hclose : Mk.isW s .close = true
  · rw [if_pos hclose] at h; injection h with h; subst h; exact Mk.isW_text hclose
  rw [if_neg hclose] at h
  cases h

/-- numbers that lie at block g -/
def Nums (w : World) (g : Nat) (l : List Nat) : Prop := ∀ (i : Nat) (h : i < l.length), w.cell? ⟨g, i, none⟩ = some (.int .i64 (l[i] : Int))
theorem Nums.below {w w' : World} {g n : Nat} {l : List Nat} (h : Nums w g l) (hb : Below n w w') (hn : g < n) : Nums w' g l := fun i hi => (hb.cell (p := ⟨g, i, none⟩) hn).trans (h i hi)

/-- what 'bounds' answers at a word -/
def BoundsIs (d : Mk.Wd) (w : World) (e : Ending) (w' : World) : Prop :=
  ∃ g h, e = .returned (.tuple #[.slice (some ⟨g, 0, none⟩) d.lo.length d.lo.length, .slice (some ⟨h, 0, none⟩) d.lo.length d.lo.length, .bool true]) ∧ Nums w' g d.lo ∧ Nums w' h d.hi ∧ g < w'.heap.size ∧ h < w'.heap.size ∧ w.heap.size ≤ g ∧ w.heap.size ≤ h ∧ Below w.heap.size w w'

set_option maxRecDepth 100000 in
set_option maxHeartbeats 1000000 in
theorem bounds_pay (w : World) : Calls Tryz.prog 49 #[.string ⟨#[112, 97, 121]⟩] w fun e w' => BoundsIs .pay w e w' := by
  go_enter Tryz.func49, Tryz.ntmps49
  go_wp2
  go_ret3
  refine ⟨w.heap.size, w.heap.size + 1, rfl, ?_, ?_, by simp; omega, by simp, Nat.le_refl _, by omega, ((Below.refl _ _).alloc (Nat.le_refl _) _).alloc (by simp) _⟩
  · exact fun i hi => by
      match i, hi with
      | 0, _ => simp [Mk.Wd.lo]
  · exact fun i hi => by
      match i, hi with
      | 0, _ => simp [Mk.Wd.hi]

set_option maxRecDepth 100000 in
set_option maxHeartbeats 1000000 in
theorem bounds_draw (w : World) : Calls Tryz.prog 49 #[.string ⟨#[100, 114, 97, 119]⟩] w fun e w' => BoundsIs .draw w e w' := by
  go_enter Tryz.func49, Tryz.ntmps49
  go_wp2
  go_ret3
  refine ⟨w.heap.size, w.heap.size + 1, rfl, ?_, ?_, by simp; omega, by simp, Nat.le_refl _, by omega, ((Below.refl _ _).alloc (Nat.le_refl _) _).alloc (by simp) _⟩
  · exact fun i hi => by
      match i, hi with
      | 0, _ => simp [Mk.Wd.lo]
  · exact fun i hi => by
      match i, hi with
      | 0, _ => simp [Mk.Wd.hi]

set_option maxRecDepth 100000 in
set_option maxHeartbeats 1000000 in
theorem bounds_bring (w : World) : Calls Tryz.prog 49 #[.string ⟨#[98, 114, 105, 110, 103]⟩] w fun e w' => BoundsIs .bring w e w' := by
  go_enter Tryz.func49, Tryz.ntmps49
  go_wp2
  go_ret3
  refine ⟨w.heap.size, w.heap.size + 1, rfl, ?_, ?_, by simp; omega, by simp, Nat.le_refl _, by omega, ((Below.refl _ _).alloc (Nat.le_refl _) _).alloc (by simp) _⟩
  · exact fun i hi => by
      match i, hi with
      | 0, _ => simp [Mk.Wd.lo]
      | 1, _ => simp [Mk.Wd.lo]
  · exact fun i hi => by
      match i, hi with
      | 0, _ => simp [Mk.Wd.hi]
      | 1, _ => simp [Mk.Wd.hi]

set_option maxRecDepth 100000 in
set_option maxHeartbeats 1000000 in
theorem bounds_fetch (w : World) : Calls Tryz.prog 49 #[.string ⟨#[102, 101, 116, 99, 104]⟩] w fun e w' => BoundsIs .fetch w e w' := by
  go_enter Tryz.func49, Tryz.ntmps49
  go_wp2
  go_ret3
  refine ⟨w.heap.size, w.heap.size + 1, rfl, ?_, ?_, by simp; omega, by simp, Nat.le_refl _, by omega, ((Below.refl _ _).alloc (Nat.le_refl _) _).alloc (by simp) _⟩
  · exact fun i hi => by
      match i, hi with
      | 0, _ => simp [Mk.Wd.lo]
      | 1, _ => simp [Mk.Wd.lo]
  · exact fun i hi => by
      match i, hi with
      | 0, _ => simp [Mk.Wd.hi]
      | 1, _ => simp [Mk.Wd.hi]

set_option maxRecDepth 100000 in
set_option maxHeartbeats 1000000 in
theorem bounds_buy (w : World) : Calls Tryz.prog 49 #[.string ⟨#[98, 117, 121]⟩] w fun e w' => BoundsIs .buy w e w' := by
  go_enter Tryz.func49, Tryz.ntmps49
  go_wp2
  go_ret3
  refine ⟨w.heap.size, w.heap.size + 1, rfl, ?_, ?_, by simp; omega, by simp, Nat.le_refl _, by omega, ((Below.refl _ _).alloc (Nat.le_refl _) _).alloc (by simp) _⟩
  · exact fun i hi => by
      match i, hi with
      | 0, _ => simp [Mk.Wd.lo]
      | 1, _ => simp [Mk.Wd.lo]
      | 2, _ => simp [Mk.Wd.lo]
  · exact fun i hi => by
      match i, hi with
      | 0, _ => simp [Mk.Wd.hi]
      | 1, _ => simp [Mk.Wd.hi]
      | 2, _ => simp [Mk.Wd.hi]

set_option maxRecDepth 100000 in
set_option maxHeartbeats 1000000 in
theorem bounds_sell (w : World) : Calls Tryz.prog 49 #[.string ⟨#[115, 101, 108, 108]⟩] w fun e w' => BoundsIs .sell w e w' := by
  go_enter Tryz.func49, Tryz.ntmps49
  go_wp2
  go_ret3
  refine ⟨w.heap.size, w.heap.size + 1, rfl, ?_, ?_, by simp; omega, by simp, Nat.le_refl _, by omega, ((Below.refl _ _).alloc (Nat.le_refl _) _).alloc (by simp) _⟩
  · exact fun i hi => by
      match i, hi with
      | 0, _ => simp [Mk.Wd.lo]
      | 1, _ => simp [Mk.Wd.lo]
      | 2, _ => simp [Mk.Wd.lo]
  · exact fun i hi => by
      match i, hi with
      | 0, _ => simp [Mk.Wd.hi]
      | 1, _ => simp [Mk.Wd.hi]
      | 2, _ => simp [Mk.Wd.hi]

set_option maxRecDepth 100000 in
set_option maxHeartbeats 1000000 in
theorem bounds_drop (w : World) : Calls Tryz.prog 49 #[.string ⟨#[100, 114, 111, 112]⟩] w fun e w' => BoundsIs .drop w e w' := by
  go_enter Tryz.func49, Tryz.ntmps49
  go_wp2
  go_ret3
  refine ⟨w.heap.size, w.heap.size + 1, rfl, ?_, ?_, by simp; omega, by simp, Nat.le_refl _, by omega, ((Below.refl _ _).alloc (Nat.le_refl _) _).alloc (by simp) _⟩
  · exact fun i hi => by
      match i, hi with
      | 0, _ => simp [Mk.Wd.lo]
      | 1, _ => simp [Mk.Wd.lo]
  · exact fun i hi => by
      match i, hi with
      | 0, _ => simp [Mk.Wd.hi]
      | 1, _ => simp [Mk.Wd.hi]

set_option maxRecDepth 100000 in
set_option maxHeartbeats 1000000 in
theorem bounds_mode (w : World) : Calls Tryz.prog 49 #[.string ⟨#[109, 111, 100, 101]⟩] w fun e w' => BoundsIs .mode w e w' := by
  go_enter Tryz.func49, Tryz.ntmps49
  go_wp2
  go_ret3
  refine ⟨w.heap.size, w.heap.size + 1, rfl, ?_, ?_, by simp; omega, by simp, Nat.le_refl _, by omega, ((Below.refl _ _).alloc (Nat.le_refl _) _).alloc (by simp) _⟩
  · exact fun i hi => by
      match i, hi with
      | 0, _ => simp [Mk.Wd.lo]
  · exact fun i hi => by
      match i, hi with
      | 0, _ => simp [Mk.Wd.hi]

set_option maxRecDepth 100000 in
set_option maxHeartbeats 1000000 in
theorem bounds_close (w : World) : Calls Tryz.prog 49 #[.string ⟨#[99, 108, 111, 115, 101]⟩] w fun e w' => BoundsIs .close w e w' := by
  go_enter Tryz.func49, Tryz.ntmps49
  go_wp2
  go_ret3
  refine ⟨w.heap.size, w.heap.size + 1, rfl, ?_, ?_, by simp; omega, by simp, Nat.le_refl _, by omega, ((Below.refl _ _).alloc (Nat.le_refl _) _).alloc (by simp) _⟩
  · exact fun i hi => by
      match i, hi with
      | 0, _ => simp [Mk.Wd.lo]
  · exact fun i hi => by
      match i, hi with
      | 0, _ => simp [Mk.Wd.hi]

set_option maxRecDepth 100000 in
set_option maxHeartbeats 1000000 in
theorem bounds_none (s : ByteArray) (w : World) (h : Mk.wd s = none) : Calls Tryz.prog 49 #[.string s] w fun e w' => e = .returned (.tuple #[.slice none 0 0, .slice none 0 0, .bool false]) ∧ Below w.heap.size w w' := by
  have hpay : (s.toList == [112, 97, 121]) = false := by have h2 := Mk.isW_no (d := .pay) h; unfold Mk.isW at h2; rw [show (Mk.Wd.text .pay).toList = [112, 97, 121] from ByteArray.toList_mk _] at h2; exact h2
  have hdraw : (s.toList == [100, 114, 97, 119]) = false := by have h2 := Mk.isW_no (d := .draw) h; unfold Mk.isW at h2; rw [show (Mk.Wd.text .draw).toList = [100, 114, 97, 119] from ByteArray.toList_mk _] at h2; exact h2
  have hbring : (s.toList == [98, 114, 105, 110, 103]) = false := by have h2 := Mk.isW_no (d := .bring) h; unfold Mk.isW at h2; rw [show (Mk.Wd.text .bring).toList = [98, 114, 105, 110, 103] from ByteArray.toList_mk _] at h2; exact h2
  have hfetch : (s.toList == [102, 101, 116, 99, 104]) = false := by have h2 := Mk.isW_no (d := .fetch) h; unfold Mk.isW at h2; rw [show (Mk.Wd.text .fetch).toList = [102, 101, 116, 99, 104] from ByteArray.toList_mk _] at h2; exact h2
  have hbuy : (s.toList == [98, 117, 121]) = false := by have h2 := Mk.isW_no (d := .buy) h; unfold Mk.isW at h2; rw [show (Mk.Wd.text .buy).toList = [98, 117, 121] from ByteArray.toList_mk _] at h2; exact h2
  have hsell : (s.toList == [115, 101, 108, 108]) = false := by have h2 := Mk.isW_no (d := .sell) h; unfold Mk.isW at h2; rw [show (Mk.Wd.text .sell).toList = [115, 101, 108, 108] from ByteArray.toList_mk _] at h2; exact h2
  have hdrop : (s.toList == [100, 114, 111, 112]) = false := by have h2 := Mk.isW_no (d := .drop) h; unfold Mk.isW at h2; rw [show (Mk.Wd.text .drop).toList = [100, 114, 111, 112] from ByteArray.toList_mk _] at h2; exact h2
  have hmode : (s.toList == [109, 111, 100, 101]) = false := by have h2 := Mk.isW_no (d := .mode) h; unfold Mk.isW at h2; rw [show (Mk.Wd.text .mode).toList = [109, 111, 100, 101] from ByteArray.toList_mk _] at h2; exact h2
  have hclose : (s.toList == [99, 108, 111, 115, 101]) = false := by have h2 := Mk.isW_no (d := .close) h; unfold Mk.isW at h2; rw [show (Mk.Wd.text .close).toList = [99, 108, 111, 115, 101] from ByteArray.toList_mk _] at h2; exact h2
  go_enter Tryz.func49, Tryz.ntmps49
  go_wp2
  go_ret3
  exact ⟨rfl, Below.refl _ _⟩

theorem bounds_some (s : ByteArray) (d : Mk.Wd) (w : World) (h : Mk.wd s = some d) : Calls Tryz.prog 49 #[.string s] w fun e w' => BoundsIs d w e w' := by
  rw [Mk.wd_text h]
  cases d
  · exact bounds_pay w
  · exact bounds_draw w
  · exact bounds_bring w
  · exact bounds_fetch w
  · exact bounds_buy w
  · exact bounds_sell w
  · exact bounds_drop w
  · exact bounds_mode w
  · exact bounds_close w

end Go.Proofs.YtmebcdpdpcpnmaaGreatDoor

/- Plain mathematics of the document's market: a command, read. -/
namespace Mk

structure Cmd where
  who : Nat
  r : Nat
  d : Wd
  n : List Nat
  mc : Bool

def bu : ByteArray := ⟨#[117]⟩
def bm : ByteArray := ⟨#[109]⟩
/-- text i of some -/
def wrd (l : List ByteArray) (i : Nat) : ByteArray := l.getD i bu
theorem wrd_at {l : List ByteArray} {i : Nat} (h : i < l.length) : wrd l i = l[i] := by simp [wrd, List.getD, List.getElem?_eq_getElem h]
/-- number i of some -/
def nth (l : List Nat) (i : Nat) : Nat := l.getD i 0
theorem nth_at {l : List Nat} {i : Nat} (h : i < l.length) : nth l i = l[i] := by simp [nth, List.getD, List.getElem?_eq_getElem h]
def isU (s : ByteArray) : Bool := s.toList == bu.toList
def isM (s : ByteArray) : Bool := s.toList == bm.toList
def Wd.isMode : Wd → Bool
  | .mode => true
  | _ => false
/-- the numbers of the first k texts -/
def fitTo (l : List ByteArray) (d : Wd) : Nat → Bool
  | 0 => true
  | k + 1 => fitTo l d k && numB (wrd l k) (nth d.lo k) (nth d.hi k)
def fits (l : List ByteArray) (d : Wd) : Bool := decide (l.length = d.lo.length) && fitTo l d l.length
/-- what stands behind a word: the numbers' texts; a mode's letter is none of them -/
def args (d : Wd) (rest : List ByteArray) : List ByteArray := if d.isMode then rest.dropLast else rest
def modeOk (d : Wd) (rest : List ByteArray) : Bool := !d.isMode || (decide (0 < rest.length) && (isU (wrd rest (rest.length - 1)) || isM (wrd rest (rest.length - 1))))
def modeIs (d : Wd) (rest : List ByteArray) : Bool := d.isMode && isM (wrd rest (rest.length - 1))

theorem extract_le (s : ByteArray) (a b : Nat) : (s.extract a b).size ≤ s.size := by rw [ByteArray.size_extract]; omega
theorem cutTo_size (s : ByteArray) : ∀ k, ∀ x ∈ (cutTo s k).1, x.size ≤ s.size
  | 0, x, hx => by simp [cutTo] at hx
  | k + 1, x, hx => by
    simp only [cutTo] at hx
    split at hx
    · rcases List.mem_append.1 hx with h | h
      · exact cutTo_size s k x h
      · rw [List.mem_singleton.1 h]; exact extract_le s _ _
    · exact cutTo_size s k x hx
theorem words_size {s x : ByteArray} (h : x ∈ words s) : x.size ≤ s.size := by
  rcases List.mem_append.1 h with h | h
  · exact cutTo_size s _ x h
  · rw [List.mem_singleton.1 h]; exact extract_le s _ _
theorem word_size {s : ByteArray} (hs : s.size ≤ 20) (i : Nat) : (wrd (words s) i).size ≤ 20 := by
  by_cases h : i < (words s).length
  · have : wrd (words s) i ∈ words s := by
      rw [wrd_at h]; exact List.getElem_mem h
    have := words_size this
    omega
  · have e : wrd (words s) i = bu := by simp [wrd, List.getD, List.getElem?_eq_none (Nat.le_of_not_lt h)]
    rw [e]
    decide

/-- THE COMMAND that a text is -/
def readP (s : ByteArray) : Option Cmd :=
  if 20 < s.size then none
  else if (words s).length < 3 then none
  else match wd (wrd (words s) 2) with
    | none => none
    | some d =>
      if numB (wrd (words s) 0) 0 3 && numB (wrd (words s) 1) 1 99 && modeOk d ((words s).drop 3) && fits (args d ((words s).drop 3)) d
      then some ⟨numV (wrd (words s) 0), numV (wrd (words s) 1), d, (args d ((words s).drop 3)).map numV, modeIs d ((words s).drop 3)⟩
      else none

section
variable {s : ByteArray}
theorem read_long (h : 20 < s.size) : readP s = none := by unfold readP; rw [if_pos h]
theorem read_few (h : (words s).length < 3) : readP s = none := by
  unfold readP
  rw [if_pos h]
  split <;> rfl
theorem read_noword (h : wd (wrd (words s) 2) = none) : readP s = none := by
  unfold readP
  split
  · rfl
  · split
    · rfl
    · rw [h]
theorem read_no {d : Wd} (h : wd (wrd (words s) 2) = some d) (h2 : (numB (wrd (words s) 0) 0 3 && numB (wrd (words s) 1) 1 99 && modeOk d ((words s).drop 3) && fits (args d ((words s).drop 3)) d) = false) : readP s = none := by
  unfold readP
  split
  · rfl
  · split
    · rfl
    · rw [h]
      simp only [h2]
      rfl
theorem read_yes {d : Wd} (h0 : ¬ 20 < s.size) (h1 : ¬ (words s).length < 3) (h : wd (wrd (words s) 2) = some d) (h2 : (numB (wrd (words s) 0) 0 3 && numB (wrd (words s) 1) 1 99 && modeOk d ((words s).drop 3) && fits (args d ((words s).drop 3)) d) = true) :
    readP s = some ⟨numV (wrd (words s) 0), numV (wrd (words s) 1), d, (args d ((words s).drop 3)).map numV, modeIs d ((words s).drop 3)⟩ := by
  unfold readP
  rw [if_neg h0, if_neg h1, h]
  simp only [h2]
  rfl
theorem fitTo_no {l : List ByteArray} {d : Wd} {k : Nat} (h : numB (wrd l k) (nth d.lo k) (nth d.hi k) = false) : ∀ {m : Nat}, k < m → fitTo l d m = false
  | 0, hm => by omega
  | m + 1, hm => by
    simp only [fitTo]
    by_cases e : k = m
    · subst e; rw [h, Bool.and_false]
    · rw [fitTo_no h (by omega), Bool.false_and]
end

end Mk

namespace Go.Proofs.YtmebcdpdpcpnmaaGreatDoor
open Go.RowKit

end Go.Proofs.YtmebcdpdpcpnmaaGreatDoor

namespace Go.Proofs.YtmebcdpdpcpnmaaGreatDoor
open Go.RowKit

/-- block g is the orders l, a row of the call's own -/
def Own (w : World) (g : Nat) (l : List Mk.Ord) : Prop := w.rowIs g 123 (l.length * 3) (cellOf l)

theorem Own.at {w : World} {g : Nat} {l : List Mk.Ord} (h : Own w g l) : At w g 0 l := at_of_row h (Nat.le_refl _) (fun _ _ => rfl)
theorem Own.lt {w : World} {g : Nat} {l : List Mk.Ord} (h : Own w g l) : g < w.heap.size := World.rowIs.lt h
theorem Own.below {w w' : World} {g n : Nat} {l : List Mk.Ord} (h : Own w g l) (hb : Below n w w') (hn : g < n) : Own w' g l := row_below h hb hn
theorem Own.frozen {w : World} {g : Nat} {l : List Mk.Ord} (h : Own w g l) (j : Nat) : w.frozen? ⟨g, j, none⟩ = false := World.rowIs.frozen h j
theorem Own.store {w : World} {g : Nat} {l : List Mk.Ord} (h : Own w g l) {i : Nat} (hi : i < l.length) (o : Mk.Ord) :
    Own (((w.setCell ⟨g, i * 3, none⟩ (.bool o.sell)).setCell ⟨g, i * 3 + 1, none⟩ (.int .i64 o.price)).setCell ⟨g, i * 3 + 1 + 1, none⟩ (.int .i64 o.qty)) g (l.set i o) := by
  unfold Own at h ⊢
  rw [List.length_set]
  refine World.rowIs.congr (((World.rowIs.set h _ _).set _ _).set _ _) (fun j hj => ?_)
  have hd : (l.set i o).getD (j / 3) Mk.ozero = if j / 3 = i then o else l.getD (j / 3) Mk.ozero := Mk.getD_set l i o hi (j / 3)
  unfold cellOf
  rw [hd]
  by_cases h2 : j = i * 3 + 1 + 1
  · rw [if_pos h2, if_neg (by omega), if_neg (by omega), if_pos (by omega)]
  · rw [if_neg h2]
    by_cases h1 : j = i * 3 + 1
    · rw [if_pos h1, if_neg (by omega), if_pos (by omega), if_pos (by omega)]
    · rw [if_neg h1]
      by_cases h0 : j = i * 3
      · rw [if_pos h0, if_pos (by omega), if_pos (by omega)]
      · rw [if_neg h0, if_neg (c := j / 3 = i) (by omega)]

theorem pick_nat {x : Int} {n : Nat} (hn : 1 ≤ n) : ∃ i : Nat, i < n ∧ x % (n : Int) = i := by
  have h1 : 0 ≤ x % (n : Int) := Int.emod_nonneg _ (by omega)
  have h2 : x % (n : Int) < n := Int.emod_lt_of_pos _ (by omega)
  obtain ⟨i, hi⟩ := Int.eq_ofNat_of_zero_le h1
  exact ⟨i, by omega, hi⟩
theorem pick_neg {c : Int} {n : Nat} (h : c < 0) : -(c + 1).tmod (n : Int) = (-(c + 1)) % (n : Int) := by
  rw [← Int.neg_tmod, Int.tmod_eq_emod_of_nonneg (by omega)]

set_option maxHeartbeats 400000 in
theorem pick_any (c : Int) (n : Nat) (w : World) (h1 : -9223372036854775808 ≤ c) (h2 : c ≤ 9223372036854775807) (hn : 1 ≤ n) (hn2 : n ≤ 100000000) :
    Calls Tryz.prog 21 #[.int .i64 c, .int .i64 n] w fun e w' => ∃ i : Nat, i < n ∧ e = .returned (.int .i64 i) ∧ w' = w := by
  by_cases h : c < 0
  · obtain ⟨i, hi, he⟩ := pick_nat (x := -(c + 1)) hn
    have he' := (pick_neg (n := n) h).trans he
    have HE : Hid (-(c + 1).tmod (n : Int) = i) := he'
    clear he he'
    go_enter Tryz.func21, Tryz.ntmps21
    go_wp2
    go_ret
    exact ⟨i, hi, ret_int HE.out, rfl⟩
  · obtain ⟨i, hi, he⟩ := pick_nat (x := c) hn
    have HE : Hid (c % (n : Int) = i) := he
    clear he
    go_enter Tryz.func21, Tryz.ntmps21
    go_wp2
    go_ret
    exact ⟨i, hi, ret_int HE.out, rfl⟩

/-- what both sides get together -/
theorem Mk.uni_side {l : List Mk.Ord} (hv : Mk.validB 20 l = true) (b : Bool) : Mk.sideSum l b (Mk.uni l) = Mk.vol l (Mk.best l 98) := by
  by_cases hz : Mk.vol l (Mk.best l 98) = 0
  · rw [hz]
    exact Mk.sumn_zero (fun i _ => by simp [Mk.uni, hz])
  · have hb := Mk.less_bd (Mk.dem_bd hv (Mk.best l 98)) (Mk.sup_bd hv (Mk.best l 98))
    have hV : 1 ≤ Mk.vol l (Mk.best l 98) := by
      have : 0 ≤ Mk.vol l (Mk.best l 98) := hb.1
      omega
    rw [← Mk.side_total hV b]
    unfold Mk.sideSum
    exact Mk.sumn_congr (fun i _ => by simp [Mk.uni, hz])
theorem Mk.uni_bd {l : List Mk.Ord} (hv : Mk.validB 20 l = true) (i : Nat) : 0 ≤ Mk.uni l i ∧ Mk.uni l i ≤ 5000 := by
  unfold Mk.uni
  split
  · omega
  · have := Mk.getsf_bd (p := (Mk.best l 98 : Int)) hv i
    omega
theorem Mk.swap_price {l : List Mk.Ord} {i k : Nat} (hi : i < l.length) (hk : k < l.length) : Mk.price (Mk.swapL l i k) = Mk.price l := by
  unfold Mk.price; rw [Mk.swapL_best hi hk, Mk.swapL_vol hi hk]

theorem uniform_n (a : Option Addr) (n cap : Nat) (l : List Mk.Ord) (hn : l.length = n) (w : World) (hv : Mk.validB 20 l = true) (hR : Rd w a l) :
    Calls Tryz.prog 39 #[.slice a n cap] w fun e w' => ∃ g, e = .returned (.tuple #[.slice (some ⟨g, 0, none⟩) n n, .int .i64 (Mk.price l), .int .i64 0]) ∧ w.heap.size ≤ g ∧ Below w.heap.size w w' ∧ w'.rowIs g 3 n (fun i => .int .i64 (Mk.uni l i)) := by
  subst hn; exact uniform_any a cap l w hv hR
end Go.Proofs.YtmebcdpdpcpnmaaGreatDoor

namespace Go.Proofs.YtmebcdpdpcpnmaaGreatDoor
open Go.RowKit

/-- the two orders of the caller's that lie in the spare room -/
def o7 : Mk.Ord := ⟨false, 7, 0⟩
def o8 : Mk.Ord := ⟨false, 8, 0⟩
theorem get7 (l : List Mk.Ord) (h : l.length < (l ++ [o7, o8]).length) : (l ++ [o7, o8])[l.length] = o7 := by simp
theorem get8 (l : List Mk.Ord) (h : l.length + 1 < (l ++ [o7, o8]).length) : (l ++ [o7, o8])[l.length + 1] = o8 := by simp

/-- copy of no order -/
theorem copy_none (w : World) (g : Nat) (dLen dCap : Nat) (a : Option Addr) (cap ty : Nat) :
    (Builtin.copy_ #[31, 31] ty #[.slice (some ⟨g, 0, none⟩) dLen dCap, .slice a 0 cap]).run Tryz.prog w = .ok (.int .i64 0) w := by
  obtain ⟨i, hi, hzz⟩ := Option.map_eq_some_iff.1 Tryz.infoOrder
  have hmin : Nat.min 0 dLen = 0 := Nat.min_eq_left (Nat.zero_le _)
  cases a with
  | none => simp [Builtin.copy_, run_underlying Tryz.underlying31, Builtin.lenOf, Builtin.firstCells, sizeOf, typeInfo, hi, hmin, goInt, storeCells]
  | some a =>
    have hl := run_loadCells_list (P := Tryz.prog) w a [] (fun j v h => by simp at h)
    simp at hl
    simp [Builtin.copy_, run_underlying Tryz.underlying31, Builtin.lenOf, Builtin.firstCells, sizeOf, typeInfo, hi, hmin, goInt, storeCells, hl]

/-- copy of any orders into a row of the call's own -/
theorem copy_any (w : World) (g m dLen dCap : Nat) (f : Nat → Value) (a : Option Addr) (cap : Nat) (l : List Mk.Ord) (hg : w.rowIs g 123 m f) (hd : l.length ≤ dLen) (hm : l.length * 3 ≤ m) (hR : Rd w a l) :
    ∃ W, (∀ ty, (Builtin.copy_ #[31, 31] ty #[.slice (some ⟨g, 0, none⟩) dLen dCap, .slice a l.length cap]).run Tryz.prog w = .ok (.int .i64 (l.length : Int)) W) ∧
      (∀ B, B ≤ g → Below B w W) ∧ W.rowIs g 123 m (fun j => if j < l.length * 3 then cellOf l j else f j) := by
  rcases hR with rfl | ⟨b, off, rfl, hR⟩
  · exact ⟨w, fun ty => copy_none w g dLen dCap a cap ty, fun B _ => Below.refl _ _, World.rowIs.congr hg (fun j _ => by simp)⟩
  · exact copy_orders w g m dLen dCap f b off cap l hg hd hm hR

theorem cellOf_left (l r : List Mk.Ord) {j : Nat} (hj : j < l.length * 3) : cellOf (l ++ r) j = cellOf l j := by
  unfold cellOf
  have : (l ++ r).getD (j / 3) Mk.ozero = l.getD (j / 3) Mk.ozero := by simp [List.getD, List.getElem?_append_left (show j / 3 < l.length by omega)]
  rw [this]

set_option maxRecDepth 100000 in
set_option maxHeartbeats 1000000 in
theorem roomy_any (a : Option Addr) (cap : Nat) (l : List Mk.Ord) (w : World) (hn : l.length ≤ 1048576) (hR : Rd w a l) :
    Calls Tryz.prog 38 #[.slice a l.length cap] w fun e w' => e = .returned (.slice (some ⟨w.heap.size, 0, none⟩) l.length (l.length + 2)) ∧ Below w.heap.size w w' ∧ Own w' w.heap.size (l ++ [o7, o8]) := by
  obtain ⟨W1, hmk, hb1, hz1, f, hrow1⟩ := make_orders w (l.length + 2) (by omega)
  obtain ⟨W2, hcp, hb2, hrow2⟩ := copy_any W1 w.heap.size ((l.length + 2) * 3) (l.length + 2) (l.length + 2) f a cap l hrow1 (by omega) (by omega) (hR.below hb1)
  rw [show ((l.length + 2 : Nat) : Int) = (l.length : Int) + 2 from by omega] at hmk
  have HB2 : Hid (Below w.heap.size w W2) := hb1.trans (hb2 _ (Nat.le_refl _))
  have o0 := World.rowIs.cell hrow2 (i := l.length * 3) (by omega)
  have o1 := World.rowIs.cell hrow2 (i := l.length * 3 + 1) (by omega)
  have o2 := World.rowIs.cell hrow2 (i := l.length * 3 + 2) (by omega)
  have z0 := World.rowIs.frozen hrow2 (l.length * 3)
  have z1 := World.rowIs.frozen hrow2 (l.length * 3 + 1)
  have z2 := World.rowIs.frozen hrow2 (l.length * 3 + 2)
  have HO2 : Hid (W2.rowIs w.heap.size 123 ((l.length + 2) * 3) (fun j => if j < l.length * 3 then cellOf l j else f j)) := hrow2
  rw [if_neg (by omega)] at o0 o1 o2
  clear hR hb1 hb2 hrow1 hrow2
  go_enter Tryz.func38, Tryz.ntmps38
  go_upto_region 5 with fail
  have HO3 : Hid (((((W2.setCell ⟨w.heap.size, l.length * 3, none⟩ (.bool false)).setCell ⟨w.heap.size, l.length * 3 + 1, none⟩ (.int .i64 7)).setCell ⟨w.heap.size, l.length * 3 + 2, none⟩ (.int .i64 0))).rowIs w.heap.size 123 ((l.length + 2) * 3) (fun j => if j < (l.length + 1) * 3 then cellOf (l ++ [o7, o8]) j else f j)) := by
    refine World.rowIs.congr (((World.rowIs.set HO2.out _ _).set _ _).set _ _) (fun j hj => ?_)
    by_cases h2 : j = l.length * 3 + 2
    · rw [if_pos h2, if_pos (by omega), h2]
      have := cellOf_2 (l ++ [o7, o8]) (i := l.length) (by simp)
      rw [get7] at this
      exact this.symm
    · rw [if_neg h2]
      by_cases h1 : j = l.length * 3 + 1
      · rw [if_pos h1, if_pos (by omega), h1]
        have := cellOf_1 (l ++ [o7, o8]) (i := l.length) (by simp)
        rw [get7] at this
        exact this.symm
      · rw [if_neg h1]
        by_cases h0 : j = l.length * 3
        · rw [if_pos h0, if_pos (by omega), h0]
          have := cellOf_0 (l ++ [o7, o8]) (i := l.length) (by simp)
          rw [get7] at this
          exact this.symm
        · rw [if_neg h0]
          by_cases h : j < l.length * 3
          · rw [if_pos h, if_pos (by omega), cellOf_left l _ h]
          · rw [if_neg h, if_neg (by omega)]
  have HB3 : Hid (Below w.heap.size w (((W2.setCell ⟨w.heap.size, l.length * 3, none⟩ (.bool false)).setCell ⟨w.heap.size, l.length * 3 + 1, none⟩ (.int .i64 7)).setCell ⟨w.heap.size, l.length * 3 + 2, none⟩ (.int .i64 0))) := ((HB2.out.setCell (Nat.le_refl _) _).setCell (Nat.le_refl _) _).setCell (Nat.le_refl _) _
  generalize ((W2.setCell ⟨w.heap.size, l.length * 3, none⟩ (.bool false)).setCell ⟨w.heap.size, l.length * 3 + 1, none⟩ (.int .i64 7)).setCell ⟨w.heap.size, l.length * 3 + 2, none⟩ (.int .i64 0) = W3 at *
  clear o0 o1 o2 z0 z1 z2 HO2 HB2 hmk hcp
  have o0 := World.rowIs.cell HO3.out (i := (l.length + 1) * 3) (by omega)
  have o1 := World.rowIs.cell HO3.out (i := (l.length + 1) * 3 + 1) (by omega)
  have o2 := World.rowIs.cell HO3.out (i := (l.length + 1) * 3 + 2) (by omega)
  have z0 := World.rowIs.frozen HO3.out ((l.length + 1) * 3)
  have z1 := World.rowIs.frozen HO3.out ((l.length + 1) * 3 + 1)
  have z2 := World.rowIs.frozen HO3.out ((l.length + 1) * 3 + 2)
  rw [if_neg (by omega)] at o0 o1 o2
  go_wp2
  go_ret
  refine ⟨rfl, ((HB3.out.setCell (Nat.le_refl _) _).setCell (Nat.le_refl _) _).setCell (Nat.le_refl _) _, ?_⟩
  unfold Own
  rw [show (l ++ [o7, o8]).length * 3 = (l.length + 2) * 3 by simp]
  refine World.rowIs.congr (((World.rowIs.set HO3.out _ _).set _ _).set _ _) (fun j hj => ?_)
  by_cases h2 : j = (l.length + 1) * 3 + 2
  · rw [if_pos h2, h2]
    have := cellOf_2 (l ++ [o7, o8]) (i := l.length + 1) (by simp)
    rw [get8] at this
    exact this.symm
  · rw [if_neg h2]
    by_cases h1 : j = (l.length + 1) * 3 + 1
    · rw [if_pos h1, h1]
      have := cellOf_1 (l ++ [o7, o8]) (i := l.length + 1) (by simp)
      rw [get8] at this
      exact this.symm
    · rw [if_neg h1]
      by_cases h0 : j = (l.length + 1) * 3
      · rw [if_pos h0, h0]
        have := cellOf_0 (l ++ [o7, o8]) (i := l.length + 1) (by simp)
        rw [get8] at this
        exact this.symm
      · rw [if_neg h0, if_pos (by omega)]

end Go.Proofs.YtmebcdpdpcpnmaaGreatDoor
