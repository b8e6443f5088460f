import Derived.Test.YtmebcdpdpcpnmabDoorKZB
namespace Go.Proofs.YtmebcdpdpcpnmabDoor
open Go.RowKit

/-- the last number of a row of the call's own: read, and written -/
theorem own_last {w : World} {base : Nat} {e : TypeId} {v : Value} {n : Nat} {xs : List Value} {x : Value} (h : w.ownsRow base e 1 v (n + 1) (xs ++ [x])) :
    ∃ g cap, v = .slice (some ⟨g, 0, none⟩) (n + 1) cap ∧ base ≤ g ∧ g < w.heap.size ∧ w.cell? ⟨g, n, none⟩ = some x ∧ w.frozen? ⟨g, n, none⟩ = false ∧ ∀ y, (w.setCell ⟨g, n, none⟩ y).ownsRow base e 1 v (n + 1) (xs ++ [y]) := by
  obtain ⟨hl, h1⟩ := h
  rcases h1 with ⟨_, h0⟩ | ⟨g, cap, cur, rfl, hg, hh, hc, hm, hs, ht⟩
  · omega
  · have hlen : xs.length = n := by simp at hl; omega
    have hlt : g < w.heap.size := by
      rcases Nat.lt_or_ge g w.heap.size with h | h
      · exact h
      · rw [Array.getElem?_eq_none h] at hh; cases hh
    have hn : n < cur.size := by omega
    have hx : cur.toList.take (n + 1) = xs ++ [x] := by rw [Nat.mul_one] at ht; exact ht
    have hcn : cur[n]? = some x := by
      have e1 : (cur.toList.take (n + 1))[n]? = some x := by rw [hx, List.getElem?_append_right (by omega), hlen]; simp
      rw [List.getElem?_take_of_lt (by omega)] at e1
      simpa using e1
    refine ⟨g, cap, rfl, hg, hlt, ?_, ?_, fun y => ?_⟩
    · simp [World.cell?, hh, hcn]
    · simp [World.frozen?, hh]
    · refine ⟨by simp at hl ⊢; omega, .inr ⟨g, cap, cur.setIfInBounds n y, rfl, hg, heap_setCell_same w g n cur e y hh, hc, hm, by simpa using hs, ?_⟩⟩
      rw [Nat.mul_one, Array.toList_setIfInBounds]
      have e0 : cur.toList.take n = xs := by
        have := congrArg (List.take n) hx
        rw [List.take_take, Nat.min_eq_left (by omega), List.take_append_of_le_length (by omega)] at this
        rw [this, ← hlen, List.take_length]
      rw [List.take_add_one, List.take_set_of_le (Nat.le_refl _), e0, List.getElem?_set_self (by simpa using hn)]
      rfl

theorem nums_bd (s : ByteArray) : ∀ k, (Mk.numsTo s k).1.length ≤ k ∧ ((Mk.numsTo s k).2 = true → 1 ≤ (Mk.numsTo s k).1.length) ∧ ∀ x ∈ (Mk.numsTo s k).1, x < 1000000
  | 0 => by simp [Mk.numsTo]
  | k + 1 => by
    obtain ⟨h1, h2, h3⟩ := nums_bd s k
    simp only [Mk.numsTo, Mk.numStep]
    split
    · refine ⟨?_, fun _ => ?_, fun x hx => ?_⟩
      · split
        · simp; omega
        · simp; omega
      · split <;> simp
      · split at hx
        · rcases List.mem_append.1 hx with h | h
          · exact h3 x (List.dropLast_subset _ h)
          · rw [List.mem_singleton.1 h]; omega
        · rcases List.mem_append.1 hx with h | h
          · exact h3 x h
          · rw [List.mem_singleton.1 h]; omega
    · exact ⟨Nat.le_succ_of_le h1, fun h => (by cases h), h3⟩

def numV (l : List Nat) : List Value := l.map fun (n : Nat) => .int .i64 (n : Int)

set_option maxRecDepth 100000 in
set_option maxHeartbeats 2000000 in
theorem numbers_any (s : ByteArray) (w : World) (hs : s.size ≤ 1000000) :
    Calls Tryd.prog 26 #[.string s] w fun e w' => ∃ v, e = .returned v ∧ w'.ownsRow w.heap.size 3 1 v (Mk.nums s).1.length (numV (Mk.nums s).1) ∧ Below w.heap.size w w' := by
  obtain ⟨i0, hi0, hz0, hz1, hz2⟩ := info_parts Tryd.infoInt
  go_enter Tryd.func26, Tryd.ntmps26
  go_wp2
  go_loopw [3, 4, 5] (fun v f j wr => ∃ k : Nat, k ≤ s.size ∧ j = .int .i64 k ∧ f = .bool (Mk.numsTo s k).2 ∧ wr.ownsRow w.heap.size 3 1 v (Mk.numsTo s k).1.length (numV (Mk.numsTo s k).1) ∧ Below w.heap.size w wr) (fun _ _ j _ => s.size - (intOf j).toNat)
  case atStart => exact ⟨0, Nat.zero_le _, rfl, rfl, ⟨by simp [Mk.numsTo, numV], .inl ⟨rfl, rfl⟩⟩, Below.refl _ _⟩
  case round =>
    obtain ⟨k, hk, rfl, rfl, hown, hb⟩ := hrel
    have Hb : Hid (Below w.heap.size w wr) := hb
    clear hb
    obtain ⟨q1, q2, q3⟩ := nums_bd s k
    have hsz := Hb.out.size
    by_cases hlt : k < s.size
    · have hlt' : (k : Int) < (s.size : Int) := by omega
      have HB : Hid (s[k].toNat = Mk.bt s k) := Mk.bt_at hlt
      have HN : Hid (Mk.numsTo s (k + 1) = Mk.numStep (Mk.numsTo s k) s[k].toNat) := (by rw [HB.out]; rfl : Mk.numsTo s (k + 1) = Mk.numStep (Mk.numsTo s k) s[k].toNat)
      have hb256 : s[k].toNat < 256 := UInt8.toNat_lt _
      generalize hP : Mk.numsTo s k = P at *
      obtain ⟨L, fl⟩ := P
      have HO := (show Hid (wr.ownsRow w.heap.size 3 1 u3 L.length (numV L)) from hown)
      have q1' : L.length ≤ k := q1
      have Q2 : Hid (fl = true → 1 ≤ L.length) := q2
      have Q3 : Hid (∀ x ∈ L, x < 1000000) := q3
      clear hown q1 q2 q3
      by_cases h48 : 48 ≤ s[k].toNat
      · by_cases h57 : s[k].toNat ≤ 57
        · have h48' : (48 : Int) ≤ (s[k].toNat : Int) := by omega
          have h57' : (s[k].toNat : Int) ≤ 57 := by omega
          cases fl
          · have HE : Hid (Mk.numStep (L, false) s[k].toNat = (L ++ [(s[k].toNat - 48) % 1000000], true)) := (by unfold Mk.numStep; rw [if_pos ⟨h48, h57⟩]; rfl : Mk.numStep (L, false) s[k].toNat = (L ++ [(s[k].toNat - 48) % 1000000], true))
            have hown := HO.out
            go_wp2_with (at_builtin; (refine wpList_append_lies _ rfl _ _ _ rfl w.heap.size 3 i0 _ 1 8 Tryd.underlying27 hi0 hz0 hz1 hz2 rfl (by omega) _ L.length (numV L) rfl (hown.alloc _) ⟨wr.heap.size, 0, none⟩ 1 1 [.int .i64 0] rfl rfl (World.news_of_block (cs := #[.int .i64 0]) (t := 3) (fr := (0, 0)) (heap_alloc_new wr _)) (by simp [Value.oneCell']) (by omega) (by unfold maxLen; omega) (by omega) (by simp; omega) (wr.heap.size + 1) (by simp) ?_; intro g7 cap' w7 hown7 hgrow hat hlt7))
            have HB7 : Hid (Below w.heap.size w w7) := Below.grown (Hb.out.alloc hsz _) hgrow (by simp; omega) (fun j hj => own_ge hown j hj)
            obtain ⟨g8, cap8, hv8, hg8, hl8, c8, z8, hset⟩ := own_last hown7
            simp only [Value.slice.injEq, Option.some.injEq, Addr.mk.injEq, and_true, true_and] at hv8
            obtain ⟨rfl, rfl⟩ := hv8
            have HSt := (show Hid (∀ y, (w7.setCell ⟨g7, L.length, none⟩ y).ownsRow w.heap.size 3 1 (.slice (some ⟨g7, 0, none⟩) (L.length + 1) cap') (L.length + 1) (numV L ++ [y])) from hset)
            clear hown7 hgrow hat hlt7 hset hown
            have HV : Hid (((s[k].toNat : Int) - 48) % 1000000 = (((s[k].toNat - 48) % 1000000 : Nat) : Int)) := (by omega : ((s[k].toNat : Int) - 48) % 1000000 = (((s[k].toNat - 48) % 1000000 : Nat) : Int))
            go_wp2_with fail
            go_region
            rw [HV.out]
            have HO9 : Hid ((w7.setCell ⟨g7, L.length, none⟩ (.int .i64 (((s[k].toNat - 48) % 1000000 : Nat) : Int))).drew.ownsRow w.heap.size 3 1 (.slice (some ⟨g7, 0, none⟩) (L.length + 1) cap') (L ++ [(s[k].toNat - 48) % 1000000]).length (numV (L ++ [(s[k].toNat - 48) % 1000000]))) := (by
              have h := HSt.out (.int .i64 (((s[k].toNat - 48) % 1000000 : Nat) : Int))
              have e : numV (L ++ [(s[k].toNat - 48) % 1000000]) = numV L ++ [.int .i64 (((s[k].toNat - 48) % 1000000 : Nat) : Int)] := by simp [numV]
              rw [e, List.length_append]
              exact h : (w7.setCell ⟨g7, L.length, none⟩ (.int .i64 (((s[k].toNat - 48) % 1000000 : Nat) : Int))).drew.ownsRow w.heap.size 3 1 (.slice (some ⟨g7, 0, none⟩) (L.length + 1) cap') (L ++ [(s[k].toNat - 48) % 1000000]).length (numV (L ++ [(s[k].toNat - 48) % 1000000])))
            have HB9 : Hid (Below w.heap.size w (w7.setCell ⟨g7, L.length, none⟩ (.int .i64 (((s[k].toNat - 48) % 1000000 : Nat) : Int))).drew) := (HB7.out.setCell hg8 _).drew
            generalize (w7.setCell ⟨g7, L.length, none⟩ (.int .i64 (((s[k].toNat - 48) % 1000000 : Nat) : Int))).drew = W9 at *
            clear c8 z8
            go_wp2_with fail
            go_roundw
            case rel => exact ⟨k + 1, by omega, by go_num, by rw [HN.out, HE.out], by rw [HN.out, HE.out]; exact HO9.out, HB9.out⟩
            case measure => simp [intOf]; omega
          · obtain ⟨L', x, rfl⟩ : ∃ L' x, L = L' ++ [x] := by
              have h1 := Q2.out rfl
              exact ⟨L.dropLast, L.getLast (by intro h; rw [h] at h1; simp at h1), (List.dropLast_concat_getLast _).symm⟩
            have hx : x < 1000000 := Q3.out x (by simp)
            have HE : Hid (Mk.numStep (L' ++ [x], true) s[k].toNat = (L' ++ [(x * 10 + (s[k].toNat - 48)) % 1000000], true)) := (by unfold Mk.numStep; rw [if_pos ⟨h48, h57⟩]; simp : Mk.numStep (L' ++ [x], true) s[k].toNat = (L' ++ [(x * 10 + (s[k].toNat - 48)) % 1000000], true))
            have hown : wr.ownsRow w.heap.size 3 1 u3 (L'.length + 1) (numV L' ++ [.int .i64 (x : Int)]) := by
              have h := HO.out
              rw [List.length_append] at h
              simpa [numV] using h
            obtain ⟨g8, cap8, rfl, hg8, hl8, c8, z8, hset⟩ := own_last hown
            have HSt := (show Hid (∀ y, (wr.setCell ⟨g8, L'.length, none⟩ y).ownsRow w.heap.size 3 1 (.slice (some ⟨g8, 0, none⟩) (L'.length + 1) cap8) (L'.length + 1) (numV L' ++ [y])) from hset)
            have q2' : L'.length + 1 ≤ k := by simpa using q1'
            have hx' : (0 : Int) ≤ (x : Int) ∧ (x : Int) < 1000000 := by omega
            have HV : Hid (((x : Int) * 10 + ((s[k].toNat : Int) - 48)) % 1000000 = (((x * 10 + (s[k].toNat - 48)) % 1000000 : Nat) : Int)) := (by omega : ((x : Int) * 10 + ((s[k].toNat : Int) - 48)) % 1000000 = (((x * 10 + (s[k].toNat - 48)) % 1000000 : Nat) : Int))
            clear hset hown HO q1'
            go_wp2_with fail
            go_region
            rw [HV.out]
            have HO9 : Hid ((wr.setCell ⟨g8, L'.length, none⟩ (.int .i64 (((x * 10 + (s[k].toNat - 48)) % 1000000 : Nat) : Int))).drew.ownsRow w.heap.size 3 1 (.slice (some ⟨g8, 0, none⟩) (L'.length + 1) cap8) (L' ++ [(x * 10 + (s[k].toNat - 48)) % 1000000]).length (numV (L' ++ [(x * 10 + (s[k].toNat - 48)) % 1000000]))) := (by
              have h := HSt.out (.int .i64 (((x * 10 + (s[k].toNat - 48)) % 1000000 : Nat) : Int))
              have e : numV (L' ++ [(x * 10 + (s[k].toNat - 48)) % 1000000]) = numV L' ++ [.int .i64 (((x * 10 + (s[k].toNat - 48)) % 1000000 : Nat) : Int)] := by simp [numV]
              rw [e, List.length_append]
              exact h : (wr.setCell ⟨g8, L'.length, none⟩ (.int .i64 (((x * 10 + (s[k].toNat - 48)) % 1000000 : Nat) : Int))).drew.ownsRow w.heap.size 3 1 (.slice (some ⟨g8, 0, none⟩) (L'.length + 1) cap8) (L' ++ [(x * 10 + (s[k].toNat - 48)) % 1000000]).length (numV (L' ++ [(x * 10 + (s[k].toNat - 48)) % 1000000])))
            have HB9 : Hid (Below w.heap.size w (wr.setCell ⟨g8, L'.length, none⟩ (.int .i64 (((x * 10 + (s[k].toNat - 48)) % 1000000 : Nat) : Int))).drew) := (Hb.out.setCell hg8 _).drew
            generalize (wr.setCell ⟨g8, L'.length, none⟩ (.int .i64 (((x * 10 + (s[k].toNat - 48)) % 1000000 : Nat) : Int))).drew = W9 at *
            clear c8 z8
            go_wp2_with fail
            go_roundw
            case rel => exact ⟨k + 1, by omega, by go_num, by rw [HN.out, HE.out], by rw [HN.out, HE.out]; exact HO9.out, HB9.out⟩
            case measure => simp [intOf]; omega
        · have h48' : (48 : Int) ≤ (s[k].toNat : Int) := by omega
          have h57' : ¬ (s[k].toNat : Int) ≤ 57 := by omega
          have HE : Hid (Mk.numStep (L, fl) s[k].toNat = (L, false)) := (by unfold Mk.numStep; rw [if_neg (fun h => h57 h.2)] : Mk.numStep (L, fl) s[k].toNat = (L, false))
          go_wp2_with fail
          go_roundw
          case rel => exact ⟨k + 1, by omega, by go_num, by rw [HN.out, HE.out], by rw [HN.out, HE.out]; exact HO.out, Hb.out⟩
          case measure => simp [intOf]; omega
      · have h48' : ¬ (48 : Int) ≤ (s[k].toNat : Int) := by omega
        have HE : Hid (Mk.numStep (L, fl) s[k].toNat = (L, false)) := (by unfold Mk.numStep; rw [if_neg (fun h => h48 h.1)] : Mk.numStep (L, fl) s[k].toNat = (L, false))
        go_wp2_with fail
        go_roundw
        case rel => exact ⟨k + 1, by omega, by go_num, by rw [HN.out, HE.out], by rw [HN.out, HE.out]; exact HO.out, Hb.out⟩
        case measure => simp [intOf]; omega
    · obtain rfl : k = s.size := by omega
      have HO := (show Hid (wr.ownsRow w.heap.size 3 1 u3 (Mk.numsTo s s.size).1.length (numV (Mk.numsTo s s.size).1)) from hown)
      clear hown
      go_wp2_with fail
      go_ret
      exact ⟨_, rfl, HO.out, Hb.out⟩

end Go.Proofs.YtmebcdpdpcpnmabDoor
