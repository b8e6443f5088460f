import Derived.Test.YtmebcdpdpcpnmaaGreatDoorKPlainO
namespace Go.Proofs.YtmebcdpdpcpnmaaGreatDoor

theorem bt_left {a b : ByteArray} {k : Nat} (h : k < a.size) : Mk.bt (a ++ b) k = Mk.bt a k := by
  unfold Mk.bt
  rw [dif_pos h, dif_pos (by rw [ByteArray.size_append]; omega)]
  rw [ByteArray.getElem_append_left h]
theorem bt_right {a b : ByteArray} {k : Nat} : Mk.bt (a ++ b) (a.size + k) = Mk.bt b k := by
  unfold Mk.bt
  by_cases h : k < b.size
  · rw [dif_pos h, dif_pos (by rw [ByteArray.size_append]; omega)]
    rw [ByteArray.getElem_append_right (by omega)]
    congr 2
    omega
  · rw [dif_neg h, dif_neg (by rw [ByteArray.size_append]; omega)]
/-- the two digits of a frame -/
theorem frame_bt {s : ByteArray} (h : s.size ≤ 20) : Mk.bt (Mk.frame s) 0 = 48 + s.size / 10 ∧ Mk.bt (Mk.frame s) 1 = 48 + s.size % 10 := by
  have e0 : Mk.bt (Mk.frame s) 0 = (UInt8.ofNat (48 + s.size / 10)).toNat := rfl
  have e1 : Mk.bt (Mk.frame s) 1 = (UInt8.ofNat (48 + s.size % 10)).toNat := rfl
  rw [e0, e1]
  simp only [UInt8.toNat_ofNat']
  omega
theorem extract_all {a : ByteArray} {n : Nat} (h : a.size ≤ n) : a.extract 0 n = a := by
  apply Mk.bytes_eq
  simp
  exact List.take_of_length_le (by simpa using h)
theorem ba_assoc (a b c : ByteArray) : a ++ b ++ c = a ++ (b ++ c) := ByteArray.append_assoc

section
variable {p c t : ByteArray}
/-- behind a text p lies a frame -/
theorem frame_at (hc : c.size ≤ 20) : Mk.bt (p ++ (Mk.frame c ++ t)) p.size = 48 + c.size / 10 ∧ Mk.bt (p ++ (Mk.frame c ++ t)) (p.size + 1) = 48 + c.size % 10 := by
  have f := frame_bt hc
  refine ⟨?_, ?_⟩
  · have h := bt_right (a := p) (b := Mk.frame c ++ t) (k := 0)
    rw [Nat.add_zero] at h
    rw [h, bt_left (by show 0 < 2; omega), f.1]
  · rw [bt_right, bt_left (by show 1 < 2; omega), f.2]
theorem two_at (hc : c.size ≤ 20) : Mk.two (p ++ (Mk.frame c ++ t)) p.size = c.size := by
  unfold Mk.two
  rw [(frame_at hc).1, (frame_at hc).2]
  omega
theorem dig_at (hc : c.size ≤ 20) : ¬ (Mk.isD (p ++ (Mk.frame c ++ t)) p.size && Mk.isD (p ++ (Mk.frame c ++ t)) (p.size + 1)) = false := by
  unfold Mk.isD
  rw [(frame_at hc).1, (frame_at hc).2]
  intro h
  rw [Bool.eq_false_iff] at h
  apply h
  simp only [Bool.and_eq_true, decide_eq_true_eq]
  omega
theorem piece_at (hc : c.size ≤ 20) : Mk.piece (p ++ (Mk.frame c ++ (c ++ t))) p.size = c := by
  unfold Mk.piece
  rw [two_at hc]
  have e : p ++ (Mk.frame c ++ (c ++ t)) = (p ++ Mk.frame c) ++ (c ++ t) := (ba_assoc _ _ _).symm
  have hz : (p ++ Mk.frame c).size = p.size + 2 := by rw [ByteArray.size_append]; rfl
  rw [e, ← hz, ByteArray.extract_append]
  rw [show (p ++ Mk.frame c).size - (p ++ Mk.frame c).size = 0 by omega, show (p ++ Mk.frame c).size + c.size - (p ++ Mk.frame c).size = c.size by omega]
  have h1 : (p ++ Mk.frame c).extract (p ++ Mk.frame c).size ((p ++ Mk.frame c).size + c.size) = ByteArray.empty := by
    apply Mk.bytes_eq
    simp
  rw [h1, ByteArray.extract_append_eq_left rfl]
  simp
end

/-- THE LOG OF M, READ BACK, GIVES M: whatever lies behind it, the reading comes to its end with the market M -/
def Mk.Ran (M : Mk.Mkt) : Prop := ∀ (t : ByteArray) (f : Nat), M.disk.size + t.size < f → ∃ f', t.size < f' ∧ Mk.openG (M.disk ++ t) f 0 Mk.Mkt.new = Mk.openG (M.disk ++ t) f' M.disk.size M
theorem ran_new : Mk.Ran Mk.Mkt.new := fun t f hf => ⟨f, by omega, rfl⟩
theorem Mk.Ran.next {M M' : Mk.Mkt} (h : Mk.Ran M) {c : ByteArray} {d : Mk.Cmd} (hr : Mk.readP c = some d) (hn : (d.r : Int) = M.ls d.who + 1) (hM : M' = (Mk.doM (Mk.allM M) M c).2.2) (hd : M'.disk = M.disk ++ Mk.frame c ++ c) : Mk.Ran M' := by
  intro t f hf
  have hc : c.size ≤ 20 := (Mk.read_ok hr).2
  have hs : M'.disk.size = M.disk.size + 2 + c.size := by rw [hd, ByteArray.size_append, ByteArray.size_append]; rfl
  have e : M'.disk ++ t = M.disk ++ (Mk.frame c ++ (c ++ t)) := by rw [hd, ba_assoc, ba_assoc]
  have hz : (Mk.frame c ++ (c ++ t)).size = 2 + c.size + t.size := by rw [ByteArray.size_append, ByteArray.size_append]; show 2 + _ = _; omega
  have hz2 : (M.disk ++ (Mk.frame c ++ (c ++ t))).size = M.disk.size + 2 + c.size + t.size := by rw [ByteArray.size_append, hz]; omega
  obtain ⟨f', h1, h2⟩ := h (Mk.frame c ++ (c ++ t)) f (by omega)
  obtain ⟨g, rfl⟩ : ∃ g, f' = g + 1 := ⟨f' - 1, by omega⟩
  refine ⟨g, by omega, ?_⟩
  rw [e, h2, Mk.openG_yes (by omega) (dig_at hc) (by rw [two_at hc]; omega) (by rw [piece_at hc]; exact hr) hn, piece_at hc, two_at hc, ← hM, hs]
theorem Mk.Ran.open {M : Mk.Mkt} (h : Mk.Ran M) (hs : M.disk.size ≤ 9000) : Mk.openM M.disk = some M := by
  have e : M.disk ++ ByteArray.empty = M.disk := ByteArray.append_empty
  obtain ⟨f', h1, h2⟩ := h ByteArray.empty (M.disk.size + 1) (by simp)
  rw [e] at h2
  unfold Mk.openM
  rw [if_neg (by omega), h2]
  obtain ⟨g, rfl⟩ : ∃ g, f' = g + 1 := ⟨f' - 1, by omega⟩
  exact Mk.openG_end (by omega)
/-- .. and cut anywhere in the frame behind it -/
theorem Mk.Ran.cut {M : Mk.Mkt} (h : Mk.Ran M) {c : ByteArray} (hc : c.size ≤ 20) {k : Nat} (hk : k < 2 + c.size) (hs : M.disk.size + k ≤ 9000) : Mk.openM ((M.disk ++ Mk.frame c ++ c).extract 0 (M.disk.size + k)) = some M := by
  have e : (M.disk ++ Mk.frame c ++ c).extract 0 (M.disk.size + k) = M.disk ++ (Mk.frame c ++ c).extract 0 k := by
    rw [ba_assoc, ByteArray.extract_append]
    rw [show 0 - M.disk.size = 0 by omega, show M.disk.size + k - M.disk.size = k by omega, extract_all (by omega)]
  rw [e]
  have hfz : (Mk.frame c ++ c).size = 2 + c.size := by rw [ByteArray.size_append]; rfl
  have hz : ((Mk.frame c ++ c).extract 0 k).size = k := by rw [ByteArray.size_extract]; omega
  have hz2 : (M.disk ++ (Mk.frame c ++ c).extract 0 k).size = M.disk.size + k := by rw [ByteArray.size_append, hz]
  obtain ⟨f', h1, h2⟩ := h ((Mk.frame c ++ c).extract 0 k) ((M.disk ++ (Mk.frame c ++ c).extract 0 k).size + 1) (by omega)
  unfold Mk.openM
  rw [if_neg (by omega), h2]
  obtain ⟨g, rfl⟩ : ∃ g, f' = g + 1 := ⟨f' - 1, by omega⟩
  by_cases h3 : k < 2
  · exact Mk.openG_end (by omega)
  · have e2 : (Mk.frame c ++ c).extract 0 k = Mk.frame c ++ c.extract 0 (k - 2) := by
      rw [ByteArray.extract_append]
      have z : (Mk.frame c).size = 2 := rfl
      rw [z, show 0 - 2 = 0 by omega, extract_all (by rw [z]; omega)]
    rw [e2] at hz2 ⊢
    exact Mk.openG_cut (by omega) (dig_at hc) (by rw [two_at hc]; omega)

/-- what is true of the log of a market in which commands were done -/
structure Mk.Logd (M : Mk.Mkt) : Prop where
  ran : Mk.Ran M
  dsk : (M.disk.size : Int) ≤ 22 * (M.ls 0 + M.ls 1 + M.ls 2 + M.ls 3)
theorem logd_new : Mk.Logd Mk.Mkt.new := ⟨ran_new, by decide⟩
theorem Mk.Logd.size {M : Mk.Mkt} (h : Mk.Logd M) {k : Nat} (hA : AInv M k) : M.disk.size ≤ 8712 := by
  have h0 := hA.well.ls 0 (by omega)
  have h1 := hA.well.ls 1 (by omega)
  have h2 := hA.well.ls 2 (by omega)
  have h3 := hA.well.ls 3 (by omega)
  have := h.dsk
  omega
theorem doM_nx {M : Mk.Mkt} {s : ByteArray} {c : Mk.Cmd} (hr : Mk.readP s = some c) (h : (c.r : Int) = M.ls c.who + 1) : (Mk.doM (Mk.allM M) M s).2.2 = { (Mk.allM M c).2.2 with ls := upd (Mk.allM M c).2.2.ls c.who c.r, tx := upd (Mk.allM M c).2.2.tx c.who (Mk.allM M c).1, er := upd (Mk.allM M c).2.2.er c.who (Mk.allM M c).2.1, disk := (Mk.allM M c).2.2.disk ++ Mk.frame s ++ s } := by
  unfold Mk.doM
  rw [hr]
  simp only []
  rw [if_neg (by omega), if_neg (by omega), if_neg (by omega)]
theorem Mk.Logd.next {M : Mk.Mkt} (h : Mk.Logd M) {k : Nat} (hA : AInv M k) {c : ByteArray} {d : Mk.Cmd} (hr : Mk.readP c = some d) (hn : (d.r : Int) = M.ls d.who + 1) : Mk.Logd (Mk.doM (Mk.allM M) M c).2.2 ∧ (Mk.doM (Mk.allM M) M c).2.2.disk = M.disk ++ Mk.frame c ++ c := by
  obtain ⟨hok, hc⟩ := Mk.read_ok hr
  obtain ⟨e1, e2⟩ := all_ls hA.sound hA.one hok
  have hd : (Mk.doM (Mk.allM M) M c).2.2.disk = M.disk ++ Mk.frame c ++ c := by rw [doM_nx hr hn, e2]
  refine ⟨⟨h.ran.next hr hn rfl hd, ?_⟩, hd⟩
  have hl : (Mk.doM (Mk.allM M) M c).2.2.ls = upd M.ls d.who d.r := by rw [doM_nx hr hn, e1]
  rw [hl, hd, ByteArray.size_append, ByteArray.size_append]
  have hf : (Mk.frame c).size = 2 := rfl
  have := h.dsk
  have hw := hok.who
  have u : ∀ j, upd M.ls d.who (d.r : Int) j = if j = d.who then (d.r : Int) else M.ls j := fun j => rfl
  rw [u, u, u, u]
  rcases (show d.who = 0 ∨ d.who = 1 ∨ d.who = 2 ∨ d.who = 3 by omega) with e | e | e | e <;> rw [e] at hn <;> simp only [e] <;> simp <;> omega
theorem Mk.Logd.do {M : Mk.Mkt} (h : Mk.Logd M) {k : Nat} (hA : AInv M k) (s : ByteArray) : Mk.Logd (Mk.doM (Mk.allM M) M s).2.2 := by
  cases hr : Mk.readP s with
  | none =>
    have e : (Mk.doM (Mk.allM M) M s).2.2 = M := by unfold Mk.doM; rw [hr]
    rw [e]; exact h
  | some c =>
    by_cases hn : (c.r : Int) = M.ls c.who + 1
    · exact (h.next hA hr hn).1
    · have e : (Mk.doM (Mk.allM M) M s).2.2 = M := by
        unfold Mk.doM
        rw [hr]
        simp only []
        split
        · rfl
        · split
          · rfl
          · split
            · rfl
            · omega
      rw [e]; exact h

end Go.Proofs.YtmebcdpdpcpnmaaGreatDoor
