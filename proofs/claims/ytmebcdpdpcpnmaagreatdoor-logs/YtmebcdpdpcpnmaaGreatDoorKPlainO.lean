import Derived.Test.YtmebcdpdpcpnmaaGreatDoorJ37
namespace Go.Proofs.YtmebcdpdpcpnmaaGreatDoor

/-- what the two digits at i tell -/
def Mk.two (s : ByteArray) (i : Nat) : Nat := 10 * (Mk.bt s i - 48) + (Mk.bt s (i + 1) - 48)
/-- the frame's text -/
def Mk.piece (s : ByteArray) (i : Nat) : ByteArray := s.extract (i + 2) (i + 2 + Mk.two s i)
/-- a log is read from byte i on -/
def Mk.openG (s : ByteArray) : Nat → Nat → Mk.Mkt → Option Mk.Mkt
  | 0, _, M => some M
  | f + 1, i, M =>
    if s.size < i + 2 then some M
    else if (Mk.isD s i && Mk.isD s (i + 1)) = false then none
    else if s.size < i + 2 + Mk.two s i then some M
    else match Mk.readP (Mk.piece s i) with
      | none => none
      | some c => if (c.r : Int) = M.ls c.who + 1 then Mk.openG s f (i + 2 + Mk.two s i) (Mk.doM (Mk.allM M) M (Mk.piece s i)).2.2 else none
/-- P17 -/
def Mk.openM (s : ByteArray) : Option Mk.Mkt := if 9000 < s.size then none else Mk.openG s (s.size + 1) 0 Mk.Mkt.new

section
variable {s : ByteArray} {f i : Nat} {M : Mk.Mkt}
theorem Mk.openG_end (h : s.size < i + 2) : Mk.openG s (f + 1) i M = some M := by simp only [Mk.openG]; rw [if_pos h]
theorem Mk.openG_bad (h : ¬ s.size < i + 2) (hd : (Mk.isD s i && Mk.isD s (i + 1)) = false) : Mk.openG s (f + 1) i M = none := by simp only [Mk.openG]; rw [if_neg h, if_pos hd]
theorem Mk.openG_cut (h : ¬ s.size < i + 2) (hd : ¬ (Mk.isD s i && Mk.isD s (i + 1)) = false) (hc : s.size < i + 2 + Mk.two s i) : Mk.openG s (f + 1) i M = some M := by simp only [Mk.openG]; rw [if_neg h, if_neg hd, if_pos hc]
theorem Mk.openG_no (h : ¬ s.size < i + 2) (hd : ¬ (Mk.isD s i && Mk.isD s (i + 1)) = false) (hc : ¬ s.size < i + 2 + Mk.two s i) (hr : Mk.readP (Mk.piece s i) = none) : Mk.openG s (f + 1) i M = none := by
  simp only [Mk.openG]
  rw [if_neg h, if_neg hd, if_neg hc, hr]
theorem Mk.openG_gap (h : ¬ s.size < i + 2) (hd : ¬ (Mk.isD s i && Mk.isD s (i + 1)) = false) (hc : ¬ s.size < i + 2 + Mk.two s i) {c : Mk.Cmd} (hr : Mk.readP (Mk.piece s i) = some c) (hn : ¬ (c.r : Int) = M.ls c.who + 1) : Mk.openG s (f + 1) i M = none := by
  simp only [Mk.openG]
  rw [if_neg h, if_neg hd, if_neg hc, hr]
  exact if_neg hn
theorem Mk.openG_yes (h : ¬ s.size < i + 2) (hd : ¬ (Mk.isD s i && Mk.isD s (i + 1)) = false) (hc : ¬ s.size < i + 2 + Mk.two s i) {c : Mk.Cmd} (hr : Mk.readP (Mk.piece s i) = some c) (hn : (c.r : Int) = M.ls c.who + 1) : Mk.openG s (f + 1) i M = Mk.openG s f (i + 2 + Mk.two s i) (Mk.doM (Mk.allM M) M (Mk.piece s i)).2.2 := by
  simp only [Mk.openG]
  rw [if_neg h, if_neg hd, if_neg hc, hr]
  exact if_pos hn
end

/-- a market that a log gives: it is sound, and what its log holds is no more than was read -/
theorem openG_inv {s : ByteArray} : ∀ (f i k : Nat) (M M' : Mk.Mkt), AInv M k → k ≤ i → i ≤ s.size → Mk.openG s f i M = some M' → ∃ k', AInv M' k' ∧ k' ≤ s.size
  | 0, i, k, M, M', hA, hk, hi, h => by
    simp only [Mk.openG, Option.some.injEq] at h
    subst h
    exact ⟨k, hA, by omega⟩
  | f + 1, i, k, M, M', hA, hk, hi, h => by
    by_cases h1 : s.size < i + 2
    · rw [Mk.openG_end h1] at h
      cases h
      exact ⟨k, hA, by omega⟩
    by_cases h2 : (Mk.isD s i && Mk.isD s (i + 1)) = false
    · rw [Mk.openG_bad h1 h2] at h; cases h
    by_cases h3 : s.size < i + 2 + Mk.two s i
    · rw [Mk.openG_cut h1 h2 h3] at h
      cases h
      exact ⟨k, hA, by omega⟩
    cases hr : Mk.readP (Mk.piece s i) with
    | none => rw [Mk.openG_no h1 h2 h3 hr] at h; cases h
    | some c =>
      by_cases h4 : (c.r : Int) = M.ls c.who + 1
      · rw [Mk.openG_yes h1 h2 h3 hr h4] at h
        exact openG_inv f _ (k + 1) _ M' (all_step _ hA) (by omega) (by omega) h
      · rw [Mk.openG_gap h1 h2 h3 hr h4] at h; cases h
theorem openM_inv {s : ByteArray} {M : Mk.Mkt} (h : Mk.openM s = some M) : ∃ k, AInv M k ∧ k ≤ 9000 := by
  unfold Mk.openM at h
  split at h
  · cases h
  · rename_i h9
    obtain ⟨k, hA, hk⟩ := openG_inv _ _ 0 _ _ all_new (Nat.le_refl _) (Nat.zero_le _) h
    exact ⟨k, hA, by omega⟩

end Go.Proofs.YtmebcdpdpcpnmaaGreatDoor
