import Derived.Test.YtmebcdpdpcpnmaaGreatDoorPlain6
/- Plain mathematics: nobody is wronged. -/
namespace Mk

section
variable {l : List Ord} {p : Int}

theorem more_01 (i : Nat) : more l p i = 0 ∨ more l p i = 1 := by unfold more; split <;> simp
theorem getsf_more (i : Nat) : getsf l (dem l p) (sup l p) p i = G0 l (dem l p) (sup l p) p i + more l p i := rfl

theorem getsf_bd (hv : validB 20 l = true) (i : Nat) : 0 ≤ getsf l (dem l p) (sup l p) p i ∧ getsf l (dem l p) (sup l p) p i ≤ 4801 := by
  have h1 := G0_bd (p := p) hv (dem_bd hv p) (sup_bd hv p) i
  have h2 := more_01 (l := l) (p := p) i
  rw [getsf_more]; omega

/-- a willing order's equation -/
theorem will_eq (hV : 1 ≤ vol l p) {i : Nat} (hi : i < l.length) (hw : willB l[i].sell l[i].price p = true) :
    vol l p * l[i].qty = sideT (dem l p) (sup l p) l[i].sell * G0 l (dem l p) (sup l p) p i + L0 l (dem l p) (sup l p) p i ∧
    0 ≤ L0 l (dem l p) (sup l p) p i ∧ L0 l (dem l p) (sup l p) p i < sideT (dem l p) (sup l p) l[i].sell := by
  obtain ⟨h1, h2⟩ := one_le hV
  have e := order_eq (p := p) h1 h2 l[i] l[i].sell
  simp only [if_true, sideq, hw, beq_self_eq_true, Bool.and_self] at e
  have hb := losto_bd (p := p) h1 h2 l[i]
  rw [← L0_at hi, tot_of] at hb
  rw [← L0_at hi, ← G0_at hi] at e
  exact ⟨e, hb⟩

/-- who is not willing gets nothing -/
theorem unwilling (hV : 1 ≤ vol l p) {i : Nat} (hi : i < l.length) (hw : willB l[i].sell l[i].price p = false) : getsf l (dem l p) (sup l p) p i = 0 := by
  obtain ⟨e1, e2⟩ := share_no (d := dem l p) (s := sup l p) (p := p) (o := l[i]) (.inr hw)
  rw [← G0_at hi] at e1
  rw [← L0_at hi] at e2
  rw [getsf_more, e1]
  have : more l p i = 0 := by
    unfold more
    rw [if_neg]
    intro h
    have := more_lost hV h
    omega
  omega

theorem fair_fact (hV : 1 ≤ vol l p) {i k : Nat} (hi : i < l.length) (hk : k < l.length) (hwi : willB l[i].sell l[i].price p = true) (hwk : willB l[k].sell l[k].price p = true)
    {t fi fk : Int} (ht : t = sideT (dem l p) (sup l p) l[i].sell) (hfi : fi = getsf l (dem l p) (sup l p) p i) (hfk : fk = getsf l (dem l p) (sup l p) p k) :
    vol l p * l[i].qty - fi * t < t ∧ -t < vol l p * l[i].qty - fi * t ∧
    (l[i].sell ≠ l[k].sell ∨ vol l p * l[i].qty < fi * t ∨ vol l p * l[i].qty - fi * t = 0 ∨ fk * t ≤ vol l p * l[k].qty ∨ vol l p * l[i].qty - fi * t < vol l p * l[k].qty - fk * t + t ∨ (vol l p * l[k].qty - fk * t + t = vol l p * l[i].qty - fi * t ∧ k < i)) := by
  obtain ⟨ei, bi1, bi2⟩ := will_eq hV hi hwi
  obtain ⟨ek, bk1, bk2⟩ := will_eq hV hk hwk
  rw [← ht] at ei bi2
  have fi_eq : fi * t = t * G0 l (dem l p) (sup l p) p i + more l p i * t := by rw [hfi, getsf_more, Int.add_mul, Int.mul_comm t]
  have hmi : more l p i = 0 ∨ more l p i = 1 ∧ 0 < L0 l (dem l p) (sup l p) p i := by
    by_cases h : (place (L0 l (dem l p) (sup l p) p) l.length i : Int) < left0 l (dem l p) (sup l p) p
    · exact .inr ⟨by unfold more; rw [if_pos h], more_lost hV h⟩
    · exact .inl (by unfold more; rw [if_neg h])
  rcases hmi with hmi | ⟨hmi, hz⟩
  · rw [hmi, Int.zero_mul, Int.add_zero] at fi_eq
    rw [fi_eq, ei]
    generalize hX : t * G0 l (dem l p) (sup l p) p i = X at *
    refine ⟨by omega, by omega, ?_⟩
    by_cases hs : l[i].sell = l[k].sell
    · by_cases hz : L0 l (dem l p) (sup l p) p i = 0
      · exact .inr (.inr (.inl (by omega)))
      · rw [← hs, ← ht] at ek
        have fk_eq : fk * t = t * G0 l (dem l p) (sup l p) p k + more l p k * t := by rw [hfk, getsf_more, Int.add_mul, Int.mul_comm t]
        rw [fk_eq, ek]
        generalize hY : t * G0 l (dem l p) (sup l p) p k = Y at *
        rcases more_01 (l := l) (p := p) k with hmk | hmk
        · rw [hmk, Int.zero_mul]
          exact .inr (.inr (.inr (.inl (by omega))))
        · rw [hmk, Int.one_mul]
          have h1 : (place (L0 l (dem l p) (sup l p) p) l.length k : Int) < left0 l (dem l p) (sup l p) p := by
            apply Classical.byContradiction
            intro h
            unfold more at hmk
            rw [if_neg h] at hmk
            omega
          have h2 : ¬ (place (L0 l (dem l p) (sup l p) p) l.length i : Int) < left0 l (dem l p) (sup l p) p := by
            intro h
            unfold more at hmi
            rw [if_pos h] at hmi
            omega
          have hne : i ≠ k := by intro h; subst h; omega
          rcases ahead_total (Z := L0 l (dem l p) (sup l p) p) hne with h3 | h3
          · rw [ahead_iff] at h3
            rcases h3 with h3 | ⟨h3, h4⟩
            · exact .inr (.inr (.inr (.inr (.inl (by omega)))))
            · exact .inr (.inr (.inr (.inr (.inr ⟨by omega, h4⟩))))
          · have := place_lt hi h3
            omega
    · exact .inl hs
  · rw [hmi, Int.one_mul] at fi_eq
    rw [fi_eq, ei]
    generalize hX : t * G0 l (dem l p) (sup l p) p i = X at *
    exact ⟨by omega, by omega, .inr (.inl (by omega))⟩

end
end Mk
