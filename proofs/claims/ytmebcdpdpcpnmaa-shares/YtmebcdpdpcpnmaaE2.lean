import Derived.Test.YtmebcdpdpcpnmaaE1
namespace Go.Proofs.Ytmebcdpdpcpnmaa
open Go.RowKit

/-- what 'fair' is told: the orders i and k, what they get, and bounds -/
structure FairIn (w : World) (b off n g i k : Nat) (si sk : Bool) (pi qi fi pk qk fk v t : Int) : Prop where
  hi : i < n
  hk : k < n
  h12 : n ≤ 12
  bv1 : 0 ≤ v
  bv2 : v ≤ 240
  bt1 : 1 ≤ t
  bt2 : t ≤ 240
  m1 : 0 ≤ v * qi
  m2 : v * qi ≤ 4800
  m3 : 0 ≤ fi * t
  m4 : fi * t ≤ 2000000
  m5 : 0 ≤ v * qk
  m6 : v * qk ≤ 4800
  m7 : 0 ≤ fk * t
  m8 : fk * t ≤ 2000000
  c0 : w.cell? ⟨b, off + i * 3, none⟩ = some (.bool si)
  c1 : w.cell? ⟨b, off + i * 3 + 1, none⟩ = some (.int .i64 pi)
  c2 : w.cell? ⟨b, off + i * 3 + 1 + 1, none⟩ = some (.int .i64 qi)
  d0 : w.cell? ⟨b, off + k * 3, none⟩ = some (.bool sk)
  d1 : w.cell? ⟨b, off + k * 3 + 1, none⟩ = some (.int .i64 pk)
  d2 : w.cell? ⟨b, off + k * 3 + 1 + 1, none⟩ = some (.int .i64 qk)
  ei : w.cell? ⟨g, i, none⟩ = some (.int .i64 fi)
  ek : w.cell? ⟨g, k, none⟩ = some (.int .i64 fk)
  x1 : v * qi - fi * t < t
  x2 : -t < v * qi - fi * t

set_option maxHeartbeats 1000000 in
theorem fair_1 (b off cap n g i k : Nat) (si sk : Bool) (pi qi fi pk qk fk v t : Int) (w : World)
    (hin : FairIn w b off n g i k si sk pi qi fi pk qk fk v t)
    (y : (si != sk) = true) :
    Calls Try.prog 18 #[.slice (some ⟨b, off, none⟩) n cap, .slice (some ⟨g, 0, none⟩) n n, .int .i64 i, .int .i64 k, .int .i64 v, .int .i64 t] w fun e w' => e = .returned (.bool true) ∧ Below w.heap.size w w' := by
  obtain ⟨hi, hk, h12, bv1, bv2, bt1, bt2, m1, m2, m3, m4, m5, m6, m7, m8, c0, c1, c2, d0, d1, d2, ei, ek, x1, x2⟩ := hin
  have hi' : (i : Int) < (n : Int) := by omega
  have hk' : (k : Int) < (n : Int) := by omega
  obtain ⟨rfl, rfl⟩ | ⟨rfl, rfl⟩ : (si = true ∧ sk = false) ∨ (si = false ∧ sk = true) := by revert y; cases si <;> cases sk <;> simp
  all_goals
    clear y
    go_enter Try.func18, Try.ntmps18
    go_wp2
    go_quiet (fail)
    go_wp2
    go_quiet (fail)
    go_wp2
    go_ret
    exact ⟨rfl, below_drewN (below_drewN (Below.refl _ _) _) _⟩

set_option maxHeartbeats 1000000 in
theorem fair_2 (b off cap n g i k : Nat) (si sk : Bool) (pi qi fi pk qk fk v t : Int) (w : World)
    (hin : FairIn w b off n g i k si sk pi qi fi pk qk fk v t)
    (ys : si = sk) (y1 : v * qi < fi * t) :
    Calls Try.prog 18 #[.slice (some ⟨b, off, none⟩) n cap, .slice (some ⟨g, 0, none⟩) n n, .int .i64 i, .int .i64 k, .int .i64 v, .int .i64 t] w fun e w' => e = .returned (.bool true) ∧ Below w.heap.size w w' := by
  obtain ⟨hi, hk, h12, bv1, bv2, bt1, bt2, m1, m2, m3, m4, m5, m6, m7, m8, c0, c1, c2, d0, d1, d2, ei, ek, x1, x2⟩ := hin
  have hi' : (i : Int) < (n : Int) := by omega
  have hk' : (k : Int) < (n : Int) := by omega
  subst ys
  cases si
  all_goals
    go_enter Try.func18, Try.ntmps18
    go_wp2
    go_quiet (fail)
    go_wp2
    go_quiet (fail)
    go_wp2
    go_ret
    exact ⟨rfl, below_drewN (below_drewN (Below.refl _ _) _) _⟩

set_option maxHeartbeats 1000000 in
theorem fair_3 (b off cap n g i k : Nat) (si sk : Bool) (pi qi fi pk qk fk v t : Int) (w : World)
    (hin : FairIn w b off n g i k si sk pi qi fi pk qk fk v t)
    (ys : si = sk) (y0 : ¬ v * qi < fi * t) (y2 : v * qi - fi * t = 0) :
    Calls Try.prog 18 #[.slice (some ⟨b, off, none⟩) n cap, .slice (some ⟨g, 0, none⟩) n n, .int .i64 i, .int .i64 k, .int .i64 v, .int .i64 t] w fun e w' => e = .returned (.bool true) ∧ Below w.heap.size w w' := by
  obtain ⟨hi, hk, h12, bv1, bv2, bt1, bt2, m1, m2, m3, m4, m5, m6, m7, m8, c0, c1, c2, d0, d1, d2, ei, ek, x1, x2⟩ := hin
  have hi' : (i : Int) < (n : Int) := by omega
  have hk' : (k : Int) < (n : Int) := by omega
  have y1 : decide (v * qi < fi * t) = false := by simpa using y0
  have y3 : (v * qi - fi * t == 0) = true := by simpa using y2
  clear y2
  subst ys
  cases si
  all_goals
    go_enter Try.func18, Try.ntmps18
    go_wp2
    go_quiet (fail)
    go_wp2
    go_quiet (fail)
    go_wp2
    go_ret
    exact ⟨rfl, below_drewN (below_drewN (Below.refl _ _) _) _⟩

set_option maxHeartbeats 1000000 in
theorem fair_4 (b off cap n g i k : Nat) (si sk : Bool) (pi qi fi pk qk fk v t : Int) (w : World)
    (hin : FairIn w b off n g i k si sk pi qi fi pk qk fk v t)
    (ys : si = sk) (y0 : ¬ v * qi < fi * t) (y2 : ¬ v * qi - fi * t = 0) (y4 : fk * t ≤ v * qk) :
    Calls Try.prog 18 #[.slice (some ⟨b, off, none⟩) n cap, .slice (some ⟨g, 0, none⟩) n n, .int .i64 i, .int .i64 k, .int .i64 v, .int .i64 t] w fun e w' => e = .returned (.bool true) ∧ Below w.heap.size w w' := by
  obtain ⟨hi, hk, h12, bv1, bv2, bt1, bt2, m1, m2, m3, m4, m5, m6, m7, m8, c0, c1, c2, d0, d1, d2, ei, ek, x1, x2⟩ := hin
  have hi' : (i : Int) < (n : Int) := by omega
  have hk' : (k : Int) < (n : Int) := by omega
  have y1 : decide (v * qi < fi * t) = false := by simpa using y0
  have y3 : (v * qi - fi * t == 0) = false := by simpa using y2
  clear y2
  subst ys
  cases si
  all_goals
    go_enter Try.func18, Try.ntmps18
    go_wp2
    go_quiet (fail)
    go_wp2
    go_quiet (fail)
    go_wp2
    go_ret
    exact ⟨rfl, below_drewN (below_drewN (Below.refl _ _) _) _⟩

set_option maxHeartbeats 1000000 in
theorem fair_5 (b off cap n g i k : Nat) (si sk : Bool) (pi qi fi pk qk fk v t : Int) (w : World)
    (hin : FairIn w b off n g i k si sk pi qi fi pk qk fk v t)
    (ys : si = sk) (y0 : ¬ v * qi < fi * t) (y2 : ¬ v * qi - fi * t = 0) (y4 : ¬ fk * t ≤ v * qk) (y5 : v * qi - fi * t < v * qk - fk * t + t) :
    Calls Try.prog 18 #[.slice (some ⟨b, off, none⟩) n cap, .slice (some ⟨g, 0, none⟩) n n, .int .i64 i, .int .i64 k, .int .i64 v, .int .i64 t] w fun e w' => e = .returned (.bool true) ∧ Below w.heap.size w w' := by
  obtain ⟨hi, hk, h12, bv1, bv2, bt1, bt2, m1, m2, m3, m4, m5, m6, m7, m8, c0, c1, c2, d0, d1, d2, ei, ek, x1, x2⟩ := hin
  have hi' : (i : Int) < (n : Int) := by omega
  have hk' : (k : Int) < (n : Int) := by omega
  have y1 : decide (v * qi < fi * t) = false := by simpa using y0
  have y3 : (v * qi - fi * t == 0) = false := by simpa using y2
  clear y2
  subst ys
  cases si
  all_goals
    go_enter Try.func18, Try.ntmps18
    go_wp2
    go_quiet (fail)
    go_wp2
    go_quiet (fail)
    go_wp2
    go_quiet (fail)
    go_wp2
    go_ret
    exact ⟨rfl, below_drewN (Below.refl _ _) _⟩

set_option maxHeartbeats 1000000 in
theorem fair_6 (b off cap n g i k : Nat) (si sk : Bool) (pi qi fi pk qk fk v t : Int) (w : World)
    (hin : FairIn w b off n g i k si sk pi qi fi pk qk fk v t)
    (ys : si = sk) (y0 : ¬ v * qi < fi * t) (y2 : ¬ v * qi - fi * t = 0) (y4 : ¬ fk * t ≤ v * qk) (y5 : v * qk - fk * t + t = v * qi - fi * t) (y6 : k < i) :
    Calls Try.prog 18 #[.slice (some ⟨b, off, none⟩) n cap, .slice (some ⟨g, 0, none⟩) n n, .int .i64 i, .int .i64 k, .int .i64 v, .int .i64 t] w fun e w' => e = .returned (.bool true) ∧ Below w.heap.size w w' := by
  obtain ⟨hi, hk, h12, bv1, bv2, bt1, bt2, m1, m2, m3, m4, m5, m6, m7, m8, c0, c1, c2, d0, d1, d2, ei, ek, x1, x2⟩ := hin
  have hi' : (i : Int) < (n : Int) := by omega
  have hk' : (k : Int) < (n : Int) := by omega
  have y1 : decide (v * qi < fi * t) = false := by simpa using y0
  have y3 : (v * qi - fi * t == 0) = false := by simpa using y2
  have y7 : (v * qk - fk * t + t == v * qi - fi * t) = true := by simpa using y5
  have y8 : ¬ v * qi - fi * t < v * qk - fk * t + t := by omega
  clear y2 y5
  subst ys
  cases si
  all_goals
    go_enter Try.func18, Try.ntmps18
    go_wp2
    go_quiet (fail)
    go_wp2
    go_quiet (fail)
    go_wp2
    go_quiet (fail)
    go_wp2
    go_ret
    exact ⟨rfl, below_drewN (Below.refl _ _) _⟩

theorem fair_any (b off cap n g i k : Nat) (si sk : Bool) (pi qi fi pk qk fk v t : Int) (w : World)
    (hin : FairIn w b off n g i k si sk pi qi fi pk qk fk v t)
    (h : si ≠ sk ∨ v * qi < fi * t ∨ v * qi - fi * t = 0 ∨ fk * t ≤ v * qk ∨ v * qi - fi * t < v * qk - fk * t + t ∨ (v * qk - fk * t + t = v * qi - fi * t ∧ k < i)) :
    Calls Try.prog 18 #[.slice (some ⟨b, off, none⟩) n cap, .slice (some ⟨g, 0, none⟩) n n, .int .i64 i, .int .i64 k, .int .i64 v, .int .i64 t] w fun e w' => e = .returned (.bool true) ∧ Below w.heap.size w w' := by
  by_cases h1 : si = sk
  · by_cases h2 : v * qi < fi * t
    · exact fair_2 b off cap n g i k si sk pi qi fi pk qk fk v t w hin h1 h2
    · by_cases h3 : v * qi - fi * t = 0
      · exact fair_3 b off cap n g i k si sk pi qi fi pk qk fk v t w hin h1 h2 h3
      · by_cases h4 : fk * t ≤ v * qk
        · exact fair_4 b off cap n g i k si sk pi qi fi pk qk fk v t w hin h1 h2 h3 h4
        · by_cases h5 : v * qi - fi * t < v * qk - fk * t + t
          · exact fair_5 b off cap n g i k si sk pi qi fi pk qk fk v t w hin h1 h2 h3 h4 h5
          · rcases h with h | h | h | h | h | ⟨h6, h7⟩
            · exact absurd h1 h
            · exact absurd h h2
            · exact absurd h h3
            · exact absurd h h4
            · exact absurd h h5
            · exact fair_6 b off cap n g i k si sk pi qi fi pk qk fk v t w hin h1 h2 h3 h4 h6 h7
  · exact fair_1 b off cap n g i k si sk pi qi fi pk qk fk v t w hin (by simpa using h1)

end Go.Proofs.Ytmebcdpdpcpnmaa
