import Derived.Test.YtmebcdpdpcpnmaaGreatDoorJ10
import Derived.Test.YtmebcdpdpcpnmaaGreatDoorJ13
import Derived.Deep.MidRow
import Derived.Deep.RegionWith
namespace Go.Proofs.YtmebcdpdpcpnmaaGreatDoor
open Go.RowKit

/-- an account's cells -/
def acF (M : Mk.Mkt) (c : Nat) : Nat → Value
  | 0 => .int .i64 (M.cf c)
  | 1 => .int .i64 (M.ch c)
  | 2 => .int .i64 (M.sf 0 c)
  | 3 => .int .i64 (M.sh 0 c)
  | 4 => .int .i64 (M.sf 1 c)
  | _ => .int .i64 (M.sh 1 c)
/-- a voyage's -/
def voF (vb : Nat → Value) (M : Mk.Mkt) (v : Nat) : Nat → Value
  | 0 => .int .i64 (mdI (M.md v))
  | 1 => vb v
  | _ => .int .i64 (M.cm v)
/-- an answer's -/
def reF (M : Mk.Mkt) (c : Nat) : Nat → Value
  | 0 => .int .i64 (M.ls c)
  | 1 => .string (M.tx c)
  | _ => .int .i64 (M.er c)
def pmF (vb : Nat → Value) (M : Mk.Mkt) (j : Nat) : Value :=
  if j < 24 then acF M (j / 6) (j % 6) else if j = 24 then .int .i64 M.house else if j < 31 then voF vb M ((j - 25) / 3) ((j - 25) % 3) else if j < 43 then reF M ((j - 31) / 3) ((j - 31) % 3) else .string M.disk
section
variable {vb : Nat → Value} {M : Mk.Mkt}
theorem pm_ac {c k : Nat} (hc : c < 4) (hk : k < 6) : pmF vb M (c * 6 + k) = acF M c k := by
  unfold pmF
  rw [if_pos (by omega), show (c * 6 + k) / 6 = c by omega, show (c * 6 + k) % 6 = k by omega]
theorem pm_house : pmF vb M 24 = .int .i64 M.house := rfl
theorem pm_vo {v k : Nat} (hv : v < 2) (hk : k < 3) : pmF vb M (25 + v * 3 + k) = voF vb M v k := by
  unfold pmF
  rw [if_neg (by omega), if_neg (by omega), if_pos (by omega), show (25 + v * 3 + k - 25) / 3 = v by omega, show (25 + v * 3 + k - 25) % 3 = k by omega]
theorem pm_re {c k : Nat} (hc : c < 4) (hk : k < 3) : pmF vb M (31 + c * 3 + k) = reF M c k := by
  unfold pmF
  rw [if_neg (by omega), if_neg (by omega), if_neg (by omega), if_pos (by omega), show (31 + c * 3 + k - 31) / 3 = c by omega, show (31 + c * 3 + k - 31) % 3 = k by omega]
theorem pm_disk : pmF vb M 43 = .string M.disk := rfl
theorem pm_ext {G : Nat → Value} (ha : ∀ c k, c < 4 → k < 6 → G (c * 6 + k) = acF M c k) (hh : G 24 = .int .i64 M.house) (hv : ∀ v k, v < 2 → k < 3 → G (25 + v * 3 + k) = voF vb M v k) (hr : ∀ c k, c < 4 → k < 3 → G (31 + c * 3 + k) = reF M c k) (hl : G 43 = .string M.disk) : ∀ j, j < 44 → G j = pmF vb M j := by
  intro j hj
  by_cases h1 : j < 24
  · have e : j = j / 6 * 6 + j % 6 := by omega
    rw [e, ha _ _ (by omega) (by omega), pm_ac (by omega) (by omega)]
  · by_cases h2 : j = 24
    · subst h2; exact hh
    · by_cases h3 : j < 31
      · have e : j = 25 + (j - 25) / 3 * 3 + (j - 25) % 3 := by omega
        rw [e, hv _ _ (by omega) (by omega), pm_vo (by omega) (by omega)]
      · by_cases h4 : j < 43
        · have e : j = 31 + (j - 31) / 3 * 3 + (j - 31) % 3 := by omega
          rw [e, hr _ _ (by omega) (by omega), pm_re (by omega) (by omega)]
        · obtain rfl : j = 43 := by omega
          exact hl
end

/-- THE PROGRAM's MARKET in memory -/
structure PM (w : World) (p : Nat) (vb : Nat → Value) (M : Mk.Mkt) : Prop where
  box : w.rowIs p 72 44 (pmF vb M)
  bk : ∀ v, v < 2 → w.ownsRow 0 152 5 (vb v) (M.bk v).length (standC (M.bk v))
  vv : ∀ k, (vb 0).ownBlock = some k → (vb 1).ownBlock ≠ some k
/-- the blocks that it owns -/
def PHas (p : Nat) (vb : Nat → Value) (k : Nat) : Prop := k = p ∨ ∃ v, v < 2 ∧ (vb v).ownBlock = some k

section
variable {w w' : World} {p : Nat} {vb : Nat → Value} {M : Mk.Mkt}
theorem PM.lt (h : PM w p vb M) {k : Nat} (hk : PHas p vb k) : k < w.heap.size := by
  rcases hk with rfl | ⟨v, hv, hk⟩
  · exact h.box.lt
  · exact ((h.bk v hv).lt k hk).2
theorem PM.blocks (h : PM w p vb M) (hk : ∀ k, PHas p vb k → w'.heap[k]? = w.heap[k]?) : PM w' p vb M :=
  ⟨h.box.of_block (hk _ (.inl rfl)), fun v hv => own_block (h.bk v hv) (fun _ hk' => hk _ (.inr ⟨v, hv, hk'⟩)), h.vv⟩
theorem PM.below (h : PM w p vb M) (hb : Below w.heap.size w w') : PM w' p vb M := h.blocks (fun k hk => hb.block k (h.lt hk))
theorem PM.ac (h : PM w p vb M) {c k : Nat} (hc : c < 4) (hk : k < 6) : w.cell? ⟨p, c * 6 + k, none⟩ = some (acF M c k) := by rw [← pm_ac (vb := vb) hc hk]; exact h.box.cell (by omega)
theorem PM.ho (h : PM w p vb M) : w.cell? ⟨p, 24, none⟩ = some (.int .i64 M.house) := h.box.cell (i := 24) (by omega)
theorem PM.vo (h : PM w p vb M) {v k : Nat} (hv : v < 2) (hk : k < 3) : w.cell? ⟨p, 25 + v * 3 + k, none⟩ = some (voF vb M v k) := by rw [← pm_vo hv hk]; exact h.box.cell (by omega)
theorem PM.re (h : PM w p vb M) {c k : Nat} (hc : c < 4) (hk : k < 3) : w.cell? ⟨p, 31 + c * 3 + k, none⟩ = some (reF M c k) := by rw [← pm_re (vb := vb) hc hk]; exact h.box.cell (by omega)
theorem PM.own_set (h : PM w p vb M) (i : Nat) (u : Value) : ∀ v, v < 2 → (w.setCell ⟨p, i, none⟩ u).ownsRow 0 152 5 (vb v) (M.bk v).length (standC (M.bk v)) := fun v hv => Go.Proofs.YtmebcdpdpcpnmaaGreatDoor.own_set (h.bk v hv) (row_kind h.box) (by decide)
theorem PM.setCf (h : PM w p vb M) {c : Nat} (hc : c < 4) (x : Int) : PM (w.setCell ⟨p, c * 6, none⟩ (.int .i64 x)) p vb { M with cf := upd M.cf c x } := by
  refine ⟨(h.box.set _ _).congr (pm_ext (fun d k hd hk => ?_) ?_ (fun v k hv hk => ?_) (fun d k hd hk => ?_) ?_), h.own_set _ _, h.vv⟩
  · rw [pm_ac hd hk]
    by_cases e : d * 6 + k = c * 6
    · rw [if_pos e]
      have e1 : d = c := by omega
      have e2 : k = 0 := by omega
      subst e1 e2
      show _ = Value.int .i64 (upd M.cf d x d)
      rw [upd_self]
    · rw [if_neg e]
      match k, hk with
      | 0, _ => show _ = Value.int .i64 (upd M.cf c x d)
                rw [upd_ne _ _ (by omega)]; rfl
      | 1, _ => rfl
      | 2, _ => rfl
      | 3, _ => rfl
      | 4, _ => rfl
      | 5, _ => rfl
  · rw [if_neg (by omega)]; rfl
  · rw [if_neg (by omega), pm_vo hv hk]; rfl
  · rw [if_neg (by omega), pm_re hd hk]; rfl
  · rw [if_neg (by omega)]; rfl
theorem PM.setCh (h : PM w p vb M) {c : Nat} (hc : c < 4) (x : Int) : PM (w.setCell ⟨p, c * 6 + 1, none⟩ (.int .i64 x)) p vb { M with ch := upd M.ch c x } := by
  refine ⟨(h.box.set _ _).congr (pm_ext (fun d k hd hk => ?_) ?_ (fun v k hv hk => ?_) (fun d k hd hk => ?_) ?_), h.own_set _ _, h.vv⟩
  · rw [pm_ac hd hk]
    by_cases e : d * 6 + k = c * 6 + 1
    · rw [if_pos e]
      have e1 : d = c := by omega
      have e2 : k = 1 := by omega
      subst e1 e2
      show _ = Value.int .i64 (upd M.ch d x d)
      rw [upd_self]
    · rw [if_neg e]
      match k, hk with
      | 0, _ => rfl
      | 1, _ => show _ = Value.int .i64 (upd M.ch c x d)
                rw [upd_ne _ _ (by omega)]; rfl
      | 2, _ => rfl
      | 3, _ => rfl
      | 4, _ => rfl
      | 5, _ => rfl
  · rw [if_neg (by omega)]; rfl
  · rw [if_neg (by omega), pm_vo hv hk]; rfl
  · rw [if_neg (by omega), pm_re hd hk]; rfl
  · rw [if_neg (by omega)]; rfl
theorem upd2_self {f : Nat → Nat → Int} (v c : Nat) (x : Int) : upd f v (upd (f v) c x) v c = x := by rw [upd_self, upd_self]
theorem upd2_ne {f : Nat → Nat → Int} {v c u d : Nat} (x : Int) (h : ¬ (u = v ∧ d = c)) : upd f v (upd (f v) c x) u d = f u d := by
  by_cases e : u = v
  · subst e; rw [upd_self, upd_ne _ _ (fun e => h ⟨rfl, e⟩)]
  · rw [upd_ne _ _ e]
theorem PM.setSf (h : PM w p vb M) {v c : Nat} (hv : v < 2) (hc : c < 4) (x : Int) : PM (w.setCell ⟨p, c * 6 + 2 + v * 2, none⟩ (.int .i64 x)) p vb { M with sf := upd M.sf v (upd (M.sf v) c x) } := by
  refine ⟨(h.box.set _ _).congr (pm_ext (fun d k hd hk => ?_) ?_ (fun v k hv hk => ?_) (fun d k hd hk => ?_) ?_), h.own_set _ _, h.vv⟩
  · rw [pm_ac hd hk]
    by_cases e : d * 6 + k = c * 6 + 2 + v * 2
    · rw [if_pos e]
      have e1 : d = c := by omega
      subst e1
      rcases (show v = 0 ∧ k = 2 ∨ v = 1 ∧ k = 4 by omega) with ⟨rfl, rfl⟩ | ⟨rfl, rfl⟩
      · show _ = Value.int .i64 (upd M.sf 0 (upd (M.sf 0) d x) 0 d); rw [upd2_self]
      · show _ = Value.int .i64 (upd M.sf 1 (upd (M.sf 1) d x) 1 d); rw [upd2_self]
    · rw [if_neg e]
      match k, hk with
      | 0, _ => rfl
      | 1, _ => rfl
      | 2, _ => show _ = Value.int .i64 (upd M.sf v (upd (M.sf v) c x) 0 d)
                rw [upd2_ne _ (by omega)]; rfl
      | 3, _ => rfl
      | 4, _ => show _ = Value.int .i64 (upd M.sf v (upd (M.sf v) c x) 1 d)
                rw [upd2_ne _ (by omega)]; rfl
      | 5, _ => rfl
  · rw [if_neg (by omega)]; rfl
  · rw [if_neg (by omega), pm_vo hv hk]; rfl
  · rw [if_neg (by omega), pm_re hd hk]; rfl
  · rw [if_neg (by omega)]; rfl
theorem PM.setSh (h : PM w p vb M) {v c : Nat} (hv : v < 2) (hc : c < 4) (x : Int) : PM (w.setCell ⟨p, c * 6 + 2 + v * 2 + 1, none⟩ (.int .i64 x)) p vb { M with sh := upd M.sh v (upd (M.sh v) c x) } := by
  refine ⟨(h.box.set _ _).congr (pm_ext (fun d k hd hk => ?_) ?_ (fun v k hv hk => ?_) (fun d k hd hk => ?_) ?_), h.own_set _ _, h.vv⟩
  · rw [pm_ac hd hk]
    by_cases e : d * 6 + k = c * 6 + 2 + v * 2 + 1
    · rw [if_pos e]
      have e1 : d = c := by omega
      subst e1
      rcases (show v = 0 ∧ k = 3 ∨ v = 1 ∧ k = 5 by omega) with ⟨rfl, rfl⟩ | ⟨rfl, rfl⟩
      · show _ = Value.int .i64 (upd M.sh 0 (upd (M.sh 0) d x) 0 d); rw [upd2_self]
      · show _ = Value.int .i64 (upd M.sh 1 (upd (M.sh 1) d x) 1 d); rw [upd2_self]
    · rw [if_neg e]
      match k, hk with
      | 0, _ => rfl
      | 1, _ => rfl
      | 2, _ => rfl
      | 3, _ => show _ = Value.int .i64 (upd M.sh v (upd (M.sh v) c x) 0 d)
                rw [upd2_ne _ (by omega)]; rfl
      | 4, _ => rfl
      | 5, _ => show _ = Value.int .i64 (upd M.sh v (upd (M.sh v) c x) 1 d)
                rw [upd2_ne _ (by omega)]; rfl
  · rw [if_neg (by omega)]; rfl
  · rw [if_neg (by omega), pm_vo hv hk]; rfl
  · rw [if_neg (by omega), pm_re hd hk]; rfl
  · rw [if_neg (by omega)]; rfl
theorem PM.setMd (h : PM w p vb M) {v : Nat} (hv : v < 2) (x : Bool) : PM (w.setCell ⟨p, 25 + v * 3, none⟩ (.int .i64 (mdI x))) p vb { M with md := upd M.md v x } := by
  refine ⟨(h.box.set _ _).congr (pm_ext (fun d k hd hk => ?_) ?_ (fun u k hu hk => ?_) (fun d k hd hk => ?_) ?_), h.own_set _ _, h.vv⟩
  · rw [if_neg (by omega), pm_ac hd hk]; rfl
  · rw [if_neg (by omega)]; rfl
  · rw [pm_vo hu hk]
    by_cases e : 25 + u * 3 + k = 25 + v * 3
    · rw [if_pos e]
      have e1 : u = v := by omega
      have e2 : k = 0 := by omega
      subst e1 e2
      show _ = Value.int .i64 (mdI (upd M.md u x u))
      rw [upd_self]
    · rw [if_neg e]
      match k, hk with
      | 0, _ => show _ = Value.int .i64 (mdI (upd M.md v x u))
                rw [upd_ne _ _ (by omega)]; rfl
      | 1, _ => rfl
      | 2, _ => rfl
  · rw [if_neg (by omega), pm_re hd hk]; rfl
  · rw [if_neg (by omega)]; rfl
theorem PM.setCm (h : PM w p vb M) {v : Nat} (hv : v < 2) (x : Int) : PM (w.setCell ⟨p, 25 + v * 3 + 2, none⟩ (.int .i64 x)) p vb { M with cm := upd M.cm v x } := by
  refine ⟨(h.box.set _ _).congr (pm_ext (fun d k hd hk => ?_) ?_ (fun u k hu hk => ?_) (fun d k hd hk => ?_) ?_), h.own_set _ _, h.vv⟩
  · rw [if_neg (by omega), pm_ac hd hk]; rfl
  · rw [if_neg (by omega)]; rfl
  · rw [pm_vo hu hk]
    by_cases e : 25 + u * 3 + k = 25 + v * 3 + 2
    · rw [if_pos e]
      have e1 : u = v := by omega
      have e2 : k = 2 := by omega
      subst e1 e2
      show _ = Value.int .i64 (upd M.cm u x u)
      rw [upd_self]
    · rw [if_neg e]
      match k, hk with
      | 0, _ => rfl
      | 1, _ => rfl
      | 2, _ => show _ = Value.int .i64 (upd M.cm v x u)
                rw [upd_ne _ _ (by omega)]; rfl
  · rw [if_neg (by omega), pm_re hd hk]; rfl
  · rw [if_neg (by omega)]; rfl
/-- an answer is kept -/
theorem PM.setRe (h : PM w p vb M) {c : Nat} (hc : c < 4) (x : Int) (t : ByteArray) (e : Int) :
    PM (((w.setCell ⟨p, 31 + c * 3, none⟩ (.int .i64 x)).setCell ⟨p, 31 + c * 3 + 1, none⟩ (.string t)).setCell ⟨p, 31 + c * 3 + 2, none⟩ (.int .i64 e)) p vb { M with ls := upd M.ls c x, tx := upd M.tx c t, er := upd M.er c e } := by
  have hk : Kind (w.setCell ⟨p, 31 + c * 3, none⟩ (.int .i64 x)) p 72 := row_kind (h.box.set _ _)
  have hk2 : Kind ((w.setCell ⟨p, 31 + c * 3, none⟩ (.int .i64 x)).setCell ⟨p, 31 + c * 3 + 1, none⟩ (.string t)) p 72 := row_kind ((h.box.set _ _).set _ _)
  refine ⟨(((h.box.set _ _).set _ _).set _ _).congr (pm_ext (fun d k hd hk => ?_) ?_ (fun u k hu hk => ?_) (fun d k hd hk => ?_) ?_), fun v hv => Go.Proofs.YtmebcdpdpcpnmaaGreatDoor.own_set (Go.Proofs.YtmebcdpdpcpnmaaGreatDoor.own_set (h.own_set _ _ v hv) hk (by decide)) hk2 (by decide), h.vv⟩
  · rw [if_neg (by omega), if_neg (by omega), if_neg (by omega), pm_ac hd hk]; rfl
  · rw [if_neg (by omega), if_neg (by omega), if_neg (by omega)]; rfl
  · rw [if_neg (by omega), if_neg (by omega), if_neg (by omega), pm_vo hu hk]; rfl
  · rw [pm_re hd hk]
    by_cases he : d = c
    · subst he
      match k, hk with
      | 0, _ => rw [if_neg (by omega), if_neg (by omega), if_pos (by omega)]; show _ = Value.int .i64 (upd M.ls d x d); rw [upd_self]
      | 1, _ => rw [if_neg (by omega), if_pos (by omega)]; show _ = Value.string (upd M.tx d t d); rw [upd_self]
      | 2, _ => rw [if_pos (by omega)]; show _ = Value.int .i64 (upd M.er d e d); rw [upd_self]
    · rw [if_neg (by omega), if_neg (by omega), if_neg (by omega)]
      match k, hk with
      | 0, _ => show _ = Value.int .i64 (upd M.ls c x d); rw [upd_ne _ _ he]; rfl
      | 1, _ => show _ = Value.string (upd M.tx c t d); rw [upd_ne _ _ he]; rfl
      | 2, _ => show _ = Value.int .i64 (upd M.er c e d); rw [upd_ne _ _ he]; rfl
  · rw [if_neg (by omega), if_neg (by omega), if_neg (by omega)]; rfl
/-- the log is written -/
theorem PM.setDisk (h : PM w p vb M) (s : ByteArray) : PM (w.setCell ⟨p, 43, none⟩ (.string s)) p vb { M with disk := s } := by
  refine ⟨(h.box.set _ _).congr (pm_ext (fun d k hd hk => ?_) ?_ (fun u k hu hk => ?_) (fun d k hd hk => ?_) ?_), h.own_set _ _, h.vv⟩
  · rw [if_neg (by omega), pm_ac hd hk]; rfl
  · rw [if_neg (by omega)]; rfl
  · rw [if_neg (by omega), pm_vo hu hk]; rfl
  · rw [if_neg (by omega), pm_re hd hk]; rfl
  · rw [if_pos rfl]
theorem PM.lg (h : PM w p vb M) : w.cell? ⟨p, 43, none⟩ = some (.string M.disk) := h.box.cell (i := 43) (by omega)
end
/-- the library's table is no block of the market's -/
theorem tab_ne {w : World} {p : Nat} {vb : Nat → Value} {M : Mk.Mkt} (hT : Tab w) (hP : PM w p vb M) : ∀ g, Tryz.prog.globalNamed "internal/strconv.uint64pow10" = some g → g ≠ p := by
  rintro g hg rfl
  obtain ⟨c, hc, hs, _⟩ := hP.box
  unfold Tab Lib.TabIs World.var? at hT
  rw [hg] at hT
  have h' : (match w.heap[g]? with | some (.cells cs _ _) => some cs | _ => none) = some (Lib.pow10Tab.map fun z => Value.int .u64 z).toArray := hT
  rw [hc] at h'
  have h2 : c = (Lib.pow10Tab.map fun z => Value.int .u64 z).toArray := Option.some.inj h'
  have h3 : (Lib.pow10Tab.map fun z => Value.int .u64 z).toArray.size ≠ 44 := by decide
  rw [← h2] at h3
  exact h3 hs
theorem tab_only {w w' : World} {p : Nat} {vb : Nat → Value} {M : Mk.Mkt} (hT : Tab w) (hP : PM w p vb M) (ho : Only (One p) w w') : Tab w' := by
  have hne := tab_ne hT hP
  have hl := hT.lt
  unfold Tab Lib.TabIs World.var? at hT ⊢
  rw [← hT]
  cases hg : Tryz.prog.globalNamed "internal/strconv.uint64pow10" with
  | none => rfl
  | some g =>
    show (match w'.heap[g]? with | some (.cells cs _ _) => some cs | _ => none) = (match w.heap[g]? with | some (.cells cs _ _) => some cs | _ => none)
    rw [ho.block g (hl g hg) (fun e => hne g hg e)]

set_option maxRecDepth 100000 in
set_option maxHeartbeats 1000000 in
theorem plast_any (p : Nat) (vb : Nat → Value) (M : Mk.Mkt) (c : Int) (w : World) (hP : PM w p vb M) :
    Calls Tryz.prog 34 #[.pointer (some ⟨p, 0, none⟩), .int .i64 c] w fun e w' => e = .returned (.int .i64 (Mk.lastM M c)) ∧ Below w.heap.size w w' := by
  by_cases h : 0 ≤ c ∧ c < 4
  · obtain ⟨n, rfl⟩ := Int.eq_ofNat_of_zero_le h.1
    have hn : n < 4 := by omega
    have HL : Hid (Mk.lastM M (n : Int) = M.ls n) := (by unfold Mk.lastM; rw [if_pos h]; simp : Mk.lastM M (n : Int) = M.ls n)
    have cl := hP.re hn (k := 0) (by omega)
    simp only [reF, Nat.add_zero] at cl
    have h1 : ¬ (n : Int) < 0 := by omega
    have h2 : ¬ (4 : Int) ≤ (n : Int) := by omega
    have h3 : (n : Int) < 4 := by omega
    have hd : decide ((4 : Int) ≤ (n : Int)) = false := by rw [decide_eq_false_iff_not]; exact h2
    clear hP h
    go_enter Tryz.func34, Tryz.ntmps34
    go_wp2
    go_ret
    exact ⟨ret_int HL.out.symm, Below.refl _ _⟩
  · have HL : Hid (Mk.lastM M c = 0) := (by unfold Mk.lastM; rw [if_neg h] : Mk.lastM M c = 0)
    by_cases h1 : c < 0
    · clear hP h
      go_enter Tryz.func34, Tryz.ntmps34
      go_wp2
      go_ret
      exact ⟨ret_int HL.out.symm, Below.refl _ _⟩
    · have h2 : 4 ≤ c := by omega
      clear hP h
      go_enter Tryz.func34, Tryz.ntmps34
      go_wp2
      go_ret
      exact ⟨ret_int HL.out.symm, Below.refl _ _⟩

def nilV : Nat → Value := fun _ => .slice none 0 0

set_option maxRecDepth 100000 in
set_option maxHeartbeats 1000000 in
theorem pnew_any (w : World) :
    Calls Tryz.prog 16 #[] w fun e w' => e = .returned (.pointer (some ⟨w.heap.size, 0, none⟩)) ∧ PM w' w.heap.size nilV Mk.Mkt.new ∧ Below w.heap.size w w' := by
  go_enter Tryz.func16, Tryz.ntmps16
  go_wp2
  go_ret
  refine ⟨rfl, ⟨?_, fun v hv => ⟨by simp [Mk.Mkt.new, standC], .inl ⟨rfl, rfl⟩⟩, fun k hk => by simp [nilV, Value.ownBlock] at hk⟩, (Below.refl _ _).alloc (Nat.le_refl _) _⟩
  refine World.rowIs_alloc w _ _ _ (fun i hi => ?_)
  have hi' : i < 44 := hi
  show (((List.range 44).map (pmF nilV Mk.Mkt.new)).toArray)[i]? = some _
  simp [List.getElem?_range hi']

end Go.Proofs.YtmebcdpdpcpnmaaGreatDoor

namespace Go.Proofs.YtmebcdpdpcpnmaaGreatDoor
open Go.RowKit

/-- the accounts, as a value -/
def acsL (M : Mk.Mkt) : List Value := (List.range 24).map (fun j => acF M (j / 6) (j % 6))
abbrev acV (M : Mk.Mkt) (k : Nat) : Value := .agg #[.int .i64 (M.cf k), .int .i64 (M.ch k), .int .i64 (M.sf 0 k), .int .i64 (M.sh 0 k), .int .i64 (M.sf 1 k), .int .i64 (M.sh 1 k)]
theorem Tryz.infoAcs : (Tryz.prog.info? 62).map (·.size) = some 24 := by kernel_rfl
theorem idx_acs (M : Mk.Mkt) (k : Nat) (hk : k < 4) (W : World) : (Instr.index 62 (.agg (acsL M).toArray) (.int .i64 (k : Int))).run Tryz.prog W = .ok (acV M k) W := by
  rcases (show k = 0 ∨ k = 1 ∨ k = 2 ∨ k = 3 by omega) with rfl | rfl | rfl | rfl
  all_goals
    simp [Instr.index, run_underlying Tryz.underlying62, asIntOf, Tryz.sizeOf61, go_sem]
    rfl
/-- the accounts, read whole -/
theorem acs_at {w : World} {p : Nat} {vb : Nat → Value} {M : Mk.Mkt} (hP : PM w p vb M) : w.rangeAt p 0 (acsL M) := by
  intro j v hv
  have hj : j < 24 := by
    refine Nat.lt_of_not_le (fun h => ?_)
    rw [List.getElem?_eq_none (by simp [acsL]; exact h)] at hv
    cases hv
  have : v = acF M (j / 6) (j % 6) := by
    simp [acsL, List.getElem?_range hj] at hv
    exact hv.symm
  subst this
  rw [Nat.zero_add]
  have h := hP.ac (c := j / 6) (k := j % 6) (by omega) (by omega)
  rw [show j / 6 * 6 + j % 6 = j by omega] at h
  exact h

set_option maxRecDepth 100000 in
set_option maxHeartbeats 2000000 in
theorem allCash_any (p : Nat) (vb : Nat → Value) (M : Mk.Mkt) (w : World) (hM : M.Fine) (hP : PM w p vb M) :
    Calls Tryz.prog 113 #[.pointer (some ⟨p, 0, none⟩)] w fun e w' => e = .returned (.int .i64 (totTo M.cf M.ch 4 + M.house)) ∧ Below w.heap.size w w' := by
  have qh := hP.ho
  have HR : Hid (w.rangeAt p 0 (acsL M)) := acs_at hP
  have HIX : Hid (∀ k, k < 4 → ∀ W, (Instr.index 62 (.agg (acsL M).toArray) (.int .i64 ((k : Nat) : Int))).run Tryz.prog W = .ok (acV M k) W) := fun k hk W => idx_acs M k hk W
  have HBd : Hid (∀ c, c < 4 → 0 ≤ M.cf c ∧ M.cf c ≤ 9999 ∧ 0 ≤ M.ch c ∧ M.ch c ≤ 9999) := fun c hc => ⟨(hM.cf c hc).1, (hM.cf c hc).2, (hM.ch c hc).1, (hM.ch c hc).2⟩
  have hb := hM.house
  clear hP hM
  go_enter Tryz.func113, Tryz.ntmps113
  go_upto_region 2 with fail
  iterate 10 go_step
  refine wpList_load_mid rfl 62 _ rfl p 0 rfl (acsL M) _ HR.out Tryz.underlying62 rfl (by rw [Tryz.infoAcs]; simp [acsL]) ?_
  generalize (Value.agg (acsL M).toArray) = A at *
  go_wp2
  go_loopw [3, 14] (fun n i wr => ∃ k : Nat, k ≤ 4 ∧ i = .int .i64 k ∧ n = .int .i64 (totTo M.cf M.ch k + M.house) ∧ Below w.heap.size w wr) (fun _ i _ => 4 - (intOf i).toNat)
  case atStart => exact ⟨0, by omega, rfl, by simp [totTo], Below.refl _ _⟩
  case round =>
    obtain ⟨k, hk, rfl, rfl, hb1⟩ := hrel
    have HB1 : Hid (Below w.heap.size w wr) := hb1
    clear hb1
    have tb := totTo_bd HBd.out k hk
    by_cases hlt : k < 4
    · have pb := HBd.out k hlt
      have hlt' : (k : Int) < 4 := by omega
      have HE : Hid (totTo M.cf M.ch (k + 1) = totTo M.cf M.ch k + M.cf k + M.ch k) := rfl
      have HAl : Hid (∀ ob, Below w.heap.size w (wr.alloc ob)) := fun ob => HB1.out.alloc HB1.out.size ob
      have hix := HIX.out k hlt
      go_wp2
      go_roundw
      case rel => exact ⟨k + 1, by omega, by go_num, by rw [HE.out]; go_num, HAl.out _⟩
      case measure => simp [intOf]; omega
    · obtain rfl : k = 4 := by omega
      go_wp2
      go_ret
      exact ⟨rfl, HB1.out⟩

set_option maxRecDepth 100000 in
set_option maxHeartbeats 2000000 in
theorem allSlots_any (p : Nat) (vb : Nat → Value) (M : Mk.Mkt) (v : Nat) (w : World) (hv : v < 2) (hM : M.Fine) (hP : PM w p vb M) :
    Calls Tryz.prog 115 #[.pointer (some ⟨p, 0, none⟩), .int .i64 v] w fun e w' => e = .returned (.int .i64 (totTo (M.sf v) (M.sh v) 4)) ∧ Below w.heap.size w w' := by
  have HR : Hid (w.rangeAt p 0 (acsL M)) := acs_at hP
  have HIX : Hid (∀ k, k < 4 → ∀ W, (Instr.index 62 (.agg (acsL M).toArray) (.int .i64 ((k : Nat) : Int))).run Tryz.prog W = .ok (acV M k) W) := fun k hk W => idx_acs M k hk W
  have HBd : Hid (∀ c, c < 4 → 0 ≤ M.sf v c ∧ M.sf v c ≤ 9999 ∧ 0 ≤ M.sh v c ∧ M.sh v c ≤ 9999) := fun c hc => ⟨(hM.sf v c hv hc).1, (hM.sf v c hv hc).2, (hM.sh v c hv hc).1, (hM.sh v c hv hc).2⟩
  clear hP hM
  generalize hf : M.sf v = f at *
  generalize hg : M.sh v = g at *
  have HV : Hid (v = 0 ∧ M.sf 0 = f ∧ M.sh 0 = g ∨ v = 1 ∧ M.sf 1 = f ∧ M.sh 1 = g) := (by
    rcases (show v = 0 ∨ v = 1 by omega) with rfl | rfl
    · exact .inl ⟨rfl, hf, hg⟩
    · exact .inr ⟨rfl, hf, hg⟩ : v = 0 ∧ M.sf 0 = f ∧ M.sh 0 = g ∨ v = 1 ∧ M.sf 1 = f ∧ M.sh 1 = g)
  clear hf hg
  have hV := HV.out
  clear HV hv
  rcases hV with ⟨rfl, e1, e2⟩ | ⟨rfl, e1, e2⟩
  all_goals
    have HV := (show Hid _ from And.intro e1 e2)
    clear e1 e2
    go_enter Tryz.func115, Tryz.ntmps115
    go_upto_region 2 with fail
    iterate 10 go_step
    refine wpList_load_mid rfl 62 _ rfl p 0 rfl (acsL M) _ HR.out Tryz.underlying62 rfl (by rw [Tryz.infoAcs]; simp [acsL]) ?_
    generalize (Value.agg (acsL M).toArray) = A at *
    go_wp2
    go_loopw [5, 12] (fun n i wr => ∃ k : Nat, k ≤ 4 ∧ i = .int .i64 k ∧ n = .int .i64 (totTo f g k) ∧ Below w.heap.size w wr) (fun _ i _ => 4 - (intOf i).toNat)
    case atStart => exact ⟨0, by omega, rfl, by simp [totTo], Below.refl _ _⟩
    case round =>
      obtain ⟨k, hk, rfl, rfl, hb1⟩ := hrel
      have HB1 : Hid (Below w.heap.size w wr) := hb1
      clear hb1
      have tb := totTo_bd HBd.out k hk
      by_cases hlt : k < 4
      · have pb := HBd.out k hlt
        have hlt' : (k : Int) < 4 := by omega
        have HE : Hid (totTo f g (k + 1) = totTo f g k + f k + g k) := rfl
        have HAl : Hid (∀ ob n, Below w.heap.size w ((wr.alloc ob).drewN n)) := fun ob n => below_drewN (HB1.out.alloc HB1.out.size ob) n
        have hix := HIX.out k hlt
        have E1 : Hid _ := congrFun HV.out.1 k
        have E2 : Hid _ := congrFun HV.out.2 k
        rw [← E1.out, ← E2.out] at pb
        go_wp2
        go_quiet (fail)
        go_wp2
        go_roundw
        case rel => exact ⟨k + 1, by omega, by go_num, by rw [HE.out, ← E1.out, ← E2.out]; go_num, HAl.out _ _⟩
        case measure => simp [intOf]; omega
      · obtain rfl : k = 4 := by omega
        go_wp2
        go_ret
        exact ⟨rfl, HB1.out⟩

end Go.Proofs.YtmebcdpdpcpnmaaGreatDoor

namespace Go

/-- A REGION THAT DRAWS, WHOSE OWN OPERATIONS ONLY READ, and whose callees may lay new blocks: one walk, in the worlds of a class -/
theorem wp_region_calls {P : Program} {S : World → Prop} {id : Nat} {Q : Exit → Act → World → Prop} {a : Act} {w : World} {l : List Oper} (hm : P.follows .mixedOrders = true) (hB : Region.lexB .any l.toArray = true) (hC : S { w with drawn := w.drawn + 1 })
    (h : wpQuiet P l.toArray (fun w' => ∃ u : Wof S, w' = u.val) (fun a' => ∀ w', (∃ u : Wof S, w' = u.val) → Q .normal a' w') l a) : (Code.region id l.toArray true).wp P Q a w :=
  wp_region_quiet (C := fun w' => ∃ u : Wof S, w' = u.val) hm hB ⟨⟨_, hC⟩, rfl⟩ (by simpa using h)

end Go
namespace Go.Proofs.YtmebcdpdpcpnmaaGreatDoor
open Go.RowKit

set_option maxRecDepth 100000 in
set_option maxHeartbeats 1000000 in
theorem take_yes (p i : Nat) (f n : Int) (w : World) (hc : w.cell? ⟨p, i, none⟩ = some (.int .i64 f)) (hz : w.frozen? ⟨p, i, none⟩ = false) (hf : 0 ≤ f ∧ f ≤ 9999) (hn : 0 ≤ n ∧ n ≤ 9999) (h : n ≤ f) :
    Calls Tryz.prog 114 #[.pointer (some ⟨p, i, none⟩), .int .i64 n] w fun e w' => e = .returned (.int .i64 0) ∧ w' = w.setCell ⟨p, i, none⟩ (.int .i64 (f - n)) := by
  have h' : ¬ f < n := by omega
  clear h
  go_enter Tryz.func114, Tryz.ntmps114
  go_wp2
  go_ret
  exact ⟨rfl, rfl⟩
set_option maxRecDepth 100000 in
set_option maxHeartbeats 1000000 in
theorem take_no (p i : Nat) (f n : Int) (w : World) (hc : w.cell? ⟨p, i, none⟩ = some (.int .i64 f)) (h : f < n) :
    Calls Tryz.prog 114 #[.pointer (some ⟨p, i, none⟩), .int .i64 n] w fun e w' => e = .returned (.int .i64 5) ∧ w' = w := by
  go_enter Tryz.func114, Tryz.ntmps114
  go_wp2
  go_ret
  exact ⟨rfl, rfl⟩

/-- what a method of the program's market leaves -/
def PDoes (p : Nat) (vb : Nat → Value) (x : Int × Mk.Mkt) (w : World) (e : Ending) (w' : World) : Prop := e = .returned (.int .i64 x.1) ∧ PM w' p vb x.2 ∧ Only (PHas p vb) w w'
/-- a request, with its numbers -/
abbrev rqA (who r : Int) (t : ByteArray) (v a p q o : Int) (m : Bool) : Value := .agg #[.int .i64 who, .int .i64 r, .string t, .int .i64 v, .int .i64 a, .int .i64 p, .int .i64 q, .int .i64 o, .int .i64 (mdI m)]
abbrev rqO (who r : Int) (t : ByteArray) (v a p q o : Int) (m : Bool) : Obj := .cells #[.int .i64 who, .int .i64 r, .string t, .int .i64 v, .int .i64 a, .int .i64 p, .int .i64 q, .int .i64 o, .int .i64 (mdI m)] 105

set_option maxRecDepth 100000 in
set_option maxHeartbeats 2000000 in
theorem ppay_any (p : Nat) (vb : Nat → Value) (M : Mk.Mkt) (who : Nat) (r : Int) (t : ByteArray) (vo a pr q o : Int) (m : Bool) (w : World) (hM : M.Fine) (hP : PM w p vb M) (hw : who < 4) (hn : 0 ≤ a ∧ a ≤ 9999) :
    Calls Tryz.prog 100 #[.pointer (some ⟨p, 0, none⟩), rqA who r t vo a pr q o m] w fun e w' => PDoes p vb (Mk.payM M who a) w e w' := by
  have HM : Hid M.Fine := hM
  have HB1 : Hid (Below w.heap.size w (w.alloc (rqO who r t vo a pr q o m))) := (Below.refl _ _).alloc (Nat.le_refl _) _
  have HP1 : Hid (PM (w.alloc (rqO who r t vo a pr q o m)) p vb M) := hP.below HB1.out
  have x0 : (w.alloc (rqO who r t vo a pr q o m)).cell? ⟨w.heap.size, 0, none⟩ = some (.int .i64 (who : Int)) := by simp
  have x4 : (w.alloc (rqO who r t vo a pr q o m)).cell? ⟨w.heap.size, 4, none⟩ = some (.int .i64 a) := by simp
  have hsz : w.heap.size < (w.alloc (rqO who r t vo a pr q o m)).heap.size := by simp
  have hw' : (who : Int) < 4 := by omega
  have HBd : Hid (∀ c, c < 4 → 0 ≤ M.cf c ∧ M.cf c ≤ 9999 ∧ 0 ≤ M.ch c ∧ M.ch c ≤ 9999) := fun c hc => ⟨(hM.cf c hc).1, (hM.cf c hc).2, (hM.ch c hc).1, (hM.ch c hc).2⟩
  have tb := totTo_bd HBd.out 4 (by omega)
  have hb := hM.house
  clear hM hP
  go_enter Tryz.func100, Tryz.ntmps100
  go_upto_region 1 with fail
  generalize w.alloc (rqO who r t vo a pr q o m) = W1 at *
  have hwr : IntKind.i64.wrap (totTo M.cf M.ch 4 + M.house + a) = totTo M.cf M.ch 4 + M.house + a := IntWalk.i64_in _ (by omega)
  have c4 : ∀ u : Wof (Below W1.heap.size W1), u.val.cell? ⟨w.heap.size, 4, none⟩ = some (.int .i64 a) := fun u => (u.ok.cell (p := ⟨w.heap.size, 4, none⟩) hsz).trans x4
  have hne : Nonempty (Wof (Below W1.heap.size W1)) := ⟨⟨W1, Below.refl _ _⟩⟩
  refine wp_region_calls (S := Below W1.heap.size W1) (by kernel_rfl) (by kernel_rfl) (Below.refl _ _).drew ?_
  repeat (quiet_step ((rename_i u; refine (allCash_any p vb M _ HM.out (HP1.out.below u.ok)).mono ?_; rintro e w3 ⟨rfl, hb3⟩; exact ⟨rfl, ⟨w3, u.ok.trans (hb3.mono u.ok.size)⟩, rfl⟩)))
  refine wpQuiet_nil ?_
  rintro _ ⟨u, rfl⟩
  have HB2 : Hid (Below w.heap.size w u.val) := HB1.out.trans (u.ok.mono HB1.out.size)
  have HP2 : Hid (PM u.val p vb M) := HP1.out.below u.ok
  have y0 : u.val.cell? ⟨w.heap.size, 0, none⟩ = some (.int .i64 (who : Int)) := (u.ok.cell (p := ⟨w.heap.size, 0, none⟩) hsz).trans x0
  have y4 : u.val.cell? ⟨w.heap.size, 4, none⟩ = some (.int .i64 a) := c4 u
  clear c4 x0 x4 hne
  generalize u.val = W2 at *
  have f0 := HP2.out.ac hw (k := 0) (by omega)
  have z0 := HP2.out.box.frozen (who * 6)
  simp only [acF, Nat.add_zero] at f0
  have bf := HM.out.cf who hw
  have HW : Hid (who < 4) := hw
  by_cases hbig : 9999 < totTo M.cf M.ch 4 + M.house + a
  · have HX : Hid (Mk.payM M who a = (6, M)) := if_pos hbig
    go_wp2_with fail
    go_ret
    exact ⟨by rw [HX.out]; rfl, by rw [HX.out]; exact HP2.out, Only.of_below HB2.out⟩
  · have HX : Hid (Mk.payM M who a = (0, { M with cf := upd M.cf who (M.cf who + a) })) := if_neg hbig
    go_wp2_with fail
    go_region
    go_wp2_with fail
    go_ret
    refine ⟨by rw [HX.out]; rfl, by rw [HX.out]; exact (HP2.out.setCf HW.out _).below (Below.refl _ _).drew, ?_⟩
    exact ((Only.of_below HB2.out).set (show PHas p vb p from .inl rfl) _).next (Below.refl _ _).drew

set_option maxRecDepth 100000 in
set_option maxHeartbeats 2000000 in
theorem pdraw_any (p : Nat) (vb : Nat → Value) (M : Mk.Mkt) (who : Nat) (r : Int) (t : ByteArray) (vo a pr q o : Int) (m : Bool) (w : World) (hM : M.Fine) (hP : PM w p vb M) (hw : who < 4) (hn : 0 ≤ a ∧ a ≤ 9999) :
    Calls Tryz.prog 101 #[.pointer (some ⟨p, 0, none⟩), rqA who r t vo a pr q o m] w fun e w' => PDoes p vb (Mk.drawM M who a) w e w' := by
  have HB1 : Hid (Below w.heap.size w (w.alloc (rqO who r t vo a pr q o m))) := (Below.refl _ _).alloc (Nat.le_refl _) _
  have HP1 : Hid (PM (w.alloc (rqO who r t vo a pr q o m)) p vb M) := hP.below HB1.out
  have x0 : (w.alloc (rqO who r t vo a pr q o m)).cell? ⟨w.heap.size, 0, none⟩ = some (.int .i64 (who : Int)) := by simp
  have x4 : (w.alloc (rqO who r t vo a pr q o m)).cell? ⟨w.heap.size, 4, none⟩ = some (.int .i64 a) := by simp
  have hw' : (who : Int) < 4 := by omega
  have bf := hM.cf who hw
  have HW : Hid (who < 4) := hw
  clear hM hP
  go_enter Tryz.func101, Tryz.ntmps101
  go_upto_region 1 with fail
  generalize w.alloc (rqO who r t vo a pr q o m) = W1 at *
  have f0 := HP1.out.ac hw (k := 0) (by omega)
  have z0 := HP1.out.box.frozen (who * 6)
  simp only [acF, Nat.add_zero] at f0
  by_cases hbig : M.cf who < a
  · have HX : Hid (Mk.drawM M who a = (5, M)) := if_pos hbig
    go_region_with (go_at_call 114; (refine (take_no p (who * 6) (M.cf who) a _ (by simpa using f0) hbig).mono ?_; rintro e w2 ⟨rfl, hw2⟩))
    all_goals
      obtain rfl := hw2
      go_wp2_with fail
      go_ret
      exact ⟨by rw [HX.out]; rfl, by rw [HX.out]; exact HP1.out.below (Below.refl _ _).drew, Only.of_below HB1.out.drew⟩
  · have HX : Hid (Mk.drawM M who a = (0, { M with cf := upd M.cf who (M.cf who - a) })) := if_neg hbig
    go_region_with (go_at_call 114; (refine (take_yes p (who * 6) (M.cf who) a _ (by simpa using f0) (by simpa using z0) bf hn (by omega)).mono ?_; rintro e w2 ⟨rfl, hw2⟩))
    all_goals
      obtain rfl := hw2
      go_wp2_with fail
      go_ret
      refine ⟨by rw [HX.out]; rfl, by rw [HX.out]; exact (HP1.out.below (Below.refl _ _).drew).setCf HW.out _, ?_⟩
      exact (Only.of_below HB1.out.drew).set (show PHas p vb p from .inl rfl) _

end Go.Proofs.YtmebcdpdpcpnmaaGreatDoor

namespace Go.Proofs.YtmebcdpdpcpnmaaGreatDoor
open Go.RowKit

theorem PM.slot {w : World} {p : Nat} {vb : Nat → Value} {M : Mk.Mkt} (h : PM w p vb M) {v c : Nat} (hv : v < 2) (hc : c < 4) : w.cell? ⟨p, c * 6 + 2 + v * 2, none⟩ = some (.int .i64 (M.sf v c)) := by
  rcases (show v = 0 ∨ v = 1 by omega) with rfl | rfl
  · exact h.ac hc (k := 2) (by omega)
  · exact h.ac hc (k := 4) (by omega)

set_option maxRecDepth 100000 in
set_option maxHeartbeats 2000000 in
theorem pbring_any (p : Nat) (vb : Nat → Value) (M : Mk.Mkt) (who : Nat) (r : Int) (t : ByteArray) (v : Nat) (a pr q o : Int) (m : Bool) (w : World) (hM : M.Fine) (hP : PM w p vb M) (hw : who < 4) (hv : v < 2) (hn : 0 ≤ a ∧ a ≤ 9999) :
    Calls Tryz.prog 102 #[.pointer (some ⟨p, 0, none⟩), rqA who r t v a pr q o m] w fun e w' => PDoes p vb (Mk.bringM M v who a) w e w' := by
  have HM : Hid M.Fine := hM
  have HB1 : Hid (Below w.heap.size w (w.alloc (rqO who r t v a pr q o m))) := (Below.refl _ _).alloc (Nat.le_refl _) _
  have HP1 : Hid (PM (w.alloc (rqO who r t v a pr q o m)) p vb M) := hP.below HB1.out
  have x0 : (w.alloc (rqO who r t v a pr q o m)).cell? ⟨w.heap.size, 0, none⟩ = some (.int .i64 (who : Int)) := by simp
  have x4 : (w.alloc (rqO who r t v a pr q o m)).cell? ⟨w.heap.size, 4, none⟩ = some (.int .i64 a) := by simp
  have hsz : w.heap.size < (w.alloc (rqO who r t v a pr q o m)).heap.size := by simp
  have hw' : (who : Int) < 4 := by omega
  have x3 : (w.alloc (rqO who r t v a pr q o m)).cell? ⟨w.heap.size, 3, none⟩ = some (.int .i64 (v : Int)) := by simp
  have hv' : (v : Int) < 2 := by omega
  have HBd : Hid (∀ c, c < 4 → 0 ≤ M.sf v c ∧ M.sf v c ≤ 9999 ∧ 0 ≤ M.sh v c ∧ M.sh v c ≤ 9999) := fun c hc => ⟨(hM.sf v c hv hc).1, (hM.sf v c hv hc).2, (hM.sh v c hv hc).1, (hM.sh v c hv hc).2⟩
  have tb := totTo_bd HBd.out 4 (by omega)
  clear hM hP
  go_enter Tryz.func102, Tryz.ntmps102
  go_upto_region 1 with fail
  generalize w.alloc (rqO who r t v a pr q o m) = W1 at *
  have hwr : IntKind.i64.wrap (totTo (M.sf v) (M.sh v) 4 + a) = totTo (M.sf v) (M.sh v) 4 + a := IntWalk.i64_in _ (by omega)
  have c4 : ∀ u : Wof (Below W1.heap.size W1), u.val.cell? ⟨w.heap.size, 4, none⟩ = some (.int .i64 a) := fun u => (u.ok.cell (p := ⟨w.heap.size, 4, none⟩) hsz).trans x4
  have c3 : ∀ u : Wof (Below W1.heap.size W1), u.val.cell? ⟨w.heap.size, 3, none⟩ = some (.int .i64 (v : Int)) := fun u => (u.ok.cell (p := ⟨w.heap.size, 3, none⟩) hsz).trans x3
  have hne : Nonempty (Wof (Below W1.heap.size W1)) := ⟨⟨W1, Below.refl _ _⟩⟩
  refine wp_region_calls (S := Below W1.heap.size W1) (by kernel_rfl) (by kernel_rfl) (Below.refl _ _).drew ?_
  repeat (quiet_step ((rename_i u; refine (allSlots_any p vb M v _ hv HM.out (HP1.out.below u.ok)).mono ?_; rintro e w3 ⟨rfl, hb3⟩; exact ⟨rfl, ⟨w3, u.ok.trans (hb3.mono u.ok.size)⟩, rfl⟩)))
  refine wpQuiet_nil ?_
  rintro _ ⟨u, rfl⟩
  have HB2 : Hid (Below w.heap.size w u.val) := HB1.out.trans (u.ok.mono HB1.out.size)
  have HP2 : Hid (PM u.val p vb M) := HP1.out.below u.ok
  have y0 : u.val.cell? ⟨w.heap.size, 0, none⟩ = some (.int .i64 (who : Int)) := (u.ok.cell (p := ⟨w.heap.size, 0, none⟩) hsz).trans x0
  have y4 : u.val.cell? ⟨w.heap.size, 4, none⟩ = some (.int .i64 a) := c4 u
  have y3 : u.val.cell? ⟨w.heap.size, 3, none⟩ = some (.int .i64 (v : Int)) := c3 u
  clear c3 c4 x0 x3 x4 hne
  generalize u.val = W2 at *
  have f0 := HP2.out.slot hv hw
  have z0 := HP2.out.box.frozen (who * 6 + 2 + v * 2)
  have bf := HM.out.sf v who hv hw
  have HV : Hid (v < 2) := hv
  have HW : Hid (who < 4) := hw
  by_cases hbig : 999 < totTo (M.sf v) (M.sh v) 4 + a
  · have HX : Hid (Mk.bringM M v who a = (6, M)) := if_pos hbig
    go_wp2_with fail
    go_ret
    exact ⟨by rw [HX.out]; rfl, by rw [HX.out]; exact HP2.out, Only.of_below HB2.out⟩
  · have HX : Hid (Mk.bringM M v who a = (0, { M with sf := upd M.sf v (upd (M.sf v) who (M.sf v who + a)) })) := if_neg hbig
    go_wp2_with fail
    go_region
    go_wp2_with fail
    go_ret
    refine ⟨by rw [HX.out]; rfl, by rw [HX.out]; exact (HP2.out.setSf HV.out HW.out _).below (Below.refl _ _).drew, ?_⟩
    exact ((Only.of_below HB2.out).set (show PHas p vb p from .inl rfl) _).next (Below.refl _ _).drew

set_option maxRecDepth 100000 in
set_option maxHeartbeats 2000000 in
theorem pfetch_any (p : Nat) (vb : Nat → Value) (M : Mk.Mkt) (who : Nat) (r : Int) (t : ByteArray) (v : Nat) (a pr q o : Int) (m : Bool) (w : World) (hM : M.Fine) (hP : PM w p vb M) (hw : who < 4) (hv : v < 2) (hn : 0 ≤ a ∧ a ≤ 9999) :
    Calls Tryz.prog 103 #[.pointer (some ⟨p, 0, none⟩), rqA who r t v a pr q o m] w fun e w' => PDoes p vb (Mk.fetchM M v who a) w e w' := by
  have HB1 : Hid (Below w.heap.size w (w.alloc (rqO who r t v a pr q o m))) := (Below.refl _ _).alloc (Nat.le_refl _) _
  have HP1 : Hid (PM (w.alloc (rqO who r t v a pr q o m)) p vb M) := hP.below HB1.out
  have x0 : (w.alloc (rqO who r t v a pr q o m)).cell? ⟨w.heap.size, 0, none⟩ = some (.int .i64 (who : Int)) := by simp
  have x4 : (w.alloc (rqO who r t v a pr q o m)).cell? ⟨w.heap.size, 4, none⟩ = some (.int .i64 a) := by simp
  have x3 : (w.alloc (rqO who r t v a pr q o m)).cell? ⟨w.heap.size, 3, none⟩ = some (.int .i64 (v : Int)) := by simp
  have hw' : (who : Int) < 4 := by omega
  have hv' : (v : Int) < 2 := by omega
  have bf := hM.sf v who hv hw
  have HV : Hid (v < 2) := hv
  have HW : Hid (who < 4) := hw
  clear hM hP
  go_enter Tryz.func103, Tryz.ntmps103
  go_upto_region 1 with fail
  generalize w.alloc (rqO who r t v a pr q o m) = W1 at *
  have f0 := HP1.out.slot hv hw
  have z0 := HP1.out.box.frozen (who * 6 + 2 + v * 2)
  by_cases hbig : M.sf v who < a
  · have HX : Hid (Mk.fetchM M v who a = (5, M)) := if_pos hbig
    go_region_with (go_at_call 114; (refine (take_no p (who * 6 + 2 + v * 2) (M.sf v who) a _ (by simpa using f0) hbig).mono ?_; rintro e w2 ⟨rfl, hw2⟩))
    all_goals
      obtain rfl := hw2
      go_wp2_with fail
      go_ret
      exact ⟨by rw [HX.out]; rfl, by rw [HX.out]; exact HP1.out.below (Below.refl _ _).drew, Only.of_below HB1.out.drew⟩
  · have HX : Hid (Mk.fetchM M v who a = (0, { M with sf := upd M.sf v (upd (M.sf v) who (M.sf v who - a)) })) := if_neg hbig
    go_region_with (go_at_call 114; (refine (take_yes p (who * 6 + 2 + v * 2) (M.sf v who) a _ (by simpa using f0) (by simpa using z0) bf hn (by omega)).mono ?_; rintro e w2 ⟨rfl, hw2⟩))
    all_goals
      obtain rfl := hw2
      go_wp2_with fail
      go_ret
      refine ⟨by rw [HX.out]; rfl, by rw [HX.out]; exact (HP1.out.below (Below.refl _ _).drew).setSf HV.out HW.out _, ?_⟩
      exact (Only.of_below HB1.out.drew).set (show PHas p vb p from .inl rfl) _

end Go.Proofs.YtmebcdpdpcpnmaaGreatDoor
