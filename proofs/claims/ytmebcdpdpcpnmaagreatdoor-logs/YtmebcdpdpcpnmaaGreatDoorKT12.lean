import Derived.Test.YtmebcdpdpcpnmaaGreatDoorKT11
namespace Go.Proofs.YtmebcdpdpcpnmaaGreatDoor
open Go.RowKit

/-- the lists' blocks, as the markets see them -/
def extOf (w : World) (o : Outs) (vo vw : Value) : Ext := ⟨fun k => vo.ownBlock = some k ∨ vw.ownBlock = some k ∨ ∃ i, i < o.m ∧ (k = o.g i ∨ k = o.h i), fun k => w.heap[k]?, vo, vw⟩
/-- the markets' blocks, as the lists see them -/
def gstOf (w : World) (vm : Value) (s : Mks) : Gst := ⟨fun k => vm.ownBlock = some k ∨ (∃ i, i < s.m ∧ k = s.q i) ∨ ∃ a, a < 2 * s.m ∧ s.own a k, fun k => w.heap[k]?, vm⟩
/-- markets and lists, side by side -/
structure Both (w : World) (B : Nat) (vm : Value) (s : Mks) (o : Outs) (vo vw : Value) : Prop where
  sm : Sm (extOf w o vo vw) w B vm s
  st : St (gstOf w vm s) w B o vo vw

section
variable {w w' : World} {B : Nat} {vm vm' : Value} {s s' : Mks} {o o' : Outs} {vo vw vo' vw' : Value}
theorem Both.market (h : Both w B vm s o vo vw) (hS : Sm (extOf w o vo vw) w' B vm' s') : Both w' B vm' s' o vo vw := by
  have eo : ∀ k, vo.ownBlock = some k → w'.heap[k]? = w.heap[k]? := fun k hk => (hS.ext k (.inl hk)).2.1
  have ew : ∀ k, vw.ownBlock = some k → w'.heap[k]? = w.heap[k]? := fun k hk => (hS.ext k (.inr (.inl hk))).2.1
  have eg : ∀ i, i < o.m → w'.heap[o.g i]? = w.heap[o.g i]? := fun i hi => (hS.ext _ (.inr (.inr ⟨i, hi, .inl rfl⟩))).2.1
  have eh : ∀ i, i < o.m → w'.heap[o.h i]? = w.heap[o.h i]? := fun i hi => (hS.ext _ (.inr (.inr ⟨i, hi, .inr rfl⟩))).2.1
  have far : ∀ k, (extOf w o vo vw).X k → ¬ (gstOf w' vm' s').X k := by
    intro k hk
    obtain ⟨_, _, _, x4, x5, x6⟩ := hS.ext k hk
    rintro (h1 | ⟨i, hi, h1⟩ | ⟨a, ha, h1⟩)
    · exact x4 h1
    · exact x5 i hi h1
    · exact x6 a ha h1
  refine ⟨⟨hS.c0, hS.z0, hS.c1, hS.z1, hS.c2, hS.z2, hS.own, hS.sc, fun k hk => ⟨(hS.ext k hk).1, rfl, (hS.ext k hk).2.2⟩⟩, ⟨⟨hS.c0, hS.z0, hS.c1, hS.c2, hS.z1, hS.z2, own_block h.st.pt.own1 eo, own_block h.st.pt.own2 ew, h.st.pt.sep, fun k hk => ?_⟩, fun i hi => (h.st.rg i hi).of_block (eg i hi), fun i hi => (h.st.rh i hi).of_block (eh i hi), h.st.pos, h.st.lo, h.st.gh, h.st.hg, fun i hi => ⟨far _ (.inr (.inr ⟨i, hi, .inl rfl⟩)), far _ (.inr (.inr ⟨i, hi, .inr rfl⟩))⟩⟩⟩
  have n1 : vo.ownBlock ≠ some k := fun e => far k (.inl e) hk
  have n2 : vw.ownBlock ≠ some k := fun e => far k (.inr (.inl e)) hk
  rcases hk with h1 | ⟨i, hi, rfl⟩ | ⟨a, ha, h1⟩
  · have := hS.own.lt k h1
    exact ⟨this.2, rfl, by omega, n1, n2⟩
  · have := (hS.sc.qB i hi).1
    exact ⟨(hS.sc.pair i hi).lt, rfl, by omega, n1, n2⟩
  · have := (hS.sc.fix a ha k h1).1
    exact ⟨hS.sc.lt ha h1, rfl, by omega, n1, n2⟩
theorem Both.lists (h : Both w B vm s o vo vw) (hS : St (gstOf w vm s) w' B o' vo' vw') : Both w' B vm s o' vo' vw' := by
  have em : ∀ k, vm.ownBlock = some k → w'.heap[k]? = w.heap[k]? := fun k hk => (hS.pt.gst k (.inl hk)).2.1
  have eq : ∀ i, i < s.m → w'.heap[s.q i]? = w.heap[s.q i]? := fun i hi => (hS.pt.gst _ (.inr (.inl ⟨i, hi, rfl⟩))).2.1
  have eow : ∀ a, a < 2 * s.m → ∀ k, s.own a k → w'.heap[k]? = w.heap[k]? := fun a ha k hk => (hS.pt.gst k (.inr (.inr ⟨a, ha, hk⟩))).2.1
  have far : ∀ k, (extOf w' o' vo' vw').X k → ¬ (gstOf w vm s).X k := by
    intro k hk hg
    obtain ⟨_, _, _, x4, x5⟩ := hS.pt.gst k hg
    rcases hk with h1 | h1 | ⟨i, hi, h1 | h1⟩
    · exact x4 h1
    · exact x5 h1
    · exact (hS.gx i hi).1 (h1 ▸ hg)
    · exact (hS.gx i hi).2 (h1 ▸ hg)
  refine ⟨⟨hS.pt.c0, hS.pt.f0, hS.pt.c1, hS.pt.f1, hS.pt.c2, hS.pt.f2, own_block h.sm.own em, h.sm.sc.blocks eq eow, fun k hk => ?_⟩, ⟨⟨hS.pt.c0, hS.pt.f0, hS.pt.c1, hS.pt.c2, hS.pt.f1, hS.pt.f2, hS.pt.own1, hS.pt.own2, hS.pt.sep, fun k hk => ⟨(hS.pt.gst k hk).1, rfl, (hS.pt.gst k hk).2.2⟩⟩, hS.rg, hS.rh, hS.pos, hS.lo, hS.gh, hS.hg, hS.gx⟩⟩
  have hf := far k hk
  have n1 : vm.ownBlock ≠ some k := fun e => hf (.inl e)
  have n2 : ∀ i, i < s.m → k ≠ s.q i := fun i hi e => hf (.inr (.inl ⟨i, hi, e⟩))
  have n3 : ∀ a, a < 2 * s.m → ¬ s.own a k := fun a ha e => hf (.inr (.inr ⟨a, ha, e⟩))
  rcases hk with h1 | h1 | ⟨i, hi, rfl | rfl⟩
  · have := hS.pt.own1.lt k h1
    exact ⟨this.2, rfl, by omega, n1, n2, n3⟩
  · have := hS.pt.own2.lt k h1
    exact ⟨this.2, rfl, by omega, n1, n2, n3⟩
  · have := hS.lo i hi
    exact ⟨(hS.rg i hi).lt, rfl, by omega, n1, n2, n3⟩
  · have := hS.lo i hi
    have := hS.gh i hi
    exact ⟨(hS.rh i hi).lt, rfl, by omega, n1, n2, n3⟩
theorem Both.below (h : Both w B vm s o vo vw) (hb : Below w.heap.size w w') : Both w' B vm s o vo vw := h.market (h.sm.below hb)
theorem Both.born (w : World) : ∃ s : Mks, s.m = 0 ∧ Both (w.alloc (.cells #[.slice none 0 0, .slice none 0 0, .slice none 0 0] 30)) w.heap.size (.slice none 0 0) s Outs.none (.slice none 0 0) (.slice none 0 0) := by
  obtain ⟨s, hs0, hS⟩ := Sm.born w
  have hT := St.born w
  refine ⟨s, hs0, ⟨hS.c0, hS.z0, hS.c1, hS.z1, hS.c2, hS.z2, hS.own, hS.sc, fun k hk => ?_⟩, ⟨⟨hT.pt.c0, hT.pt.f0, hT.pt.c1, hT.pt.c2, hT.pt.f1, hT.pt.f2, hT.pt.own1, hT.pt.own2, hT.pt.sep, fun k hk => ?_⟩, hT.rg, hT.rh, hT.pos, hT.lo, hT.gh, hT.hg, fun i hi => absurd hi (Nat.not_lt_zero i)⟩⟩
  · rcases hk with h1 | h1 | ⟨i, hi, _⟩
    · simp [Value.ownBlock] at h1
    · simp [Value.ownBlock] at h1
    · exact absurd hi (Nat.not_lt_zero i)
  · rcases hk with h1 | ⟨i, hi, _⟩ | ⟨a, ha, _⟩
    · simp [Value.ownBlock] at h1
    · omega
    · omega
end

section
variable {E : Ext} {D : Mk.Mkt → ByteArray → ByteArray × Int × Mk.Mkt} {Inv : Mk.Mkt → Nat → Prop} {Ok : ByteArray → Prop}

theorem stepL (hD : Doing D Inv Ok) (hO : Opens Inv) (B : Nat) (vm : Value) (s : Mks) (k : Nat) (x : OpD) (w : World) (h4 : 4 ≤ x.kind) (h9 : x.kind ≤ 9) (hk : k < 1048576) (hm : s.m ≤ k) (hF : x.Fits) (hs : x.s.size ≤ 1048576) (hok : Ok x.s) (hT : Tab w) (hg : ∀ g, Tryz.prog.globalNamed "internal/strconv.uint64pow10" = some g → g < B)
    (hS : Sm E w B vm s) (hI : ∀ i, i < s.m → s.Mp i = s.Mr i ∧ Inv (s.Mp i) k) :
    Calls Tryz.prog 12 #[.pointer (some ⟨B, 0, none⟩), opV x.kind x.m x.a x.b x.s x.oa x.os.length x.cap] w fun e w' => Lm E Inv w B k e w' := by
  obtain h | h | h : x.kind ≤ 7 ∨ x.kind = 8 ∨ x.kind = 9 := by omega
  · exact stepM hD B vm s k x w h4 h hk hm hF hs hok hT hg hS hI
  · rw [h]; exact step_call hD B vm s k 8 _ _ _ _ _ _ _ w (by omega) (by omega) hk hm hF.m1 hF.m2 hT hS hI (fun i hi W hW _ => call_log hD hO B vm s i k _ _ _ _ _ _ _ W hk hm hi hW hI)
  · rw [h]; exact step_open hD hO B vm s k _ _ _ _ _ _ _ w hk hm hs hT hS hI

/-- what a step of any kind leaves -/
def La (Inv : Mk.Mkt → Nat → Prop) (w : World) (B k : Nat) (e : Ending) (w' : World) : Prop :=
  e = .returned (.bool true) ∧ ∃ vm s o vo vw, Both w' B vm s o vo vw ∧ (∀ i, i < s.m → s.Mp i = s.Mr i ∧ Inv (s.Mp i) (k + 1)) ∧ s.m ≤ k + 1 ∧ o.m ≤ k + 1 ∧ Below B w w'
theorem stepA (hD : Doing D Inv Ok) (hO : Opens Inv) (B : Nat) (vm : Value) (s : Mks) (o : Outs) (vo vw : Value) (k : Nat) (x : OpD) (w : World) (h1 : 1 ≤ x.kind) (h9 : x.kind ≤ 9) (hk : k < 1048576) (hm : s.m ≤ k) (hm2 : o.m ≤ k) (hF : x.Fits) (hs : x.s.size ≤ 1048576) (hn : x.os.length ≤ 1048576) (hR : Rd w x.oa x.os) (hok : Ok x.s) (hT : Tab w) (hg : ∀ g, Tryz.prog.globalNamed "internal/strconv.uint64pow10" = some g → g < B)
    (hC : Both w B vm s o vo vw) (hI : ∀ i, i < s.m → s.Mp i = s.Mr i ∧ Inv (s.Mp i) k) :
    Calls Tryz.prog 12 #[.pointer (some ⟨B, 0, none⟩), opV x.kind x.m x.a x.b x.s x.oa x.os.length x.cap] w fun e w' => La Inv w B k e w' := by
  by_cases h3 : x.kind ≤ 3
  · refine (step_any B o vo vw x w h1 h3 (by omega) hn hF hR hC.st).mono ?_
    rintro e w' ⟨he, o', vo', vw', hm', hS', hb'⟩
    exact ⟨he, vm, s, o', vo', vw', hC.lists hS', fun i hi => ⟨(hI i hi).1, hD.up _ _ (hI i hi).2⟩, by omega, by omega, hb'⟩
  · refine (stepL hD hO B vm s k x w (by omega) h9 hk hm hF hs hok hT hg hC.sm hI).mono ?_
    rintro e w' ⟨he, vm', s', hS', hI', hm', hb'⟩
    exact ⟨he, vm', s', o, vo, vw, hC.market hS', hI', hm', by omega, hb'⟩

set_option maxRecDepth 100000 in
set_option maxHeartbeats 4000000 in
theorem plays_any (hD : Doing D Inv Ok) (hOp : Opens Inv) (lo : Int) (hlo : 1 ≤ lo ∧ lo ≤ 4) (a : Option Addr) (cap : Nat) (l : List OpD) (w : World) (hf : ∀ x ∈ l, x.Fits) (hR : RdOps w a l) (hT : Tab w) (hOk : ∀ t, Ok t) :
    Calls Tryz.prog 9 #[.slice a l.length cap, .int .i64 lo, .int .i64 9, .slice none 0 0] w fun e w' => e = .returned (.bool true) ∧ Below w.heap.size w w' := by
  have HF : Hid (∀ x ∈ l, x.Fits) := hf
  have HR : Hid (RdOps w a l) := hR
  have HT : Hid (Tab w) := hT
  have HD : Hid (Doing D Inv Ok) := hD
  have HOk : Hid (∀ t, Ok t) := hOk
  have HOp : Hid (Opens Inv) := hOp
  clear hf hR hT hD hOk hOp
  go_enter Tryz.func9, Tryz.ntmps9
  go_wp2_with fail
  refine (small_any a cap l _ HF.out HR.out).mono ?_
  rintro e w1 ⟨r, rfl, hsm, hb1⟩
  have HB1 : Hid (Below w.heap.size w w1) := hb1
  have HSm : Hid (SmallIs l r) := hsm
  clear hsm hb1
  cases r
  · go_wp2
    go_ret
    exact ⟨rfl, HB1.out⟩
  · obtain ⟨hlen, hos⟩ := HSm.out rfl
    have HO : Hid (∀ (i : Nat) (h : i < l.length), (l[i].os.length ≤ 1048576 ∧ l[i].s.size ≤ 1048576)) := hos
    clear hos
    have hsz := HB1.out.size
    have HG : Hid (∀ g, Tryz.prog.globalNamed "internal/strconv.uint64pow10" = some g → g < w1.heap.size) := fun g hg => Nat.lt_of_lt_of_le (HT.out.lt g hg) hsz
    go_wp2
    go_loopw [11] (fun j wr => ∃ k : Nat, k ≤ l.length ∧ j = .int .i64 k ∧ (∃ vm s o vo vw, s.m ≤ k ∧ o.m ≤ k ∧ Both wr w1.heap.size vm s o vo vw ∧ ∀ i, i < s.m → s.Mp i = s.Mr i ∧ Inv (s.Mp i) k) ∧ Below w1.heap.size w1 wr) (fun j _ => l.length - (intOf j).toNat)
    case atStart =>
      obtain ⟨s, hs0, hS⟩ := Both.born w1
      exact ⟨0, Nat.zero_le _, rfl, ⟨_, s, _, _, _, by omega, Nat.le_refl _, hS, fun i hi => by omega⟩, (Below.refl _ _).alloc (Nat.le_refl _) _⟩
    case round =>
      obtain ⟨k, hk, rfl, ⟨vm, s, o, vo, vw, hm, hm2, hS, hI⟩, hb⟩ := hrel
      have Hb : Hid (Below w1.heap.size w1 wr) := hb
      have HS : Hid (Both wr w1.heap.size vm s o vo vw) := hS
      have HI : Hid (∀ i, i < s.m → s.Mp i = s.Mr i ∧ Inv (s.Mp i) k) := hI
      have HBw : Hid (Below w.heap.size w wr) := HB1.out.trans (hb.mono hsz)
      have hBr : w1.heap.size < wr.heap.size := hS.sm.lt
      have HUp : Hid (∀ i, i < s.m → s.Mp i = s.Mr i ∧ Inv (s.Mp i) (k + 1)) := fun i hi => ⟨(hI i hi).1, HD.out.up _ _ (hI i hi).2⟩
      clear hb hS hI
      by_cases hlt : k < l.length
      · rcases HR.out with h | ⟨b, off, rfl, hA⟩
        · rw [h] at hlt; simp at hlt
        obtain ⟨c0, c1, c2, c3, c4, c5, hRk⟩ := AtOps.below hA HBw.out k hlt
        have HRk : Hid (Rd wr l[k].oa l[k].os) := hRk
        clear hRk
        clear hA
        have HFk : Hid (l[k].Fits) := HF.out _ (List.getElem_mem hlt)
        have hok := HO.out k hlt
        have hbl := blk_lt c0
        have hlt' : (k : Int) < (l.length : Int) := by omega
        have HAl : Hid (∀ ob, Below wr.heap.size wr (wr.alloc ob)) := fun ob => (Below.refl _ _).alloc (Nat.le_refl _) ob
        have HSay : Hid (∀ ob, Calls Tryz.prog 11 #[.string l[k].s, .slice none 0 0] (wr.alloc ob) fun e w' => e = .returned (.bool false) ∧ w' = wr.alloc ob) := fun ob => saysAny_nil l[k].s (wr.alloc ob)
        by_cases h4 : l[k].kind < lo
        · go_wp2_with (go_at_call 11; refine (HSay.out _).mono ?_; rintro e w2 ⟨rfl, hw2⟩; obtain rfl := hw2.symm)
          go_roundw
          case rel => exact ⟨k + 1, by omega, by go_num, ⟨vm, s, o, vo, vw, by omega, by omega, HS.out.below (HAl.out _), HUp.out⟩, Hb.out.alloc Hb.out.size _⟩
          case measure => simp [intOf]; omega
        · by_cases h7 : 9 < l[k].kind
          · go_wp2_with (go_at_call 11; refine (HSay.out _).mono ?_; rintro e w2 ⟨rfl, hw2⟩; obtain rfl := hw2.symm)
            go_roundw
            case rel => exact ⟨k + 1, by omega, by go_num, ⟨vm, s, o, vo, vw, by omega, by omega, HS.out.below (HAl.out _), HUp.out⟩, Hb.out.alloc Hb.out.size _⟩
            case measure => simp [intOf]; omega
          · go_wp2_with fail
            refine (HSay.out _).mono ?_
            rintro e w2 ⟨rfl, hw2⟩
            obtain rfl := hw2.symm
            have HOkk : Hid (Ok l[k].s) := HOk.out _
            go_wp2_with fail
            refine (stepA HD.out HOp.out w1.heap.size vm s o vo vw k l[k] _ (by omega) (by omega) (by omega) hm hm2 HFk.out hok.2 hok.1 (HRk.out.below (HAl.out _)) HOkk.out (HT.out.next (HBw.out.trans ((HAl.out _).mono HBw.out.size))) HG.out (HS.out.below (HAl.out _)) HI.out).mono ?_
            rintro e w3 ⟨rfl, vm3, s3, o3, vo3, vw3, hS3, hI3, hm3, hm4, hb3⟩
            have HS3 : Hid (Both w3 w1.heap.size vm3 s3 o3 vo3 vw3) := hS3
            have HI3 : Hid (∀ i, i < s3.m → s3.Mp i = s3.Mr i ∧ Inv (s3.Mp i) (k + 1)) := hI3
            have HB3 : Hid (Below w1.heap.size w1 w3) := (Hb.out.alloc Hb.out.size _).trans hb3
            clear hS3 hb3 hI3
            go_wp2_with fail
            refine (looks_any w1.heap.size o3 vo3 vw3 _ (by omega) HS3.out.st).mono ?_
            rintro e w4 ⟨rfl, hb4⟩
            have HS4 : Hid (Both w4 w1.heap.size vm3 s3 o3 vo3 vw3) := HS3.out.below hb4
            have HB4 : Hid (Below w1.heap.size w1 w4) := HB3.out.trans (hb4.mono HB3.out.size)
            clear hb4
            go_wp2
            go_roundw
            case rel => exact ⟨k + 1, by omega, by go_num, ⟨vm3, s3, o3, vo3, vw3, hm3, hm4, HS4.out, HI3.out⟩, HB4.out⟩
            case measure => simp [intOf]; omega
      · go_wp2
        go_ret
        exact ⟨rfl, HBw.out⟩

end

end Go.Proofs.YtmebcdpdpcpnmaaGreatDoor
