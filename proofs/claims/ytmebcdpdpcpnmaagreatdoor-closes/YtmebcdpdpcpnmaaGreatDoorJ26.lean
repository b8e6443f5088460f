import Derived.Test.YtmebcdpdpcpnmaaGreatDoorJ25
import Derived.Test.YtmebcdpdpcpnmaaGreatDoorJ24
namespace Go.Proofs.YtmebcdpdpcpnmaaGreatDoor
open Go.RowKit

theorem pdoT_same {p : Nat} {vb : Nat → Value} {M : Mk.Mkt} {w w' : World} {t : ByteArray} {e : Int} (hP : PM w p vb M) (hb : Below w.heap.size w w') : PDoT p vb (t, e, M) w (.returned (.tuple #[.string t, .int .i64 e])) w' :=
  ⟨rfl, vb, hP.below hb, Only.of_below hb, fun _ h => .inl h⟩

theorem pdoT_next {p : Nat} {vb : Nat → Value} {x : ByteArray × Int × Mk.Mkt} {w w1 w2 : World} {e : Ending} (hb : Below w.heap.size w w1) (h : PDoT p vb x w1 e w2) : PDoT p vb x w e w2 := by
  obtain ⟨he, b', hR, ho, hn⟩ := h
  refine ⟨he, b', hR, (Only.of_below hb).trans ho (fun _ _ h => h), fun k hk => ?_⟩
  rcases hn k hk with h | h
  · exact .inl h
  · exact .inr (Nat.le_trans hb.size h)

/-- a frame's two digits, as the program writes them -/
theorem frame_small {s : ByteArray} (h : s.size < 10) : (⟨#[48]⟩ : ByteArray) ++ Mk.dig s.size = Mk.frame s := by
  rw [Mk.dig_small h]
  unfold Mk.frame Mk.dg
  rw [show s.size / 10 = 0 by omega]
  exact Mk.bytes_eq (by simp)
theorem frame_great {s : ByteArray} (h : ¬ s.size < 10) (h2 : s.size ≤ 20) : Mk.dig s.size = Mk.frame s := by
  rw [Mk.dig_great h, Mk.dig_small (by omega)]
  unfold Mk.frame Mk.dg
  rw [Nat.mod_eq_of_lt (show s.size / 10 < 10 by omega)]
  exact Mk.bytes_eq (by simp)

set_option maxRecDepth 100000 in
set_option maxHeartbeats 2000000 in
theorem pframe_any (s : ByteArray) (w : World) (h20 : s.size ≤ 20) (hT : Tab w) :
    Calls Tryz.prog 77 #[.string s] w fun e w' => e = .returned (.string (Mk.frame s ++ s)) ∧ Below w.heap.size w w' := by
  have HI : Hid (Calls Tryz.prog 52 #[.int .i64 (s.size : Int)] w fun e w' => e = .returned (.string (Mk.dig s.size)) ∧ Below w.heap.size w w') := itoa_any s.size (by omega) w hT
  clear hT
  go_enter Tryz.func77, Tryz.ntmps77
  go_wp2_with fail
  refine HI.out.mono ?_
  rintro e w1 ⟨rfl, hb1⟩
  have HB1 : Hid (Below w.heap.size w w1) := hb1
  clear hb1 HI
  have hfs := frame_size s
  by_cases h : s.size < 10
  · have HF := (show Hid _ from frame_small h)
    have hz : (Mk.dig s.size).size = 1 := by rw [Mk.dig_small h]; rfl
    have hz' : ((Mk.dig s.size).size : Int) < 2 := by omega
    have ha1 : ∀ w : World, (Op.stringOp .add ⟨#[48]⟩ (Mk.dig s.size)).run Tryz.prog w = .ok (.string (Mk.frame s)) w := fun w => by
      rw [← HF.out]
      exact run_string_add_sum w _ _ (by have : (ByteArray.mk #[48]).size = 1 := rfl; omega)
    have ha2 : ∀ w : World, (Op.stringOp .add (Mk.frame s) s).run Tryz.prog w = .ok (.string (Mk.frame s ++ s)) w := fun w => run_string_add_sum w _ _ (by omega)
    generalize Mk.dig s.size = D at *
    clear h
    go_wp2
    go_ret
    exact ⟨rfl, HB1.out⟩
  · have HF := (show Hid _ from frame_great h h20)
    have ha2 : ∀ w : World, (Op.stringOp .add (Mk.frame s) s).run Tryz.prog w = .ok (.string (Mk.frame s ++ s)) w := fun w => run_string_add_sum w _ _ (by omega)
    rw [HF.out]
    have hz' : ¬ ((Mk.frame s).size : Int) < 2 := by omega
    clear h HF
    go_wp2
    go_ret
    exact ⟨rfl, HB1.out⟩

/-- the market with another log -/
abbrev Mk.onto (M : Mk.Mkt) (d : ByteArray) : Mk.Mkt := { M with disk := d }
theorem fine_onto {M : Mk.Mkt} (h : M.Fine) (d : ByteArray) : (Mk.onto M d).Fine := ⟨h.cf, h.ch, h.sf, h.sh, h.house, h.len, h.num, h.who, h.ord⟩

set_option maxRecDepth 100000 in
set_option maxHeartbeats 4000000 in
theorem pserve_any (p : Nat) (vb : Nat → Value) (M : Mk.Mkt) (c : Mk.Cmd) (s : ByteArray) (t : ByteArray) (er : Int) (M' : Mk.Mkt) (w : World) (hwho : c.who < 4) (h20 : s.size ≤ 20) (hd : M.disk.size ≤ 100000000) (hP : PM w p vb M) (hT : Tab w)
    (hX : ∀ W, PM W p vb (Mk.onto M (M.disk ++ (Mk.frame s ++ s))) → Tab W → Calls Tryz.prog 78 #[.pointer (some ⟨p, 0, none⟩), reqV c] W fun e w' => PDoT p vb (t, er, Mk.onto M' (M.disk ++ (Mk.frame s ++ s))) W e w') :
    Calls Tryz.prog 46 #[.pointer (some ⟨p, 0, none⟩), reqV c, .string s] w fun e w' =>
      PDoT p vb (t, er, { M' with ls := upd M'.ls c.who c.r, tx := upd M'.tx c.who t, er := upd M'.er c.who er, disk := M.disk ++ (Mk.frame s ++ s) }) w e w' := by
  have HX := (show Hid _ from hX)
  have hw' : (c.who : Int) < 4 := by omega
  have HB1 : Hid (Below w.heap.size w (w.alloc (rqO c.who c.r c.d.text c.voy c.amt c.pri c.qty c.ord c.mc))) := (Below.refl _ _).alloc (Nat.le_refl _) _
  have HP1 : Hid (PM (w.alloc (rqO c.who c.r c.d.text c.voy c.amt c.pri c.qty c.ord c.mc)) p vb M) := hP.below HB1.out
  have HT1 : Hid (Tab (w.alloc (rqO c.who c.r c.d.text c.voy c.amt c.pri c.qty c.ord c.mc))) := hT.next HB1.out
  have HC1 : Hid (∀ i u, (#[.int .i64 (c.who : Int), .int .i64 (c.r : Int), .string c.d.text, .int .i64 (c.voy : Int), .int .i64 (c.amt : Int), .int .i64 (c.pri : Int), .int .i64 (c.qty : Int), .int .i64 (c.ord : Int), .int .i64 (mdI c.mc)] : Array Value)[i]? = some u → (w.alloc (rqO c.who c.r c.d.text c.voy c.amt c.pri c.qty c.ord c.mc)).cell? ⟨w.heap.size, i, none⟩ = some u) := fun i u h => by simpa using h
  have hl1 : w.heap.size < (w.alloc (rqO c.who c.r c.d.text c.voy c.amt c.pri c.qty c.ord c.mc)).heap.size := by simp
  have hpB : p < w.heap.size := hP.box.lt
  have HLt : Hid (∀ k, PHas p vb k → k < w.heap.size) := fun k hk => hP.lt hk
  have hfs := frame_size s
  have hfs2 : (Mk.frame s ++ s).size ≤ 22 := by rw [ByteArray.size_append]; omega
  have HA : Hid (∀ w : World, (Op.stringOp .add M.disk (Mk.frame s ++ s)).run Tryz.prog w = .ok (.string (M.disk ++ (Mk.frame s ++ s))) w) := fun w => run_string_add_sum w _ _ (by omega)
  clear hP hT hX hfs hfs2 hd
  go_enter Tryz.func46, Tryz.ntmps46
  go_wp2_with fail
  generalize w.alloc (rqO c.who c.r c.d.text c.voy c.amt c.pri c.qty c.ord c.mc) = W1 at *
  have f1 := HP1.out.lg
  have l1 := HP1.out.box.lt
  have ha := HA.out
  generalize hFF : Mk.frame s ++ s = FS at *
  have HFF : Hid (Mk.frame s ++ s = FS) := hFF
  clear hFF
  have c1 : ∀ u : Wof (Below W1.heap.size W1), u.val.cell? ⟨p, 43, none⟩ = some (.string M.disk) := fun u => (u.ok.cell (p := ⟨p, 43, none⟩) l1).trans f1
  have z1 : ∀ u : Wof (Below W1.heap.size W1), u.val.frozen? ⟨p, 43, none⟩ = false := fun u => (u.ok.frozen (p := ⟨p, 43, none⟩) l1).trans (HP1.out.box.frozen _)
  have hne : Nonempty (Wof (Below W1.heap.size W1)) := ⟨⟨W1, Below.refl _ _⟩⟩
  clear f1
  refine wp_region_last2_lit (S := Below W1.heap.size W1) (by simp) (by kernel_rfl) (by kernel_rfl) (Below.refl _ _).drew ?_
  simp only [List.dropLast, List.getLast]
  repeat (quiet_step ((rename_i u; refine (pframe_any s _ h20 (HT1.out.next u.ok)).mono ?_; rintro e w3 ⟨rfl, hb3⟩; exact ⟨by rw [HFF.out], ⟨w3, u.ok.trans (hb3.mono u.ok.size)⟩, rfl⟩)))
  refine wpQuiet_nil ?_
  rintro _ ⟨u, rfl⟩
  unfold Oper.wp
  go_simp
  have HB2 := (show Hid _ from u.ok)
  have HP2 : Hid (PM (u.val.setCell ⟨p, 43, none⟩ (.string (M.disk ++ FS))) p vb (Mk.onto M (M.disk ++ FS))) := (HP1.out.below u.ok).setDisk _
  have HO2 : Hid (Only (One p) W1 (u.val.setCell ⟨p, 43, none⟩ (.string (M.disk ++ FS)))) := (Only.of_below u.ok).put _ _
  have HT2 : Hid (Tab (u.val.setCell ⟨p, 43, none⟩ (.string (M.disk ++ FS)))) := tab_only HT1.out HP1.out HO2.out
  clear c1 z1 hne ha
  generalize u.val.setCell ⟨p, 43, none⟩ (.string (M.disk ++ FS)) = W2 at *
  have HC2 : Hid (∀ i u, (#[.int .i64 (c.who : Int), .int .i64 (c.r : Int), .string c.d.text, .int .i64 (c.voy : Int), .int .i64 (c.amt : Int), .int .i64 (c.pri : Int), .int .i64 (c.qty : Int), .int .i64 (c.ord : Int), .int .i64 (mdI c.mc)] : Array Value)[i]? = some u → W2.cell? ⟨w.heap.size, i, none⟩ = some u) := fun i u h => (HO2.out.cell hl1 (fun e : w.heap.size = p => by omega)).trans (HC1.out i u h)
  have hl2 : w.heap.size < W2.heap.size := Nat.lt_of_lt_of_le hl1 HO2.out.size
  have x0 := HC2.out 0 _ rfl
  have x1 := HC2.out 1 _ rfl
  have x2 := HC2.out 2 _ rfl
  have x3 := HC2.out 3 _ rfl
  have x4 := HC2.out 4 _ rfl
  have x5 := HC2.out 5 _ rfl
  have x6 := HC2.out 6 _ rfl
  have x7 := HC2.out 7 _ rfl
  have x8 := HC2.out 8 _ rfl
  go_wp2_with fail
  refine (HX.out W2 HP2.out HT2.out).mono ?_
  rintro e W5 ⟨rfl, vb', hP5, ho5, hnew⟩
  have nB0 : ¬ PHas p vb w.heap.size := fun h => by have := HLt.out _ h; omega
  have HP5 : Hid (PM W5 p vb' (Mk.onto M' (M.disk ++ FS))) := hP5
  have HO5 : Hid (Only (PHas p vb) W2 W5) := ho5
  have HNew : Hid (∀ k, PHas p vb' k → PHas p vb k ∨ W2.heap.size ≤ k) := hnew
  have y0 : W5.cell? ⟨w.heap.size, 0, none⟩ = some (.int .i64 (c.who : Int)) := (ho5.cell hl2 nB0).trans x0
  have y1 : W5.cell? ⟨w.heap.size, 1, none⟩ = some (.int .i64 (c.r : Int)) := (ho5.cell hl2 nB0).trans x1
  have f0 := hP5.re hwho (k := 0) (by omega)
  have f1 := hP5.re hwho (k := 1) (by omega)
  have f2 := hP5.re hwho (k := 2) (by omega)
  simp only [reF, Nat.add_zero] at f0 f1 f2
  have z0 := hP5.box.frozen (31 + c.who * 3)
  have z1 := hP5.box.frozen (31 + c.who * 3 + 1)
  have z2 := hP5.box.frozen (31 + c.who * 3 + 2)
  clear hP5 ho5 hnew nB0 x0 x1 x2 x3 x4 x5 x6 x7 x8
  go_upto_region 3 with fail
  go_region
  have HP6 := (show Hid _ from (HP5.out.setRe hwho (c.r : Int) t er).below (Below.refl _ _).drew)
  have HO6 : Hid (Only (PHas p vb) W2 ((((W5.setCell ⟨p, 31 + c.who * 3, none⟩ (.int .i64 (c.r : Int))).setCell ⟨p, 31 + c.who * 3 + 1, none⟩ (.string t)).setCell ⟨p, 31 + c.who * 3 + 2, none⟩ (.int .i64 er)).drew)) := (((HO5.out.set (show PHas p vb p from .inl rfl) _).set (show PHas p vb p from .inl rfl) _).set (show PHas p vb p from .inl rfl) _).next (Below.refl _ _).drew
  go_wp2_with fail
  have hP6 := HP6.out
  rw [← HFF.out] at hP6
  refine bodyPost_ret (v := .tuple #[.string t, .int .i64 er]) ?_ rfl ⟨rfl, vb', hP6, ?_, fun k hk => ?_⟩
  · simp [results, Tryz.results46, go_sem]
  · exact (((Only.of_below HB1.out).trans (S := PHas p vb) (S' := One p) HO2.out (fun _ _ e => .inl e)).trans HO6.out (fun _ _ h => h))
  · rcases HNew.out k hk with h | h
    · exact .inl h
    · exact .inr (Nat.le_trans HB1.out.size (Nat.le_trans HO2.out.size h))

set_option maxRecDepth 100000 in
set_option maxHeartbeats 4000000 in
theorem pdo_any2 (p : Nat) (vb : Nat → Value) (M : Mk.Mkt) (s : ByteArray) (w : World) (X : Mk.Cmd → ByteArray × Int × Mk.Mkt) (hls : ∀ c, c < 4 → 0 ≤ M.ls c ∧ M.ls c ≤ 99) (hd : M.disk.size ≤ 100000000) (hP : PM w p vb M) (hT : Tab w)
    (hX : ∀ c, Mk.readP s = some c → (c.r : Int) = M.ls c.who + 1 → (X c).2.2.disk = M.disk ∧ ∀ d W, PM W p vb (Mk.onto M d) → Tab W → Calls Tryz.prog 78 #[.pointer (some ⟨p, 0, none⟩), reqV c] W fun e w' => PDoT p vb ((X c).1, (X c).2.1, Mk.onto (X c).2.2 d) W e w') :
    Calls Tryz.prog 31 #[.pointer (some ⟨p, 0, none⟩), .string s] w fun e w' => PDoT p vb (Mk.doM X M s) w e w' := by
  have HP : Hid (PM w p vb M) := hP
  have HT : Hid (Tab w) := hT
  have HX := (show Hid _ from hX)
  have HDk : Hid (M.disk.size ≤ 100000000) := hd
  clear hX hP hT hd
  go_enter Tryz.func31, Tryz.ntmps31
  go_wp2_with fail
  refine (readRequest_any s w).mono ?_
  rintro e w1 ⟨hb1, hm⟩
  have HB1 : Hid (Below w.heap.size w w1) := hb1
  cases hrd : Mk.readP s with
  | none =>
    rw [hrd] at hm
    obtain rfl := hm
    have HD : Hid (Mk.doM X M s = (⟨#[]⟩, 2, M)) := (by unfold Mk.doM; rw [hrd] : Mk.doM X M s = (⟨#[]⟩, 2, M))
    clear hrd hb1
    go_wp2_with fail
    rw [HD.out]
    refine bodyPost_ret (v := .tuple #[.string ⟨#[]⟩, .int .i64 2]) ?_ rfl (pdoT_same HP.out ?_)
    · simp [results, Tryz.results31, go_sem]
    · exact HB1.out.alloc HB1.out.size _
  | some c =>
    rw [hrd] at hm
    obtain rfl := hm
    obtain ⟨hok, h20⟩ := Mk.read_ok hrd
    have HC : Hid (Mk.readP s = some c) := hrd
    have hwho : c.who < 4 := hok.who
    have hr1 : 1 ≤ c.r ∧ c.r ≤ 99 := hok.r
    have hw' : (c.who : Int) < 4 := by omega
    have bl := hls c.who hwho
    have hq := HX.out c hrd
    have hD := (show Mk.doM X M s = (if (c.r : Int) = M.ls c.who then (M.tx c.who, M.er c.who, M)
      else if (c.r : Int) < M.ls c.who then (⟨#[]⟩, 3, M)
      else if M.ls c.who + 1 < (c.r : Int) then (⟨#[]⟩, 4, M)
      else ((X c).1, (X c).2.1, { (X c).2.2 with ls := upd (X c).2.2.ls c.who c.r, tx := upd (X c).2.2.tx c.who (X c).1, er := upd (X c).2.2.er c.who (X c).2.1, disk := (X c).2.2.disk ++ Mk.frame s ++ s })) from by unfold Mk.doM; rw [hrd])
    have HD := (show Hid _ from hD)
    have HQ := (show Hid _ from hq)
    clear hq hD hrd hok HX hb1
    have HB2 : Hid (Below w.heap.size w (w1.alloc (rqO c.who c.r c.d.text c.voy c.amt c.pri c.qty c.ord c.mc))) := HB1.out.alloc HB1.out.size _
    have HP2 : Hid (PM (w1.alloc (rqO c.who c.r c.d.text c.voy c.amt c.pri c.qty c.ord c.mc)) p vb M) := HP.out.below HB2.out
    have HC2 : Hid (∀ i u, (#[.int .i64 (c.who : Int), .int .i64 (c.r : Int), .string c.d.text, .int .i64 (c.voy : Int), .int .i64 (c.amt : Int), .int .i64 (c.pri : Int), .int .i64 (c.qty : Int), .int .i64 (c.ord : Int), .int .i64 (mdI c.mc)] : Array Value)[i]? = some u → (w1.alloc (rqO c.who c.r c.d.text c.voy c.amt c.pri c.qty c.ord c.mc)).cell? ⟨w1.heap.size, i, none⟩ = some u) := fun i u h => by simpa using h
    have hl2 : w1.heap.size < (w1.alloc (rqO c.who c.r c.d.text c.voy c.amt c.pri c.qty c.ord c.mc)).heap.size := by simp
    have hBw : w.heap.size ≤ w1.heap.size := HB1.out.size
    go_upto_region 4 with fail
    generalize w1.alloc (rqO c.who c.r c.d.text c.voy c.amt c.pri c.qty c.ord c.mc) = W2 at *
    generalize w1.heap.size = B at *
    have x0 := HC2.out 0 _ rfl
    have f0 := HP2.out.re hwho (k := 0) (by omega)
    have f1 := HP2.out.re hwho (k := 1) (by omega)
    have f2 := HP2.out.re hwho (k := 2) (by omega)
    simp only [reF, Nat.add_zero] at f0 f1 f2
    have hpl := HP2.out.box.lt
    go_region
    have hb3 : Below W2.heap.size W2 ((W2.alloc (.cells #[.int .i64 (M.ls c.who), .string (M.tx c.who), .int .i64 (M.er c.who)] 69)).drew) := ((Below.refl _ _).alloc (Nat.le_refl _) _).drew
    have HB3 : Hid (Below w.heap.size w ((W2.alloc (.cells #[.int .i64 (M.ls c.who), .string (M.tx c.who), .int .i64 (M.er c.who)] 69)).drew)) := HB2.out.trans (hb3.mono HB2.out.size)
    have HP3 : Hid (PM ((W2.alloc (.cells #[.int .i64 (M.ls c.who), .string (M.tx c.who), .int .i64 (M.er c.who)] 69)).drew) p vb M) := HP2.out.below hb3
    have HC3 : Hid (∀ i u, (#[.int .i64 (c.who : Int), .int .i64 (c.r : Int), .string c.d.text, .int .i64 (c.voy : Int), .int .i64 (c.amt : Int), .int .i64 (c.pri : Int), .int .i64 (c.qty : Int), .int .i64 (c.ord : Int), .int .i64 (mdI c.mc)] : Array Value)[i]? = some u → ((W2.alloc (.cells #[.int .i64 (M.ls c.who), .string (M.tx c.who), .int .i64 (M.er c.who)] 69)).drew).cell? ⟨B, i, none⟩ = some u) := fun i u h => (hb3.cell (p := ⟨B, i, none⟩) hl2).trans (HC2.out i u h)
    have l0 : ((W2.alloc (.cells #[.int .i64 (M.ls c.who), .string (M.tx c.who), .int .i64 (M.er c.who)] 69)).drew).cell? ⟨W2.heap.size, 0, none⟩ = some (.int .i64 (M.ls c.who)) := by simp
    have l1 : ((W2.alloc (.cells #[.int .i64 (M.ls c.who), .string (M.tx c.who), .int .i64 (M.er c.who)] 69)).drew).cell? ⟨W2.heap.size, 1, none⟩ = some (.string (M.tx c.who)) := by simp
    have l2 : ((W2.alloc (.cells #[.int .i64 (M.ls c.who), .string (M.tx c.who), .int .i64 (M.er c.who)] 69)).drew).cell? ⟨W2.heap.size, 2, none⟩ = some (.int .i64 (M.er c.who)) := by simp
    have HwB : Hid (B < ((W2.alloc (.cells #[.int .i64 (M.ls c.who), .string (M.tx c.who), .int .i64 (M.er c.who)] 69)).drew).heap.size) := Nat.lt_of_lt_of_le hl2 hb3.size
    clear hb3 f0 f1 f2 x0 hpl HC2 hl2
    generalize (W2.alloc (.cells #[.int .i64 (M.ls c.who), .string (M.tx c.who), .int .i64 (M.er c.who)] 69)).drew = W3 at *
    generalize W2.heap.size = L at *
    have x1 := HC3.out 1 _ rfl
    by_cases h1 : (c.r : Int) = M.ls c.who
    · have HE : Hid (Mk.doM X M s = (M.tx c.who, M.er c.who, M)) := HD.out.trans (if_pos h1)
      have h1' : ((c.r : Int) == M.ls c.who) = true := by rw [beq_iff_eq]; exact h1
      clear h1
      go_wp2_with fail
      go_quiet (fail)
      have HB4 : Hid (Below w.heap.size w (W3.drewN nq)) := below_drewN HB3.out nq
      generalize W3.drewN nq = W4 at *
      go_wp2_with fail
      rw [HE.out]
      refine bodyPost_ret (v := .tuple #[.string (M.tx c.who), .int .i64 (M.er c.who)]) ?_ rfl (pdoT_same HP.out HB4.out)
      simp [results, Tryz.results31, go_sem]
    · have h1' : ((c.r : Int) == M.ls c.who) = false := by rw [beq_eq_false_iff_ne]; exact h1
      by_cases h2 : (c.r : Int) < M.ls c.who
      · have HE : Hid (Mk.doM X M s = (⟨#[]⟩, 3, M)) := HD.out.trans ((if_neg h1).trans (if_pos h2))
        clear h1
        go_wp2_with fail
        rw [HE.out]
        refine bodyPost_ret (v := .tuple #[.string ⟨#[]⟩, .int .i64 3]) ?_ rfl (pdoT_same HP.out HB3.out)
        simp [results, Tryz.results31, go_sem]
      · by_cases h3 : M.ls c.who + 1 < (c.r : Int)
        · have HE : Hid (Mk.doM X M s = (⟨#[]⟩, 4, M)) := HD.out.trans ((if_neg h1).trans ((if_neg h2).trans (if_pos h3)))
          clear h1
          go_wp2_with fail
          rw [HE.out]
          refine bodyPost_ret (v := .tuple #[.string ⟨#[]⟩, .int .i64 4]) ?_ rfl (pdoT_same HP.out HB3.out)
          simp [results, Tryz.results31, go_sem]
        · have hnext : (c.r : Int) = M.ls c.who + 1 := by omega
          have hq := HQ.out hnext
          have hE := HD.out.trans ((if_neg h1).trans ((if_neg h2).trans (if_neg h3)))
          clear h1 hnext HQ HD
          generalize X c = x at *
          obtain ⟨t, er, M'⟩ := x
          obtain ⟨hdk, hq⟩ := hq
          have hdk' : M'.disk = M.disk := hdk
          have HE : Hid (Mk.doM X M s = (t, er, { M' with ls := upd M'.ls c.who c.r, tx := upd M'.tx c.who t, er := upd M'.er c.who er, disk := M.disk ++ (Mk.frame s ++ s) })) := (by rw [hE]; show (t, er, _) = (t, er, _); rw [← ByteArray.append_assoc, ← hdk'] : Mk.doM X M s = (t, er, { M' with ls := upd M'.ls c.who c.r, tx := upd M'.tx c.who t, er := upd M'.er c.who er, disk := M.disk ++ (Mk.frame s ++ s) }))
          have HQ : Hid (Calls Tryz.prog 46 #[.pointer (some ⟨p, 0, none⟩), reqV c, .string s] W3 fun e w' => PDoT p vb (t, er, { M' with ls := upd M'.ls c.who c.r, tx := upd M'.tx c.who t, er := upd M'.er c.who er, disk := M.disk ++ (Mk.frame s ++ s) }) W3 e w') := pserve_any p vb M c s t er M' W3 hwho h20 HDk.out HP3.out (HT.out.next HB3.out) (fun W hW hT => hq _ W hW hT)
          clear hq hE hdk hdk'
          have x0 := HC3.out 0 _ rfl
          have x2 := HC3.out 2 _ rfl
          have x3 := HC3.out 3 _ rfl
          have x4 := HC3.out 4 _ rfl
          have x5 := HC3.out 5 _ rfl
          have x6 := HC3.out 6 _ rfl
          have x7 := HC3.out 7 _ rfl
          have x8 := HC3.out 8 _ rfl
          go_wp2_with fail
          refine HQ.out.mono ?_
          rintro e W5 hD5
          have hD5' := pdoT_next HB3.out hD5
          obtain rfl := hD5.1
          have HD5 : Hid (PDoT p vb (t, er, { M' with ls := upd M'.ls c.who c.r, tx := upd M'.tx c.who t, er := upd M'.er c.who er, disk := M.disk ++ (Mk.frame s ++ s) }) w (.returned (.tuple #[.string t, .int .i64 er])) W5) := hD5'
          clear hD5'
          clear hD5 x0 x1 x2 x3 x4 x5 x6 x7 x8 l0 l1 l2
          go_wp2_with fail
          rw [HE.out]
          refine bodyPost_ret (v := .tuple #[.string t, .int .i64 er]) ?_ rfl HD5.out
          simp [results, Tryz.results31, go_sem]

end Go.Proofs.YtmebcdpdpcpnmaaGreatDoor

namespace Mk
theorem app_assoc (a b c : ByteArray) : a ++ (b ++ c) = a ++ b ++ c := (ByteArray.append_assoc).symm
theorem addV_app (M : Mkt) (c : Nat) (s x : ByteArray) : ∀ v, addV M c (s ++ x) v = s ++ addV M c x v
  | 0 => rfl
  | v + 1 => by simp only [addV, addV_app M c s x v, app_assoc]
/-- an account's text -/
def acT (M : Mkt) (c : Nat) : ByteArray := addV M c (purseI (M.cf c) (M.ch c)) 2
theorem addC_succ (M : Mkt) (c : Nat) : addC M (c + 1) = addC M c ++ acT M c ++ ⟨#[59]⟩ := by
  show addV M c (addC M c ++ purseI (M.cf c) (M.ch c)) 2 ++ ⟨#[59]⟩ = _
  rw [addV_app]
  rfl
def modeL (b : Bool) : ByteArray := if b then ⟨#[109]⟩ else ⟨#[117]⟩
theorem modeT_eq (b : Bool) : modeT b = ⟨#[59]⟩ ++ modeL b := by cases b <;> rfl
theorem addB_app (l : List Stand) (s x : ByteArray) : ∀ i, addB l (s ++ x) i = s ++ addB l x i
  | 0 => rfl
  | i + 1 => by
    simp only [addB, addB_app l s x i]
    by_cases h : 0 < i
    · simp only [comma, h, if_true, app_assoc]
    · simp only [comma, h, if_false, app_assoc]
/-- a voyage's text -/
def voT (M : Mkt) (v : Nat) : ByteArray := addB (M.bk v) (modeL (M.md v)) (M.bk v).length
theorem addM_succ (M : Mkt) (s : ByteArray) (v : Nat) : addM M s (v + 1) = addM M s v ++ ⟨#[59]⟩ ++ voT M v := by
  show addB (M.bk v) (addM M s v ++ modeT (M.md v)) (M.bk v).length = _
  rw [modeT_eq, app_assoc, addB_app]
  rfl
end Mk
namespace Go.Proofs.YtmebcdpdpcpnmaaGreatDoor
open Go.RowKit

set_option maxRecDepth 100000 in
set_option maxHeartbeats 1000000 in
theorem pot_nat (f h : Nat) (w : World) (hf : f ≤ 9999) (hh : h ≤ 9999) (ht : Tab w) :
    Calls Tryz.prog 84 #[.agg #[.int .i64 f, .int .i64 h]] w fun e w' => e = .returned (.string (Mk.purseT f h)) ∧ Below w.heap.size w w' := by
  have s1 := Mk.dig_le4 hf
  have s2 := Mk.dig_le4 hh
  have HB1 : Hid (∀ ob, Below w.heap.size w (w.alloc ob)) := fun ob => (Below.refl _ _).alloc (Nat.le_refl _) _
  have HT : Hid (Tab w) := ht
  clear ht
  go_enter Tryz.func84, Tryz.ntmps84
  go_wp2_with fail
  refine (itoa_any f hf _ (HT.out.next (HB1.out _))).mono ?_
  rintro e w2 ⟨rfl, hb2⟩
  have x1 : w2.cell? ⟨w.heap.size, 1, none⟩ = some (.int .i64 h) := by rw [hb2.cell (p := ⟨w.heap.size, 1, none⟩) (by simp)]; simp
  have HB2 : Hid (Below w.heap.size w w2) := (HB1.out _).trans (hb2.mono (by simp))
  clear hb2
  go_wp2_with fail
  refine (itoa_any h hh _ (HT.out.next HB2.out)).mono ?_
  rintro e w3 ⟨rfl, hb3⟩
  have HB3 : Hid (Below w.heap.size w w3) := HB2.out.trans (hb3.mono HB2.out.size)
  clear hb3
  go_wp2_with fail
  go_ret
  exact ⟨rfl, HB3.out⟩
theorem pot_any (f h : Int) (w : World) (bf : 0 ≤ f ∧ f ≤ 9999) (bh : 0 ≤ h ∧ h ≤ 9999) (ht : Tab w) :
    Calls Tryz.prog 84 #[.agg #[.int .i64 f, .int .i64 h]] w fun e w' => e = .returned (.string (Mk.purseI f h)) ∧ Below w.heap.size w w' := by
  obtain ⟨a, rfl⟩ := Int.eq_ofNat_of_zero_le bf.1
  obtain ⟨b, rfl⟩ := Int.eq_ofNat_of_zero_le bh.1
  exact pot_nat a b w (by omega) (by omega) ht

theorem idx_slots (f h : Nat → Int) (k : Nat) (hk : k < 2) (W : World) : (Instr.index 59 (.agg #[.int .i64 (f 0), .int .i64 (h 0), .int .i64 (f 1), .int .i64 (h 1)]) (.int .i64 (k : Int))).run Tryz.prog W = .ok (.agg #[.int .i64 (f k), .int .i64 (h k)]) W := by
  rcases (show k = 0 ∨ k = 1 by omega) with rfl | rfl
  all_goals simp [Instr.index, run_underlying Tryz.underlying59, asIntOf, Tryz.sizeOf58, go_sem]

set_option maxRecDepth 100000 in
set_option maxHeartbeats 2000000 in
theorem acct_show (M : Mk.Mkt) (k : Nat) (w : World) (hk : k < 4) (hM : M.Fine) (ht : Tab w) :
    Calls Tryz.prog 51 #[acV M k] w fun e w' => e = .returned (.string (Mk.acT M k)) ∧ Below w.heap.size w w' := by
  have HT : Hid (Tab w) := ht
  have HM : Hid M.Fine := hM
  have bf := hM.cf k hk
  have bh := hM.ch k hk
  have qp := Mk.purseI_le bf.2 bh.2
  have HB1 : Hid (∀ ob, Below w.heap.size w (w.alloc ob)) := fun ob => (Below.refl _ _).alloc (Nat.le_refl _) _
  have HI : Hid (∀ v, v < 2 → ∀ W, (Instr.index 59 (.agg #[.int .i64 (M.sf 0 k), .int .i64 (M.sh 0 k), .int .i64 (M.sf 1 k), .int .i64 (M.sh 1 k)]) (.int .i64 ((v : Nat) : Int))).run Tryz.prog W = .ok (.agg #[.int .i64 (M.sf v k), .int .i64 (M.sh v k)]) W) := fun v hv W => idx_slots (fun v => M.sf v k) (fun v => M.sh v k) v hv W
  clear ht hM
  go_enter Tryz.func51, Tryz.ntmps51
  go_wp2_with fail
  refine (pot_any _ _ _ bf bh (HT.out.next (HB1.out _))).mono ?_
  rintro e w2 ⟨rfl, hb2⟩
  have x2 : w2.cell? ⟨w.heap.size, 2, none⟩ = some (.int .i64 (M.sf 0 k)) := by rw [hb2.cell (p := ⟨w.heap.size, 2, none⟩) (by simp)]; simp
  have x3 : w2.cell? ⟨w.heap.size, 3, none⟩ = some (.int .i64 (M.sh 0 k)) := by rw [hb2.cell (p := ⟨w.heap.size, 3, none⟩) (by simp)]; simp
  have x4 : w2.cell? ⟨w.heap.size, 4, none⟩ = some (.int .i64 (M.sf 1 k)) := by rw [hb2.cell (p := ⟨w.heap.size, 4, none⟩) (by simp)]; simp
  have x5 : w2.cell? ⟨w.heap.size, 5, none⟩ = some (.int .i64 (M.sh 1 k)) := by rw [hb2.cell (p := ⟨w.heap.size, 5, none⟩) (by simp)]; simp
  have HB2 : Hid (Below w.heap.size w w2) := (HB1.out _).trans (hb2.mono (by simp))
  clear hb2
  go_wp2_with fail
  clear x2 x3 x4 x5
  go_loopw [3, 11] (fun x j wr => ∃ v : Nat, v ≤ 2 ∧ j = .int .i64 v ∧ x = .string (Mk.addV M k (Mk.purseI (M.cf k) (M.ch k)) v) ∧ Below w.heap.size w wr) (fun _ j _ => 2 - (intOf j).toNat)
  case atStart => exact ⟨0, by omega, rfl, rfl, HB2.out⟩
  case round =>
    obtain ⟨v, hv, rfl, rfl, hb⟩ := hrel
    have Hb : Hid (Below w.heap.size w wr) := hb
    clear hb
    have qv := Mk.addV_le HM.out hk (Mk.purseI (M.cf k) (M.ch k)) v hv
    by_cases hlt : v < 2
    · have hlt' : (v : Int) < 2 := by omega
      have cf := HM.out.sf v k hlt hk
      have ch := HM.out.sh v k hlt hk
      have qw := Mk.purseI_le cf.2 ch.2
      have hix := HI.out v hlt
      have HA : Hid (∀ ob, Below w.heap.size w (wr.alloc ob)) := fun ob => Hb.out.alloc Hb.out.size ob
      have HE : Hid (Mk.addV M k (Mk.purseI (M.cf k) (M.ch k)) (v + 1) = Mk.addV M k (Mk.purseI (M.cf k) (M.ch k)) v ++ ⟨#[32]⟩ ++ Mk.purseI (M.sf v k) (M.sh v k)) := rfl
      go_wp2_with fail
      refine (pot_any _ _ _ cf ch (HT.out.next (HA.out _))).mono ?_
      rintro e w3 ⟨rfl, hb3⟩
      have HB3 : Hid (Below w.heap.size w w3) := (HA.out _).trans (hb3.mono (HA.out _).size)
      clear hb3
      go_wp2_with fail
      go_roundw
      case rel => exact ⟨v + 1, by omega, by go_num, by rw [HE.out], HB3.out⟩
      case measure => simp [intOf]; omega
    · obtain rfl : v = 2 := by omega
      go_wp2_with fail
      go_ret
      exact ⟨rfl, Hb.out⟩

set_option maxRecDepth 100000 in
set_option maxHeartbeats 1000000 in
theorem mode_show (b : Bool) (w : World) :
    Calls Tryz.prog 86 #[.int .i64 (mdI b)] w fun e w' => e = .returned (.string (Mk.modeL b)) ∧ w' = w := by
  cases b
  · show Calls Tryz.prog 86 #[.int .i64 0] w _
    go_enter Tryz.func86, Tryz.ntmps86
    go_wp2
    go_ret
    exact ⟨rfl, rfl⟩
  · show Calls Tryz.prog 86 #[.int .i64 1] w _
    go_enter Tryz.func86, Tryz.ntmps86
    go_wp2
    go_ret
    exact ⟨rfl, rfl⟩

set_option maxRecDepth 100000 in
set_option maxHeartbeats 2000000 in
theorem entry_nat (n : Nat) (sell : Bool) (who p q : Nat) (w : World) (h1 : n ≤ 9999) (h2 : who ≤ 9999) (h3 : p ≤ 9999) (h4 : q ≤ 9999) (ht : Tab w) :
    Calls Tryz.prog 87 #[.agg #[.int .i64 n, .int .i64 who, .bool sell, .int .i64 p, .int .i64 q]] w fun e w' => e = .returned (.string (Mk.standT n sell who p q)) ∧ Below w.heap.size w w' := by
  have s1 := Mk.dig_le4 h1
  have s2 := Mk.dig_le4 h2
  have s3 := Mk.dig_le4 h3
  have s4 := Mk.dig_le4 h4
  have HB1 : Hid (∀ ob, Below w.heap.size w (w.alloc ob)) := fun ob => (Below.refl _ _).alloc (Nat.le_refl _) _
  have HT : Hid (Tab w) := ht
  clear ht
  cases sell
  all_goals
    go_enter Tryz.func87, Tryz.ntmps87
    go_wp2_with fail
    refine (itoa_any n h1 _ (HT.out.next (HB1.out _))).mono ?_
    rintro e w2 ⟨rfl, hb2⟩
    have x1 : w2.cell? ⟨w.heap.size, 1, none⟩ = some (.int .i64 who) := by rw [hb2.cell (p := ⟨w.heap.size, 1, none⟩) (by simp)]; simp
    have x2 := (show w2.cell? ⟨w.heap.size, 2, none⟩ = some (.bool _) from by rw [hb2.cell (p := ⟨w.heap.size, 2, none⟩) (by simp)]; simp; rfl)
    have x3 : w2.cell? ⟨w.heap.size, 3, none⟩ = some (.int .i64 p) := by rw [hb2.cell (p := ⟨w.heap.size, 3, none⟩) (by simp)]; simp
    have x4 : w2.cell? ⟨w.heap.size, 4, none⟩ = some (.int .i64 q) := by rw [hb2.cell (p := ⟨w.heap.size, 4, none⟩) (by simp)]; simp
    have hl2 : w.heap.size < w2.heap.size := Nat.lt_of_lt_of_le (by simp) hb2.size
    have HB2 : Hid (Below w.heap.size w w2) := (HB1.out _).trans (hb2.mono (by simp))
    clear hb2
    go_wp2_with fail
    refine (itoa_any who h2 _ (HT.out.next HB2.out)).mono ?_
    rintro e w3 ⟨rfl, hb3⟩
    have y3 : w3.cell? ⟨w.heap.size, 3, none⟩ = some (.int .i64 p) := (hb3.cell (p := ⟨w.heap.size, 3, none⟩) hl2).trans x3
    have y4 : w3.cell? ⟨w.heap.size, 4, none⟩ = some (.int .i64 q) := (hb3.cell (p := ⟨w.heap.size, 4, none⟩) hl2).trans x4
    have hl3 : w.heap.size < w3.heap.size := Nat.lt_of_lt_of_le hl2 hb3.size
    have HB3 : Hid (Below w.heap.size w w3) := HB2.out.trans (hb3.mono HB2.out.size)
    clear hb3 x1 x2 x3 x4
    go_wp2_with fail
    refine (itoa_any p h3 _ (HT.out.next HB3.out)).mono ?_
    rintro e w4 ⟨rfl, hb4⟩
    have z4 : w4.cell? ⟨w.heap.size, 4, none⟩ = some (.int .i64 q) := (hb4.cell (p := ⟨w.heap.size, 4, none⟩) hl3).trans y4
    have HB4 : Hid (Below w.heap.size w w4) := HB3.out.trans (hb4.mono HB3.out.size)
    clear hb4 y3 y4
    go_wp2_with fail
    refine (itoa_any q h4 _ (HT.out.next HB4.out)).mono ?_
    rintro e w5 ⟨rfl, hb5⟩
    have HB5 : Hid (Below w.heap.size w w5) := HB4.out.trans (hb5.mono HB4.out.size)
    clear hb5
    go_wp2_with fail
    go_ret
    exact ⟨rfl, HB5.out⟩
theorem entry_any (x : Mk.Stand) (w : World) (h1 : 0 ≤ x.n ∧ x.n ≤ 11) (h2 : 0 ≤ x.who ∧ x.who ≤ 3) (h3 : 1 ≤ x.o.price ∧ x.o.price ≤ 99 ∧ 1 ≤ x.o.qty ∧ x.o.qty ≤ 20) (ht : Tab w) :
    Calls Tryz.prog 87 #[.agg #[.int .i64 x.n, .int .i64 x.who, .bool x.o.sell, .int .i64 x.o.price, .int .i64 x.o.qty]] w fun e w' => e = .returned (.string (Mk.standI x)) ∧ Below w.heap.size w w' := by
  obtain ⟨n, who, sell, p, q⟩ := x
  obtain ⟨n, rfl⟩ := Int.eq_ofNat_of_zero_le h1.1
  obtain ⟨who, rfl⟩ := Int.eq_ofNat_of_zero_le h2.1
  obtain ⟨p, rfl⟩ := Int.eq_ofNat_of_zero_le (show (0 : Int) ≤ p by have := h3.1; simp at this; omega)
  obtain ⟨q, rfl⟩ := Int.eq_ofNat_of_zero_le (show (0 : Int) ≤ q by have := h3.2.2.1; simp at this; omega)
  have a1 := h1.2
  have a2 := h2.2
  have a3 := h3.2.1
  have a4 := h3.2.2.2
  simp only at a1 a2 a3 a4
  exact entry_nat n sell who p q w (by omega) (by omega) (by omega) (by omega) ht

end Go.Proofs.YtmebcdpdpcpnmaaGreatDoor
