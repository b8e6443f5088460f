import Derived.Test.YtmebcdpdpcpnmaaGreatDoorKT12
namespace Go.Proofs.YtmebcdpdpcpnmaaGreatDoor
open Go.RowKit

theorem AInv.le {M : Mk.Mkt} {k k' : Nat} (h : AInv M k) (hk : k ≤ k') : AInv M k' := ⟨⟨h.well.fine, h.well.ls, by have := h.well.disk; omega⟩, h.sound, h.one⟩
/-- a market of a script in which logs are opened, too -/
def OInv (M : Mk.Mkt) (k : Nat) : Prop := AInv M (k + 9000)

set_option maxRecDepth 100000 in
theorem logs_doing (h : ProgLog) : Doing (fun M s => Mk.doM (Mk.allM M) M s) OInv (fun _ => True) where
  fine := fun _ _ h => h.well.fine
  new := AInv.le all_new (Nat.zero_le _)
  up := fun _ _ h => AInv.le h (by omega)
  step := fun M k s h _ => AInv.le (all_step s h) (by omega)
  p := fun p vb M k s w hI hk hs _ hP hT => h.dos p vb M (k + 9000) s w hI (by omega) hs hP hT
  r := fun p b M k s w h hk hs _ hR => do_any2 p b M s w (Mk.allM M) h.well.ls (by have := h.well.disk; omega) (by omega) hR (fun c hc _ => ⟨(all_ls h.sound h.one (Mk.read_ok hc).1).2, fun W g cap hW hn hgn => all_does p b M c h.sound h.one (Mk.read_ok hc).1 W g cap hW hn hgn⟩)
theorem logs_opens (h : ProgLog) : Opens OInv where
  log := fun p vb M k w hI hk hP => h.log p vb M (k + 9000) w hI (by omega) hP
  opn := h.opn
  inv := fun s M k hM => by
    obtain ⟨k', hA, hk'⟩ := openM_inv hM
    exact AInv.le hA (by omega)

end Go.Proofs.YtmebcdpdpcpnmaaGreatDoor
