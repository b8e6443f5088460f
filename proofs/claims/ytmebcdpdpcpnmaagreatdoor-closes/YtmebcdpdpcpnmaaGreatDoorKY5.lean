import Derived.Test.YtmebcdpdpcpnmaaGreatDoorJ37
import Derived.Test.YtmebcdpdpcpnmaaGreatDoorKT9
namespace Go.Proofs.YtmebcdpdpcpnmaaGreatDoor
open Go.ChangeShapes Go.WideShapes Go.ChangeAt Go.RowKit Go.Deep

theorem all_doing (hC : CloseOk) : Doing (fun M s => Mk.doM (Mk.allM M) M s) AInv (fun _ => True) where
  fine := fun _ _ h => h.well.fine
  new := all_new
  up := fun _ _ h => ⟨⟨h.well.fine, h.well.ls, by have := h.well.disk; omega⟩, h.sound, h.one⟩
  step := fun M k s h _ => all_step s h
  p := fun p vb M k s w h hk _ _ hP hT => all_dos hC p vb M k s w h (by omega) hP hT
  r := fun p b M k s w h hk hs _ hR => do_any2 p b M s w (Mk.allM M) h.well.ls (by have := h.well.disk; omega) (by omega) hR (fun c hc _ => ⟨(all_ls h.sound h.one (Mk.read_ok hc).1).2, fun W g cap hW hn hgn => all_does p b M c h.sound h.one (Mk.read_ok hc).1 W g cap hW hn hgn⟩)

end Go.Proofs.YtmebcdpdpcpnmaaGreatDoor
