/- The landed log does what is asked of it. -/
import Derived.Test.YtmbpkbdaakchiaaWlH8
namespace Go.Proofs.Ytmbpkbdaakchiaa
open Go.RowKit

theorem specs_any8 : Specs8 DkD WlD where
  big := fun q st F s v b w h hf hv hb ha => append_any7 q st F s v b w h hf hv hb ha
  lt := fun ⟨_, _, h⟩ hk => h.glt _ hk
  keep := fun {w w' ql qd g G} ⟨v, us, h⟩ hk => by
    have hlt : ∀ k, G k → k < w'.heap.size := fun k hG => by
      have h0 := h.glt k hG
      have h1 : w.heap[k]? = some w.heap[k] := Array.getElem?_eq_getElem h0
      rw [← hk k hG] at h1
      exact (Array.getElem?_eq_some_iff.1 h1).1
    exact ⟨v, us, h.blk.keep (hk ql h.gq), row_keep h.own (fun k e => hk k (h.gv k e)), fun j u x hu hx => ⟨row_keep (h.rows j u x hu hx).1 (fun k e => hk k ((h.rows j u x hu hx).2 k e)), (h.rows j u x hu hx).2⟩, h.gq, h.gv, hlt, h.fine⟩
  fine := fun ⟨_, _, h⟩ => h.fine
  opn := fun qd st F w hd hf => openW_any qd st F w hd hf
  add := fun ql qd g st F G v r w hd ⟨lv, us, hg⟩ ha hf ho hl hb hr hba _ => addW_any ql qd g st F G lv us v r w hd hg ha hf.1 ho hl hb hr hba
  sync := fun ql qd g st F G w hd ⟨lv, us, hg⟩ ha hf => syncW_any ql qd g st F G lv us w hd hg ha hf.1
  first := fun ql qd g G w ⟨lv, us, hg⟩ => (first_any8 ql qd g G lv us _ w hg).mono (by
    rintro e w' ⟨rfl, rfl⟩
    exact ⟨rfl, Below.refl _ _⟩)
  next := fun ql qd g G w ⟨lv, us, hg⟩ => (next_any8 ql qd g G lv us _ w hg).mono (by
    rintro e w' ⟨rfl, n, rfl⟩
    exact ⟨rfl, below_drewN (Below.refl _ _) _⟩)
  at_ := fun ql qd g st F G n w hd ⟨lv, us, hg⟩ ha _ ho n1 n2 => atW_any ql qd g st F G lv us n w hd hg ha ho n1 n2
  cutTo := fun ql qd g st F G n w hd ⟨lv, us, hg⟩ ha hf ho n1 n2 => cutToW_any ql qd g st F G lv us n w hd hg ha hf.1 ho n1 n2
  restart := fun ql qd g st F G n w hd ⟨lv, us, hg⟩ ha hf ho n1 n2 => restartW_any ql qd g st F G lv us n w hd hg ha hf ho n1 n2
end Go.Proofs.Ytmbpkbdaakchiaa
