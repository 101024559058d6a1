/- The landed disk does what is asked of it. -/
import Derived.Test.YtmbpkbdaakchiaaWNames7
namespace Go.Proofs.Ytmbpkbdaakchiaa
open Go.RowKit

theorem specs_any7 : Specs7 DkD where
  lt := fun ⟨_, _, _, _, h⟩ hk => h.glt _ hk
  keep := fun {w w' q st F} ⟨m, D, P, V, h⟩ hk => by
    have hlt : ∀ k, F k → k < w'.heap.size := fun k hF => by
      have h0 := h.glt k hF
      have h1 : w.heap[k]? = some w.heap[k] := Array.getElem?_eq_getElem h0
      rw [← hk k hF] at h1
      exact (Array.getElem?_eq_some_iff.1 h1).1
    refine ⟨m, D, P, V, h.blk.keep (hk q h.gq), ?_, h.has, h.at_, fun f hf => (h.file f hf).keep (hk _ (h.gf f hf).1) (fun k e => hk k ((h.gf f hf).2 k e)), h.apart, h.gq, h.gm, h.gf, hlt⟩
    obtain ⟨es, clock, hb, r⟩ := h.own
    exact ⟨es, clock, (hk m h.gm).trans hb, r⟩
  new := new_any7
  append := fun q st F s v b w h hf hv hb ha => append_any7 q st F s v b w h hf hv (by omega) ha
  sync := sync_any7
  read := read_any7
  cut := cut_any7
  rename := rename_any7
  drop := drop_any7
  crash := fun q st F keep w h hf _ _ => crash_any7 q st F keep w h hf
  on := on_any7
  lives := fun q st F w h _ => lives_any7 q st F w h
end Go.Proofs.Ytmbpkbdaakchiaa
