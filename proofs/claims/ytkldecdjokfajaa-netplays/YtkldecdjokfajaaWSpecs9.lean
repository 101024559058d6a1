/- The landed network keeps the contracts. -/
import Derived.Test.YtkldecdjokfajaaNtI9
namespace Go.Proofs.Ytkldecdjokfajaa
open Go.RowKit

theorem specs_any9 : Specs9 LNt where
  lt := fun h hk => NtU.le h _ hk
  keep := fun h hk => lnt_keep h hk
  new := new_any9
  send := fun q n F K v ms w h hf hv hK hlt hl hm => (send_any9 q n F K v ms w h hf hv hK hlt hl hm).mono (fun _ _ ⟨he, F', h1, h2⟩ => ⟨F', he, h1, h2⟩)
  len := fun q n F w h _ => by
    obtain ⟨G, mm, D, v, ps, h1, _⟩ := h
    obtain ⟨av, cv, e, _⟩ := h1.slice
    have hb := h1.blk
    rw [e] at hb
    exact len_any9 hb
  at_ := fun q n F k w h hf => at_any9 q n F k w h hf
  take := fun q n F k w h hf => (take_any9 q n F k w h hf).mono (fun _ _ ⟨a, b, he, hp, F', h1, h2⟩ => ⟨F', a, b, he, hp, h1, h2⟩)
  lose := fun q n F k w h hf => (lose_any9 q n F k w h hf).mono (fun _ _ ⟨he, F', h1, h2⟩ => ⟨F', he, h1, h2⟩)
  copy := fun q n F k w h hf => (copy_any9 q n F k w h hf).mono (fun _ _ ⟨he, F', h1, h2⟩ => ⟨F', he, h1, h2⟩)
  cut := fun q n F a b t w h hf => (cut_any9 q n F a b t w h hf).mono (fun _ _ ⟨he, F', h1, h2⟩ => ⟨F', he, h1, h2⟩)
  heal := fun q n F w h _ => (heal_any9 q n F w h).mono (fun _ _ ⟨he, F', h1, h2⟩ => ⟨F', he, h1, h2⟩)
end Go.Proofs.Ytkldecdjokfajaa
