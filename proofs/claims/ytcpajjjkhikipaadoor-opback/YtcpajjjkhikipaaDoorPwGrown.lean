/- What pack.grown and pack.number answer: walks over their bodies. -/
import Derived.Test.YtcpajjjkhikipaaDoorBase
import Derived.Test.YtcpajjjkhikipaaDoorPlain
import Derived.WalkKit
import Derived.WalkSpells
import Derived.WalkLawsBesides
import Derived.OwnWalk
import Derived.Lib.BufSteps
import Derived.Laws.AppendOwnNone
import Derived.Deep.Onto
namespace Go.Proofs.YtcpajjjkhikipaaDoor.Pw
open Go.RowKit

set_option maxRecDepth 20000 in
set_option maxHeartbeats 400000 in
theorem grown_any (ao : Option Addr) (n c m : Nat) (mi : Int) (xs : List UInt8) (w : World) (hm : mi = m) (hn : n = xs.length) (hS : Sl w ao c xs) (hN : n + m ≤ 1000000) :
    Calls Tryd.prog 29 #[.slice ao n c, .int .i64 mi] w fun e w' => e = .returned (.slice (some ⟨w.heap.size, 0, none⟩) n (n + m)) ∧ w'.ownsRow w.heap.size 5 1 (.slice (some ⟨w.heap.size, 0, none⟩) n (n + m)) n (bc xs) ∧ Below w.heap.size w w' := by
  obtain ⟨i0, hi, hz0, hz1, hz2⟩ := info_parts infoByte
  have HN : Hid (n = xs.length) := hn
  have HS : Hid (Sl w ao c xs) := hS
  clear hn hS
  subst hm
  go_enter Tryd.func29, Tryd.ntmps29
  go_wp2_with (at_make; refine wpList_make_own _ rfl _ _ 31 rfl w.heap.size 5 i0 (.int .u8 0) 1 Tryd.underlying31 hi hz0 hz1 .i64 .i64 _ (n + m) rfl rfl (by omega) ?b1 ?b2 ?b3 ?_)
  case b1 => rw [hz2]; omega
  case b2 => unfold maxLen; omega
  case b3 => exact Nat.le_refl _
  intro w1 hown hg
  have HO : Hid (w1.ownsRow w.heap.size 5 1 (.slice (some ⟨w.heap.size, 0, none⟩) 0 (n + m)) 0 []) := hown
  have HG : Hid (w.grownBy w1 none) := hg
  clear hown hg
  go_wp2_with (at_builtin; refine wpList_append_fits_any _ rfl _ _ 31 rfl w.heap.size 5 i0 1 Tryd.underlying31 hi hz1 _ _ _ [] rfl HO.out ao n c (bc xs) rfl ?c1 ?c2 ?c3 (bc_one xs) ?c4 ?_)
  case c1 => rw [bc_len, HN.out]; omega
  case c2 => intro h; have := HS.out.nil h; rw [HN.out]; exact this
  case c3 => intro ad had j u hu; exact HG.out.cell (HS.out.cells ad had j u hu) (by simp)
  case c4 => omega
  intro w2 hown2 hg2
  have HO2 : Hid (w2.ownsRow w.heap.size 5 1 (.slice (some ⟨w.heap.size, 0, none⟩) n (n + m)) n (bc xs)) := by
    have h : w2.ownsRow w.heap.size 5 1 (.slice (some ⟨w.heap.size, 0, none⟩) n (n + m)) n (bc xs) := by simpa using hown2
    exact h
  have HB2 : Hid (Below w.heap.size w w2) := ((Below.refl w.heap.size w).grown HG.out (Nat.le_refl _) (fun k hk => by cases hk)).grown hg2 (HG.out.size) (fun k hk => by simp at hk; omega)
  clear hown2 hg2
  go_wp2
  go_ret
  exact ⟨by simp, HO2.out, HB2.out⟩

end Go.Proofs.YtcpajjjkhikipaaDoor.Pw
