/- What every world of these walks holds: the library's variables that the road reads; and the library's contracts in the forms that the walks take. -/
import Derived.Test.YtcpajjjkhikipaaDoorShelf
import Derived.Test.YtcpajjjkhikipaaDoorPaWNames
import Derived.WalkSmall
namespace Go.Proofs.YtcpajjjkhikipaaDoor.Pa
open Go.RowKit

theorem gTab : Tryd.prog.globalNamed "internal/strconv.uint64pow10" = some 1 := by kernel_rfl

structure Std (w : World) : Prop where
  len : ∃ m, w.cell? ⟨0, 0, none⟩ = some (.int .i64 m)
  size : 6 ≤ w.heap.size
  tab : Lib.TabIs Tryd.prog w "internal/strconv.uint64pow10" .u64 Lib.pow10Tab

theorem Std.below {w w' : World} (h : Std w) (hb : Below w.heap.size w w') : Std w' := by
  obtain ⟨m, hm⟩ := h.len
  have hs := h.size
  have hs' := hb.size
  exact ⟨⟨m, by rw [hb.cell (p := ⟨0, 0, none⟩) (by simp only []; omega)]; exact hm⟩, by omega, var?_below hb gTab (by omega) h.tab⟩

/-- A new row of texts. -/
structure Row (w w' : World) (b : Nat) (xs : List ByteArray) : Prop where
  cells : ∀ (j : Nat) x, xs[j]? = some x → w'.cell? ⟨b, 0 + j, none⟩ = some (.string x)
  lo : w.heap.size ≤ b
  hi : b < w'.heap.size
  below : Below w.heap.size w w'

theorem splitB_spl (s : ByteArray) : (Lib.splitB ⟨#[47]⟩ 0 (Lib.countB s ⟨#[47]⟩) s).map (·.data.toList) = Pl.spl s.data.toList := by
  rw [Lib.splitB_data]; exact Pl.split_spl s.data.toList

theorem splitB_len (s : ByteArray) : (Lib.splitB ⟨#[47]⟩ 0 (Lib.countB s ⟨#[47]⟩) s).length = Lib.countB s ⟨#[47]⟩ + 1 := by
  have h := congrArg List.length (splitB_spl s)
  rw [List.length_map] at h
  rw [h]
  have e : Lib.countB s ⟨#[47]⟩ = Lib.countByte s.data.toList 47 := Lib.count_one ..
  rw [e, Lib.countByte, Pl.spl_length]

theorem split_any (s : ByteArray) (w : World) (hS : Std w) (hs : s.size < 4294967281) :
    Calls Tryd.prog 44 #[.string s, .string ⟨#[47]⟩] w fun e w' => ∃ xs : List ByteArray, e = .returned (.slice (some ⟨w.heap.size, 0, none⟩) xs.length xs.length) ∧ xs.map (·.data.toList) = Pl.spl s.data.toList ∧ Row w w' w.heap.size xs := by
  obtain ⟨m, hm⟩ := hS.len
  refine (Tryd.strings_Split s ⟨#[47]⟩ m w hs hm (by decide)).mono ?_
  rintro e w' ⟨rfl, rfl⟩
  refine ⟨Lib.splitB ⟨#[47]⟩ 0 (Lib.countB s ⟨#[47]⟩) s, by rw [splitB_len], splitB_spl s, ?_, Nat.le_refl _, by simp, (Below.refl _ _).alloc (Nat.le_refl _) _⟩
  intro j x hx
  rw [Nat.zero_add]
  simp [World.cell?_alloc_new, hx]

end Go.Proofs.YtcpajjjkhikipaaDoor.Pa
