/- What slices.BinarySearch answers of names that rise. -/
import Derived.Test.YtfcbdjjbchcpjaaDoorNm10
import Derived.Test.YtfcbdjjbchcpjaaDoorShelf
namespace Go.Proofs.YtfcbdjjbchcpjaaDoor
open Go.RowKit

theorem search_any10 (v : Value) (l : List ByteArray) (s : ByteArray) (w : World) (h : Nm w v l) (hr : Kq.Rises l) (hl : l.length ≤ 1000) :
    Calls Tryd.prog 41 #[v, .string s] w fun e w' => e = .returned (.tuple #[.int .i64 ((Kq.low l s).length : Int), .bool (Kq.has l s)]) ∧ ∃ q, w' = w.drewN q := by
  rcases h with ⟨rfl, rfl⟩ | ⟨g, o, c, rfl, hcap, hc⟩
  · refine (Any2.slices_BinarySearch_string_empty Tryd.search_n none 0 s w).mono ?_
    rintro e w' ⟨rfl, rfl⟩
    exact ⟨rfl, 0, rfl⟩
  · have hat : ∀ j, j < l.length → l[j]? = some (l.getD j s) := fun j hj => by
      rw [List.getD_eq_getElem?_getD, List.getElem?_eq_getElem hj]
      rfl
    have key := Any2.slices_BinarySearch_string Tryd.search_n g o l.length c (fun j => l.getD j s) s w (by omega) (fun j hj => hc j _ (hat j hj))
    have hb : Lib.bsGo (fun t => Op.bytesLess (l.getD t s).toList s.toList) l.length 0 l.length = (Kq.low l s).length := by
      refine Lib.bsGo_spec _ _ (fun t ht => ?_) (fun t ht => ?_) _ _ _ (by omega) (Nat.zero_le _) (Kq.low_len l s)
      · obtain ⟨x, h1, h2⟩ := Kq.low_at ht
        show Kq.lt (l.getD t s) s = true
        rw [List.getD_eq_getElem?_getD, h1]
        exact h2
      · show Kq.lt (l.getD t s) s = false
        rw [List.getD_eq_getElem?_getD]
        cases he : l[t]? with
        | none => exact Kq.lt_irrefl s
        | some x =>
          refine Kq.high_ge hr (?_ : x ∈ Kq.high l s)
          rw [(Kq.low_take l s).2]
          refine List.mem_of_getElem? (i := t - (Kq.low l s).length) ?_
          rw [List.getElem?_drop, Nat.add_sub_cancel' ht, he]
    refine key.mono ?_
    rintro e w' ⟨rfl, q, rfl⟩
    refine ⟨?_, q, rfl⟩
    simp only [hb]
    congr 4
    rcases Nat.lt_or_ge (Kq.low l s).length l.length with hlt | hge
    · have h2 := (Kq.low_end hr (hat _ hlt)).2
      rw [h2]
      simp [hlt]
    · have h1 := Kq.low_len l s
      rw [Kq.low_all hr (by omega)]
      simp
      omega
end Go.Proofs.YtfcbdjjbchcpjaaDoor
