/- The calls of pack over bytes wherever they lie; 'string(b)'. -/
import Derived.Test.YtcpajjjkhikipaaDoorPwNum
namespace Go.Proofs.YtcpajjjkhikipaaDoor.Pw
open Go.RowKit

theorem text_bs (v : Value) (xs : List UInt8) (s : ByteArray) (w : World) (h : Bs w v xs) (hN : xs.length ≤ 100000) (hs : s.size ≤ 10000) :
    Calls Tryd.prog 35 #[v, .string s] w fun e w' => ∃ v', e = .returned v' ∧ Bs w' v' (xs ++ Pk.txt s.data.toList) ∧ Below w.heap.size w w' := by
  obtain ⟨ao, n, c, rfl, hn, hsl⟩ := h
  refine (text_any ao n c xs s w hn hsl (by omega) hs).mono ?_
  rintro e w' ⟨v', rfl, ho, hb⟩
  exact ⟨v', rfl, Bs.own ho, hb⟩

theorem i64_bs (v : Value) (xs : List UInt8) (z : Int) (w : World) (h : Bs w v xs) (hN : xs.length ≤ 100000) :
    Calls Tryd.prog 34 #[v, .int .i64 z] w fun e w' => ∃ v', e = .returned v' ∧ Bs w' v' (xs ++ Pk.be8 z) ∧ Below w.heap.size w w' := by
  obtain ⟨ao, n, c, rfl, hn, hsl⟩ := h
  refine (i64_any ao n c xs z w hn hsl (by omega)).mono ?_
  rintro e w' ⟨v', rfl, ho, hb⟩
  exact ⟨v', rfl, Bs.own ho, hb⟩

theorem all_bs (v u : Value) (xs : List UInt8) (zs : List Int) (w : World) (h : Bs w v xs) (hi : Bi w u zs) (hN : xs.length ≤ 100000) (hK : zs.length ≤ 10000) :
    Calls Tryd.prog 21 #[v, u] w fun e w' => ∃ v', e = .returned v' ∧ Bs w' v' (xs ++ zs.flatMap Pk.be8) ∧ Below w.heap.size w w' := by
  obtain ⟨ao, n, c, rfl, hn, hsl⟩ := h
  obtain ⟨av, k, cv, rfl, hk, hcs⟩ := hi
  cases hz : zs with
  | nil =>
    subst hz
    obtain rfl : k = 0 := hk
    refine (all_none ao n c xs av cv w hn hsl (by omega)).mono ?_
    rintro e w' ⟨v', rfl, ho, hb⟩
    exact ⟨v', rfl, by simpa using Bs.own ho, hb⟩
  | cons z0 zt =>
    obtain ⟨g, o, rfl, _⟩ := hcs 0 z0 (by rw [hz]; rfl)
    rw [← hz]
    refine (all_some ao n c xs zs g o k cv w hn hsl hk (fun j z hzj => ?_) (by omega) (by omega)).mono ?_
    · obtain ⟨g', o', e, hcell⟩ := hcs j z hzj
      simp only [Option.some.injEq, Addr.mk.injEq, and_true] at e
      obtain ⟨rfl, rfl⟩ := e
      exact hcell
    rintro e w' ⟨v', rfl, ho, hb⟩
    exact ⟨v', rfl, Bs.own ho, hb⟩

theorem read_bs (v : Value) (xs : List UInt8) (w : World) (h : Bs w v xs) (hN : xs.length ≤ 100000) :
    Calls Tryd.prog 15 #[v] w fun e w' => ∃ q, e = .returned (.pointer (some ⟨q, 0, none⟩)) ∧ w.heap.size ≤ q ∧ Rd w' q xs false ∧ Below w.heap.size w w' := by
  obtain ⟨ao, n, c, rfl, hn, hsl⟩ := h
  exact read_any ao n c xs w hn hsl (by omega)

end Go.Proofs.YtcpajjjkhikipaaDoor.Pw
