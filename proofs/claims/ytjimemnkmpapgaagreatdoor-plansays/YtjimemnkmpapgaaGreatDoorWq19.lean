/- Rows of results that a statement lays up. What the statements' own rq answers. -/
import Derived.Test.YtjimemnkmpapgaaGreatDoorWr19
import Derived.Test.YtjimemnkmpapgaaGreatDoorPn19
namespace Go.Proofs.YtjimemnkmpapgaaGreatDoor
open Go.RowKit

theorem KR.one_ {x : Value} (h : x.oneCell' = true) : ∀ y ∈ KR.cs [x], y.oneCell' = true := fun y hy => by
  have hy : y ∈ [x] := hy
  simp only [List.mem_cons, List.not_mem_nil, or_false] at hy
  rw [hy]
  exact h
/-- Lists of results without Names, each in a row of its own, from a world on. -/
structure Wl19 (w4 w : World) (lv : Value) (us : List Value) (ls : List (List X)) : Prop where
  lv : w.ownsRow w4.heap.size 43 1 lv us.length (KR.cs us)
  len : us.length = ls.length
  at_ : ∀ (j : Nat) x l, us[j]? = some x → ls[j]? = some l → w.ownsRow w4.heap.size 50 11 x l.length (KX.cs l)
  bel : Below w4.heap.size w4 w
theorem Wl19.nil (w : World) : Wl19 w w (.slice none 0 0) [] [] := ⟨World.ownsRow_nil _ _ _ _, rfl, fun j x l h => by simp at h, Below.refl _ _⟩
theorem Wl19.later {w4 w w' : World} {lv : Value} {us : List Value} {ls : List (List X)} (h : Wl19 w4 w lv us ls) (hb : Below w.heap.size w w') : Wl19 w4 w' lv us ls :=
  ⟨row_stays h.lv fun k hk => hb.block k (h.lv.lt k hk).2, h.len, fun j x l hx hl => row_stays (h.at_ j x l hx hl) fun k hk => hb.block k ((h.at_ j x l hx hl).lt k hk).2, h.bel.trans (hb.mono h.bel.size)⟩
theorem Wl19.more {w4 w w' : World} {lv lv' mv : Value} {us : List Value} {ls : List (List X)} {xs : List X} (h : Wl19 w4 w lv us ls) (o : Obj) (hm : w.ownsRow w4.heap.size 50 11 mv xs.length (KX.cs xs))
    (hr : w'.ownsRow w4.heap.size 43 1 lv' (us ++ [mv]).length (KR.cs (us ++ [mv]))) (hb : Below w4.heap.size (w.alloc o) w') (hg : (w.alloc o).grownBy w' lv.ownBlock) : Wl19 w4 w' lv' (us ++ [mv]) (ls ++ [xs]) := by
  have hba := (Below.refl _ w).alloc (Nat.le_refl _) o
  have key : ∀ {x : Value} {l : List X}, w.ownsRow w4.heap.size 50 11 x l.length (KX.cs l) → w'.ownsRow w4.heap.size 50 11 x l.length (KX.cs l) := fun {x l} hx => by
    have h1 := hx.alloc o
    refine row_stays h1 fun k hk => hg.block k (h1.lt k hk).2 (fun e => ?_)
    exact rows_apart19 (h.lv.alloc o) h1 (by decide) k hk e.symm
  refine ⟨hr, by rw [List.length_append, List.length_append, h.len]; rfl, fun j x l hx hl => ?_, (h.bel.trans (hba.mono h.bel.size)).trans hb⟩
  by_cases hj : j < us.length
  · rw [List.getElem?_append_left hj] at hx
    rw [List.getElem?_append_left (by rw [← h.len]; exact hj)] at hl
    exact key (h.at_ j x l hx hl)
  · rw [List.getElem?_append_right (by omega)] at hx
    rw [List.getElem?_append_right (by rw [← h.len]; omega), ← h.len] at hl
    have e3 : j - us.length = 0 := by
      have := (List.getElem?_eq_some_iff.1 hx).1
      simp at this
      omega
    rw [e3] at hx hl
    obtain rfl := Option.some.inj hx
    obtain rfl := Option.some.inj hl
    exact key hm
theorem Wl19.rss {w4 w : World} {lv : Value} {us : List Value} {ls : List (List X)} (h : Wl19 w4 w lv us ls) : Rss w lv ls :=
  ⟨us, KR.ok.row (show w.ownsRow w4.heap.size KR.T KR.sz lv us.length (KR.cs us) from h.lv), h.len, fun j x l hx hl => KX.ok.row (show w.ownsRow w4.heap.size KX.T KX.sz x l.length (KX.cs l) from h.at_ j x l hx hl)⟩
end Go.Proofs.YtjimemnkmpapgaaGreatDoor
namespace Go.Proofs.YtjimemnkmpapgaaGreatDoor
open Go.RowKit

theorem rq_any19 (s n : Int) (u : Value) (os : List O) (w : World) (hu : Ol w u os) :
    Calls Tryz.prog 17 #[.agg #[.int .i64 s, .int .i64 n, u]] w fun e w' => e = .returned (.agg #[.int .i64 s, .int .i64 n, u]) ∧ Below w.heap.size w w' := by
  obtain ⟨au, m, cu, rfl, hx⟩ := hu
  clear hx
  go_enter Tryz.func17, Tryz.ntmps17
  go_wp2
  refine bodyPost_ret (v := .agg #[.int .i64 s, .int .i64 n, .slice au m cu]) (by simp [results, Tryz.results17, go_sem]; try rfl) rfl ⟨rfl, ?_⟩
  exact ((Below.refl _ w).alloc (Nat.le_refl _) _).alloc (by simp) _

end Go.Proofs.YtjimemnkmpapgaaGreatDoor
