/- What the landed plan's Results answers. What the landed plan's Make answers. -/
import Derived.Test.YtjimemnkmpapgaaGreatDoorWw19
import Derived.Test.YtjimemnkmpapgaaGreatDoorBs19
import Derived.Test.YtjimemnkmpapgaaGreatDoorWSplit16
import Derived.Test.YtjimemnkmpapgaaGreatDoorWMay
namespace Go.Proofs.YtjimemnkmpapgaaGreatDoor
open Go.RowKit

theorem own_same19 (a : Option Addr) (n m c c' : Nat) : (Value.slice a n c).ownBlock = (Value.slice a m c').ownBlock := by
  cases a <;> rfl
/-- Lists of results without Names. -/
def Rss (w : World) (v : Value) (ls : List (List X)) : Prop := ∃ us, KR.At w v us ∧ us.length = ls.length ∧ ∀ (j : Nat) x l, us[j]? = some x → ls[j]? = some l → KX.At w x l
theorem Rss.below {w w' : World} {v : Value} {ls : List (List X)} (h : Rss w v ls) (hb : Below w.heap.size w w') : Rss w' v ls := by
  obtain ⟨us, h1, h2, h3⟩ := h
  exact ⟨us, h1.below hb, h2, fun j x l hx hl => (h3 j x l hx hl).below hb⟩
theorem Rss.form {w : World} {v : Value} {ls : List (List X)} (h : Rss w v ls) : ∃ a c, v = .slice a ls.length c := by
  obtain ⟨us, h1, h2, _⟩ := h
  obtain ⟨a, c, e, _⟩ := h1.form
  exact ⟨a, c, by rw [e, h2]⟩
theorem Rss.at {w : World} {ls : List (List X)} {bv : Option Addr} {k c : Nat} (h : Rss w (.slice bv k c) ls) {j : Nat} {l : List X} (hl : ls[j]? = some l) : ∃ g o x, bv = some ⟨g, o, none⟩ ∧ w.cell? ⟨g, o + j, none⟩ = some x ∧ KX.At w x l := by
  obtain ⟨us, h1, h2, h3⟩ := h
  have hj := (List.getElem?_eq_some_iff.1 hl).1
  obtain ⟨x, hx⟩ : ∃ x, us[j]? = some x := ⟨us[j]'(by omega), List.getElem?_eq_getElem _⟩
  obtain ⟨g, o, e, hc⟩ := h1.at hx
  refine ⟨g, o, x, e, ?_, h3 j x l hx hl⟩
  have := hc 0 x rfl
  have e2 : o + j * KR.sz + 0 = o + j := by show o + j * 1 + 0 = o + j; omega
  rw [e2] at this
  exact this
set_option maxRecDepth 20000 in
theorem cloneS_nil19 (w : World) : Calls Tryz.prog 39 #[.slice none 0 0] w fun e w' => e = .returned (.slice none 0 0) ∧ Below w.heap.size w w' := by
  have hq : ∀ W : World, (binOp .eql 46 (.slice none 0 0) (.slice none 0 0)).run Tryz.prog W = .ok (.bool true) W := fun W => Lib.run_eql_slice_nil W _ _ none 0 0 0 0 Tryz.underlying46
  go_enter Tryz.func39, Tryz.ntmps39
  go_wp2
  go_ret
  exact ⟨rfl, Below.refl _ _⟩
/-- What lies there already is written: nothing changes. -/
theorem cell_same19 {w : World} {g i : Nat} {cs : List Value} {t : TypeId} {u : Value} (h : Cb w g cs t) (hu : cs[i]? = some u) : w.setCell ⟨g, i, none⟩ u = w := by
  rw [setCell_eq_setRow w g i cs.toArray t (0, 0) u h]
  have h3 : cs.toArray.setIfInBounds i u = cs.toArray := by
    apply Array.ext
    · simp
    · intro k h4 h5
      rw [Array.getElem_setIfInBounds]
      split
      · rename_i hk
        subst hk
        have h6 : i < cs.length := by simpa using h5
        rw [List.getElem?_eq_getElem h6] at hu
        simpa using (Option.some.inj hu).symm
      · rfl
  rw [h3]
  exact setRow_self h
/-- 'make([]api.Result, n)'. -/
theorem make_res19 {ops : Array Oper} {rest : List Oper} {o : Oper} {a : Act} {Q : Exit → Act → World → Prop} (hgd : o.guard = none) (l c : Operand) (ho : o.op = .makeSlice 43 l c)
    (n : Nat) (w : World) (hl : a.eval l = .int .i64 (n : Int)) (hc : a.eval c = .int .i64 (n : Int)) (hN : n ≤ 100000)
    (h : ∀ w', Cb w' w.heap.size (KX.cs (List.replicate n Pn.x0)) 50 → Below w.heap.size w w' → wpList Tryz.prog ops Q rest (a.put o.dst (.slice (some ⟨w.heap.size, 0, none⟩) n n)) w') : wpList Tryz.prog ops Q (o :: rest) a w := by
  obtain ⟨i0, hi, hz0, hz1, hz2⟩ := info_parts KX.ok.inf
  refine wpList_make_full w hgd l c 43 ho w.heap.size 50 i0 (.agg #[.int .i64 0, .string ⟨#[]⟩, .string ⟨#[]⟩, .slice none 0 0, .int .i64 0, .int .i64 0, .int .i64 0, .int .i64 0, .int .i64 0, .int .i64 0, .int .i64 0]) 11 Tryz.underlying43 hi hz0 hz1 .i64 .i64 n n n hl hc rfl rfl (by rw [hz2]; show 120 * n ≤ _; omega) (by unfold maxLen; omega) (Nat.le_refl _) ?_
  intro w' hown hg
  refine h w' ?_ ((Below.refl _ w).grown hg (Nat.le_refl _) (fun k hk => by cases hk))
  have e : (madeCells (Value.agg #[.int .i64 0, .string ⟨#[]⟩, .string ⟨#[]⟩, .slice none 0 0, .int .i64 0, .int .i64 0, .int .i64 0, .int .i64 0, .int .i64 0, .int .i64 0, .int .i64 0]).cells (n * 11)).toList = KX.cs (List.replicate n Pn.x0) := by
    apply List.ext_getElem?
    intro j
    by_cases hj : j < n * 11
    · have h1 := KX.ok.cs_len (List.replicate n Pn.x0)
      rw [List.length_replicate] at h1
      have hlt : j < (KX.cs (List.replicate n Pn.x0)).length := by rw [h1]; exact hj
      obtain ⟨x, hx, hc⟩ := KX.ok.cs_at (List.getElem?_eq_getElem hlt)
      have hx0 : x = Pn.x0 := (List.mem_replicate.1 (List.mem_of_getElem? hx)).2
      rw [List.getElem?_eq_getElem hlt, ← hc, hx0]
      have hm : j % KX.sz < 11 := Nat.mod_lt _ (by decide)
      have hm2 : j % 11 < 11 := hm
      simp only [madeCells, Array.toList_map, List.getElem?_map, Array.toList_range, List.getElem?_range hj, Option.map_some]
      show _ = (xc Pn.x0 nilv)[j % 11]?
      have key : ∀ i, i < 11 → some ((Value.agg #[.int .i64 0, .string ⟨#[]⟩, .string ⟨#[]⟩, .slice none 0 0, .int .i64 0, .int .i64 0, .int .i64 0, .int .i64 0, .int .i64 0, .int .i64 0, .int .i64 0]).cells[i]!) = (xc Pn.x0 nilv)[i]? := fun i hi => by
        match i, hi with
        | 0, _ => rfl
        | 1, _ => rfl
        | 2, _ => rfl
        | 3, _ => rfl
        | 4, _ => rfl
        | 5, _ => rfl
        | 6, _ => rfl
        | 7, _ => rfl
        | 8, _ => rfl
        | 9, _ => rfl
        | 10, _ => rfl
      exact key _ hm2
    · rw [List.getElem?_eq_none (by simp [madeCells]; omega), List.getElem?_eq_none (by rw [KX.ok.cs_len, List.length_replicate]; show n * 11 ≤ j; omega)]
  rw [e] at hown
  rcases hown.2 with ⟨e1, _⟩ | ⟨g, cap, cur, e1, _, hh, _, _, h5, h6⟩
  · cases e1
  · simp only [Value.slice.injEq, Option.some.injEq, Addr.mk.injEq, and_true] at e1
    obtain ⟨rfl, _, rfl⟩ := e1
    unfold Cb
    have h7 : cur.toList.length = n * 11 := by simpa using h5
    rw [List.take_of_length_le (by omega)] at h6
    have e9 : cur = (KX.cs (List.replicate n Pn.x0)).toArray := by
      apply Array.ext'
      rw [h6, List.toList_toArray]
    rw [hh, e9]
set_option maxRecDepth 20000 in
set_option maxHeartbeats 8000000 in
theorem results_any19 (p : Pn.St) (u a b v : Value) (ls : List (List X)) (w : World) (h : Pv w p u a b) (ok : Pn.Ok p) (hv : Rss w v ls) (hl : ls.length ≤ 1000) :
    Calls Tryz.prog 12 #[pv p u a b, v] w fun e w' => (match Pn.results p ls with
      | none => e = .returned (.tuple #[.slice none 0 0, .int .i64 1])
      | some xs => ∃ g, e = .returned (.tuple #[.slice (some ⟨g, 0, none⟩) p.os.length p.os.length, .int .i64 0]) ∧ Cb w' g (KX.cs xs) 50 ∧ xs.length = p.os.length) ∧ Below w.heap.size w w' := by
  obtain ⟨⟨ux, uc, rfl⟩, ⟨ax, ac, rfl⟩, _⟩ := h.forms
  obtain ⟨NO, hNO⟩ : ∃ N, N = p.os.length := ⟨_, rfl⟩
  obtain ⟨NS, hNS⟩ : ∃ N, N = p.sh.length := ⟨_, rfl⟩
  rw [← hNO, ← hNS] at h
  rw [← hNO, ← hNS]
  obtain ⟨vx, vc', rfl⟩ := hv.form
  obtain ⟨N, hN⟩ : ∃ N, N = ls.length := ⟨_, rfl⟩
  rw [← hN] at hv ⊢
  have H : Hid (Pv w p (.slice ux NO uc) (.slice ax NS ac) b ∧ Pn.Ok p ∧ Rss w (.slice vx N vc') ls ∧ N = ls.length ∧ NS = p.sh.length ∧ NO = p.os.length) := ⟨h, ok, hv, hN, hNS, hNO⟩
  have hN1 : N ≤ 1000 := by omega
  have hO1 : NO ≤ 16 := by have := ok.some_; omega
  obtain ⟨R, hR⟩ : ∃ R, R = Pn.results p ls := ⟨_, rfl⟩
  rw [← hR]
  have HR : Hid (R = Pn.results p ls) := hR
  clear h ok hv hl hN hNS hNO hR
  unfold pv
  obtain ⟨q, hq⟩ : ∃ q, q = w.heap.size := ⟨_, rfl⟩
  have H0 : Hid (Below w.heap.size w (w.alloc (.cells #[.int .i64 p.s, .int .i64 p.n, .slice ux NO uc, .slice ax NS ac, b] 33)) ∧ Cb (w.alloc (.cells #[.int .i64 p.s, .int .i64 p.n, .slice ux NO uc, .slice ax NS ac, b] 33)) q [.int .i64 p.s, .int .i64 p.n, .slice ux NO uc, .slice ax NS ac, b] 33) := by
    rw [hq]
    exact ⟨(Below.refl _ w).alloc (Nat.le_refl _) _, Cb.made w [.int .i64 p.s, .int .i64 p.n, .slice ux NO uc, .slice ax NS ac, b] _⟩
  have HSZ : Hid ((w.alloc (.cells #[.int .i64 p.s, .int .i64 p.n, .slice ux NO uc, .slice ax NS ac, b] 33)).heap.size = q + 1) := (show _ = _ by rw [World.size_alloc, hq])
  go_enter Tryz.func12, Tryz.ntmps12
  by_cases hne : N = NS
  · have hb0 : ((N : Int) != (NS : Int)) = false := by simp [hne]
    have HE : Hid (R = Pn.resA p.pl ls (List.replicate p.os.length Pn.x0)) := (show _ = _ by rw [HR.out]; unfold Pn.results; rw [if_pos (by rw [← H.out.2.2.2.1, ← H.out.2.2.2.2.1]; exact hne)])
    have HNP : Hid (N = p.pl.length) := (show _ = _ by rw [hne, H.out.2.2.2.2.1]; exact H.out.2.1.len)
    clear hne HR
    go_wp2_with (at_make; refine make_res19 rfl _ _ rfl NO _ rfl rfl (by omega) ?_)
    rw [← hq]
    clear hq hb0
    generalize (w.alloc (.cells #[.int .i64 p.s, .int .i64 p.n, .slice ux NO uc, .slice ax NS ac, b] 33)) = w0 at *
    obtain ⟨g, hg⟩ : ∃ g, g = q + 1 := ⟨_, rfl⟩
    rw [← hg]
    intro w1 hcb hb1
    have hb1 : Below w0.heap.size w0 w1 := by rw [HSZ.out, ← hg]; exact hb1
    have H1 : Hid (Cb w1 g (KX.cs (List.replicate NO Pn.x0)) 50 ∧ Below w0.heap.size w0 w1 ∧ w0.heap.size ≤ g ∧ R = Pn.resA p.pl ls (List.replicate NO Pn.x0)) := ⟨hcb, hb1, by rw [HSZ.out, hg]; exact Nat.le_refl _, by rw [HE.out, H.out.2.2.2.2.2]⟩
    clear hcb hb1 hg HE
    go_wp2
    go_loopw [25] (fun i wx => ∃ (k : Nat) (acc : List X), k ≤ N ∧ i = .int .i64 (k : Int) ∧ acc.length = NO ∧ Cb wx g (KX.cs acc) 50 ∧ Below w0.heap.size w0 wx ∧ R = Pn.resA (p.pl.drop k) (ls.drop k) acc) (fun i _ => N - (intOf i).toNat)
    case atStart => exact ⟨0, _, Nat.zero_le _, rfl, by simp, H1.out.1, H1.out.2.1, H1.out.2.2.2⟩
    case round =>
      obtain ⟨k, acc, hk, rfl, hal, hcb, hb, hres⟩ := hrel
      have HW : Hid (acc.length = NO ∧ Cb wr g (KX.cs acc) 50 ∧ Below w0.heap.size w0 wr ∧ R = Pn.resA (p.pl.drop k) (ls.drop k) acc) := ⟨hal, hcb, hb, hres⟩
      clear hal hcb hb hres
      by_cases hlt : k < N
      · have hlt' : (k : Int) < (N : Int) := by omega
        have hk0 : (0 : Int) ≤ (k : Int) := by omega
        have hwk : IntKind.wrap .i64 ((k : Int) + 1) = (k : Int) + 1 := by rw [IntKind.wrap_i64]; omega
        obtain ⟨l, hl⟩ : ∃ l, p.pl[k]? = some l := ⟨p.pl[k]'(by have := HNP.out; omega), List.getElem?_eq_getElem _⟩
        obtain ⟨xs, hxs⟩ : ∃ l, ls[k]? = some l := ⟨ls[k]'(by have := H.out.2.2.2.1; omega), List.getElem?_eq_getElem _⟩
        have HD : Hid (R = if xs.length = l.length then Pn.resA (p.pl.drop (k + 1)) (ls.drop (k + 1)) (Pn.putL acc l xs) else none) := by
          refine (show _ = _ from ?_)
          have h1 := List.getElem?_eq_some_iff.1 hl
          have h2 := List.getElem?_eq_some_iff.1 hxs
          obtain ⟨h1a, h1b⟩ := h1
          obtain ⟨h2a, h2b⟩ := h2
          rw [HW.out.2.2.2, List.drop_eq_getElem_cons h1a, List.drop_eq_getElem_cons h2a, h1b, h2b]
          rfl
        have HLK : Hid (Pn.plAt p (k : Int) = l ∧ l.length ≤ 16 ∧ ∀ z ∈ l, 0 ≤ z ∧ z < (NO : Int)) := by
          have hm := List.mem_of_getElem? hl
          exact ⟨by rw [Pn.plAt_nat, hl]; rfl, H.out.2.1.plen hm, by rw [H.out.2.2.2.2.2]; exact H.out.2.1.rng l hm⟩
        obtain ⟨gv, ov, xv, rfl, hxc0, hKX0⟩ := (H.out.2.2.1.below H0.out.1).at hxs
        have hxc := Below.kept HW.out.2.2.1 hxc0
        have hKX := hKX0.below HW.out.2.2.1
        obtain ⟨lx, lc, rfl, _, _⟩ := hKX.form
        have HLO : Hid (xs ≠ [] → (Value.slice lx xs.length lc).ownBlock ≠ some g) := by
          refine (show xs ≠ [] → (Value.slice lx xs.length lc).ownBlock ≠ some g from fun hx0 e => ?_)
          have h1 := hKX0.low KX.ok hx0 e
          have := H1.out.2.2.1
          omega
        clear hxc0 hKX0
        obtain ⟨LX, hLX⟩ : ∃ L, L = xs.length := ⟨_, rfl⟩
        rw [← hLX] at hxc hKX
        have HX : Hid (KX.At wr (.slice lx LX lc) xs ∧ LX = xs.length) := ⟨hKX, hLX⟩
        have e0 := (H0.out.2.below HW.out.2.2.1).cell 0
        have e1 := (H0.out.2.below HW.out.2.2.1).cell 1
        have e2 := (H0.out.2.below HW.out.2.2.1).cell 2
        have e3 := (H0.out.2.below HW.out.2.2.1).cell 3
        have e4 := (H0.out.2.below HW.out.2.2.1).cell 4
        simp only [List.getElem?_cons_zero, List.getElem?_cons_succ] at e0 e1 e2 e3 e4
        clear hl hxs hKX hLX
        go_wp2_with fail
        refine (places_any19 p (.slice ux NO uc) (.slice ax NS ac) b (k : Int) wr ((H.out.1.below H0.out.1).below HW.out.2.2.1) H.out.2.1).mono ?_
        rintro e w2 ⟨r, rfl, hr, hrn, hb⟩
        rw [HLK.out.1] at hr
        obtain ⟨rx, rc, rfl, _, _⟩ := hr.form
        obtain ⟨L, hL⟩ : ∃ L, L = l.length := ⟨_, rfl⟩
        rw [← hL] at hr ⊢
        have HNG : Hid ((Value.slice rx L rc).ownBlock ≠ some g ∧ (xs ≠ [] → (Value.slice lx LX lc).ownBlock ≠ some g)) := by
          refine ⟨fun e => ?_, fun hx0 e => HLO.out hx0 ((own_same19 _ _ _ _ _).trans e)⟩
          have h1 := hrn g ((own_same19 _ _ _ _ _).trans e)
          have h2 := HW.out.2.1.lt
          omega
        clear hrn
        have H2 : Hid (KI.At w2 (.slice rx L rc) l ∧ L = l.length ∧ Cb w2 g (KX.cs acc) 50 ∧ Below w0.heap.size w0 w2 ∧ KX.At w2 (.slice lx LX lc) xs) := ⟨hr, hL, HW.out.2.1.below hb, HW.out.2.2.1.trans (hb.mono HW.out.2.2.1.size), HX.out.1.below hb⟩
        clear hr hb hL e0 e1 e2 e3 e4 hxc
        by_cases hne : LX = L
        · have hb0 : ((LX : Int) != (L : Int)) = false := by simp [hne]
          have HD2 : Hid (R = Pn.resA (p.pl.drop (k + 1)) (ls.drop (k + 1)) (Pn.putL acc l xs)) := (show _ = _ by rw [HD.out, if_pos (by rw [← HX.out.2, ← H2.out.2.1]; exact hne)])
          subst hne
          have hL16 : LX ≤ 16 := by have := HLK.out.2.1; have := H2.out.2.1; omega
          go_wp2
          go_loopw [40] (fun i wx => ∃ (j : Nat) (acc2 : List X), j ≤ LX ∧ i = .int .i64 (j : Int) ∧ acc2.length = NO ∧ Cb wx g (KX.cs acc2) 50 ∧ Below w0.heap.size w0 wx ∧ w2.grownBy wx (some g) ∧ Pn.putL acc l xs = Pn.putL acc2 (l.drop j) (xs.drop j)) (fun i _ => LX - (intOf i).toNat)
          case atStart => exact ⟨0, acc, Nat.zero_le _, rfl, HW.out.1, H2.out.2.2.1, H2.out.2.2.2.1, grownBy_below (Below.refl _ _), rfl⟩
          case round =>
            obtain ⟨j, acc2, hj, rfl, hal, hcb, hb, hg2, hput⟩ := hrel
            have HW2 : Hid (acc2.length = NO ∧ Cb wr g (KX.cs acc2) 50 ∧ Below w0.heap.size w0 wr ∧ w2.grownBy wr (some g) ∧ Pn.putL acc l xs = Pn.putL acc2 (l.drop j) (xs.drop j)) := ⟨hal, hcb, hb, hg2, hput⟩
            clear hal hcb hb hg2 hput
            by_cases hltj : j < LX
            · have hltj' : (j : Int) < (LX : Int) := by omega
              have hj0 : (0 : Int) ≤ (j : Int) := by omega
              have hwj : IntKind.wrap .i64 ((j : Int) + 1) = (j : Int) + 1 := by rw [IntKind.wrap_i64]; omega
              obtain ⟨z, hz⟩ : ∃ z, l[j]? = some z := ⟨l[j]'(by have := H2.out.2.1; omega), List.getElem?_eq_getElem _⟩
              obtain ⟨x, hx⟩ : ∃ x, xs[j]? = some x := ⟨xs[j]'(by have := HX.out.2; omega), List.getElem?_eq_getElem _⟩
              have hzr := HLK.out.2.2 z (List.mem_of_getElem? hz)
              obtain ⟨n, rfl⟩ : ∃ n : Nat, z = (n : Int) := ⟨z.toNat, by omega⟩
              have hn0 : (0 : Int) ≤ (n : Int) := hzr.1
              have hn1 : (n : Int) < (NO : Int) := hzr.2
              have HPT : Hid (Pn.putL acc l xs = Pn.putL (acc2.set n x) (l.drop (j + 1)) (xs.drop (j + 1))) := by
                refine (show _ = _ from ?_)
                obtain ⟨h1a, h1b⟩ := List.getElem?_eq_some_iff.1 hz
                obtain ⟨h2a, h2b⟩ := List.getElem?_eq_some_iff.1 hx
                rw [HW2.out.2.2.2.2, List.drop_eq_getElem_cons h1a, List.drop_eq_getElem_cons h2a, h1b, h2b]
                rfl
              obtain ⟨gz, oz, rfl, hzc⟩ := (H2.out.1.grown HW2.out.2.2.2.1 HNG.out.1).at hz
              have hzc : wr.cell? ⟨gz, oz + j, none⟩ = some (.int .i64 (n : Int)) := by simpa [KI] using hzc 0 _ rfl
              have hx0 : xs ≠ [] := fun e => by rw [e] at hx; cases hx
              have hXA := H2.out.2.2.2.2.grown HW2.out.2.2.2.1 (HNG.out.2 hx0)
              obtain ⟨gx, ox, rfl, hxc⟩ := hXA.at hx
              have d0 : wr.cell? ⟨gx, ox + j * 11, none⟩ = some (.int .i64 x.err) := hxc 0 _ rfl
              have d1 : wr.cell? ⟨gx, ox + j * 11 + 1, none⟩ = some (.string x.path) := hxc 1 _ rfl
              have d2 : wr.cell? ⟨gx, ox + j * 11 + 2, none⟩ = some (.string x.data) := hxc 2 _ rfl
              have d3 : wr.cell? ⟨gx, ox + j * 11 + 3, none⟩ = some (.slice none 0 0) := hxc 3 _ rfl
              have d4 : wr.cell? ⟨gx, ox + j * 11 + 4, none⟩ = some (.int .i64 x.made) := hxc 4 _ rfl
              have d5 : wr.cell? ⟨gx, ox + j * 11 + 5, none⟩ = some (.int .i64 x.changed) := hxc 5 _ rfl
              have d6 : wr.cell? ⟨gx, ox + j * 11 + 6, none⟩ = some (.int .i64 x.ver) := hxc 6 _ rfl
              have d7 : wr.cell? ⟨gx, ox + j * 11 + 7, none⟩ = some (.int .i64 x.kids) := hxc 7 _ rfl
              have d8 : wr.cell? ⟨gx, ox + j * 11 + 8, none⟩ = some (.int .i64 x.owner) := hxc 8 _ rfl
              have d9 : wr.cell? ⟨gx, ox + j * 11 + 9, none⟩ = some (.int .i64 x.len) := hxc 9 _ rfl
              have d10 : wr.cell? ⟨gx, ox + j * 11 + 10, none⟩ = some (.int .i64 x.cnt) := hxc 10 _ rfl
              have HNX : Hid (gx ≠ g ∧ n < acc2.length) := ⟨fun e => HNG.out.2 hx0 (by rw [e]; rfl), by have := HW2.out.1; omega⟩
              have HNW : Hid ((KX.cs acc2).take (n * 11) ++ (xc x nilv) ++ (KX.cs acc2).drop (n * 11 + 11) = KX.cs (acc2.set n x)) := KX.ok.cs_set HNX.out.2
              clear hz hx hxc hXA hzr hx0
              have H5 : Hid (Cb (wr.setRow g (KX.cs (acc2.set n x)).toArray) g (KX.cs (acc2.set n x)) 50 ∧ Below w0.heap.size w0 (wr.setRow g (KX.cs (acc2.set n x)).toArray) ∧ w2.grownBy (wr.setRow g (KX.cs (acc2.set n x)).toArray) (some g)) := ⟨HW2.out.2.1.rowed _, rowed_below HW2.out.2.2.1 (Nat.le_refl _) H1.out.2.2.1 _, grownBy_trans HW2.out.2.2.2.1 (rowed_grown wr g _)⟩
              have f3 : (wr.setRow g (KX.cs (acc2.set n x)).toArray).cell? ⟨gx, ox + j * 11 + 3, none⟩ = some (.slice none 0 0) := by
                rw [← d3]
                exact World.cell?_of_block (setRow_other wr g gx _ HNX.out.1)
              go_upto_region 13 with fail
              go_wp2_with (refine wpList_store_part rfl 50 _ _ rfl g (n * 11) (xc x nilv).toArray rfl rfl 50 (KX.cs acc2) (KX.cs (acc2.set n x)) HW2.out.2.1 (by kernel_rfl) (by rw [KX.ok.cs_len]; show n * 11 + 11 ≤ acc2.length * 11; have := HNX.out.2; omega) (by kernel_rfl) HNW.out ?_)
              clear d0 d1 d2 d3 d4 d5 d6 d7 d8 d9 d10 hzc f3
              generalize (wr.setRow g (KX.cs (acc2.set n x)).toArray) = w5 at *
              refine (cloneS_nil19 w5).mono ?_
              rintro e w6 ⟨rfl, hb6⟩
              have hlt6 := H5.out.1.lt
              have H6 : Hid (Cb w6 g (KX.cs (acc2.set n x)) 50 ∧ Below w0.heap.size w0 w6 ∧ w2.grownBy w6 (some g)) := ⟨H5.out.1.below hb6, H5.out.2.1.trans (hb6.mono H5.out.2.1.size), grownBy_trans H5.out.2.2 (grownBy_below hb6)⟩
              have q1 : w6.cell? ⟨g, n * 11 + 3, none⟩ = some (.slice none 0 0) := by
                rw [H6.out.1.cell]
                exact KX.ok.cs_cell (acc2.set n x) n x 3 _ (List.getElem?_set_self HNX.out.2) rfl
              have f1 : w6.frozen? ⟨g, n * 11 + 3, none⟩ = false := H6.out.1.free _
              have s1 := cell_same19 H6.out.1 ((H6.out.1.cell _).symm.trans q1)
              clear hb6 hlt6 H5
              go_wp2
              go_roundw
              case rel => exact ⟨j + 1, acc2.set n x, by omega, by go_num, by rw [List.length_set]; exact HW2.out.1, H6.out.1, H6.out.2.1, H6.out.2.2, HPT.out⟩
              case measure => simp [intOf]; omega
            · have hltj' : ¬ (j : Int) < (LX : Int) := by omega
              have HRS : Hid (R = Pn.resA (p.pl.drop (k + 1)) (ls.drop (k + 1)) acc2) := (show _ = _ by
                have e : l.drop j = [] := List.drop_of_length_le (by have := H2.out.2.1; omega)
                rw [HD2.out, HW2.out.2.2.2.2, e, Pn.putL_nil])
              go_wp2
              go_roundw
              case rel => exact ⟨k + 1, acc2, by omega, by go_num, HW2.out.1, HW2.out.2.1, HW2.out.2.2.1, HRS.out⟩
              case measure => simp [intOf]; omega
        · have hb0 : ((LX : Int) != (L : Int)) = true := by simp; omega
          have HD2 : R = none := by rw [HD.out, if_neg (by rw [← HX.out.2, ← H2.out.2.1]; exact hne)]
          subst HD2
          clear HD hne
          go_wp2
          go_ret2
          exact ⟨rfl, H0.out.1.trans (H2.out.2.2.2.1.mono H0.out.1.size)⟩
      · have hlt' : ¬ (k : Int) < (N : Int) := by omega
        have HE : R = some acc := by
          have h := HW.out.2.2.2
          rw [List.drop_of_length_le (by have := HNP.out; omega)] at h
          rw [h]
          rfl
        subst HE
        go_wp2
        go_ret2
        exact ⟨⟨g, rfl, HW.out.2.1, HW.out.1⟩, H0.out.1.trans (HW.out.2.2.1.mono H0.out.1.size)⟩
  · have hb0 : ((N : Int) != (NS : Int)) = true := by simp; omega
    have HE : R = none := by rw [HR.out]; unfold Pn.results; rw [if_neg (by rw [← H.out.2.2.2.1, ← H.out.2.2.2.2.1]; exact hne)]
    subst HE
    clear hne HR
    go_wp2
    go_ret2
    exact ⟨rfl, H0.out.1⟩
end Go.Proofs.YtjimemnkmpapgaaGreatDoor
namespace Go.Proofs.YtjimemnkmpapgaaGreatDoor
open Go.RowKit

set_option maxRecDepth 20000 in
set_option maxHeartbeats 2000000 in
theorem cloneO_any19 (v : Value) (os : List O) (w : World) (hv : Ol w v os) (hne : os ≠ []) (hl : os.length ≤ 900) :
    Calls Tryz.prog 33 #[v] w fun e w' => ∃ g c, e = .returned (.slice (some ⟨g, 0, none⟩) os.length c) ∧ Ol w' (.slice (some ⟨g, 0, none⟩) os.length c) os ∧ w.heap.size ≤ g ∧ g < w'.heap.size ∧ Below w.heap.size w w' := by
  have hv0 := KO.of_ol hv
  obtain ⟨a, c, rfl, _, hp⟩ := hv0.form
  obtain ⟨g0, b0, rfl⟩ := hp (List.length_pos_iff.2 hne)
  obtain ⟨N, hN⟩ : ∃ N, N = os.length := ⟨_, rfl⟩
  rw [← hN] at hv0 ⊢
  have HV : Hid (KO.At w (.slice (some ⟨g0, b0, none⟩) N c) os ∧ os.length ≤ 900 ∧ os ≠ [] ∧ N = os.length) := ⟨hv0, hl, hne, hN⟩
  clear hv hv0 hl hp hne hN
  have hq : ∀ W : World, (binOp .eql 28 (.slice (some ⟨g0, b0, none⟩) N c) (.slice none 0 0)).run Tryz.prog W = .ok (.bool false) W := fun W => Lib.run_eql_slice_nil W _ _ (some ⟨g0, b0, none⟩) N c 0 0 Tryz.underlying28
  have HB : Hid (Below w.heap.size w (w.alloc (.cells #[] 38))) := (Below.refl _ w).alloc (Nat.le_refl _) _
  go_enter Tryz.func33, Tryz.ntmps33
  go_wp2_with (at_builtin; refine KO.ok.appL rfl _ _ rfl w.heap.size (.slice (some ⟨w.heap.size, 0, none⟩) 0 0) (.slice (some ⟨g0, b0, none⟩) N c) [] os (w.alloc (.cells #[] 38)) rfl rfl (World.ownsRow_made w #[] 0 (Nat.le_refl _) (by decide) rfl) (by simp) (HV.out.1.below ((Below.refl _ w).alloc (Nat.le_refl _) _)) (KO.one _) (by have := HV.out.2.1; simp only [List.length_nil]; omega) ?_)
  intro v' w2 hrow hb _ _
  have H2 : Hid (w2.ownsRow w.heap.size 38 5 v' os.length (KO.cs os) ∧ Below w.heap.size w w2) := ⟨hrow, HB.out.trans hb⟩
  clear hrow hb
  go_wp2
  go_ret
  obtain ⟨a, cc, e, _, hg⟩ := row_form H2.out.1
  obtain ⟨g, rfl⟩ := hg (List.length_pos_iff.2 HV.out.2.2.1)
  have h1 := KO.ol H2.out.1
  have h2 := H2.out.1.lt g (by rw [e]; rfl)
  rw [e] at h1
  rw [← HV.out.2.2.2] at h1 e
  exact ⟨g, cc, by rw [← e]; rfl, h1, h2.1, h2.2, H2.out.2⟩

theorem results_cell_tmp19 {P : Program} {fn : Func} {p s : Tmp} {ty : TypeId} (h : fn.results = #[.cell p ty, .tmp s]) (tmps : Array Value) (w : World) (g : Nat) (t : TypeId) (cs : Array Value) (fr : Nat × Nat) (d : TypeDesc)
    (hp : tmps.getD p undef = .pointer (some ⟨g, 0, none⟩)) (hg : w.heap[g]? = some (.cells cs t fr))
    (hu : P.underlying ty = some d) (hd : (match d with | .struct _ | .array _ _ => true | _ => false) = true) (hi : (P.info? ty).map (·.size) = some cs.size) :
    (results fn tmps).run P w = .ok (.tuple #[.agg cs, tmps.getD s undef]) w := by
  have hp' : tmps[p]?.getD undef = .pointer (some ⟨g, 0, none⟩) := by simpa using hp
  simp [results, h, hp', asAddr, run_loadVar_row w g t ty cs fr d hg hu hd hi]
theorem Ol.grown19 {w w' : World} {v : Value} {os : List O} {r : Nat} (h : Ol w v os) (hg : w.grownBy w' (some r)) (hr : v.ownBlock ≠ some r) : Ol w' v os := by
  obtain ⟨a, k, c, rfl, h2, h3, h4, h5⟩ := h
  obtain ⟨a', k', c', e, h6, h7, h8⟩ := (KO.of_ol ⟨a, k, c, rfl, h2, h3, h4, h5⟩).grown hg hr
  simp only [Value.slice.injEq] at e
  obtain ⟨rfl, rfl, rfl⟩ := e
  exact ⟨a, k, c, rfl, h2, h3, h4, h8⟩
/-- The shards so far, and their places. -/
structure Mk19 (w5 w : World) (pb : Nat) (s n : Int) (u va vb : Value) (ls : List (List Int)) (us : List Value) : Prop where
  blk : Cb w pb [.int .i64 s, .int .i64 n, u, va, vb] 33
  sh : w.ownsRow w5.heap.size 3 1 va (Pn.shA 0 ls).length (KI.cs (Pn.shA 0 ls))
  pl : w.ownsRow w5.heap.size 27 1 vb us.length (KS.cs us)
  len : us.length = (Pn.plA ls).length
  at_ : ∀ (j : Nat) x l, us[j]? = some x → (Pn.plA ls)[j]? = some l → KI.At w5 x l ∧ x.oneCell' = true ∧ ∀ b, x.ownBlock = some b → pb < b
  grown : w5.grownBy w (some pb)
  lt : pb < w5.heap.size
theorem grown_low19 {w5 w w' : World} {pb : Nat} (h : w5.grownBy w (some pb)) (hb : Below w5.heap.size w w') : w5.grownBy w' (some pb) :=
  ⟨hb.os.trans h.os, hb.tape.trans h.tape, hb.output.trans h.output, Nat.le_trans h.size hb.size, fun k hk hne => (hb.block k hk).trans (h.block k hk hne)⟩
theorem rows_apart19 {w : World} {B B' n m s s' : Nat} {e e' : TypeId} {v u : Value} {xs ys : List Value} (h : w.ownsRow B e s v n xs) (k : w.ownsRow B' e' s' u m ys) (hne : e ≠ e') (j : Nat) (hj : u.ownBlock = some j) : v.ownBlock ≠ some j := fun e1 => by
  obtain ⟨c1, h1⟩ := row_in h e1
  obtain ⟨c2, h2⟩ := row_in k hj
  rw [h1] at h2
  simp only [Option.some.injEq, Obj.cells.injEq] at h2
  exact hne h2.2.1
/-- A number more is there. -/
theorem Mk19.num {w5 w w7 : World} {pb : Nat} {s n : Int} {u va vb v7 : Value} {ls : List (List Int)} {us : List Value} {z : Int} (h : Mk19 w5 w pb s n u va vb ls us) (o : Obj)
    (hr : w7.ownsRow w5.heap.size 3 1 v7 (Pn.shA 0 ls ++ [z]).length (KI.cs (Pn.shA 0 ls ++ [z]))) (hb : Below w5.heap.size (w.alloc o) w7) (hg : (w.alloc o).grownBy w7 va.ownBlock) :
    Cb (w7.setCell ⟨pb, 3, none⟩ v7) pb [.int .i64 s, .int .i64 n, u, v7, vb] 33 ∧ (w7.setCell ⟨pb, 3, none⟩ v7).ownsRow w5.heap.size 3 1 v7 (Pn.shA 0 ls ++ [z]).length (KI.cs (Pn.shA 0 ls ++ [z])) ∧
    (w7.setCell ⟨pb, 3, none⟩ v7).ownsRow w5.heap.size 27 1 vb us.length (KS.cs us) ∧ w5.grownBy (w7.setCell ⟨pb, 3, none⟩ v7) (some pb) ∧ Cb w7 pb [.int .i64 s, .int .i64 n, u, va, vb] 33 := by
  have hlt := h.lt
  have hba := (Below.refl _ w).alloc (Nat.le_refl _) o
  have hs := grownBy_setCell w7 ⟨pb, 3, none⟩ v7
  have hba5 : Below w5.heap.size w (w.alloc o) := hba.mono h.grown.size
  have hcb : Cb w7 pb [.int .i64 s, .int .i64 n, u, va, vb] 33 := (h.blk.below hba).keep (hb.block pb hlt)
  have hvb : w7.ownsRow w5.heap.size 27 1 vb us.length (KS.cs us) := by
    have h1 := h.pl.alloc o
    refine row_stays h1 fun k hk => hg.block k (h1.lt k hk).2 (fun e => ?_)
    exact rows_apart19 (h.sh.alloc o) h1 (by decide) k hk e.symm
  refine ⟨hcb.set 3 v7, ?_, ?_, ?_, hcb⟩
  · exact row_stays hr fun k hk => hs.block k (hr.lt k hk).2 (by have := (hr.lt k hk).1; simp; omega)
  · exact row_stays hvb fun k hk => hs.block k (hvb.lt k hk).2 (by have := (hvb.lt k hk).1; simp; omega)
  · exact grownBy_trans (grown_low19 h.grown (hba5.trans hb)) hs
/-- And its places. -/
theorem Mk19.places {w5 w8 w9 : World} {pb : Nat} {s n : Int} {u vb v7 v9 x : Value} {ls : List (List Int)} {us : List Value} {z : Int} {l : List Int} (o : Obj) (hl : ∀ (j : Nat) x l, us[j]? = some x → (Pn.plA ls)[j]? = some l → KI.At w5 x l ∧ x.oneCell' = true ∧ ∀ b, x.ownBlock = some b → pb < b) (hlen : us.length = (Pn.plA ls).length) (hlt : pb < w5.heap.size)
    (hcb : Cb w8 pb [.int .i64 s, .int .i64 n, u, v7, vb] 33) (hsh : w8.ownsRow w5.heap.size 3 1 v7 (Pn.shA 0 ls ++ [z]).length (KI.cs (Pn.shA 0 ls ++ [z]))) (hpl : w8.ownsRow w5.heap.size 27 1 vb us.length (KS.cs us)) (hgr : w5.grownBy w8 (some pb))
    (hr : w9.ownsRow w5.heap.size 27 1 v9 (us ++ [x]).length (KS.cs (us ++ [x]))) (hb : Below w5.heap.size (w8.alloc o) w9) (hg : (w8.alloc o).grownBy w9 vb.ownBlock)
    (hx : KI.At w5 x l ∧ x.oneCell' = true ∧ ∀ b, x.ownBlock = some b → pb < b) (h0 : l ≠ []) (hz : z = (ls.length : Int)) : Mk19 w5 (w9.setCell ⟨pb, 4, none⟩ v9) pb s n u v7 v9 (ls ++ [l]) (us ++ [x]) ∧ Cb w9 pb [.int .i64 s, .int .i64 n, u, v7, vb] 33 := by
  have hba := (Below.refl _ w8).alloc (Nat.le_refl _) o
  have hs := grownBy_setCell w9 ⟨pb, 4, none⟩ v9
  have hba5 : Below w5.heap.size w8 (w8.alloc o) := hba.mono hgr.size
  have hcb9 : Cb w9 pb [.int .i64 s, .int .i64 n, u, v7, vb] 33 := (hcb.below hba).keep (hb.block pb hlt)
  have hva : w9.ownsRow w5.heap.size 3 1 v7 (Pn.shA 0 ls ++ [z]).length (KI.cs (Pn.shA 0 ls ++ [z])) := by
    have h1 := hsh.alloc o
    refine row_stays h1 fun k hk => hg.block k (h1.lt k hk).2 (fun e => ?_)
    exact rows_apart19 (hpl.alloc o) h1 (by decide) k hk e.symm
  have e1 : Pn.shA 0 (ls ++ [l]) = Pn.shA 0 ls ++ [z] := by rw [Pn.shA_snoc, if_neg h0, hz, Nat.zero_add]
  have e2 : Pn.plA (ls ++ [l]) = Pn.plA ls ++ [l] := by rw [Pn.plA_snoc, if_neg h0]
  refine ⟨⟨hcb9.set 4 v9, ?_, ?_, by rw [e2, List.length_append, List.length_append, hlen]; rfl, fun j y l' hy hl' => ?_, grownBy_trans (grown_low19 hgr (hba5.trans hb)) hs, hlt⟩, hcb9⟩
  · rw [e1]
    exact row_stays hva fun k hk => hs.block k (hva.lt k hk).2 (by have := (hva.lt k hk).1; simp; omega)
  · exact row_stays hr fun k hk => hs.block k (hr.lt k hk).2 (by have := (hr.lt k hk).1; simp; omega)
  · rw [e2] at hl'
    by_cases hj : j < us.length
    · rw [List.getElem?_append_left hj] at hy
      rw [List.getElem?_append_left (by omega)] at hl'
      exact hl j y l' hy hl'
    · rw [List.getElem?_append_right (by omega)] at hy
      rw [List.getElem?_append_right (by omega)] at hl'
      have e3 : j - us.length = 0 := by
        have := (List.getElem?_eq_some_iff.1 hy).1
        simp at this
        omega
      rw [← hlen, e3] at hl'
      rw [e3] at hy
      obtain rfl := Option.some.inj hy
      obtain rfl := Option.some.inj hl'
      exact hx
/-- What Make tells. -/
def MkP (w : World) (t : Tb.St) (s n : Int) (os : List O) (e : Ending) (w' : World) : Prop := Below w.heap.size w w' ∧
  (Oq.may s n os ≠ 0 → e = .returned (.tuple #[pv Pn.zero nilv nilv nilv, .int .i64 (Oq.may s n os)])) ∧
  (Oq.may s n os = 0 → ∃ u a b, e = .returned (.tuple #[pv (Pn.of t s n os) u a b, .int .i64 0]) ∧ Pv w' (Pn.of t s n os) u a b)
set_option maxRecDepth 20000 in
set_option maxHeartbeats 8000000 in
theorem make_any19 (q : Nat) (t : Tb.St) (F : Nat → Prop) (m : Int) (s n : Int) (u : Value) (os : List O) (w : World) (hL : LTb w q t F) (ht : Tb.Fine m t) (hS : Pa.Std w) (hu : Ol w u os) (hl : os.length ≤ maxLen) (hf : ∀ o ∈ os, Fit o) :
    Calls Tryz.prog 10 #[dptr q, .agg #[.int .i64 s, .int .i64 n, u]] w (MkP w t s n os) := by
  obtain ⟨ux, uk, uc, rfl, huk, _⟩ := id hu
  obtain ⟨N, hN⟩ : ∃ N, N = os.length := ⟨_, rfl⟩
  rw [huk, ← hN] at hu ⊢
  have H : Hid (Ol w (.slice ux N uc) os ∧ Pa.Std w ∧ os.length ≤ maxLen ∧ (∀ o ∈ os, Fit o) ∧ LTb w q t F ∧ Tb.Fine m t ∧ N = os.length) := ⟨hu, hS, hl, hf, hL, ht, hN⟩
  obtain ⟨e0, he0⟩ : ∃ e, e = Oq.may s n os := ⟨_, rfl⟩
  have HE : Hid (e0 = Oq.may s n os) := he0
  have HM : Hid (∀ w', Pa.Std w' → Ol w' (.slice ux N uc) os → Calls Tryz.prog 32 #[.agg #[.int .i64 s, .int .i64 n, .slice ux N uc]] w' fun e w'' => e = .returned (.int .i64 e0) ∧ Below w'.heap.size w' w'') := fun w' h1 h2 => by
    rw [he0]
    exact may_spec s n _ os w' h1 h2 hl hf
  clear hS hu hl hf he0 hL ht huk hN
  unfold dptr
  obtain ⟨rb, hrb⟩ : ∃ z, z = w.heap.size := ⟨_, rfl⟩
  obtain ⟨cb, hcb⟩ : ∃ z, z = w.heap.size + 1 := ⟨_, rfl⟩
  have H0 : Hid (Below w.heap.size w ((w.alloc (.cells #[.int .i64 s, .int .i64 n, .slice ux N uc] 30)).alloc (.cells #[.int .i64 0, .int .i64 0, .slice none 0 0, .slice none 0 0, .slice none 0 0] 33)) ∧ Cb ((w.alloc (.cells #[.int .i64 s, .int .i64 n, .slice ux N uc] 30)).alloc (.cells #[.int .i64 0, .int .i64 0, .slice none 0 0, .slice none 0 0, .slice none 0 0] 33)) rb [.int .i64 s, .int .i64 n, .slice ux N uc] 30 ∧ Cb ((w.alloc (.cells #[.int .i64 s, .int .i64 n, .slice ux N uc] 30)).alloc (.cells #[.int .i64 0, .int .i64 0, .slice none 0 0, .slice none 0 0, .slice none 0 0] 33)) cb [.int .i64 0, .int .i64 0, .slice none 0 0, .slice none 0 0, .slice none 0 0] 33 ∧ rb ≠ cb ∧ w.heap.size ≤ rb ∧ w.heap.size ≤ cb) := by
    have h1 := (Below.refl _ w).alloc (Nat.le_refl _) (.cells #[.int .i64 s, .int .i64 n, .slice ux N uc] 30)
    have h2 := (Below.refl _ (w.alloc (.cells #[.int .i64 s, .int .i64 n, .slice ux N uc] 30))).alloc (Nat.le_refl _) (.cells #[.int .i64 0, .int .i64 0, .slice none 0 0, .slice none 0 0, .slice none 0 0] 33)
    have h3 := Cb.made (w.alloc (.cells #[.int .i64 s, .int .i64 n, .slice ux N uc] 30)) [.int .i64 0, .int .i64 0, .slice none 0 0, .slice none 0 0, .slice none 0 0] 33
    rw [World.size_alloc] at h3
    rw [hrb, hcb]
    exact ⟨h1.trans (h2.mono h1.size), (Cb.made w [.int .i64 s, .int .i64 n, .slice ux N uc] _).below h2, h3, by omega, by omega, by omega⟩
  go_enter Tryz.func10, Tryz.ntmps10
  go_wp2_with fail
  rw [← hcb, ← hrb]
  clear hcb hrb
  generalize ((w.alloc (.cells #[.int .i64 s, .int .i64 n, .slice ux N uc] 30)).alloc (.cells #[.int .i64 0, .int .i64 0, .slice none 0 0, .slice none 0 0, .slice none 0 0] 33)) = w0 at *
  refine (HM.out w0 (H.out.2.1.below H0.out.1) (H.out.1.below H0.out.1)).mono ?_
  rintro e w1 ⟨rfl, hb⟩
  have H1 : Hid (Below w.heap.size w w1 ∧ Cb w1 rb [.int .i64 s, .int .i64 n, .slice ux N uc] 30 ∧ Cb w1 cb [.int .i64 0, .int .i64 0, .slice none 0 0, .slice none 0 0, .slice none 0 0] 33) := ⟨H0.out.1.trans (hb.mono H0.out.1.size), H0.out.2.1.below hb, H0.out.2.2.1.below hb⟩
  clear hb HM
  by_cases he : e0 = 0
  · have hb0 : (e0 != 0) = false := by simp [he]
    have HE0 : Hid (Oq.may s n os = 0) := HE.out.symm.trans he
    have HZ : Hid (os ≠ [] ∧ os.length ≤ 16 ∧ ∀ o ∈ os, o.path.size ≤ 200) := by
      obtain ⟨_, _, h1, h2, h3⟩ := may_sizes HE0.out
      exact ⟨fun e => (by rw [e] at h1; simp at h1), h2, fun o ho => (h3 o ho).1⟩
    clear he HE
    have d2 : w1.cell? ⟨rb, 2, none⟩ = some (.slice ux N uc) := H1.out.2.1.cell 2
    go_wp2_with fail
    refine (cloneO_any19 _ os w1 (H.out.1.below H1.out.1) HZ.out.1 (by have := HZ.out.2.1; omega)).mono ?_
    rintro e w2 ⟨g2, c2, rfl, hol, hg2, hg2', hb⟩
    rw [← H.out.2.2.2.2.2.2] at hol ⊢
    have H2 : Hid (Ol w2 (.slice (some ⟨g2, 0, none⟩) N c2) os ∧ Below w.heap.size w w2 ∧ Cb w2 rb [.int .i64 s, .int .i64 n, .slice ux N uc] 30 ∧ Cb w2 cb [.int .i64 0, .int .i64 0, .slice none 0 0, .slice none 0 0, .slice none 0 0] 33 ∧ g2 ≠ rb ∧ g2 < w2.heap.size ∧ cb < w2.heap.size) := ⟨hol, H1.out.1.trans (hb.mono H1.out.1.size), H1.out.2.1.below hb, H1.out.2.2.below hb, by have := H1.out.2.1.lt; omega, hg2', by have := H1.out.2.2.lt; have := hb.size; omega⟩
    have HGC : Hid (g2 ≠ cb) := (show g2 ≠ cb by have := H1.out.2.2.lt; omega)
    clear hol hg2 hg2' hb d2
    have d2 : w2.cell? ⟨rb, 2, none⟩ = some (.slice ux N uc) := H2.out.2.2.1.cell 2
    have f2 : w2.frozen? ⟨rb, 2, none⟩ = false := H2.out.2.2.1.free 2
    have H3 : Hid (Ol (w2.setCell ⟨rb, 2, none⟩ (.slice (some ⟨g2, 0, none⟩) N c2)) (.slice (some ⟨g2, 0, none⟩) N c2) os ∧ Below w.heap.size w (w2.setCell ⟨rb, 2, none⟩ (.slice (some ⟨g2, 0, none⟩) N c2)) ∧ Cb (w2.setCell ⟨rb, 2, none⟩ (.slice (some ⟨g2, 0, none⟩) N c2)) rb [.int .i64 s, .int .i64 n, (.slice (some ⟨g2, 0, none⟩) N c2)] 30 ∧ Cb (w2.setCell ⟨rb, 2, none⟩ (.slice (some ⟨g2, 0, none⟩) N c2)) cb [.int .i64 0, .int .i64 0, .slice none 0 0, .slice none 0 0, .slice none 0 0] 33 ∧ (w2.setCell ⟨rb, 2, none⟩ (.slice (some ⟨g2, 0, none⟩) N c2)).heap.size = w2.heap.size) := by
      have hg := grownBy_setCell w2 ⟨rb, 2, none⟩ (.slice (some ⟨g2, 0, none⟩) N c2)
      refine ⟨H2.out.1.grown19 hg (fun e => H2.out.2.2.2.2.1 (Option.some.inj e)), H2.out.2.1.grown hg H2.out.2.1.size (fun j hj => by have := H0.out.2.2.2.2.1; simp at hj; omega), H2.out.2.2.1.set 2 _, H2.out.2.2.2.1.keep (hg.block cb H2.out.2.2.2.1.lt (by simpa using fun e => H0.out.2.2.2.1 e.symm)), World.size_setCell _ _ _⟩
    go_upto_region 5 with fail
    have hsz : (w2.setCell ⟨rb, 2, none⟩ (.slice (some ⟨g2, 0, none⟩) N c2)).heap.size = w2.heap.size := H3.out.2.2.2.2
    clear d2 f2
    generalize (w2.setCell ⟨rb, 2, none⟩ (.slice (some ⟨g2, 0, none⟩) N c2)) = w3 at *
    have r0 : w3.cell? ⟨rb, 0, none⟩ = some (.int .i64 s) := H3.out.2.2.1.cell 0
    have r1 : w3.cell? ⟨rb, 1, none⟩ = some (.int .i64 n) := H3.out.2.2.1.cell 1
    have r2 : w3.cell? ⟨rb, 2, none⟩ = some (.slice (some ⟨g2, 0, none⟩) N c2) := H3.out.2.2.1.cell 2
    obtain ⟨pb, hpb⟩ : ∃ z, z = w3.heap.size := ⟨_, rfl⟩
    have H4 : Hid (Ol (w3.alloc (.cells #[.int .i64 s, .int .i64 n, (.slice (some ⟨g2, 0, none⟩) N c2), .slice none 0 0, .slice none 0 0] 33)) (.slice (some ⟨g2, 0, none⟩) N c2) os ∧ Below w.heap.size w (w3.alloc (.cells #[.int .i64 s, .int .i64 n, (.slice (some ⟨g2, 0, none⟩) N c2), .slice none 0 0, .slice none 0 0] 33)) ∧ Cb (w3.alloc (.cells #[.int .i64 s, .int .i64 n, (.slice (some ⟨g2, 0, none⟩) N c2), .slice none 0 0, .slice none 0 0] 33)) rb [.int .i64 s, .int .i64 n, (.slice (some ⟨g2, 0, none⟩) N c2)] 30 ∧ Cb (w3.alloc (.cells #[.int .i64 s, .int .i64 n, (.slice (some ⟨g2, 0, none⟩) N c2), .slice none 0 0, .slice none 0 0] 33)) cb [.int .i64 0, .int .i64 0, .slice none 0 0, .slice none 0 0, .slice none 0 0] 33 ∧ Cb (w3.alloc (.cells #[.int .i64 s, .int .i64 n, (.slice (some ⟨g2, 0, none⟩) N c2), .slice none 0 0, .slice none 0 0] 33)) pb [.int .i64 s, .int .i64 n, (.slice (some ⟨g2, 0, none⟩) N c2), .slice none 0 0, .slice none 0 0] 33 ∧ g2 ≠ pb ∧ cb < pb ∧ w.heap.size ≤ pb) := by
      have hb2 := (Below.refl _ w3).alloc (Nat.le_refl _) (.cells #[.int .i64 s, .int .i64 n, (.slice (some ⟨g2, 0, none⟩) N c2), .slice none 0 0, .slice none 0 0] 33)
      have h3 := Cb.made w3 [.int .i64 s, .int .i64 n, (.slice (some ⟨g2, 0, none⟩) N c2), .slice none 0 0, .slice none 0 0] 33
      rw [← hpb] at h3
      have h6 := H2.out.2.2.2.2.2
      have h7 := H2.out.2.1.size
      exact ⟨H3.out.1.below hb2, H3.out.2.1.trans (hb2.mono H3.out.2.1.size), H3.out.2.2.1.below hb2, H3.out.2.2.2.1.below hb2, h3, by omega, by omega, by omega⟩
    clear hsz
    go_upto_region 6 with fail
    rw [← hpb]
    clear hpb H3 H2 r0 r1 r2
    generalize (w3.alloc (.cells #[.int .i64 s, .int .i64 n, (.slice (some ⟨g2, 0, none⟩) N c2), .slice none 0 0, .slice none 0 0] 33)) = w4 at *
    have d2 : w4.cell? ⟨rb, 2, none⟩ = some (.slice (some ⟨g2, 0, none⟩) N c2) := H4.out.2.2.1.cell 2
    obtain ⟨ls, hls⟩ : ∃ l, l = Tb.split t (os.map O.path) := ⟨_, rfl⟩
    obtain ⟨S, hS⟩ : ∃ S, S = t.shards.toNat := ⟨_, rfl⟩
    have HLS : Hid (ls = Tb.split t (os.map O.path) ∧ ls.length = S ∧ S ≤ 4 ∧ ∀ l ∈ ls, l.length ≤ 16) := by
      have h1 := H.out.2.2.2.2.2.1.sh2
      have h2 := H.out.2.2.2.2.2.1.sh1
      refine ⟨hls, by rw [hls, Tb.split_len, hS], by omega, fun l hl => ?_⟩
      obtain ⟨k, hk⟩ := List.mem_iff_getElem?.1 hl
      rw [hls] at hk
      rw [(Tb.split_at hk).2]
      have h3 := Tb.places_len (Tb.of t) (os.map O.path) (k : Int)
      rw [List.length_map] at h3
      have := HZ.out.2.1
      omega
    have hS4 : S ≤ 4 := HLS.out.2.2.1
    have HSP : Hid (Calls Tryz.prog 34 #[dptr q, (.slice (some ⟨g2, 0, none⟩) N c2)] w4 fun e w' => ∃ g us, e = .returned (.slice (some ⟨g, 0, none⟩) S S) ∧ Sp16 w4.heap.size w' g us ls ∧ Below w4.heap.size w4 w') := by
      refine (split_own16 q t F m (.slice (some ⟨g2, 0, none⟩) N c2) os w4 (LTb.keep H.out.2.2.2.2.1 fun k hk => H4.out.2.1.block k (LTb.lt H.out.2.2.2.2.1 hk)) H.out.2.2.2.2.2.1 (H.out.2.1.below H4.out.2.1) H4.out.1 (by have := HZ.out.2.1; omega) (fun o ho => by have := HZ.out.2.2 o ho; unfold maxLen; omega)).mono ?_
      rintro e w' ⟨S', g, us, rfl, hS', hsp, hb⟩
      rw [← hS] at hS'
      subst hS'
      rw [← hls] at hsp
      exact ⟨g, us, rfl, hsp, hb⟩
    clear hls hS
    go_wp2_with fail
    refine HSP.out.mono ?_
    rintro e w5 ⟨g5, uz, rfl, hsp, hb⟩
    have H5 : Hid (Sp16 w4.heap.size w5 g5 uz ls ∧ Ol w5 (.slice (some ⟨g2, 0, none⟩) N c2) os ∧ Below w.heap.size w w5 ∧ Cb w5 cb [.int .i64 0, .int .i64 0, .slice none 0 0, .slice none 0 0, .slice none 0 0] 33 ∧ Cb w5 pb [.int .i64 s, .int .i64 n, (.slice (some ⟨g2, 0, none⟩) N c2), .slice none 0 0, .slice none 0 0] 33 ∧ pb < w4.heap.size) := ⟨hsp, H4.out.1.below hb, H4.out.2.1.trans (hb.mono H4.out.2.1.size), H4.out.2.2.2.1.below hb, H4.out.2.2.2.2.1.below hb, H4.out.2.2.2.2.1.lt⟩
    clear hsp hb HSP d2
    go_wp2
    go_loopw [27] (fun i wx => ∃ (k : Nat) (va vb : Value) (us : List Value), k ≤ S ∧ i = .int .i64 (k : Int) ∧ Mk19 w5 wx pb s n (.slice (some ⟨g2, 0, none⟩) N c2) va vb (ls.take k) us) (fun i _ => S - (intOf i).toNat)
    case atStart => exact ⟨0, _, _, [], Nat.zero_le _, rfl, H5.out.2.2.2.2.1, World.ownsRow_nil _ _ _ _, World.ownsRow_nil _ _ _ _, rfl, fun j x l h => by simp at h, grownBy_below (Below.refl _ _), H5.out.2.2.2.2.1.lt⟩
    case round =>
      obtain ⟨k, va, vb, us, hk, rfl, hmk⟩ := hrel
      have HW : Hid (Mk19 w5 wr pb s n (.slice (some ⟨g2, 0, none⟩) N c2) va vb (ls.take k) us) := hmk
      clear hmk
      have hk0 : (0 : Int) ≤ (k : Int) := by omega
      have hwk : IntKind.wrap .i64 ((k : Int) + 1) = (k : Int) + 1 := by rw [IntKind.wrap_i64]; omega
      by_cases hlt : k < S
      · have hlt' : (k : Int) < (S : Int) := by omega
        obtain ⟨l, hl⟩ : ∃ l, ls[k]? = some l := ⟨ls[k]'(by have := HLS.out.2.1; omega), List.getElem?_eq_getElem _⟩
        obtain ⟨v, hv⟩ : ∃ v, uz[k]? = some v := ⟨uz[k]'(by have := H5.out.1.len; have := HLS.out.2.1; omega), List.getElem?_eq_getElem _⟩
        have hrow := H5.out.1.own k l v hl hv
        have c0 : wr.cell? ⟨g5, k, none⟩ = some v := by
          have h1 := H5.out.1.lo
          have h2 := H5.out.2.2.2.2.2
          have hq := H5.out.1.blk.keep (HW.out.grown.block g5 H5.out.1.blk.lt (by simp; omega))
          rw [hq.cell k]
          exact hv
        have hpbv : ∀ b, v.ownBlock = some b → pb < b := fun b e => by
          have h1 := (hrow.lt b e).1
          have h2 := H5.out.2.2.2.2.2
          omega
        have htk : ls.take (k + 1) = ls.take k ++ [l] := by rw [List.take_add_one, hl]; rfl
        have hkl : (ls.take k).length = k := by rw [List.length_take]; have := HLS.out.2.1; omega
        obtain ⟨va0, vc0, rfl, _, _⟩ := row_form hrow
        obtain ⟨M, hM⟩ : ∃ M, M = l.length := ⟨_, rfl⟩
        have hM16 : M ≤ 16 := by rw [hM]; exact HLS.out.2.2.2 l (List.mem_of_getElem? hl)
        rw [← hM] at c0 hpbv
        by_cases h0 : l = []
        · have hgt : ¬ (0 : Int) < (M : Int) := by rw [hM, h0]; simp
          have HN : Hid (Mk19 w5 wr pb s n (.slice (some ⟨g2, 0, none⟩) N c2) va vb (ls.take (k + 1)) us) := by
            have hm := HW.out
            have e1 : Pn.shA 0 (ls.take (k + 1)) = Pn.shA 0 (ls.take k) := by rw [htk, Pn.shA_snoc, if_pos h0, List.append_nil]
            have e2 : Pn.plA (ls.take (k + 1)) = Pn.plA (ls.take k) := by rw [htk, Pn.plA_snoc, if_pos h0, List.append_nil]
            exact ⟨hm.blk, by rw [e1]; exact hm.sh, hm.pl, by rw [e2]; exact hm.len, by rw [e2]; exact hm.at_, hm.grown, hm.lt⟩
          clear hl hv hrow hpbv htk hkl hM h0
          go_wp2
          go_roundw
          case rel => exact ⟨k + 1, va, vb, us, by omega, by go_num, HN.out⟩
          case measure => simp [intOf]; omega
        · have hgt : (0 : Int) < (M : Int) := by have := List.length_pos_iff.2 h0; omega
          have HX : Hid ((KI.At w5 (.slice va0 M vc0) l ∧ (Value.slice va0 M vc0).oneCell' = true ∧ ∀ b, (Value.slice va0 M vc0).ownBlock = some b → pb < b) ∧ l ≠ [] ∧ ls.take (k + 1) = ls.take k ++ [l] ∧ (ls.take k).length = k) := by
            have h1 := KI.of_bi (Bi.own16 hrow) h0
            rw [← hM] at h1
            exact ⟨⟨h1, rfl, hpbv⟩, h0, htk, hkl⟩
          clear hl hv hrow hpbv htk hkl hM h0
          obtain ⟨va1, vc1, rfl, _, _⟩ := row_form HW.out.sh
          obtain ⟨vb1, vd1, rfl, _, _⟩ := row_form HW.out.pl
          obtain ⟨L1, hL1⟩ : ∃ L, L = (Pn.shA 0 (ls.take k)).length := ⟨_, rfl⟩
          obtain ⟨L2, hL2⟩ : ∃ L, L = us.length := ⟨_, rfl⟩
          rw [← hL1, ← hL2] at HW
          have HLL : Hid (L1 = (Pn.shA 0 (ls.take k)).length ∧ L2 = us.length ∧ L1 ≤ 4 ∧ L2 ≤ 4) := by
            have h1 := Pn.shA_len 0 (ls.take k)
            have h2 := Pn.plA_len (ls.take k)
            have h3 := HX.out.2.2.2
            have h4 := HW.out.len
            refine ⟨hL1, hL2, by omega, by omega⟩
          clear hL1 hL2
          have p3 : wr.cell? ⟨pb, 3, none⟩ = some (.slice va1 L1 vc1) := HW.out.blk.cell 3
          obtain ⟨sb, hsb⟩ : ∃ z, z = wr.heap.size := ⟨_, rfl⟩
          have H6 : Hid (Cb (wr.alloc (.cells #[.int .i64 (k : Int)] 3)) sb [.int .i64 (k : Int)] 3 ∧ w5.heap.size ≤ (wr.alloc (.cells #[.int .i64 (k : Int)] 3)).heap.size ∧ (wr.alloc (.cells #[.int .i64 (k : Int)] 3)).ownsRow w5.heap.size 3 1 (.slice va1 L1 vc1) (Pn.shA 0 (ls.take k)).length (KI.cs (Pn.shA 0 (ls.take k)))) := by
            rw [hsb]
            exact ⟨Cb.made wr [.int .i64 (k : Int)] _, Nat.le_trans HW.out.grown.size ((Below.refl _ wr).alloc (Nat.le_refl _) _).size, HW.out.sh.alloc _⟩
          go_upto_region 10 with fail
          go_wp2_with (at_builtin; rw [← hsb]; refine KI.ok.appL rfl _ _ rfl w5.heap.size (.slice va1 L1 vc1) (.slice (some ⟨sb, 0, none⟩) 1 1) (Pn.shA 0 (ls.take k)) [(k : Int)] (wr.alloc (.cells #[.int .i64 (k : Int)] 3)) rfl rfl H6.out.2.2 H6.out.2.1 (Kd.one_at H6.out.1) (KI.one _) (by have := HLL.out.2.2.1; have := HLL.out.1; simp; omega) ?_)
          intro v7 w7 hr7 hb7 hg7 _
          have hr7 : w7.ownsRow w5.heap.size 3 1 v7 (Pn.shA 0 (ls.take k) ++ [(k : Int)]).length (KI.cs (Pn.shA 0 (ls.take k) ++ [(k : Int)])) := by
            rw [List.length_append]
            exact hr7
          have h7 := HW.out.num _ hr7 hb7 hg7
          have q3 : w7.cell? ⟨pb, 3, none⟩ = some (.slice va1 L1 vc1) := h7.2.2.2.2.cell 3
          have f3 : w7.frozen? ⟨pb, 3, none⟩ = false := h7.2.2.2.2.free 3
          have H7 : Hid (Cb (w7.setCell ⟨pb, 3, none⟩ v7) pb [.int .i64 s, .int .i64 n, (.slice (some ⟨g2, 0, none⟩) N c2), v7, .slice vb1 L2 vd1] 33 ∧ (w7.setCell ⟨pb, 3, none⟩ v7).ownsRow w5.heap.size 3 1 v7 (Pn.shA 0 (ls.take k) ++ [(k : Int)]).length (KI.cs (Pn.shA 0 (ls.take k) ++ [(k : Int)])) ∧ (w7.setCell ⟨pb, 3, none⟩ v7).ownsRow w5.heap.size 27 1 (.slice vb1 L2 vd1) us.length (KS.cs us) ∧ w5.grownBy (w7.setCell ⟨pb, 3, none⟩ v7) (some pb)) := ⟨h7.1, h7.2.1, h7.2.2.1, h7.2.2.2.1⟩
          obtain ⟨va7, vc7, e7, _, _⟩ := row_form H7.out.2.1
          obtain ⟨L7, hL7⟩ : ∃ L, L = (Pn.shA 0 (ls.take k) ++ [(k : Int)]).length := ⟨_, rfl⟩
          rw [← hL7] at e7
          subst e7
          clear hr7 hb7 hg7 h7 H6 hsb p3 hL7
          go_upto_region 11 with fail
          clear q3 f3
          generalize w7.setCell ⟨pb, 3, none⟩ (.slice va7 L7 vc7) = w8 at *
          have p4 : w8.cell? ⟨pb, 4, none⟩ = some (.slice vb1 L2 vd1) := H7.out.1.cell 4
          obtain ⟨sb, hsb⟩ : ∃ z, z = w8.heap.size := ⟨_, rfl⟩
          have H8 : Hid (Cb (w8.alloc (.cells #[.slice va0 M vc0] 27)) sb [.slice va0 M vc0] 27 ∧ w5.heap.size ≤ (w8.alloc (.cells #[.slice va0 M vc0] 27)).heap.size ∧ (w8.alloc (.cells #[.slice va0 M vc0] 27)).ownsRow w5.heap.size 27 1 (.slice vb1 L2 vd1) us.length (KS.cs us)) := by
            rw [hsb]
            exact ⟨Cb.made w8 [.slice va0 M vc0] _, Nat.le_trans H7.out.2.2.2.size ((Below.refl _ w8).alloc (Nat.le_refl _) _).size, H7.out.2.2.1.alloc _⟩
          go_wp2_with (at_builtin; rw [← hsb]; refine KS.ok.appL rfl _ _ rfl w5.heap.size (.slice vb1 L2 vd1) (.slice (some ⟨sb, 0, none⟩) 1 1) us [.slice va0 M vc0] (w8.alloc (.cells #[.slice va0 M vc0] 27)) rfl rfl H8.out.2.2 H8.out.2.1 (Kd.one_at H8.out.1) (fun y hy => by have hy : y ∈ [Value.slice va0 M vc0] := hy; simp only [List.mem_cons, List.not_mem_nil, or_false] at hy; rw [hy]; rfl) (by have := HLL.out.2.2.2; have := HLL.out.2.1; simp; omega) ?_)
          intro v9 w9 hr9 hb9 hg9 _
          have hr9 : w9.ownsRow w5.heap.size 27 1 v9 (us ++ [Value.slice va0 M vc0]).length (KS.cs (us ++ [Value.slice va0 M vc0])) := by
            rw [List.length_append]
            exact hr9
          have h9 := Mk19.places (l := l) (z := (k : Int)) _ HW.out.at_ HW.out.len HW.out.lt H7.out.1 H7.out.2.1 H7.out.2.2.1 H7.out.2.2.2 hr9 hb9 hg9 HX.out.1 HX.out.2.1 (by rw [HX.out.2.2.2])
          have q4 : w9.cell? ⟨pb, 4, none⟩ = some (.slice vb1 L2 vd1) := h9.2.cell 4
          have f4 : w9.frozen? ⟨pb, 4, none⟩ = false := h9.2.free 4
          have H9 : Hid (Mk19 w5 (w9.setCell ⟨pb, 4, none⟩ v9) pb s n (.slice (some ⟨g2, 0, none⟩) N c2) (.slice va7 L7 vc7) v9 (ls.take (k + 1)) (us ++ [.slice va0 M vc0])) := by
            rw [HX.out.2.2.1]
            exact h9.1
          obtain ⟨va9, vc9, e9, _, _⟩ := row_form H9.out.pl
          obtain ⟨L9, hL9⟩ : ∃ L, L = (us ++ [Value.slice va0 M vc0]).length := ⟨_, rfl⟩
          rw [← hL9] at e9
          subst e9
          clear hr9 hb9 hg9 h9 H8 hsb p4 hL9
          go_wp2
          go_roundw
          case rel => exact ⟨k + 1, _, _, _, by omega, by go_num, H9.out⟩
          case measure => simp [intOf]; omega
      · have hlt' : ¬ (k : Int) < (S : Int) := by omega
        have HF : Hid (Mk19 w5 wr pb s n (.slice (some ⟨g2, 0, none⟩) N c2) va vb ls us) := by
          have h := HW.out
          rw [List.take_of_length_le (by have := HLS.out.2.1; omega)] at h
          exact h
        obtain ⟨va1, vc1, rfl, _, _⟩ := row_form HF.out.sh
        obtain ⟨vb1, vd1, rfl, _, _⟩ := row_form HF.out.pl
        obtain ⟨L1, hL1⟩ : ∃ L, L = (Pn.shA 0 ls).length := ⟨_, rfl⟩
        obtain ⟨L2, hL2⟩ : ∃ L, L = us.length := ⟨_, rfl⟩
        rw [← hL1, ← hL2] at HF
        clear hL1 hL2 HW
        have r0 : wr.cell? ⟨pb, 0, none⟩ = some (.int .i64 s) := HF.out.blk.cell 0
        have r1 : wr.cell? ⟨pb, 1, none⟩ = some (.int .i64 n) := HF.out.blk.cell 1
        have r2 : wr.cell? ⟨pb, 2, none⟩ = some (.slice (some ⟨g2, 0, none⟩) N c2) := HF.out.blk.cell 2
        have r3 : wr.cell? ⟨pb, 3, none⟩ = some (.slice va1 L1 vc1) := HF.out.blk.cell 3
        have r4 : wr.cell? ⟨pb, 4, none⟩ = some (.slice vb1 L2 vd1) := HF.out.blk.cell 4
        have HCB : Hid (Cb wr cb [.int .i64 0, .int .i64 0, .slice none 0 0, .slice none 0 0, .slice none 0 0] 33 ∧ Ol wr (.slice (some ⟨g2, 0, none⟩) N c2) os ∧ Below w.heap.size w wr) := by
          have hg := HF.out.grown
          refine ⟨H5.out.2.2.2.1.keep (hg.block cb H5.out.2.2.2.1.lt (by have := H4.out.2.2.2.2.2.2.1; simp; omega)), H5.out.2.1.grown19 hg (fun e => H4.out.2.2.2.2.2.1 (Option.some.inj e)), H5.out.2.2.1.grown hg H5.out.2.2.1.size (fun j hj => by have := H4.out.2.2.2.2.2.2.2; simp at hj; omega)⟩
        go_wp2_with (refine wpList_store_row rfl 33 _ _ rfl cb #[.int .i64 s, .int .i64 n, (.slice (some ⟨g2, 0, none⟩) N c2), .slice va1 L1 vc1, .slice vb1 L2 vd1] rfl rfl 33 _ HCB.out.1 (by kernel_rfl) rfl (by kernel_rfl) ?_)
        have HPV : Hid (Pv wr (Pn.of t s n os) (.slice (some ⟨g2, 0, none⟩) N c2) (.slice va1 L1 vc1) (.slice vb1 L2 vd1)) := by
          have hlen := HF.out.len
          refine ⟨HCB.out.2.1, ?_, us, ?_, ?_, fun j x l hx hl => ?_⟩
          · have h := KI.ok.row (show wr.ownsRow w5.heap.size KI.T KI.sz _ (Pn.shA 0 ls).length (KI.cs (Pn.shA 0 ls)) from HF.out.sh)
            rw [HLS.out.1] at h
            exact h
          · exact KS.ok.row (show wr.ownsRow w5.heap.size KS.T KS.sz _ us.length (KS.cs us) from HF.out.pl)
          · rw [HLS.out.1] at hlen
            exact hlen
          · have h1 := HF.out.at_ j x l hx (by rw [HLS.out.1]; exact hl)
            exact h1.1.grown HF.out.grown (fun e => by have := h1.2.2 pb e; omega)
        have HPV2 : Hid (Pv (wr.setRow cb #[.int .i64 s, .int .i64 n, (.slice (some ⟨g2, 0, none⟩) N c2), .slice va1 L1 vc1, .slice vb1 L2 vd1]) (Pn.of t s n os) (.slice (some ⟨g2, 0, none⟩) N c2) (.slice va1 L1 vc1) (.slice vb1 L2 vd1)) := by
          have hg := rowed_grown wr cb #[.int .i64 s, .int .i64 n, (.slice (some ⟨g2, 0, none⟩) N c2), .slice va1 L1 vc1, .slice vb1 L2 vd1]
          have hcl := H5.out.2.2.2.1.lt
          have hcp := H4.out.2.2.2.2.2.2.1
          obtain ⟨us', h1, h2, h3⟩ := HPV.out.pl
          have hsh := HF.out.sh
          have hpl := HF.out.pl
          refine ⟨HPV.out.os.grown19 hg (fun e => HGC.out (Option.some.inj e)), HPV.out.sh.grown hg (fun e => ?_), us, ?_, ?_, fun j x l hx hl => ?_⟩
          · have := (hsh.lt cb e).1
            omega
          · have h := KS.ok.row (show wr.ownsRow w5.heap.size KS.T KS.sz _ us.length (KS.cs us) from HF.out.pl)
            refine h.grown hg (fun e => ?_)
            have := (hpl.lt cb e).1
            omega
          · have h := HF.out.len
            rw [HLS.out.1] at h
            exact h
          · have h1 := HF.out.at_ j x l hx (by rw [HLS.out.1]; exact hl)
            exact (h1.1.grown HF.out.grown (fun e => by have := h1.2.2 pb e; omega)).grown hg (fun e => by have := h1.2.2 cb e; omega)
        refine bodyPost_ret (v := .tuple #[.agg #[.int .i64 s, .int .i64 n, (.slice (some ⟨g2, 0, none⟩) N c2), .slice va1 L1 vc1, .slice vb1 L2 vd1], .int .i64 0]) ?_ rfl ⟨rowed_below HCB.out.2.2 (Nat.le_refl _) H0.out.2.2.2.2.2 _, fun e => absurd HE0.out e, fun _ => ⟨_, _, _, rfl, HPV2.out⟩⟩
        exact (results_cell_tmp19 (p := 4) (s := 5) rfl _ _ cb 33 _ (0, 0) _ rfl (HCB.out.1.rowed [.int .i64 s, .int .i64 n, (.slice (some ⟨g2, 0, none⟩) N c2), .slice va1 L1 vc1, .slice vb1 L2 vd1]) Tryz.underlying33 rfl (by kernel_rfl)).trans rfl
  · have hb0 : (e0 != 0) = true := by simp [he]
    go_wp2_with (refine wpList_store_row rfl 33 _ _ rfl cb #[.int .i64 0, .int .i64 0, .slice none 0 0, .slice none 0 0, .slice none 0 0] rfl rfl 33 _ H1.out.2.2 (by kernel_rfl) rfl (by kernel_rfl) ?_)
    refine bodyPost_ret (v := .tuple #[.agg #[.int .i64 0, .int .i64 0, .slice none 0 0, .slice none 0 0, .slice none 0 0], .int .i64 e0]) ?_ rfl ⟨rowed_below H1.out.1 (Nat.le_refl _) H0.out.2.2.2.2.2 _, fun _ => by rw [← HE.out]; rfl, fun e => absurd (HE.out.trans e) he⟩
    exact (results_cell_tmp19 (p := 4) (s := 5) rfl _ _ cb 33 _ (0, 0) _ rfl (H1.out.2.2.rowed [.int .i64 0, .int .i64 0, .slice none 0 0, .slice none 0 0, .slice none 0 0]) Tryz.underlying33 rfl (by kernel_rfl)).trans rfl
end Go.Proofs.YtjimemnkmpapgaaGreatDoor
