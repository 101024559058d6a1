/- RouteWhole's walk. -/
import Derived.Test.YtpjdjobdbandhaaDoorLMoves16
import Derived.Test.YtpjdjobdbandhaaDoorLibQ
namespace Go.Proofs.YtpjdjobdbandhaaDoor
open Go.RowKit

theorem infoBool : (Tryd.prog.info? 4).map (fun i => (i.zero, i.size, i.bytes)) = some (some (.bool false), 1, 1) := by kernel_rfl
/-- Truths, one for each place. -/
def bcs (N : Nat) (B : Nat → Bool) : List Value := (List.range N).map fun j => Value.bool (B j)
def upd (B : Nat → Bool) (n : Nat) : Nat → Bool := fun j => if j = n then true else B j
theorem bcs_get {N : Nat} {B : Nat → Bool} {j : Nat} (h : j < N) : (bcs N B)[j]? = some (.bool (B j)) := by
  unfold bcs
  rw [List.getElem?_map, List.getElem?_range h]
  rfl
theorem bcs_set {N : Nat} {B : Nat → Bool} {n : Nat} : (bcs N B).set n (.bool true) = bcs N (upd B n) := by
  apply List.ext_getElem?
  intro j
  by_cases hj : j < N
  · rw [bcs_get hj]
    by_cases e : n = j
    · subst e
      rw [List.getElem?_set_self (by simp [bcs]; exact hj)]
      simp [upd]
    · rw [List.getElem?_set_ne e, bcs_get hj]
      have e2 : ¬ j = n := fun h => e h.symm
      simp [upd, e2]
  · rw [List.getElem?_eq_none (by simp [bcs]; omega), List.getElem?_eq_none (by simp [bcs]; omega)]
theorem bcs_bool {N : Nat} {B : Nat → Bool} {j : Nat} {v : Value} (h : (bcs N B)[j]? = some v) : ∃ b, v = .bool b := by
  unfold bcs at h
  rw [List.getElem?_map] at h
  obtain ⟨a, _, rfl⟩ := Option.map_eq_some_iff.1 h
  exact ⟨_, rfl⟩
theorem Tb.topT_name16 {p : ByteArray} (h : Pl.goodB p.data.toList = true) : Tb.isName (Tb.topT p) = true := (Tb.top_name h).1
theorem Tb.topT_size16 {p : ByteArray} (h : Pl.goodB p.data.toList = true) : (Tb.topT p).size ≤ 40 := by
  have h1 := (Tb.name_len (Tb.top_name h).1).2
  rw [← Pa.sz_list]
  exact h1
theorem Tb.places_iff {f : ByteArray → Int} {ps : List ByteArray} {k : Int} {y : Nat} {pp : ByteArray} (h : ps[y]? = some pp) : (y : Int) ∈ Tb.places f ps k ↔ f pp = k := by
  unfold Tb.places
  rw [Tb.placesA_mem]
  constructor
  · rintro ⟨j, p', h1, h2, h3⟩
    have e : j = y := by omega
    rw [e, h] at h1
    rw [Option.some.inj h1]
    exact h2
  · intro e
    exact ⟨y, pp, h, e, by simp⟩
/-- 'make([]bool, n)'. -/
theorem make_bools16 {ops : Array Oper} {rest : List Oper} {o : Oper} {a : Act} {Q : Exit → Act → World → Prop} (hgd : o.guard = none) (l c : Operand) (ho : o.op = .makeSlice 58 l c)
    (n : Nat) (w : World) (hl : a.eval l = .int .i64 (n : Int)) (hc : a.eval c = .int .i64 (n : Int)) (hN : n ≤ 1000000)
    (h : ∀ w', Cb w' w.heap.size (bcs n fun _ => false) 4 → Below w.heap.size w w' → wpList Tryd.prog ops Q rest (a.put o.dst (.slice (some ⟨w.heap.size, 0, none⟩) n n)) w') : wpList Tryd.prog ops Q (o :: rest) a w := by
  obtain ⟨i0, hi, hz0, hz1, hz2⟩ := info_parts infoBool
  refine wpList_make_full w hgd l c 58 ho w.heap.size 4 i0 (.bool false) 1 Tryd.underlying58 hi hz0 hz1 .i64 .i64 n n n hl hc rfl rfl (by rw [hz2]; omega) (by unfold maxLen; omega) (Nat.le_refl _) ?_
  intro w' hown hg
  refine h w' ?_ ((Below.refl _ w).grown hg (Nat.le_refl _) (fun k hk => by cases hk))
  have e : (madeCells (Value.bool false).cells (n * 1)).toList = bcs n fun _ => false := by
    rw [Nat.mul_one]
    apply List.ext_getElem
    · simp [madeCells, bcs]
    · intro i h1 h2
      simp [madeCells, Value.cells, bcs]
      have : i % 1 = 0 := Nat.mod_one i
      simp [this]
  rw [e] at hown
  rcases hown.2 with ⟨e1, _⟩ | ⟨g, cap, cur, e1, _, hh, _, _, h5, h6⟩
  · cases e1
  · simp only [Value.slice.injEq, Option.some.injEq, Addr.mk.injEq, and_true] at e1
    obtain ⟨rfl, _, rfl⟩ := e1
    unfold Cb
    have h7 : cur.toList.length = n * 1 := by simpa using h5
    rw [List.take_of_length_le (by omega)] at h6
    have e9 : cur = (bcs n fun _ => false).toArray := by
      apply Array.ext'
      rw [h6, List.toList_toArray]
    rw [hh, e9]
/-- A table, truths, and each shard's places. -/
structure Wh16 (LS : Rep16) (W w : World) (q : Nat) (m : Int) (s : Tb.St) (F : Nat → Prop) (gs N : Nat) (B : Nat → Bool) (u : Value) (ls : List (List Int)) : Prop where
  one : Mine16 LS W w q m s F
  cb : Cb w gs (bcs N B) 4
  lo : W.heap.size ≤ gs
  off : ∀ k, F k → k ≠ gs
  two : Bii w u ls
section
variable {LS : Rep16} {W w w' : World} {q gs N n : Nat} {m : Int} {s : Tb.St} {F : Nat → Prop} {B : Nat → Bool} {u : Value} {ls : List (List Int)}
theorem Wh16.later (S : Specs16 LS) (h : Wh16 LS W w q m s F gs N B u ls) (hb : Below w.heap.size w w') : Wh16 LS W w' q m s F gs N B u ls :=
  ⟨h.one.later S hb, h.cb.below hb, h.lo, h.off, h.two.below hb⟩
theorem cell_off16 {g o : Nat} {v x : Value} (h : Cb w gs (bcs N B) 4) (hv : ∀ b, v ≠ .bool b) (hc : w.cell? ⟨g, o, none⟩ = some v) : (w.setCell ⟨gs, n, none⟩ x).cell? ⟨g, o, none⟩ = some v := by
  have hne : g ≠ gs := fun e => by
    subst e
    rw [h.cell] at hc
    obtain ⟨b, e⟩ := bcs_bool hc
    exact hv b e
  have hg := grownBy_setCell w ⟨gs, n, none⟩ x
  rw [World.cell?_of_block (hg.block g (World.block_lt_of_cell? w _ hc) (by simpa using fun e => hne e))]
  exact hc
theorem Wh16.mark (S : Specs16 LS) (h : Wh16 LS W w q m s F gs N B u ls) : Wh16 LS W (w.setCell ⟨gs, n, none⟩ (.bool true)) q m s F gs N (upd B n) u ls := by
  have hg := grownBy_setCell w ⟨gs, n, none⟩ (.bool true)
  refine ⟨⟨S.keep h.one.ld fun k hk => hg.block k (S.lt h.one.ld hk) (by simpa using fun e => h.off k hk e), h.one.fine, h.one.hi, h.one.below.grown hg h.one.below.size (fun k hk => by have := h.lo; simp at hk; omega)⟩, ?_, h.lo, h.off, ?_⟩
  · have := h.cb.set n (.bool true)
    rw [bcs_set] at this
    exact this
  · obtain ⟨av, k, c, hu, hk, hs⟩ := h.two
    refine ⟨av, k, c, hu, hk, fun j l hl => ?_⟩
    obtain ⟨g, o, v, ha, hc, hi⟩ := hs j l hl
    obtain ⟨a2, n2, c2, rfl, hn2, hcs⟩ := hi
    refine ⟨g, o, _, ha, cell_off16 h.cb (fun b e => by cases e) hc, a2, n2, c2, rfl, hn2, fun i z hz => ?_⟩
    obtain ⟨g3, o3, h3, h4⟩ := hcs i z hz
    exact ⟨g3, o3, h3, cell_off16 h.cb (fun b e => by cases e) h4⟩
end
theorem Tb.take_mem {l : List Int} {k : Nat} {z : Int} (hr : l.Pairwise fun a b => a < b) (hz : l[k]? = some z) : z ∉ l.take k := fun h => by
  obtain ⟨j, hj⟩ := List.mem_iff_getElem?.1 h
  rw [List.getElem?_take] at hj
  split at hj
  · rename_i hjk
    obtain ⟨h1, e1⟩ := List.getElem?_eq_some_iff.1 hj
    obtain ⟨h2, e2⟩ := List.getElem?_eq_some_iff.1 hz
    have := List.pairwise_iff_getElem.1 hr j k h1 h2 hjk
    omega
  · cases hj
theorem Tb.take_succ_mem {l : List Int} {k : Nat} {z y : Int} (hz : l[k]? = some z) : y ∈ l.take (k + 1) ↔ y ∈ l.take k ∨ y = z := by
  rw [List.take_add_one, hz]
  simp

set_option maxRecDepth 100000 in
set_option maxHeartbeats 8000000 in
theorem whole_any16 {LS : Rep16} (S : Specs16 LS) (n : Int) (v vo : Value) (xs : List Tb.Ac) (p : ByteArray) (os : List O) (W : World) (hS : Pa.Std W) (hv : Acl16 W v xs) (hvo : Ol W vo os) (hl : xs.length ≤ maxLen) (hlo : os.length ≤ maxLen) (hok : ∀ x ∈ xs, AcOk16 x) (hfo : ∀ o ∈ os, o.path.size ≤ maxLen) (hp : p.size ≤ maxLen) :
    Calls Tryd.prog 6 #[.int .i64 n, v, .string p, vo] W fun e w' => e = .returned (.bool true) ∧ Below W.heap.size W w' := by
  have HS : Hid (Specs16 LS ∧ Pa.Std W ∧ (∀ x ∈ xs, AcOk16 x) ∧ Paths16 os) := ⟨S, hS, hok, hfo⟩
  obtain ⟨av, N, c, rfl, hN, hj⟩ := hv
  have HV : Hid (Acl16 W (.slice av N c) xs ∧ N = xs.length) := ⟨⟨av, N, c, rfl, hN, hj⟩, hN⟩
  have HO : Hid (Ol W vo os ∧ os.length ≤ maxLen) := ⟨hvo, hlo⟩
  obtain ⟨ao, NO, co, rfl, hNO, hj1, hj2, hj3⟩ := hvo
  have HNO : Hid (NO = os.length) := hNO
  have hN63 : N ≤ 9223372036854775807 := by unfold maxLen at hl; omega
  have hM63 : NO ≤ 9223372036854775807 := by unfold maxLen at hlo; omega
  have HT : Hid (p.size ≤ maxLen) := hp
  unfold maxLen at hp
  clear S hS hok hfo hl hlo hN hj hNO hj1 hj2 hj3
  go_enter Tryd.func6, Tryd.ntmps6
  go_wp2_with fail
  refine (awake_any16 HS.out.1 W HS.out.2.1).mono ?_
  rintro e w0 ⟨rfl, hb0⟩
  have H0 : Hid (Below W.heap.size W w0) := hb0
  clear hb0
  by_cases a1 : n < 1
  · go_wp2
    go_ret
    exact ⟨rfl, H0.out⟩
  by_cases a2 : 4 < n
  · go_wp2
    go_ret
    exact ⟨rfl, H0.out⟩
  by_cases a3 : (20 : Int) < (N : Int)
  · go_wp2
    go_ret
    exact ⟨rfl, H0.out⟩
  by_cases a4 : (300 : Int) < (p.size : Int)
  · go_wp2
    go_ret
    exact ⟨rfl, H0.out⟩
  obtain ⟨gr, hgr⟩ : ∃ z, z = greatB os := ⟨_, rfl⟩
  have HGR : Hid (gr = greatB os) := hgr
  have HLC : Hid (Calls Tryd.prog 17 #[.slice ao NO co] w0 fun e w' => e = .returned (.bool gr) ∧ Below w0.heap.size w0 w') := by
    rw [hgr]
    exact long_any16 _ os w0 (HO.out.1.below H0.out) HO.out.2
  clear hgr
  go_wp2_with fail
  refine HLC.out.mono ?_
  rintro e w1 ⟨rfl, hb⟩
  have H1 : Hid (Below W.heap.size W w1) := H0.out.trans (hb.mono H0.out.size)
  clear hb HLC
  cases gr with
  | true =>
    go_wp2
    go_ret
    exact ⟨rfl, H1.out⟩
  | false =>
  have HNO2 : Hid (NO ≤ 20) := (show NO ≤ 20 by
    have h := HGR.out
    unfold greatB at h
    have h1 : decide (20 < os.length) = false := by
      cases e : decide (20 < os.length) with
      | false => rfl
      | true => rw [e] at h; cases h
    have h2 := of_decide_eq_false h1
    rw [HNO.out]
    omega)
  have HA : Hid (1 ≤ n ∧ n ≤ 4 ∧ N ≤ 20 ∧ p.size ≤ 300) := ⟨by omega, by omega, by omega, by omega⟩
  clear H0
  go_wp2_with fail
  refine (mine16_new HS.out.1 H1.out n ⟨HA.out.1, HA.out.2.1⟩).mono ?_
  rintro e w2 ⟨q, F1, rfl, hM, hF, hb⟩
  have M1 : Hid (Mine16 LS W w2 q 1 (Tb.new n) F1) := hM
  clear hM hF hb H1 a1 a2 a3 a4
  go_wp2
  go_loopw [11] (fun i wx => ∃ (k : Nat) (s : Tb.St) (F : Nat → Prop), k ≤ N ∧ i = .int .i64 (k : Int) ∧ Mine16 LS W wx q ((k : Int) + 1) s F ∧ s.shards = n) (fun i _ => N - (intOf i).toNat)
  case atStart => exact ⟨0, _, F1, Nat.zero_le _, rfl, M1.out, rfl⟩
  case round =>
    obtain ⟨k, s, F, hk, rfl, hM, hsh⟩ := hrel
    have H3 : Hid (Mine16 LS W wr q ((k : Int) + 1) s F) := hM
    have HSH : Hid (s.shards = n) := hsh
    clear hM M1 hsh
    by_cases hlt : k < N
    · have hlt' : (k : Int) < (N : Int) := by omega
      have hk0 : (0 : Int) ≤ (k : Int) := by omega
      have hwk : IntKind.wrap .i64 ((k : Int) + 1) = (k : Int) + 1 := by rw [IntKind.wrap_i64]; omega
      obtain ⟨x, hx⟩ : ∃ x, xs[k]? = some x := ⟨xs[k]'(by rw [← HV.out.2]; exact hlt), List.getElem?_eq_getElem _⟩
      have HX : Hid (xs[k]? = some x ∧ x.top.size ≤ maxLen) := ⟨hx, (HS.out.2.2.1 x (List.mem_of_getElem? hx)).top⟩
      obtain ⟨g, o, rfl, c0, c1⟩ := (HV.out.1.below H3.out.below).at hx
      have hxt : x.top.size ≤ 9223372036854775807 := HX.out.2
      clear hx
      by_cases ax : (100 : Int) < (x.top.size : Int)
      · go_wp2
        go_ret
        exact ⟨rfl, H3.out.below⟩
      have hkm : (k : Int) + 1 ≤ 2199023255552 := by have := HA.out.2.2.1; omega
      go_upto_region 11 with fail
      clear ax
      obtain ⟨za, s6, hz⟩ : ∃ za s6, Tb.move s x.top x.shard = (za, s6) := ⟨_, _, rfl⟩
      have HMV : Hid (Tb.move s x.top x.shard = (za, s6) ∧ s6.shards = n) := ⟨hz, by have := Tb.move_shards s x.top x.shard; rw [hz] at this; exact this.trans HSH.out⟩
      refine wp_region_held_drew (S := fun w' => w'.cell? ⟨g, o + k * 2, none⟩ = some (.string x.top) ∧ w'.cell? ⟨g, o + k * 2 + 1, none⟩ = some (.int .i64 x.shard)) (by kernel_rfl) ⟨c0, c1⟩ (fun _ => ?_)
      have H4 : Hid (Mine16 LS W wr.drew q ((k : Int) + 1) s F) := H3.out.later HS.out.1 (Below.refl _ _).drew
      clear H3 c0 c1 hz
      generalize wr.drew = w4 at *
      refine' take_at (i := 0) (d := 58) (v := _) rfl rfl (by kernel_rfl) (by kernel_rfl) (by kernel_rfl) (fun _ _ _ h => h) (Or.inl ⟨by rfl, ?h0⟩) (HV.out.1.on H4.out.below HX.out.1) ?_
      case h0 =>
        intro w hSw
        obtain ⟨t0, t1⟩ := hSw
        go_simp
        with_reducible rfl
      simp only [List.setIfInBounds_toArray, List.set_cons_zero, List.set_cons_succ]
      refine' take_at (i := 1) (d := 59) (v := _) rfl rfl (by kernel_rfl) (by kernel_rfl) (by kernel_rfl) (fun _ _ _ h => h) (Or.inl ⟨by rfl, ?h1⟩) (HV.out.1.on H4.out.below HX.out.1) ?_
      case h1 =>
        intro w hSw
        obtain ⟨t0, t1⟩ := hSw
        go_simp
        with_reducible rfl
      simp only [List.setIfInBounds_toArray, List.set_cons_zero, List.set_cons_succ]
      refine' take_at (i := 2) (d := 60) (v := _) rfl rfl (by kernel_rfl) (by kernel_rfl) (by kernel_rfl) (fun _ _ _ h => h) (Or.inl ⟨by rfl, ?h2⟩) (HV.out.1.on H4.out.below HX.out.1) ?_
      case h2 =>
        intro w hSw
        obtain ⟨t0, t1⟩ := hSw
        go_simp
        with_reducible rfl
      simp only [List.setIfInBounds_toArray, List.set_cons_zero, List.set_cons_succ]
      refine' take_at (i := 3) (d := 61) (v := _) rfl rfl (by kernel_rfl) (by kernel_rfl) (by kernel_rfl) (fun _ _ _ h => h) (Or.inl ⟨by rfl, ?h3⟩) (HV.out.1.on H4.out.below HX.out.1) ?_
      case h3 =>
        intro w hSw
        obtain ⟨t0, t1⟩ := hSw
        go_simp
        with_reducible rfl
      simp only [List.setIfInBounds_toArray, List.set_cons_zero, List.set_cons_succ]
      refine' take_at (i := 4) (d := 62) (v := _) rfl rfl (by kernel_rfl) (by kernel_rfl) (by kernel_rfl) (fun _ _ _ h => h) (Or.inl ⟨by rfl, ?h4⟩) (HV.out.1.on H4.out.below HX.out.1) ?_
      case h4 =>
        intro w hSw
        obtain ⟨t0, t1⟩ := hSw
        go_simp
        with_reducible rfl
      simp only [List.setIfInBounds_toArray, List.set_cons_zero, List.set_cons_succ]
      refine' take_at (i := 5) (d := 63) (v := _) rfl rfl (by kernel_rfl) (by kernel_rfl) (by kernel_rfl) (fun _ _ _ h => h) (Or.inl ⟨by rfl, ?h5⟩) (HV.out.1.on H4.out.below HX.out.1) ?_
      case h5 =>
        intro w hSw
        obtain ⟨t0, t1⟩ := hSw
        go_simp
        with_reducible rfl
      simp only [List.setIfInBounds_toArray, List.set_cons_zero, List.set_cons_succ]
      refine' take_at (i := 6) (d := 64) (v := _) rfl rfl (by kernel_rfl) (by kernel_rfl) (by kernel_rfl) (fun _ _ _ h => h) (Or.inl ⟨by rfl, ?h6⟩) (HV.out.1.on H4.out.below HX.out.1) ?_
      case h6 =>
        intro w hSw
        obtain ⟨t0, t1⟩ := hSw
        go_simp
        with_reducible rfl
      simp only [List.setIfInBounds_toArray, List.set_cons_zero, List.set_cons_succ]
      refine' take_at (i := 7) (d := 65) (v := _) rfl rfl (by kernel_rfl) (by kernel_rfl) (by kernel_rfl) (fun _ _ _ h => h) (Or.inl ⟨by rfl, ?h7⟩) (HV.out.1.on H4.out.below HX.out.1) ?_
      case h7 =>
        intro w hSw
        obtain ⟨t0, t1⟩ := hSw
        go_simp
        with_reducible rfl
      simp only [List.setIfInBounds_toArray, List.set_cons_zero, List.set_cons_succ]
      refine' take_at (i := 8) (d := 66) (v := _) rfl rfl (by kernel_rfl) (by kernel_rfl) (by kernel_rfl) (fun _ _ _ h => h) (Or.inl ⟨by rfl, ?h8⟩) (HV.out.1.on H4.out.below HX.out.1) ?_
      case h8 =>
        intro w hSw
        obtain ⟨t0, t1⟩ := hSw
        go_simp
        with_reducible rfl
      simp only [List.setIfInBounds_toArray, List.set_cons_zero, List.set_cons_succ]
      refine' take_at (i := 9) (d := 67) (v := _) rfl rfl (by kernel_rfl) (by kernel_rfl) (by kernel_rfl) (fun _ _ _ h => h) (Or.inl ⟨by rfl, ?h9⟩) (HV.out.1.on H4.out.below HX.out.1) ?_
      case h9 =>
        intro w hSw
        obtain ⟨t0, t1⟩ := hSw
        go_simp
        with_reducible rfl
      simp only [List.setIfInBounds_toArray, List.set_cons_zero, List.set_cons_succ]
      refine' take_at (i := 10) (d := 68) (v := _) rfl rfl (by kernel_rfl) (by kernel_rfl) (by kernel_rfl) (fun _ _ _ h => h) (Or.inl ⟨by rfl, ?h10⟩) (HV.out.1.on H4.out.below HX.out.1) ?_
      case h10 =>
        intro w hSw
        obtain ⟨t0, t1⟩ := hSw
        go_simp
        with_reducible rfl
      simp only [List.setIfInBounds_toArray, List.set_cons_zero, List.set_cons_succ]
      refine wpAnyH_ready (rs := [11]) (by kernel_rfl) (by simp) ?_
      refine AllReadyH.cons (o := _) rfl (fun KQ hKQ => ?_) AllReadyH.nil
      go_simp
      refine (H4.out.move HS.out.1 HS.out.2.1 hkm x.top x.shard HX.out.2 za s6 HMV.out.1).mono ?_
      rintro e w5 ⟨F5, rfl, hM, hmv⟩
      have H5 : Hid (Mine16 LS W w5 q ((k : Int) + 1 + 1) s6 F5) := hM
      clear hM hmv H4
      refine hKQ.out _ _ (HV.out.1.on H5.out.below HX.out.1) (fun _ => ?_)
      clear hKQ KQ
      refine wpAnyH_done (by kernel_rfl) ?_ _
      go_wp2
      go_roundw
      case rel => exact ⟨k + 1, s6, F5, by omega, by go_num, by simpa using H5.out, HMV.out.2⟩
      case measure => simp [intOf]; omega
    · have hlt' : ¬ (k : Int) < (N : Int) := by omega
      have HKN : Hid (k ≤ 20) := (show k ≤ 20 by have := HA.out.2.2.1; omega)
      obtain ⟨gd, hgd⟩ : ∃ z, z = Pl.goodB p.data.toList := ⟨_, rfl⟩
      have HGD : Hid (gd = Pl.goodB p.data.toList) := hgd
      have HGC : Hid (∀ w', Calls Tryd.prog 26 #[.string p] w' fun e w'' => e = .returned (.bool gd) ∧ Below w'.heap.size w' w'') := fun w' => by
        rw [hgd]
        exact Pa.refGood_any p w' HT.out
      clear hgd
      go_upto_region 12 with fail
      go_cut [95] (fun z wx => z = .bool false ∧ Mine16 LS W wx q ((k : Int) + 1) s F)
      case first =>
        go_wp2_with fail
        refine (HGC.out wr).mono ?_
        rintro e w4 ⟨rfl, hb⟩
        have H4 : Hid (Mine16 LS W w4 q ((k : Int) + 1) s F) := H3.out.later HS.out.1 hb
        clear hb
        cases gd with
        | false =>
          go_wp2
          go_meet
          case rel => exact ⟨rfl, H4.out⟩
        | true =>
          obtain ⟨t, ht⟩ : ∃ t, t = Tb.topT p := ⟨_, rfl⟩
          obtain ⟨z, hz⟩ : ∃ z, z = Tb.of s p := ⟨_, rfl⟩
          have HZ : Hid (z = Tb.of s p ∧ Tb.of s ((⟨#[47]⟩ : ByteArray) ++ t) = z ∧ t.data.toList = Pl.top p.data.toList ∧ ((⟨#[47]⟩ : ByteArray) ++ t).size ≤ maxLen) := by
            have hnm := Tb.topT_name16 HGD.out.symm
            have hsz := Tb.topT_size16 HGD.out.symm
            rw [← ht] at hnm hsz
            refine ⟨hz, ?_, by rw [ht]; rfl, ?_⟩
            · rw [hz, Tb.of_slash hnm]
              unfold Tb.of
              rw [← HGD.out, ht]
              rfl
            · have e1 : (⟨#[47]⟩ : ByteArray).size = 1 := rfl
              rw [ByteArray.size_append, e1]
              exact (show 1 + t.size ≤ 9223372036854775807 by omega)
          have HZ2 : Hid (0 ≤ z ∧ z < n) := by
            have h := Tb.of_good H4.out.fine HGD.out.symm
            rw [← hz, HSH.out] at h
            exact h
          have z0 : ¬ z < 0 := by have := HZ2.out; omega
          have zn : ¬ n ≤ z := by have := HZ2.out; omega
          have zz : (z != z) = false := by simp
          have hts : t.size ≤ 40 := by rw [ht]; exact Tb.topT_size16 HGD.out.symm
          clear ht hz
          go_wp2_with fail
          refine (H4.out.of HS.out.1 HS.out.2.1 p HT.out z HZ.out.1.symm).mono ?_
          rintro e w5 ⟨rfl, hM, hb⟩
          have H5 : Hid (Mine16 LS W w5 q ((k : Int) + 1) s F) := hM
          clear hM hb H4
          go_wp2_with fail
          refine (Pa.refTop_any p w5 HGD.out.symm).mono ?_
          rintro e w6 ⟨x, rfl, hx, hb⟩
          have hxt : x = t := ByteArray.ext (Array.toList_inj.1 (hx.trans HZ.out.2.2.1.symm))
          rw [hxt]
          have H6 : Hid (Mine16 LS W w6 q ((k : Int) + 1) s F) := H5.out.later HS.out.1 hb
          clear hb hxt hx H5
          go_wp2_with fail
          refine (H6.out.of HS.out.1 HS.out.2.1 _ HZ.out.2.2.2 z HZ.out.2.1).mono ?_
          rintro e w7 ⟨rfl, hM, hb⟩
          have H7 : Hid (Mine16 LS W w7 q ((k : Int) + 1) s F) := hM
          clear hM hb H6
          go_wp2_with fail
          refine (H7.out.of HS.out.1 HS.out.2.1 p HT.out z HZ.out.1.symm).mono ?_
          rintro e w8 ⟨rfl, hM, hb⟩
          have H8 : Hid (Mine16 LS W w8 q ((k : Int) + 1) s F) := hM
          clear hM hb H7
          go_wp2_with fail
          refine (H8.out.of HS.out.1 HS.out.2.1 p HT.out z HZ.out.1.symm).mono ?_
          rintro e w9 ⟨rfl, hM, hb⟩
          have H9 : Hid (Mine16 LS W w9 q ((k : Int) + 1) s F) := hM
          clear hM hb H8
          have HZB : Hid ((decide (z < 0) || decide (n ≤ z)) = false) := (show (decide (z < 0) || decide (n ≤ z)) = false by rw [decide_eq_false (show ¬ z < 0 by omega), decide_eq_false (show ¬ n ≤ z by omega)]; rfl)
          go_wp2
          go_meet
          case rel => exact ⟨by rw [HZB.out], H9.out⟩
      case rest =>
        obtain ⟨rfl, hM⟩ := hcut
        generalize wc = w4 at *
        have H4 : Hid (Mine16 LS W w4 q ((k : Int) + 1) s F) := hM
        clear hM H3 HGC
        go_wp2_with (at_make; refine make_bools16 rfl _ _ rfl NO w4 rfl rfl (by have := HNO2.out; omega) ?_)
        obtain ⟨gs, hgs⟩ : ∃ g, g = w4.heap.size := ⟨_, rfl⟩
        rw [← hgs]
        intro w5 hcb hb5
        have H5 : Hid (Mine16 LS W w5 q ((k : Int) + 1) s F ∧ Cb w5 gs (bcs NO fun _ => false) 4 ∧ W.heap.size ≤ gs ∧ (∀ j, F j → j ≠ gs)) := by
          rw [hgs] at hb5
          refine ⟨H4.out.later HS.out.1 hb5, hcb, by rw [hgs]; exact H4.out.below.size, fun j hj e => ?_⟩
          have := HS.out.1.lt H4.out.ld hj
          omega
        clear hcb hb5 hgs H4
        obtain ⟨ls, hls⟩ : ∃ ls, ls = Tb.split s (os.map O.path) := ⟨_, rfl⟩
        obtain ⟨Sn, hSn⟩ : ∃ S : Nat, S = s.shards.toNat := ⟨_, rfl⟩
        have HLS : Hid (ls = Tb.split s (os.map O.path) ∧ ls.length = Sn ∧ (Sn : Int) = n ∧ Sn ≤ 4) := by
          have h1 := HSH.out
          have h2 := HA.out.1
          have h3 := HA.out.2.1
          exact ⟨hls, by rw [hls, Tb.split_len, hSn], by omega, by omega⟩
        clear hls hSn
        go_wp2_with fail
        refine (H5.out.1.split HS.out.1 HS.out.2.1 _ os (HO.out.1.below H5.out.1.below) (by have := HNO.out; have := HNO2.out; omega) HS.out.2.2.2 ls HLS.out.1.symm).mono ?_
        rintro e w6 ⟨u, rfl, hu, hM, hb⟩
        have hu2 := hu
        obtain ⟨au, nu, cu, rfl, hnu, _⟩ := hu2
        obtain rfl : nu = Sn := by rw [hnu]; exact HLS.out.2.1
        have H6 : Hid (Wh16 LS W w6 q ((k : Int) + 1) s F gs NO (fun _ => false) (.slice au nu cu) ls) := ⟨hM, H5.out.2.1.below hb, H5.out.2.2.1, H5.out.2.2.2, hu⟩
        clear hu hM hb hnu H5
        have hnn : ((nu : Int) != n) = false := by have := HLS.out.2.2.1; simp; omega
        go_wp2
        go_loopw [14] (fun i wx => ∃ (i' : Nat) (B : Nat → Bool), i' ≤ nu ∧ i = .int .i64 (i' : Int) ∧ Wh16 LS W wx q ((k : Int) + 1) s F gs NO B (.slice au nu cu) ls ∧ ∀ (j : Nat) pp, (os.map O.path)[j]? = some pp → (B j = true ↔ 0 ≤ Tb.of s pp ∧ Tb.of s pp < (i' : Int))) (fun i _ => nu - (intOf i).toNat)
        case atStart => exact ⟨0, _, Nat.zero_le _, rfl, H6.out, fun j pp _ => ⟨fun e => (by cases e), fun e => (by omega)⟩⟩
        case round =>
          obtain ⟨i, B, hi, rfl, hW, hB⟩ := hrel
          have H7 : Hid (Wh16 LS W wr q ((k : Int) + 1) s F gs NO B (.slice au nu cu) ls ∧ ∀ (j : Nat) pp, (os.map O.path)[j]? = some pp → (B j = true ↔ 0 ≤ Tb.of s pp ∧ Tb.of s pp < (i : Int))) := ⟨hW, hB⟩
          clear hW hB H6
          by_cases hli : i < nu
          · have hli' : (i : Int) < (nu : Int) := by omega
            have hi0 : (0 : Int) ≤ (i : Int) := by omega
            have hwi : IntKind.wrap .i64 ((i : Int) + 1) = (i : Int) + 1 := by rw [IntKind.wrap_i64]; have := HLS.out.2.2.2; omega
            obtain ⟨l, hl⟩ : ∃ l, ls[i]? = some l := ⟨ls[i]'(by rw [HLS.out.2.1]; exact hli), List.getElem?_eq_getElem _⟩
            obtain ⟨g, o, vl, rfl, cl, il⟩ := H7.out.1.two.at16 hl
            obtain ⟨al, kcl, hvl⟩ := il.form16
            obtain ⟨Ln, hLn⟩ : ∃ n, n = l.length := ⟨_, rfl⟩
            rw [← hLn] at hvl
            subst hvl
            have HL : Hid (ls[i]? = some l ∧ Ln = l.length ∧ l = Tb.places (Tb.of s) (os.map O.path) (i : Int) ∧ Ln ≤ 20) := by
              have h1 := hl
              rw [HLS.out.1] at h1
              have h2 := (Tb.split_at h1).2
              refine ⟨hl, hLn, h2, ?_⟩
              have h3 := Tb.places_len (Tb.of s) (os.map O.path) (i : Int)
              rw [← h2, List.length_map, ← HNO.out] at h3
              have := HNO2.out
              omega
            have hLn20 : Ln ≤ 20 := HL.out.2.2.2
            clear hl il hLn cl
            go_wp2
            go_loopw [15] (fun i' wx => ∃ (j : Nat) (B : Nat → Bool), j ≤ Ln ∧ i' = .int .i64 (j : Int) ∧ Wh16 LS W wx q ((k : Int) + 1) s F gs NO B (.slice (some ⟨g, o, none⟩) nu cu) ls ∧ ∀ (y : Nat) pp, (os.map O.path)[y]? = some pp → (B y = true ↔ (0 ≤ Tb.of s pp ∧ Tb.of s pp < (i : Int)) ∨ (y : Int) ∈ l.take j)) (fun i' _ => Ln - (intOf i').toNat)
            case atStart => exact ⟨0, B, Nat.zero_le _, rfl, H7.out.1, fun y pp hy => by rw [H7.out.2 y pp hy]; simp⟩
            case round =>
              obtain ⟨j, B2, hj, rfl, hW, hB⟩ := hrel
              have H8 : Hid (Wh16 LS W wr q ((k : Int) + 1) s F gs NO B2 (.slice (some ⟨g, o, none⟩) nu cu) ls ∧ ∀ (y : Nat) pp, (os.map O.path)[y]? = some pp → (B2 y = true ↔ (0 ≤ Tb.of s pp ∧ Tb.of s pp < (i : Int)) ∨ (y : Int) ∈ l.take j)) := ⟨hW, hB⟩
              clear hW hB H7
              obtain ⟨g', o', vl', hgo, cl, il⟩ := H8.out.1.two.at16 HL.out.1
              simp only [Option.some.injEq, Addr.mk.injEq, and_true] at hgo
              obtain ⟨rfl, rfl⟩ := hgo
              obtain ⟨al2, kcl2, hvl2⟩ := il.form16
              rw [← HL.out.2.1] at hvl2
              subst hvl2
              have HIL : Hid (Bi wr (.slice al2 Ln kcl2) l) := il
              clear il
              by_cases hlj : j < Ln
              · have hlj' : (j : Int) < (Ln : Int) := by omega
                have hj0 : (0 : Int) ≤ (j : Int) := by omega
                have hwj : IntKind.wrap .i64 ((j : Int) + 1) = (j : Int) + 1 := by rw [IntKind.wrap_i64]; omega
                obtain ⟨z, hz⟩ : ∃ z, l[j]? = some z := ⟨l[j]'(by rw [← HL.out.2.1]; exact hlj), List.getElem?_eq_getElem _⟩
                have hzm : z ∈ Tb.placesA (Tb.of s) (i : Int) 0 (os.map O.path) := by
                  have h := List.mem_of_getElem? hz
                  rw [HL.out.2.2.1] at h
                  exact h
                obtain ⟨mz, pp, hps, hfi, hzz⟩ := (Tb.placesA_mem _ _ _ _ _).1 hzm
                rw [Nat.zero_add] at hzz
                subst hzz
                have hrs : l.Pairwise fun a b => a < b := by rw [HL.out.2.2.1]; exact Tb.placesA_rises _ _ _ _
                have hmN : mz < NO := by
                  have h := (List.getElem?_eq_some_iff.1 hps).1
                  rw [List.length_map, ← HNO.out] at h
                  exact h
                have HZ : Hid (l[j]? = some (mz : Int) ∧ (os.map O.path)[mz]? = some pp ∧ Tb.of s pp = (i : Int) ∧ pp.size ≤ maxLen ∧ B2 mz = false) := by
                  refine ⟨hz, hps, hfi, ?_, ?_⟩
                  · obtain ⟨oo, ho, rfl⟩ := List.mem_map.1 (List.mem_of_getElem? hps)
                    exact HS.out.2.2.2 oo ho
                  · cases e : B2 mz with
                    | false => rfl
                    | true =>
                      rcases (H8.out.2 mz pp hps).1 e with h | h
                      · omega
                      · exact absurd h (Tb.take_mem hrs hz)
                obtain ⟨g3, o3, rfl, c3⟩ := HIL.out.at16 hz
                have cs : wr.cell? ⟨gs, mz, none⟩ = some (.bool false) := by rw [H8.out.1.cb.cell, bcs_get hmN, HZ.out.2.2.2.2]
                have m0 : (0 : Int) ≤ (mz : Int) := by omega
                have mN : (mz : Int) < (NO : Int) := by omega
                obtain ⟨g4, b4, c4', hv', hcs⟩ := (HO.out.1.below H8.out.1.one.below).at (by rw [← HNO.out]; omega)
                simp only [Value.slice.injEq] at hv'
                obtain ⟨rfl, hq9, rfl⟩ := hv'
                obtain ⟨ox, hox⟩ : ∃ ox, os[mz]? = some ox := ⟨os[mz]'(by rw [← HNO.out]; exact hmN), List.getElem?_eq_getElem _⟩
                have hpx : ox.path = pp := by
                  have h := hps
                  rw [List.getElem?_map, hox] at h
                  exact Option.some.inj h
                obtain ⟨_, c5, _, _, _⟩ := hcs mz ox hox
                rw [hpx] at c5
                have HC5 : Hid (∀ w', Below wr.heap.size wr w' → w'.cell? ⟨gs, mz, none⟩ = some (.bool false)) := fun w' hb => Below.kept hb cs
                have hii : ((i : Int) != (i : Int)) = false := by simp
                have hpv : j = 0 ∨ ∃ jp pv, j = jp + 1 ∧ l[jp]? = some pv ∧ pv < (mz : Int) := by
                  cases j with
                  | zero => exact Or.inl rfl
                  | succ jp =>
                    have hjl : jp < l.length := by rw [← HL.out.2.1]; omega
                    refine Or.inr ⟨jp, l[jp], rfl, List.getElem?_eq_getElem hjl, ?_⟩
                    obtain ⟨h1, e1⟩ := List.getElem?_eq_some_iff.1 hz
                    have := List.pairwise_iff_getElem.1 hrs jp (jp + 1) hjl h1 (by omega)
                    omega
                clear hz hzm hps hfi hrs hcs hq9 hox hpx
                rcases hpv with rfl | ⟨jp, pv, rfl, hpl, hpz⟩
                · have j00 : ¬ (0 : Int) < ((0 : Nat) : Int) := by omega
                  rw [Nat.add_zero] at c3
                  go_wp2_with fail
                  refine (H8.out.1.one.of HS.out.1 HS.out.2.1 pp HZ.out.2.2.2.1 (i : Int) HZ.out.2.2.1).mono ?_
                  rintro e w9 ⟨rfl, hM, hb⟩
                  have H9 : Hid (Wh16 LS W w9 q ((k : Int) + 1) s F gs NO B2 (.slice (some ⟨g, o, none⟩) nu cu) ls) := H8.out.1.later HS.out.1 hb
                  have cs9 : w9.cell? ⟨gs, mz, none⟩ = some (.bool false) := HC5.out w9 hb
                  have f9 : w9.frozen? ⟨gs, mz, none⟩ = false := H9.out.cb.free mz
                  have H10 : Hid (Wh16 LS W (w9.setCell ⟨gs, mz, none⟩ (.bool true)) q ((k : Int) + 1) s F gs NO (upd B2 mz) (.slice (some ⟨g, o, none⟩) nu cu) ls ∧ ∀ (y : Nat) pp, (os.map O.path)[y]? = some pp → (upd B2 mz y = true ↔ (0 ≤ Tb.of s pp ∧ Tb.of s pp < (i : Int)) ∨ (y : Int) ∈ l.take (0 + 1))) := by
                    refine ⟨H9.out.mark HS.out.1, fun y py hy => ?_⟩
                    rw [Tb.take_succ_mem HZ.out.1]
                    unfold upd
                    by_cases e : y = mz
                    · subst e
                      simp
                    · have e2 : ¬ (y : Int) = (mz : Int) := by omega
                      rw [if_neg e, H8.out.2 y py hy]
                      simp [e2]
                  clear hM hb cs c3 c5 cl
                  go_wp2
                  go_roundw
                  case rel => exact ⟨0 + 1, _, by omega, by go_num, H10.out.1, H10.out.2⟩
                  case measure => simp [intOf]; omega
                · have j00 : (0 : Int) < ((jp + 1 : Nat) : Int) := by omega
                  obtain ⟨g5, o5, hgo5, c6⟩ := HIL.out.at16 hpl
                  simp only [Option.some.injEq, Addr.mk.injEq, and_true] at hgo5
                  obtain ⟨rfl, rfl⟩ := hgo5
                  have hpz' : ¬ (mz : Int) ≤ pv := by omega
                  have hjw : IntKind.wrap .i64 (((jp + 1 : Nat) : Int) - 1) = (jp : Int) := by rw [IntKind.wrap_i64]; omega
                  have hjp0 : (0 : Int) ≤ (jp : Int) := by omega
                  have hjpL : (jp : Int) < (Ln : Int) := by omega
                  clear hpl hpz
                  go_wp2_with fail
                  refine (H8.out.1.one.of HS.out.1 HS.out.2.1 pp HZ.out.2.2.2.1 (i : Int) HZ.out.2.2.1).mono ?_
                  rintro e w9 ⟨rfl, hM, hb⟩
                  have H9 : Hid (Wh16 LS W w9 q ((k : Int) + 1) s F gs NO B2 (.slice (some ⟨g, o, none⟩) nu cu) ls) := H8.out.1.later HS.out.1 hb
                  have cs9 : w9.cell? ⟨gs, mz, none⟩ = some (.bool false) := HC5.out w9 hb
                  have f9 : w9.frozen? ⟨gs, mz, none⟩ = false := H9.out.cb.free mz
                  have H10 : Hid (Wh16 LS W (w9.setCell ⟨gs, mz, none⟩ (.bool true)) q ((k : Int) + 1) s F gs NO (upd B2 mz) (.slice (some ⟨g, o, none⟩) nu cu) ls ∧ ∀ (y : Nat) pp, (os.map O.path)[y]? = some pp → (upd B2 mz y = true ↔ (0 ≤ Tb.of s pp ∧ Tb.of s pp < (i : Int)) ∨ (y : Int) ∈ l.take ((jp + 1) + 1))) := by
                    refine ⟨H9.out.mark HS.out.1, fun y py hy => ?_⟩
                    rw [Tb.take_succ_mem HZ.out.1]
                    unfold upd
                    by_cases e : y = mz
                    · subst e
                      simp
                    · have e2 : ¬ (y : Int) = (mz : Int) := by omega
                      rw [if_neg e, H8.out.2 y py hy]
                      simp [e2]
                  clear hM hb cs c3 c5 cl
                  go_wp2
                  go_roundw
                  case rel => exact ⟨(jp + 1) + 1, _, by omega, by go_num, H10.out.1, H10.out.2⟩
                  case measure => simp [intOf]; omega
              · have hlj' : ¬ (j : Int) < (Ln : Int) := by omega
                have HB3 : Hid (∀ (y : Nat) pp, (os.map O.path)[y]? = some pp → (B2 y = true ↔ 0 ≤ Tb.of s pp ∧ Tb.of s pp < ((i + 1 : Nat) : Int))) := fun y pp hy => by
                  rw [H8.out.2 y pp hy, List.take_of_length_le (by rw [← HL.out.2.1]; omega), HL.out.2.2.1, Tb.places_iff hy]
                  omega
                go_wp2
                go_roundw
                case rel => exact ⟨i + 1, B2, by omega, by go_num, H8.out.1, HB3.out⟩
                case measure => simp [intOf]; omega
          · have hli' : ¬ (i : Int) < (nu : Int) := by omega
            obtain rfl : i = nu := by omega
            have H8 : Hid (∀ (y : Nat) pp, (os.map O.path)[y]? = some pp → B y = Pl.goodB pp.data.toList) := fun y pp hy => by
              have h := H7.out.2 y pp hy
              cases hg : Pl.goodB pp.data.toList with
              | true =>
                have h2 := Tb.of_good H7.out.1.one.fine hg
                exact h.2 ⟨h2.1, by have := HSH.out; have := HLS.out.2.2.1; omega⟩
              | false =>
                have h2 := Tb.of_bad (s := s) hg
                cases e : B y with
                | false => rfl
                | true => have := h.1 e; omega
            have H9 : Hid (Wh16 LS W wr q ((k : Int) + 1) s F gs NO B (.slice au i cu) ls) := H7.out.1
            clear H7
            go_wp2
            go_loopw [17] (fun i' wx => ∃ y : Nat, y ≤ NO ∧ i' = .int .i64 (y : Int) ∧ Wh16 LS W wx q ((k : Int) + 1) s F gs NO B (.slice au i cu) ls) (fun i' _ => NO - (intOf i').toNat)
            case atStart => exact ⟨0, Nat.zero_le _, rfl, H9.out⟩
            case round =>
              obtain ⟨y, hy, rfl, hW⟩ := hrel
              have H10 : Hid (Wh16 LS W wr q ((k : Int) + 1) s F gs NO B (.slice au i cu) ls) := hW
              clear hW H9
              by_cases hly : y < NO
              · have hly' : (y : Int) < (NO : Int) := by omega
                have hy0 : (0 : Int) ≤ (y : Int) := by omega
                have hwy : IntKind.wrap .i64 ((y : Int) + 1) = (y : Int) + 1 := by rw [IntKind.wrap_i64]; have := HNO2.out; omega
                obtain ⟨g4, b4, c4', hv', hcs⟩ := (HO.out.1.below H10.out.one.below).at (by rw [← HNO.out]; omega)
                simp only [Value.slice.injEq] at hv'
                obtain ⟨rfl, hq9, rfl⟩ := hv'
                obtain ⟨ox, hox⟩ : ∃ ox, os[y]? = some ox := ⟨os[y]'(by rw [← HNO.out]; exact hly), List.getElem?_eq_getElem _⟩
                obtain ⟨_, c5, _, _, _⟩ := hcs y ox hox
                obtain ⟨pp, hpp⟩ : ∃ pp, pp = ox.path := ⟨_, rfl⟩
                rw [← hpp] at c5
                obtain ⟨gd2, hgd2⟩ : ∃ z, z = Pl.goodB pp.data.toList := ⟨_, rfl⟩
                have HPP : Hid (gd2 = Pl.goodB pp.data.toList ∧ pp.size ≤ maxLen) := ⟨hgd2, by rw [hpp]; exact HS.out.2.2.2 ox (List.mem_of_getElem? hox)⟩
                have cs : wr.cell? ⟨gs, y, none⟩ = some (.bool gd2) := by
                  rw [H10.out.cb.cell, bcs_get hly, H8.out y pp (by rw [List.getElem?_map, hox, hpp]; rfl), ← hgd2]
                have hgg : (gd2 != gd2) = false := by simp
                clear hcs hq9 hox hpp hgd2
                go_upto_region 31 with fail
                refine wp_region_held_drew (S := fun w' => w'.cell? ⟨gs, y, none⟩ = some (.bool gd2) ∧ w'.cell? ⟨g4, b4 + y * 5 + 1, none⟩ = some (.string pp)) (by kernel_rfl) ⟨cs, c5⟩ (fun _ => ?_)
                have J0 : Hid (Wh16 LS W wr.drew q ((k : Int) + 1) s F gs NO B (.slice au i cu) ls ∧ wr.drew.cell? ⟨gs, y, none⟩ = some (.bool gd2) ∧ wr.drew.cell? ⟨g4, b4 + y * 5 + 1, none⟩ = some (.string pp)) := ⟨H10.out.later HS.out.1 (Below.refl _ _).drew, cs, c5⟩
                clear H10 cs c5
                generalize wr.drew = s0 at *
                refine' take_at (i := 0) (d := 178) (v := _) rfl rfl (by kernel_rfl) (by kernel_rfl) (by kernel_rfl) (fun _ _ _ h => h) (Or.inl ⟨by rfl, ?h0⟩) (J0.out.2) ?_
                case h0 =>
                  intro w hSw
                  obtain ⟨t0, t1⟩ := hSw
                  go_simp
                  with_reducible rfl
                simp only [List.setIfInBounds_toArray, List.set_cons_zero, List.set_cons_succ]
                refine' take_at (i := 1) (d := 179) (v := _) rfl rfl (by kernel_rfl) (by kernel_rfl) (by kernel_rfl) (fun _ _ _ h => h) (Or.inl ⟨by rfl, ?h1⟩) (J0.out.2) ?_
                case h1 =>
                  intro w hSw
                  obtain ⟨t0, t1⟩ := hSw
                  go_simp
                  with_reducible rfl
                simp only [List.setIfInBounds_toArray, List.set_cons_zero, List.set_cons_succ]
                refine' take_at (i := 2) (d := 180) (v := _) rfl rfl (by kernel_rfl) (by kernel_rfl) (by kernel_rfl) (fun _ _ _ h => h) (Or.inl ⟨by rfl, ?h2⟩) (J0.out.2) ?_
                case h2 =>
                  intro w hSw
                  obtain ⟨t0, t1⟩ := hSw
                  go_simp
                  with_reducible rfl
                simp only [List.setIfInBounds_toArray, List.set_cons_zero, List.set_cons_succ]
                refine' take_at (i := 3) (d := 181) (v := _) rfl rfl (by kernel_rfl) (by kernel_rfl) (by kernel_rfl) (fun _ _ _ h => h) (Or.inl ⟨by rfl, ?h3⟩) (J0.out.2) ?_
                case h3 =>
                  intro w hSw
                  obtain ⟨t0, t1⟩ := hSw
                  go_simp
                  with_reducible rfl
                simp only [List.setIfInBounds_toArray, List.set_cons_zero, List.set_cons_succ]
                refine' take_at (i := 4) (d := 182) (v := _) rfl rfl (by kernel_rfl) (by kernel_rfl) (by kernel_rfl) (fun _ _ _ h => h) (Or.inl ⟨by rfl, ?h4⟩) (J0.out.2) ?_
                case h4 =>
                  intro w hSw
                  obtain ⟨t0, t1⟩ := hSw
                  go_simp
                  with_reducible rfl
                simp only [List.setIfInBounds_toArray, List.set_cons_zero, List.set_cons_succ]
                refine' take_at (i := 5) (d := 183) (v := _) rfl rfl (by kernel_rfl) (by kernel_rfl) (by kernel_rfl) (fun _ _ _ h => h) (Or.inl ⟨by rfl, ?h5⟩) (J0.out.2) ?_
                case h5 =>
                  intro w hSw
                  obtain ⟨t0, t1⟩ := hSw
                  go_simp
                  with_reducible rfl
                simp only [List.setIfInBounds_toArray, List.set_cons_zero, List.set_cons_succ]
                refine' take_at (i := 6) (d := 184) (v := _) rfl rfl (by kernel_rfl) (by kernel_rfl) (by kernel_rfl) (fun _ _ _ h => h) (Or.inl ⟨by rfl, ?h6⟩) (J0.out.2) ?_
                case h6 =>
                  intro w hSw
                  obtain ⟨t0, t1⟩ := hSw
                  go_simp
                  with_reducible rfl
                simp only [List.setIfInBounds_toArray, List.set_cons_zero, List.set_cons_succ]
                refine' take_at (i := 7) (d := 185) (v := _) rfl rfl (by kernel_rfl) (by kernel_rfl) (by kernel_rfl) (fun _ _ _ h => h) (Or.inl ⟨by rfl, ?h7⟩) (J0.out.2) ?_
                case h7 =>
                  intro w hSw
                  obtain ⟨t0, t1⟩ := hSw
                  go_simp
                  with_reducible rfl
                simp only [List.setIfInBounds_toArray, List.set_cons_zero, List.set_cons_succ]
                refine' take_at (i := 8) (d := 186) (v := _) rfl rfl (by kernel_rfl) (by kernel_rfl) (by kernel_rfl) (fun _ _ _ h => h) (Or.inl ⟨by rfl, ?h8⟩) (J0.out.2) ?_
                case h8 =>
                  intro w hSw
                  obtain ⟨t0, t1⟩ := hSw
                  go_simp
                  with_reducible rfl
                simp only [List.setIfInBounds_toArray, List.set_cons_zero, List.set_cons_succ]
                refine wpAnyH_ready (rs := [9]) (by kernel_rfl) (by simp) ?_
                refine AllReadyH.cons (o := _) rfl (fun KQ hKQ => ?_) AllReadyH.nil
                go_simp
                refine (show Calls Tryd.prog 26 #[.string pp] s0 (fun e w'' => e = .returned (.bool gd2) ∧ Below s0.heap.size s0 w'') by rw [HPP.out.1]; exact Pa.refGood_any pp s0 HPP.out.2).mono ?_
                rintro e s1 ⟨rfl, hb⟩
                have J1 : Hid (Wh16 LS W s1 q ((k : Int) + 1) s F gs NO B (.slice au i cu) ls ∧ s1.cell? ⟨gs, y, none⟩ = some (.bool gd2) ∧ s1.cell? ⟨g4, b4 + y * 5 + 1, none⟩ = some (.string pp)) := ⟨J0.out.1.later HS.out.1 hb, Below.kept hb J0.out.2.1, Below.kept hb J0.out.2.2⟩
                clear hb J0
                refine hKQ.out _ _ J1.out.2 (fun _ => ?_)
                clear hKQ KQ
                refine' take_at (i := 10) (d := 188) (v := _) rfl rfl (by kernel_rfl) (by kernel_rfl) (by kernel_rfl) (fun _ _ _ h => h) (Or.inl ⟨by rfl, ?h10⟩) (J1.out.2) ?_
                case h10 =>
                  intro w hSw
                  clear hSw
                  go_simp
                  with_reducible rfl
                simp only [List.setIfInBounds_toArray, List.set_cons_zero, List.set_cons_succ]
                refine wpAnyH_done (by kernel_rfl) ?_ _
                go_wp2
                go_roundw
                case rel => exact ⟨y + 1, by omega, by go_num, J1.out.1⟩
                case measure => simp [intOf]; omega
              · have hly' : ¬ (y : Int) < (NO : Int) := by omega
                go_wp2
                go_ret
                exact ⟨rfl, H10.out.one.below⟩
end Go.Proofs.YtpjdjobdbandhaaDoor
