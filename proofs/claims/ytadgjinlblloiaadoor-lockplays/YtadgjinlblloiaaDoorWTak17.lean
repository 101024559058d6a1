/- What the landed lock's inner take does: a path that is not blocked becomes one's. -/
import Derived.Test.YtadgjinlblloiaaDoorWCnt17
import Derived.Maps.AppendAt
namespace Go.Proofs.YtadgjinlblloiaaDoor
open Go.RowKit

set_option maxRecDepth 20000 in
set_option maxHeartbeats 1000000 in
/-- strings.Clone. -/
theorem sclone_any17 (s : ByteArray) (w : World) (hs : s.size ≤ 281474976710656) :
    Calls Tryd.prog 33 #[.string s] w fun e w' => e = .returned (.string s) ∧ Below w.heap.size w w' := by
  go_enter Tryd.func33, Tryd.ntmps33
  go_wp2_with fail
  refine (Tryd.stringslite_Clone s w hs).mono ?_
  rintro e w' ⟨rfl, hb⟩
  have HB : Hid (Below w.heap.size w w') := hb
  clear hb
  go_wp2
  go_ret
  exact ⟨rfl, HB.out⟩
/-- 'append(l, x)' of texts, where the row lies then. -/
theorem app_str17 (w : World) (v : Value) (ls : List ByteArray) (hown : w.ownsRow 0 9 1 v ls.length (sc ls)) (g : Nat) (x : ByteArray) (hc : w.cell? ⟨g, 0, none⟩ = some (.string x)) (hN : ls.length ≤ 3000) (ty : TypeId) :
    ∃ v' w', (Builtin.append_ #[37, 37] ty #[v, .slice (some ⟨g, 0, none⟩) 1 1]).run Tryd.prog w = .ok v' w' ∧ w'.ownsRow 0 9 1 v' (ls ++ [x]).length (sc (ls ++ [x])) ∧ w.grownBy w' v.ownBlock ∧ (v'.ownBlock = v.ownBlock ∨ v'.ownBlock = some w.heap.size) := by
  obtain ⟨i0, hi, hz0, hz1, hz2⟩ := info_parts infoText
  obtain ⟨v', w', hr, h2, h3, _, h5⟩ := run_append_own_at (P := Tryd.prog) w 0 37 ty 9 i0 _ 1 16 Tryd.underlying37 hi hz0 hz1 hz2 rfl (by decide) v ls.length (sc ls) hown ⟨g, 0, none⟩ 1 1 (sc [x]) (by simp [sc]) (fun j u hj => by
    match j, hj with
    | 0, hj =>
      simp [sc] at hj
      subst hj
      rw [Addr.add_lit]
      exact hc
    | (j + 1), hj => simp [sc] at hj) (sc_one [x]) (by unfold maxLen; omega) (by omega) (Nat.zero_le _)
  refine ⟨v', w', hr, ?_, h3, h5⟩
  have e : sc (ls ++ [x]) = sc ls ++ sc [x] := by unfold sc; rw [List.map_append]
  rw [e, List.length_append]
  exact h2
theorem wp_str17 {o : Oper} {a : Act} {K : Act → World → Prop} {Q : Exit → Act → World → Prop} (s x : Operand)
    (ho : o.op = .call { callee := .builtin .append, args := #[s, x], argTypes := #[37, 37] }) (d : Nat) (hd : o.dst = some d)
    (v : Value) (ls : List ByteArray) (g : Nat) (y : ByteArray) (w : World) (hs : a.eval s = v) (hx : a.eval x = .slice (some ⟨g, 0, none⟩) 1 1) (hown : w.ownsRow 0 9 1 v ls.length (sc ls)) (hc : w.cell? ⟨g, 0, none⟩ = some (.string y)) (hN : ls.length ≤ 3000)
    (h : ∀ v' w', w'.ownsRow 0 9 1 v' (ls ++ [y]).length (sc (ls ++ [y])) → w.grownBy w' v.ownBlock → (v'.ownBlock = v.ownBlock ∨ v'.ownBlock = some w.heap.size) → K { a with tmps := a.tmps.setIfInBounds d v' } w') : o.wp Tryd.prog a w K Q := by
  obtain ⟨v', w', hr, h1, h2, h3⟩ := app_str17 w v ls hown g y hc hN o.type
  have k : K (a.put o.dst v') w' := by
    unfold Act.put
    rw [hd]
    exact h v' w' h1 h2 h3
  unfold Oper.wp execOp
  simp only [ho, resolve, invoke, builtin, Sem.run_bind, Sem.run_pure, Result.andThen_ok, List.map_toArray, List.map_cons, List.map_nil, hs, hx, hr]
  exact k
/-- A holder's row, as the map tells it. -/
def old17 (so : Lk.St) (V : Int → Value) (who : Int) : Value := if Lk.own so who = [] then .slice none 0 0 else V who
section
variable {w w1 w2 w3 : World} {q a b c d : Nat} {sh so s : Lk.St} {F : Nat → Prop} {fh fo fu fs fo' : Lit → Option Value} {V : Int → Value} {v' : Value} {p : ByteArray} {who : Int}
theorem LkU.old_row (h : LkU w q sh so F a b c d fh fo fu fs V) (who : Int) : w.ownsRow 0 9 1 (old17 so V who) (Lk.own so who).length (sc (Lk.own so who)) := by
  unfold old17
  by_cases e : Lk.own so who = []
  · rw [if_pos e, e]
    exact World.ownsRow_nil _ _ _ _
  · rw [if_neg e]
    exact h.row who e
theorem old_in17 {k : Nat} (hk : (old17 so V who).ownBlock = some k) : Lk.own so who ≠ [] ∧ (V who).ownBlock = some k := by
  unfold old17 at hk
  by_cases e : Lk.own so who = []
  · rw [if_pos e] at hk
    cases hk
  · rw [if_neg e] at hk
    exact ⟨e, hk⟩
theorem LkU.old_get (h : LkU w q sh so F a b c d fh fo fu fs V) (who : Int) : (fo (ikey who)).getD (.slice none 0 0) = old17 so V who := by
  rw [h.io.at_]
  unfold old17
  split <;> rfl
/-- What the append of a path to a holder's row leaves as it was. -/
theorem LkU.app_keep (h : LkU w1 q sh so F a b c d fh fo fu fs V) (hg : w1.grownBy w2 (old17 so V who).ownBlock) : w2.heap[q]? = w1.heap[q]? ∧ w2.heap[a]? = w1.heap[a]? ∧ w2.heap[b]? = w1.heap[b]? ∧ w2.heap[c]? = w1.heap[c]? ∧ w2.heap[d]? = w1.heap[d]? ∧ ∀ z, Lk.own so z ≠ [] → z ≠ who → ∀ k, (V z).ownBlock = some k → w2.heap[k]? = w1.heap[k]? := by
  refine ⟨hg.block q h.blk.lt fun e => ?_, hg.block a h.mh.lt fun e => ?_, hg.block b h.mo.lt fun e => ?_, hg.block c h.mu.lt fun e => ?_, hg.block d h.ms.lt fun e => ?_, fun z hz hne k hk => hg.block k ((h.row z hz).lt k hk).2 fun e => ?_⟩
  · obtain ⟨h1, h2⟩ := old_in17 e.symm
    exact h.blk.apart (h.row who h1) (by decide) h2
  · obtain ⟨h1, h2⟩ := old_in17 e.symm
    exact h.mh.ne_row (h.row who h1) h2
  · obtain ⟨h1, h2⟩ := old_in17 e.symm
    exact h.mo.ne_row (h.row who h1) h2
  · obtain ⟨h1, h2⟩ := old_in17 e.symm
    exact h.mu.ne_row (h.row who h1) h2
  · obtain ⟨h1, h2⟩ := old_in17 e.symm
    exact h.ms.ne_row (h.row who h1) h2
  · obtain ⟨h1, h2⟩ := old_in17 e.symm
    exact h.apart z who hz h1 hne k hk h2
/-- One path more in a holder's row. -/
theorem LkU.push_o (h : LkU w1 q sh so F a b c d fh fo fu fs V) (hg : w1.grownBy w2 (old17 so V who).ownBlock) (hrow : w2.ownsRow 0 9 1 v' (Lk.own so who ++ [p]).length (sc (Lk.own so who ++ [p]))) (hwh : v'.ownBlock = (old17 so V who).ownBlock ∨ v'.ownBlock = some w1.heap.size)
    (ht : w2.mapTurned w3 b) (hm : Mq w3 2 b fo') (hi : Up fo (ikey who) (some v') fo') :
    LkU w3 q sh (so ++ [⟨p, who⟩]) (fun k => F k ∨ v'.ownBlock = some k) a b c d fh fo' fu fs (fun z => if z = who then v' else V z) ∧ Moved w1 w3 F (fun k => F k ∨ v'.ownBlock = some k) := by
  obtain ⟨kq, ka, kb, kc, kd, kr⟩ := h.app_keep hg
  obtain ⟨n1, n2, n3, n4, n5, n6⟩ := h.ne
  have hs := hg.size
  have m2 : Mq w2 2 b fo := h.mo.keep kb
  have hvb : v'.ownBlock ≠ some b := m2.ne_row hrow
  have hown : ∀ z, Lk.own (so ++ [⟨p, who⟩]) z = if z = who then Lk.own so who ++ [p] else Lk.own so z := fun z => by
    rw [Lk.own_snoc]
    by_cases e : z = who
    · rw [if_pos e.symm, if_pos e, e]
    · rw [if_neg (fun e2 => e e2.symm), if_neg e, List.append_nil]
  have t2 : ∀ k, k < w1.heap.size → k ≠ b → w3.heap[k]? = w2.heap[k]? := fun k hk hne => turned_keep ht (by omega) hne
  have hrow3 : w3.ownsRow 0 9 1 v' (Lk.own so who ++ [p]).length (sc (Lk.own so who ++ [p])) := row_stays hrow fun k hk => turned_keep ht (hrow.lt k hk).2 fun e => hvb (by rw [hk, e])
  have hne : ∀ z, z ≠ who → Lk.own (so ++ [⟨p, who⟩]) z ≠ [] → Lk.own so z ≠ [] := fun z e h1 => by rw [hown z, if_neg e] at h1; exact h1
  have hfresh : ∀ z, z ≠ who → Lk.own so z ≠ [] → ∀ k, v'.ownBlock = some k → (V z).ownBlock ≠ some k := fun z e hz k hk hk2 => by
    rcases hwh with h1 | h1
    · rw [h1] at hk
      obtain ⟨h2, h3⟩ := old_in17 hk
      exact h.apart z who hz h2 e k hk2 h3
    · rw [hk, Option.some.injEq] at h1
      have := ((h.row z hz).lt k hk2).2
      omega
  have hrowz : ∀ z, z ≠ who → Lk.own so z ≠ [] → w3.ownsRow 0 9 1 (V z) (Lk.own so z).length (sc (Lk.own so z)) := fun z e hz => row_stays (h.row z hz) fun k hk => by
    have hlt := ((h.row z hz).lt k hk).2
    rw [t2 k hlt (fun e2 => h.mo.ne_row (h.row z hz) (by rw [hk, e2])), kr z hz e k hk]
  refine ⟨⟨h.blk.keep ((t2 q h.blk.lt (h.mo.ne h.blk).symm).trans kq), h.mh.keep ((t2 a h.mh.lt n1).trans ka), hm, h.mu.keep ((t2 c h.mu.lt n4.symm).trans kc), h.ms.keep ((t2 d h.ms.lt n5.symm).trans kd), h.ih, ?_, fun z hz => ?_, fun z y hz hy hzy k hk => ?_, h.ne, Or.inl h.gq, ⟨Or.inl h.gm.1, Or.inl h.gm.2.1, Or.inl h.gm.2.2.1, Or.inl h.gm.2.2.2⟩, fun z hz k hk => ?_, fun k hk => ?_⟩, ?_⟩
  · refine h.io.one (z := who) ?_ fun y e => ⟨by rw [hown y, if_neg e], by simp only [if_neg e]⟩
    rw [hown who, if_pos rfl, if_neg (by simp)]
    simp only [if_pos]
    exact hi
  · by_cases e : z = who
    · simp only [e, if_pos]
      rw [hown who, if_pos rfl]
      exact hrow3
    · simp only [if_neg e]
      rw [hown z, if_neg e]
      exact hrowz z e (hne z e hz)
  · by_cases e : z = who
    · simp only [e, if_pos] at hk
      have e2 : y ≠ who := fun e2 => hzy (by rw [e, e2])
      simp only [if_neg e2]
      exact hfresh y e2 (hne y e2 hy) k hk
    · simp only [if_neg e] at hk
      by_cases e2 : y = who
      · simp only [e2, if_pos]
        exact fun hk2 => hfresh z e (hne z e hz) k hk2 hk
      · simp only [if_neg e2]
        exact h.apart z y (hne z e hz) (hne y e2 hy) hzy k hk
  · by_cases e : z = who
    · simp only [e, if_pos] at hk
      exact Or.inr hk
    · simp only [if_neg e] at hk
      exact Or.inl (h.gv z (hne z e hz) k hk)
  · have h3 := ht.grown.size
    rcases hk with hk | hk
    · have := h.flt k hk
      omega
    · have := (hrow.lt k hk).2
      omega
  · have hg3 := ht.grown
    refine ⟨hg3.os.trans hg.os, hg3.tape.trans hg.tape, hg3.output.trans hg.output, Nat.le_trans hs hg3.size, fun k hk hF => ?_, fun k hk => ?_⟩
    · rw [t2 k hk (fun e => hF (e ▸ h.gm.2.1))]
      refine hg.block k hk fun e => ?_
      obtain ⟨h1, h2⟩ := old_in17 e.symm
      exact hF (h.gv who h1 k h2)
    · rcases hk with hk | hk
      · exact Or.inl hk
      · rcases hwh with h1 | h1
        · rw [h1] at hk
          obtain ⟨h2, h3⟩ := old_in17 hk
          exact Or.inl (h.gv who h2 k h3)
        · rw [hk, Option.some.injEq] at h1
          exact Or.inr (by omega)
/-- What region 4's reads lean on. -/
def SO17 (w : World) (q b : Nat) (who : Int) (v : Value) : Prop := w.cell? ⟨q, 1, none⟩ = some (.map (some b)) ∧ (Instr.lookup 49 (.map (some b)) (.int .i64 who) false).run Tryd.prog w = .ok v w
theorem LkU.sO (h : LkU w q sh so F a b c d fh fo fu fs V) (hw : I64 who) : SO17 w q b who (old17 so V who) := by
  refine ⟨h.c1, ?_⟩
  have e := h.mo.look keyedI Tryd.underlying49 (zeroSs17 _) (key_i hw)
  rw [h.old_get who] at e
  exact e
theorem LkU.sO_app (h : LkU w1 q sh so F a b c d fh fo fu fs V) (hw : I64 who) (hg : w1.grownBy w2 (old17 so V who).ownBlock) : SO17 w2 q b who (old17 so V who) ∧ Mq w2 2 b fo := by
  obtain ⟨kq, _, kb, _⟩ := h.app_keep hg
  refine ⟨⟨(h.blk.keep kq).cell 1, ?_⟩, h.mo.keep kb⟩
  have e := (h.mo.keep kb).look keyedI Tryd.underlying49 (zeroSs17 _) (key_i hw)
  rw [h.old_get who] at e
  exact e
end
/-- What the inner take leaves. -/
def TakP17 (w : World) (q : Nat) (s2 : Lk.St) (F : Nat → Prop) (e : Ending) (w' : World) : Prop := e = .returned (.tuple #[]) ∧ ∃ F', LLk w' q s2 F' ∧ Moved w w' F F'
section
variable {w : World} {q a b c d m : Nat} {s : Lk.St} {F : Nat → Prop} {fh fo fu fs : Lit → Option Value} {V : Int → Value}
set_option maxRecDepth 20000 in
set_option maxHeartbeats 8000000 in
theorem take_new17 (h : LkU w q s s F a b c d fh fo fu fs V) (hu : IsU s fu) (hs : IsS s fs) (hl : s.length ≤ 1999) (hlo : ∀ k, F k → 3 ≤ k) (hS : Pa.Std w) (who : Int) (hw : I64 who) (p : ByteArray) (hg : Lk.good p = true) (hn : Lk.held s p = none) :
    Calls Tryd.prog 26 #[dptr q, .int .i64 who, .string p] w (TakP17 w q (s ++ [⟨p, who⟩]) F) := by
  have hpz : p.size ≤ 200 := by
    have h1 := (Pl.good_parts (show Pl.goodB p.data.toList = true from hg)).2.2
    rw [Pa.sz_list] at h1
    exact h1
  have hp : p.size ≤ maxLen := by unfold maxLen; omega
  obtain ⟨fh1, hh1⟩ := Up.some_is fh (pkey p) (some (.int .i64 who))
  have hih : IsH (s ++ [⟨p, who⟩]) fh1 := h.ih.one (p := p) (by rw [Lk.held_snoc, hn, if_pos rfl]; exact hh1) fun q hq => by rw [Lk.held_snoc, if_neg (fun e => hq e.symm), Option.or_none]
  have HLO : Hid (∀ k, F k → 3 ≤ k) := hlo
  have HH : Hid (LkU w q s s F a b c d fh fo fu fs V ∧ Pa.Std w ∧ I64 who ∧ p.size ≤ 200 ∧ p.size ≤ maxLen) := ⟨h, hS, hw, hpz, hp⟩
  have HI : Hid (IsU s fu ∧ IsS s fs ∧ s.length ≤ 1999 ∧ Few fh 2000 ∧ Few fo 2000 ∧ 2000 < maxLen ∧ Up fh (pkey p) (some (.int .i64 who)) fh1 ∧ IsH (s ++ [⟨p, who⟩]) fh1 ∧ fh (pkey p) = none) := ⟨hu, hs, hl, h.ih.few.mono (by omega), h.io.few.mono (by omega), by decide, hh1, hih, by rw [h.ih.at_, hn]; rfl⟩
  have HK : Hid (keyOf Tryd.prog 9 (.string p) = some (pkey p) ∧ keyOf Tryd.prog 2 (.int .i64 who) = some (ikey who)) := ⟨key_p hp, key_i hw⟩
  have t0 := h.c0
  clear h hu hs hl hS hw hg hn hpz hp hh1 hih hlo
  go_enter Tryd.func26, Tryd.ntmps26
  go_wp2_with (at_lookup; refine wpList_lookMok rfl _ _ 48 rfl 9 2 keyedP Tryd.underlying48 (.int .i64 0) (zeroI17 _) rfl HH.out.1.mh (.string p) (pkey p) rfl HK.out.1 (.int .i64 0) false (by rw [HI.out.2.2.2.2.2.2.2.2]; rfl) (by rw [HI.out.2.2.2.2.2.2.2.2]; rfl) ?_)
  go_wp2_with fail
  refine (sclone_any17 p w (by have := HH.out.2.2.2.1; omega)).mono ?_
  rintro e w1 ⟨rfl, hb⟩
  have H1 : Hid (LkU w1 q s s F a b c d fh fo fu fs V ∧ Moved w w1 F F) := ⟨HH.out.1.below hb, Moved.of_below F hb⟩
  clear hb t0
  have t0 := H1.out.1.c0
  go_wp2_with (at_mapUpdate; refine wpList_storeM rfl _ _ _ 48 rfl 9 2 keyedP Tryd.underlying48 rfl H1.out.1.mh HI.out.2.2.2.1 HI.out.2.2.2.2.2.1 (.string p) (.int .i64 who) (pkey p) rfl rfl HK.out.1 HI.out.2.2.2.2.2.2.1 ?_)
  intro w2 hm ht
  have H2 : Hid (LkU w2 q (s ++ [⟨p, who⟩]) s F a b c d fh1 fo fu fs V ∧ Moved w w2 F F) := ⟨H1.out.1.turn_h ht hm HI.out.2.2.2.2.2.2.2.1, H1.out.2.trans (Moved.turned ht H1.out.1.gm.1)⟩
  clear hm ht t0 H1
  go_upto_region 4 with fail
  obtain ⟨vO, hvO⟩ : ∃ z, z = old17 s V who := ⟨_, rfl⟩
  have HVO : Hid (vO = old17 s V who) := hvO
  clear hvO
  refine wp_region_T (fun w' => SO17 w' q b who vO) 14 (by kernel_rfl) ?_
  have H3 : Hid (LkU w2.drew q (s ++ [⟨p, who⟩]) s F a b c d fh1 fo fu fs V ∧ Moved w w2.drew F F) := ⟨H2.out.1.below (Below.refl _ _).drew, H2.out.2.trans (Moved.of_below F (Below.refl _ _).drew)⟩
  clear H2
  generalize w2.drew = w3 at *
  have HS3 : Hid (SO17 w3 q b who vO) := (show SO17 w3 q b who vO by rw [HVO.out]; exact H3.out.1.sO HH.out.2.2.1)
  refine' take_T (i := 0) (d := 26) (v := _) rfl rfl (by kernel_rfl) (by kernel_rfl) (by kernel_rfl) (by kernel_rfl) (by kernel_rfl) (fun _ _ _ h => h) (Or.inl ⟨by rfl, ?h0⟩) (HS3.out) ?_
  case h0 =>
    intro w hSw
    obtain ⟨t0, t1⟩ := hSw
    go_simp
    with_reducible rfl
  simp only [List.setIfInBounds_toArray, List.set_cons_zero, List.set_cons_succ]
  refine' take_T (i := 1) (d := 27) (v := _) rfl rfl (by kernel_rfl) (by kernel_rfl) (by kernel_rfl) (by kernel_rfl) (by kernel_rfl) (fun _ _ _ h => h) (Or.inl ⟨by rfl, ?h1⟩) (HS3.out) ?_
  case h1 =>
    intro w hSw
    obtain ⟨t0, t1⟩ := hSw
    go_simp
    with_reducible rfl
  simp only [List.setIfInBounds_toArray, List.set_cons_zero, List.set_cons_succ]
  refine' take_T (i := 2) (d := 28) (v := _) rfl rfl (by kernel_rfl) (by kernel_rfl) (by kernel_rfl) (by kernel_rfl) (by kernel_rfl) (fun _ _ _ h => h) (Or.inl ⟨by rfl, ?h2⟩) (HS3.out) ?_
  case h2 =>
    intro w hSw
    obtain ⟨t0, t1⟩ := hSw
    go_simp
    with_reducible rfl
  simp only [List.setIfInBounds_toArray, List.set_cons_zero, List.set_cons_succ]
  refine' take_T (i := 3) (d := 29) (v := _) rfl rfl (by kernel_rfl) (by kernel_rfl) (by kernel_rfl) (by kernel_rfl) (by kernel_rfl) (fun _ _ _ h => h) (Or.inl ⟨by rfl, ?h3⟩) (HS3.out) ?_
  case h3 =>
    intro w hSw
    obtain ⟨t0, t1⟩ := hSw
    go_simp
    with_reducible rfl
  simp only [List.setIfInBounds_toArray, List.set_cons_zero, List.set_cons_succ]
  refine' take_T (i := 4) (d := 30) (v := _) rfl rfl (by kernel_rfl) (by kernel_rfl) (by kernel_rfl) (by kernel_rfl) (by kernel_rfl) (fun _ _ _ h => h) (Or.inl ⟨by rfl, ?h4⟩) (HS3.out) ?_
  case h4 =>
    intro w hSw
    obtain ⟨t0, t1⟩ := hSw
    go_simp
    with_reducible rfl
  simp only [List.setIfInBounds_toArray, List.set_cons_zero, List.set_cons_succ]
  refine' take_T (i := 5) (d := 31) (v := _) rfl rfl (by kernel_rfl) (by kernel_rfl) (by kernel_rfl) (by kernel_rfl) (by kernel_rfl) (fun _ _ _ h => h) (Or.inl ⟨by rfl, ?h5⟩) (HS3.out) ?_
  case h5 =>
    intro w hSw
    obtain ⟨t0, t1⟩ := hSw
    go_simp
    with_reducible rfl
  simp only [List.setIfInBounds_toArray, List.set_cons_zero, List.set_cons_succ]
  refine' take_T (i := 6) (d := 32) (v := _) rfl rfl (by kernel_rfl) (by kernel_rfl) (by kernel_rfl) (by kernel_rfl) (by kernel_rfl) (fun _ _ _ h => h) (Or.inl ⟨by rfl, ?h6⟩) (HS3.out) ?_
  case h6 =>
    intro w hSw
    obtain ⟨t0, t1⟩ := hSw
    go_simp
    with_reducible rfl
  simp only [List.setIfInBounds_toArray, List.set_cons_zero, List.set_cons_succ]
  refine' take_T (i := 7) (d := 33) (v := _) rfl rfl (by kernel_rfl) (by kernel_rfl) (by kernel_rfl) (by kernel_rfl) (by kernel_rfl) (fun _ _ _ h => h) (Or.inl ⟨by rfl, ?h7⟩) (HS3.out) ?_
  case h7 =>
    intro w hSw
    obtain ⟨t0, t1⟩ := hSw
    go_simp
    with_reducible rfl
  simp only [List.setIfInBounds_toArray, List.set_cons_zero, List.set_cons_succ]
  refine' take_T (i := 8) (d := 34) (v := _) rfl rfl (by kernel_rfl) (by kernel_rfl) (by kernel_rfl) (by kernel_rfl) (by kernel_rfl) (fun _ _ _ h => h) (Or.inl ⟨by rfl, ?h8⟩) (HS3.out) ?_
  case h8 =>
    intro w hSw
    obtain ⟨t0, t1⟩ := hSw
    go_simp
    with_reducible rfl
  simp only [List.setIfInBounds_toArray, List.set_cons_zero, List.set_cons_succ]
  refine' take_T (i := 9) (d := 35) (v := _) rfl rfl (by kernel_rfl) (by kernel_rfl) (by kernel_rfl) (by kernel_rfl) (by kernel_rfl) (fun _ _ _ h => h) (Or.inl ⟨by rfl, ?h9⟩) (HS3.out) ?_
  case h9 =>
    intro w hSw
    obtain ⟨t0, t1⟩ := hSw
    go_simp
    with_reducible rfl
  simp only [List.setIfInBounds_toArray, List.set_cons_zero, List.set_cons_succ]
  refine' take_T (i := 10) (d := 36) (v := _) rfl rfl (by kernel_rfl) (by kernel_rfl) (by kernel_rfl) (by kernel_rfl) (by kernel_rfl) (fun _ _ _ h => h) (Or.inl ⟨by rfl, ?h10⟩) (HS3.out) ?_
  case h10 =>
    intro w hSw
    obtain ⟨t0, t1⟩ := hSw
    go_simp
    with_reducible rfl
  simp only [List.setIfInBounds_toArray, List.set_cons_zero, List.set_cons_succ]
  refine' take_T (i := 11) (d := 37) (v := _) rfl rfl (by kernel_rfl) (by kernel_rfl) (by kernel_rfl) (by kernel_rfl) (by kernel_rfl) (fun _ _ _ h => h) (Or.inl ⟨by rfl, ?h11⟩) (HS3.out) ?_
  case h11 =>
    intro w hSw
    obtain ⟨t0, t1⟩ := hSw
    go_simp
    with_reducible rfl
  simp only [List.setIfInBounds_toArray, List.set_cons_zero, List.set_cons_succ]
  refine wpAnyT_ready (rs := [12]) (by kernel_rfl) (by simp) ?_
  refine AllReadyT.cons (o := _) rfl (fun KQ hKQ => ?_) AllReadyT.nil
  go_simp
  obtain ⟨gs, hgs⟩ : ∃ g, g = w3.heap.size := ⟨_, rfl⟩
  have H4 : Hid (LkU (w3.alloc (.cells #[.string p] 9)) q (s ++ [⟨p, who⟩]) s F a b c d fh1 fo fu fs V ∧ Moved w (w3.alloc (.cells #[.string p] 9)) F F ∧ (w3.alloc (.cells #[.string p] 9)).cell? ⟨gs, 0, none⟩ = some (.string p)) := by
    have hb := (Below.refl w3.heap.size w3).alloc (Nat.le_refl _) (.cells #[.string p] 9)
    exact ⟨H3.out.1.below hb, H3.out.2.trans (Moved.of_below F hb), by rw [hgs]; exact (Cb.made w3 [.string p] 9).cell 0⟩
  rw [← hgs]
  clear hgs H3 HS3
  generalize w3.alloc (.cells #[.string p] 9) = w4 at *
  have HS4 : Hid (SO17 w4 q b who vO) := (show SO17 w4 q b who vO by rw [HVO.out]; exact H4.out.1.sO HH.out.2.2.1)
  refine hKQ.out _ _ (fun _ => HS4.out) ?_
  clear hKQ KQ
  refine wpAnyT_ready (rs := [13]) (by kernel_rfl) (by simp) ?_
  refine AllReadyT.cons (o := _) rfl (fun KQ hKQ => ?_) AllReadyT.nil
  refine wp_str17 _ _ rfl 39 rfl vO (Lk.own s who) gs p w4 rfl rfl (by rw [HVO.out]; exact H4.out.1.old_row who) H4.out.2.2 (by have := Lk.own_le s who; have := HI.out.2.2.1; omega) ?_
  intro vN w5 hrow hgr hwh
  rw [HVO.out] at hgr hwh
  have HA : Hid (w5.ownsRow 0 9 1 vN (Lk.own s who ++ [p]).length (sc (Lk.own s who ++ [p])) ∧ w4.grownBy w5 (old17 s V who).ownBlock ∧ (vN.ownBlock = (old17 s V who).ownBlock ∨ vN.ownBlock = some w4.heap.size)) := ⟨hrow, hgr, hwh⟩
  have HS5 : Hid (SO17 w5 q b who vO ∧ Mq w5 2 b fo) := (show SO17 w5 q b who vO ∧ Mq w5 2 b fo by rw [HVO.out]; exact H4.out.1.sO_app HH.out.2.2.1 hgr)
  clear hrow hgr hwh HS4
  simp only [List.setIfInBounds_toArray, List.set_cons_zero, List.set_cons_succ]
  refine hKQ.out _ _ (fun _ => HS5.out.1) ?_
  clear hKQ KQ
  obtain ⟨fo1, ho1⟩ := Up.some_is fo (ikey who) (some vN)
  obtain ⟨w6, hrun, hm, ht⟩ := HS5.out.2.store keyedI Tryd.underlying49 HI.out.2.2.2.2.1 HI.out.2.2.2.2.2.1 HK.out.2 vN ho1
  obtain ⟨hl6, hm6⟩ := H4.out.1.push_o HA.out.2.1 HA.out.1 HA.out.2.2 ht hm ho1
  have H6 : Hid (LkU w6 q (s ++ [⟨p, who⟩]) (s ++ [⟨p, who⟩]) (fun k => F k ∨ vN.ownBlock = some k) a b c d fh1 fo1 fu fs (fun z => if z = who then vN else V z) ∧ Moved w w6 F (fun k => F k ∨ vN.ownBlock = some k)) := ⟨hl6, H4.out.2.1.trans hm6⟩
  clear hm ht ho1 hl6 hm6 HA HS5 H4
  refine wpAnyT_ready (rs := [14]) (by kernel_rfl) (by simp) ?_
  refine AllReadyT.cons (o := _) rfl (fun KQ hKQ => ?_) AllReadyT.nil
  go_simp
  clear hrun
  refine hKQ.out _ _ (fun h => absurd rfl h) ?_
  clear hKQ KQ
  refine wpAnyT_done (by kernel_rfl) ?_ _
  go_wp2_with fail
  refine (count_any17 H6.out.1 HI.out.1 HI.out.2.1 (by have := HI.out.2.2.1; omega) (by rw [List.length_append]; have := HI.out.2.2.1; simp only [List.length_cons, List.length_nil]; omega) (HH.out.2.1.moved17 H6.out.2 HLO.out) who HH.out.2.2.1 p HH.out.2.2.2.2 1 (Step17.come s p who)).mono ?_
  rintro e w7 ⟨rfl, fu2, fs2, hl, h1, h2, h3⟩
  have H7 : Hid (LLk w7 q (s ++ [⟨p, who⟩]) (fun k => F k ∨ vN.ownBlock = some k) ∧ Moved w w7 F (fun k => F k ∨ vN.ownBlock = some k)) := ⟨⟨a, b, c, d, fh1, fo1, fu2, fs2, _, hl, h1, h2⟩, H6.out.2.trans h3⟩
  clear hl h1 h2 h3 H6
  go_wp2
  go_end0
  exact ⟨rfl, _, H7.out.1, H7.out.2⟩
set_option maxRecDepth 20000 in
set_option maxHeartbeats 2000000 in
theorem take_old17 (h : LkU w q s s F a b c d fh fo fu fs V) (hu : IsU s fu) (hs : IsS s fs) (who x : Int) (p : ByteArray) (hp : p.size ≤ maxLen) (hn : Lk.held s p = some x) :
    Calls Tryd.prog 26 #[dptr q, .int .i64 who, .string p] w (TakP17 w q s F) := by
  have HH : Hid (LkU w q s s F a b c d fh fo fu fs V ∧ IsU s fu ∧ IsS s fs ∧ fh (pkey p) = some (.int .i64 x) ∧ keyOf Tryd.prog 9 (.string p) = some (pkey p)) := ⟨h, hu, hs, by rw [h.ih.at_, hn]; rfl, key_p hp⟩
  have t0 := h.c0
  clear h hu hs hp hn
  go_enter Tryd.func26, Tryd.ntmps26
  go_wp2_with (at_lookup; refine wpList_lookMok rfl _ _ 48 rfl 9 2 keyedP Tryd.underlying48 (.int .i64 0) (zeroI17 _) rfl HH.out.1.mh (.string p) (pkey p) rfl HH.out.2.2.2.2 (.int .i64 x) true (by rw [HH.out.2.2.2.1]; rfl) (by rw [HH.out.2.2.2.1]; rfl) ?_)
  go_wp2
  refine bodyPost_ret (results_none rfl _ _ _) rfl ?_
  exact ⟨rfl, F, ⟨a, b, c, d, fh, fo, fu, fs, V, HH.out.1, HH.out.2.1, HH.out.2.2.1⟩, Moved.refl _ _⟩
end
theorem take_one17 {w : World} {q : Nat} {s : Lk.St} {F : Nat → Prop} (h : LLk w q s F) (hl : s.length ≤ 1999) (hlo : ∀ k, F k → 3 ≤ k) (hS : Pa.Std w) (who : Int) (hw : I64 who) (p : ByteArray) (hg : Lk.good p = true) :
    Calls Tryd.prog 26 #[dptr q, .int .i64 who, .string p] w (TakP17 w q (Lk.add who s p) F) := by
  obtain ⟨a, b, c, d, fh, fo, fu, fs, V, h, hu, hs⟩ := h
  unfold Lk.add
  cases hn : Lk.held s p with
  | none => exact take_new17 h hu hs hl hlo hS who hw p hg hn
  | some x => exact take_old17 h hu hs who x p (by have h1 := (Pl.good_parts (show Pl.goodB p.data.toList = true from hg)).2.2; rw [Pa.sz_list] at h1; unfold maxLen; omega) hn
end Go.Proofs.YtadgjinlblloiaaDoor
