/- What the landed Free does. -/
import Derived.Test.YtadgjinlblloiaaDoorWTak17
namespace Go.Proofs.YtadgjinlblloiaaDoor.Lk
theorem Fine.lesses {m : Nat} : ∀ (ps : List ByteArray) {s : St}, Fine m s → Fine m (lesses s ps)
  | [], _, h => h
  | p :: ps, _, h => Fine.lesses ps (h.less p)
theorem held_lesses : ∀ (ps : List ByteArray) (s : St) (p : ByteArray), p ∉ ps → held (lesses s ps) p = held s p
  | [], _, _, _ => rfl
  | q :: ps, s, p, h => by
    have e : lesses s (q :: ps) = lesses (less s q) ps := rfl
    rw [e, held_lesses ps (less s q) p (fun h2 => h (List.mem_cons_of_mem _ h2)), held_less, if_neg (fun h2 => h (by rw [h2]; simp))]
theorem own_held {m : Nat} {s : St} (h : Fine m s) {who : Int} {p : ByteArray} (hp : p ∈ own s who) : held s p = some who := by
  obtain ⟨x, hx, rfl, rfl⟩ := mem_own.1 hp
  exact held_mem h hx
/-- The next of a holder's paths. -/
theorem own_next {m : Nat} {s : St} (h : Fine m s) {who : Int} {k : Nat} {p : ByteArray} (hp : (own s who)[k]? = some p) : held (lesses s ((own s who).take k)) p = some who ∧ lesses s ((own s who).take (k + 1)) = less (lesses s ((own s who).take k)) p := by
  have hlt := (List.getElem?_eq_some_iff.1 hp).1
  refine ⟨?_, ?_⟩
  · rw [held_lesses, own_held h (List.mem_of_getElem? hp)]
    intro hm
    obtain ⟨j, hj⟩ := List.getElem?_of_mem hm
    have hjk : j < k := by
      have := (List.getElem?_eq_some_iff.1 hj).1
      rw [List.length_take] at this
      omega
    rw [List.getElem?_take, if_pos hjk] at hj
    have := (List.getElem?_inj hlt (own_nodup h who)).1 (hp.trans hj.symm)
    omega
  · rw [List.take_add_one, hp]
    exact lesses_snoc _ _ _
end Go.Proofs.YtadgjinlblloiaaDoor.Lk
namespace Go.Proofs.YtadgjinlblloiaaDoor
open Go.RowKit
/-- The Locks while they let a holder's paths go: k are gone. -/
structure Fr17 (w0 w : World) (q : Nat) (s s2 : Lk.St) (F : Nat → Prop) (a b c d : Nat) (fh fo fu fs : Lit → Option Value) (V : Int → Value) : Prop where
  lk : LkU w q s2 s F a b c d fh fo fu fs V
  u : IsU s2 fu
  s : IsS s2 fs
  mv : Moved w0 w F F
set_option maxRecDepth 20000 in
set_option maxHeartbeats 8000000 in
theorem free_any17 {w : World} {q m : Nat} {s : Lk.St} {F : Nat → Prop} (h : LLk w q s F) (hf : Lk.Fine m s) (hm : m ≤ 1000) (hlo : ∀ k, F k → 3 ≤ k) (hS : Pa.Std w) (who : Int) (hw : I64 who) :
    Calls Tryd.prog 12 #[dptr q, .int .i64 who] w fun e w' => ∃ F', e = .returned (.int .i64 (Lk.free s who)) ∧ LLk w' q (Lk.rest s who) F' ∧ Moved w w' F F' := by
  obtain ⟨a, b, c, d, fh, fo, fu, fs, V, h, hu, hs⟩ := h
  obtain ⟨ps, hps⟩ : ∃ ps, ps = Lk.own s who := ⟨_, rfl⟩
  obtain ⟨L, hL⟩ : ∃ L, L = ps.length := ⟨_, rfl⟩
  have hLm : L ≤ 1000 := by rw [hL, hps]; exact Nat.le_trans (Lk.own_le s who) (Nat.le_trans hf.len hm)
  have hrow := h.old_row who
  rw [← hps, ← hL] at hrow
  obtain ⟨ao, ca, hvO, _, hao⟩ := row_form hrow
  have HV : Hid ((fo (ikey who)).getD (.slice none 0 0) = .slice ao L ca ∧ old17 s V who = .slice ao L ca) := ⟨by rw [h.old_get who, hvO], hvO⟩
  have HH : Hid (Lk.Fine m s ∧ m ≤ 1000 ∧ (∀ k, F k → 3 ≤ k) ∧ Pa.Std w ∧ I64 who ∧ keyOf Tryd.prog 2 (.int .i64 who) = some (ikey who)) := ⟨hf, hm, hlo, hS, hw, key_i hw⟩
  have HP : Hid (ps = Lk.own s who ∧ L = ps.length ∧ Lk.free s who = (L : Int)) := ⟨hps, hL, by rw [hL, hps]; exact (Lk.own_len s who).symm⟩
  have H0 : Hid (Fr17 w w q s s F a b c d fh fo fu fs V) := ⟨h, hu, hs, Moved.refl _ _⟩
  have t1 := h.c1
  clear h hu hs hf hm hlo hS hw hps hL hrow hvO
  go_enter Tryd.func12, Tryd.ntmps12
  go_wp2_with (at_lookup; refine wpList_lookM rfl _ _ 49 rfl 2 37 keyedI Tryd.underlying49 (.slice none 0 0) (zeroSs17 _) rfl H0.out.lk.mo (.int .i64 who) (ikey who) rfl HH.out.2.2.2.2.2 (.slice ao L ca) HV.out.1 ?_)
  clear t1
  go_loopw [16] (fun i wx => ∃ (k : Nat) (fh' fu' fs' : Lit → Option Value), k ≤ L ∧ i = .int .i64 (k : Int) ∧ Fr17 w wx q s (Lk.lesses s (ps.take k)) F a b c d fh' fo fu' fs' V) (fun i _ => L - (intOf i).toNat)
  case atStart => exact ⟨0, fh, fu, fs, Nat.zero_le _, rfl, H0.out⟩
  case round =>
    obtain ⟨k, fh1, fu1, fs1, hk, rfl, hfr⟩ := hrel
    have H1 : Hid (Fr17 w wr q s (Lk.lesses s (ps.take k)) F a b c d fh1 fo fu1 fs1 V) := hfr
    clear hfr H0
    by_cases hlt : k < L
    · have hlt' : (k : Int) < (L : Int) := by omega
      have hk0 : (0 : Int) ≤ (k : Int) := by omega
      have hwk : IntKind.wrap .i64 ((k : Int) + 1) = (k : Int) + 1 := by rw [IntKind.wrap_i64]; omega
      obtain ⟨p, hp⟩ : ∃ p, ps[k]? = some p := ⟨ps[k]'(by rw [← HP.out.2.1]; exact hlt), List.getElem?_eq_getElem _⟩
      obtain ⟨g, rfl⟩ := hao (by omega)
      have c9 : wr.cell? ⟨g, k, none⟩ = some (.string p) := by
        have hr := H1.out.lk.old_row who
        rw [HV.out.2, ← HP.out.1, ← HP.out.2.1] at hr
        rw [hr.cellAt k (by omega)]
        unfold sc
        rw [List.getElem?_map, hp]
        rfl
      have hnx := Lk.own_next HH.out.1 (who := who) (k := k) (p := p) (by rw [← HP.out.1]; exact hp)
      rw [← HP.out.1] at hnx
      obtain ⟨s1, hs1⟩ : ∃ s1, s1 = Lk.lesses s (ps.take k) := ⟨_, rfl⟩
      have hf1 : Lk.Fine m s1 := by rw [hs1]; exact HH.out.1.lesses _
      rw [← hs1] at H1 hnx
      have hpg : Lk.good p = true := Lk.held_good hf1 hnx.1
      have hpz : p.size ≤ maxLen := by
        have h1 := (Pl.good_parts (show Pl.goodB p.data.toList = true from hpg)).2.2
        rw [Pa.sz_list] at h1
        unfold maxLen
        omega
      have H2 : Hid (Lk.Fine m s1 ∧ Lk.held s1 p = some who ∧ Lk.lesses s (ps.take (k + 1)) = Lk.less s1 p ∧ p.size ≤ maxLen ∧ keyOf Tryd.prog 9 (.string p) = some (pkey p)) := ⟨hf1, hnx.1, hnx.2, hpz, key_p hpz⟩
      clear hs1 hf1 hnx hpg hpz hp
      obtain ⟨fh2, hh2⟩ := Up.some_is fh1 (pkey p) none
      have HU : Hid (Up fh1 (pkey p) none fh2 ∧ IsH (Lk.less s1 p) fh2) := ⟨hh2, H1.out.lk.ih.one (p := p) (by rw [Lk.held_less, if_pos rfl]; exact hh2) fun y hy => by rw [Lk.held_less, if_neg hy]⟩
      clear hh2
      have t0 := H1.out.lk.c0
      go_wp2_with (at_delete; refine wpList_dropM rfl _ _ 48 9 rfl 2 keyedP Tryd.underlying48 rfl H1.out.lk.mh (.string p) (pkey p) rfl H2.out.2.2.2.2 HU.out.1 ?_)
      intro w2 hm ht
      have H3 : Hid (LkU w2 q (Lk.less s1 p) s F a b c d fh2 fo fu1 fs1 V ∧ IsU s1 fu1 ∧ IsS s1 fs1 ∧ Moved w w2 F F) := ⟨H1.out.lk.turn_h ht hm HU.out.2, H1.out.u, H1.out.s, H1.out.mv.trans (Moved.turned ht H1.out.lk.gm.1)⟩
      clear hm ht t0 c9 H1 HU
      go_wp2_with fail
      refine (count_any17 H3.out.1 H3.out.2.1 H3.out.2.2.1 (by have := H2.out.1.len; have := HH.out.2.1; omega) (by have := (H2.out.1.less p).len; have := HH.out.2.1; omega) (HH.out.2.2.2.1.moved17 H3.out.2.2.2 HH.out.2.2.1) who HH.out.2.2.2.2.1 p H2.out.2.2.2.1 (-1) (Step17.go H2.out.1 H2.out.2.1)).mono ?_
      rintro e w3 ⟨rfl, fu3, fs3, hl, h1, h2, h3⟩
      have H4 : Hid (Fr17 w w3 q s (Lk.less s1 p) F a b c d fh2 fo fu3 fs3 V) := ⟨hl, h1, h2, H3.out.2.2.2.trans h3⟩
      clear hl h1 h2 h3 H3
      go_wp2
      go_roundw
      case rel => exact ⟨k + 1, fh2, fu3, fs3, by omega, by go_num, by rw [H2.out.2.2.1]; exact H4.out⟩
      case measure => simp [intOf]; omega
    · have hlt' : ¬ (k : Int) < (L : Int) := by omega
      obtain rfl : k = L := by omega
      have hr : Lk.lesses s (ps.take k) = Lk.rest s who := by
        rw [HP.out.2.1, List.take_length, HP.out.1]
        exact Lk.lesses_own HH.out.1 who
      rw [hr] at H1
      obtain ⟨fo1, ho1⟩ := Up.some_is fo (ikey who) none
      have HU : Hid (Up fo (ikey who) none fo1 ∧ IsO (Lk.rest s who) V fo1 ∧ ∀ z, Lk.own (Lk.rest s who) z ≠ [] → Lk.own (Lk.rest s who) z = Lk.own s z) := by
        refine ⟨ho1, H1.out.lk.io.one (z := who) (by rw [Lk.own_rest, if_pos rfl, if_pos rfl]; exact ho1) fun y hy => ⟨by rw [Lk.own_rest, if_neg hy], rfl⟩, fun z hz => ?_⟩
        rw [Lk.own_rest] at hz ⊢
        by_cases e : z = who
        · rw [if_pos e] at hz
          exact absurd rfl hz
        · rw [if_neg e]
      clear hr ho1
      have t1 := H1.out.lk.c1
      go_wp2_with (at_delete; refine wpList_dropM rfl _ _ 49 2 rfl 37 keyedI Tryd.underlying49 rfl H1.out.lk.mo (.int .i64 who) (ikey who) rfl HH.out.2.2.2.2.2 HU.out.1 ?_)
      intro w2 hm ht
      have H3 : Hid (LkU w2 q (Lk.rest s who) (Lk.rest s who) F a b c d fh1 fo1 fu1 fs1 V ∧ IsU (Lk.rest s who) fu1 ∧ IsS (Lk.rest s who) fs1 ∧ Moved w w2 F F) := ⟨H1.out.lk.turn_o ht hm HU.out.2.1 HU.out.2.2, H1.out.u, H1.out.s, H1.out.mv.trans (Moved.turned ht H1.out.lk.gm.2.1)⟩
      clear hm ht t1 H1 HU
      go_wp2
      go_ret
      rw [HP.out.2.2]
      exact ⟨F, rfl, ⟨a, b, c, d, fh1, fo1, fu1, fs1, V, H3.out.1, H3.out.2.1, H3.out.2.2.1⟩, H3.out.2.2.2⟩
end Go.Proofs.YtadgjinlblloiaaDoor
