/- What Of answers lies in a row of the call's own. -/
import Derived.Test.YtfcbdjjbchcpjaaGreatDoorWpc
namespace Go.Proofs.YtfcbdjjbchcpjaaGreatDoor
open Go.RowKit Go.Sort
section
variable {w : World} {q m : Nat} {t : Tq.Tr} {G : Nat → Prop} {D : DataW Nat} {P : ByteArray → Nat} {V : ByteArray → Value}
set_option maxRecDepth 20000 in
set_option maxHeartbeats 4000000 in
theorem of_own12 (s : Int) (h : TkU w q t G m D P V) (hf : Fine11 t) :
    Calls Tryz.prog 22 #[dptr q, .int .i64 s] w fun e w' => ∃ v, e = .returned v ∧ w'.ownsRow w.heap.size 9 1 v (Tq.ofs t s).length (sc (Tq.ofs t s)) ∧ TkU w' q t G m D P V ∧ Below w.heap.size w w' := by
  have HD : Hid (TkU w q t G m D P V ∧ Fine11 t) := ⟨h, hf⟩
  have c0 : w.cell? ⟨q, 0, none⟩ = some (.map (some m)) := h.blk.cell 0
  clear h hf
  by_cases hs1 : s < 1
  · have HE : Hid (Tq.ofs t s = []) := by
      have e : Tq.ofs t s = [] := by unfold Tq.ofs; rw [if_neg (by omega)]
      exact e
    go_enter Tryz.func22, Tryz.ntmps22
    go_wp2
    go_ret
    exact ⟨_, rfl, by rw [HE.out]; exact World.ownsRow_nil _ _ _ _, HD.out.1, Below.refl _ _⟩
  have HE : Hid (Tq.ofs t s = (t.l.filter fun e => decide (e.2.owner = s)).map (·.1)) := by
    have e : Tq.ofs t s = (t.l.filter fun e => decide (e.2.owner = s)).map (·.1) := by unfold Tq.ofs; rw [if_pos (by omega)]
    exact e
  go_enter Tryz.func22, Tryz.ntmps22
  go_wp2_with (at_range; refine wpList_range_own _ rfl _ 98 rfl 9 103 keyed11 Tryz.underlying98 fElem m t.l.length D rfl HD.out.1.own ?_)
  intro w1 hrg0 hg0 hs0
  obtain ⟨r, hr⟩ : ∃ r, r = w.heap.size := ⟨_, rfl⟩
  have HS0 : Hid (OfS w w1 q r m t s G D P V (Maps.has D) (Maps.size D) [] (.slice none 0 0)) := by
    have hb : Below w.heap.size w w1 := ⟨hg0.os, hg0.tape, hg0.output, hg0.size, fun k hk => hg0.block k hk (by simp)⟩
    refine ⟨by rw [hr]; exact hrg0, HD.out.1.below hb, World.ownsRow_nil _ _ _ _, ?_, hb, by omega, by omega⟩
    rw [List.filter_eq_nil_iff.2 (fun e he => by rw [(HD.out.1.has _).2 ⟨e, he, rfl⟩]; simp)]
    exact List.Perm.nil
  rw [← hr]
  clear hr hrg0 hg0 hs0 c0
  go_wp2
  go_loopw [5] (fun v wr => ∃ left cnt ls, OfS w wr q r m t s G D P V left cnt ls v) (fun _ wr => wr.rangeLeft m r)
  case atStart => exact ⟨_, _, _, HS0.out⟩
  case round =>
    obtain ⟨left, cnt, ls, hS⟩ := hrel
    have HS : Hid (OfS w wr q r m t s G D P V left cnt ls u5) := hS
    clear HS0
    go_wp2_with (at_next; refine wpList_next_ranges _ rfl _ rfl 9 keyed11 fElem Value.string (fun o : Option Nat => .pointer (o.map fun p => ⟨p, 0, none⟩)) (fun key kl hk => by obtain ⟨x, rfl, _⟩ := Maps.keyOf_str Tryz.underlying9 hk; exact ⟨_, rfl⟩) (fun v y hv => fElem_inv hv) m r t.l.length D left cnt rfl hS.rg ?_ ?_)
    · intro _ hl0
      have HP : Hid (ls.Perm (Tq.ofs t s) ∧ ls.length ≤ 500) := by
        have h1 := HS.out.perm
        have e : (t.l.filter fun e => decide (e.2.owner = s) && !left (fkey e.1)) = t.l.filter fun e => decide (e.2.owner = s) := List.filter_congr (fun e _ => by rw [hl0]; simp)
        rw [e, ← HE.out] at h1
        refine ⟨h1, ?_⟩
        have h2 := h1.length_eq
        have h3 := HD.out.2.len
        have h4 := HD.out.2.room
        rw [HE.out, List.length_map] at h2
        have h5 := List.length_filter_le (fun e : Tq.En => decide (e.2.owner = s)) t.l
        omega
      obtain ⟨va, vc, rfl, _, hj⟩ := row_form hS.row
      clear hj hl0 hS
      obtain ⟨N, hN⟩ : ∃ N, N = ls.length := ⟨_, rfl⟩
      rw [← hN] at HS
      rw [← hN]
      have HN : Hid (N = ls.length) := hN
      clear hN
      have HRW : Hid (wr.ownsRow w.heap.size 9 1 (.slice va N vc) N ((dl11 ls).map encStr)) := by
        have e : wr.ownsRow w.heap.size 9 1 (.slice va N vc) N ((dl11 ls).map encStr) := by
          rw [enc11]
          have h := HS.out.row
          rw [← HN.out] at h
          exact h
        exact e
      by_cases hn0 : N = 0
      · have HZ : Hid (Tq.ofs t s = []) := by
          have e : Tq.ofs t s = [] := by
            have h := HP.out.1.length_eq
            rw [← HN.out, hn0] at h
            exact List.length_eq_zero_iff.1 h.symm
          exact e
        subst hn0
        go_wp2_with fail
        refine (AnyM.slices_Sort_string_none Tryz.sort va vc wr).mono ?_
        rintro e w2 ⟨rfl, hw2⟩
        rw [hw2]
        clear hw2
        go_wp2
        go_ret
        exact ⟨_, rfl, by (rw [HZ.out]; have h := HS.out.row; have e : ls = [] := List.length_eq_zero_iff.1 HN.out.symm; rw [e] at h; exact h), HS.out.tk, HS.out.below⟩
      · obtain ⟨g, cap, hu3, hbg, hgl, hncap, hcm, hlen, hH⟩ := Lib.holds_of_ownsRow HRW.out (fun e => by
          have h := HRW.out.2
          rw [e] at h
          rcases h with ⟨_, h⟩ | ⟨_, _, _, h, _⟩
          · exact hn0 h
          · cases h)
        simp only [Value.slice.injEq] at hu3
        obtain ⟨rfl, _, rfl⟩ := hu3
        have HX : Hid (w.heap.size ≤ g ∧ g < wr.heap.size ∧ N ≤ vc ∧ (dl11 ls).length = N ∧ Holds encStr wr g 0 (dl11 ls).toArray) := ⟨hbg, hgl, hncap, hlen, hH⟩
        clear hbg hgl hncap hcm hlen hH
        have hsort := AnyM.slices_Sort_string Tryz.sort g 0 vc (dl11 ls) wr HX.out.2.2.2.2 HX.out.2.1 (by rw [HX.out.2.2.2.1]; have := HP.out.2; have := HN.out; omega)
        rw [HX.out.2.2.2.1] at hsort
        have HSORT : Hid (Calls Tryz.prog 61 #[.slice (some ⟨g, 0, none⟩) N vc] wr fun e w' => e = .returned (.tuple #[]) ∧ ∃ n os, w' = grow (putRow encStr (Sort.ahead wr n) g 0 (List.mergeSort (dl11 ls) fun x y => decide (x ≤ y)).toArray) os) := hsort
        clear hsort
        go_wp2_with fail
        refine HSORT.out.mono ?_
        rintro e w2 ⟨rfl, nn, ob, hw2⟩
        have HFIN : Hid (w2.ownsRow w.heap.size 9 1 (.slice (some ⟨g, 0, none⟩) N vc) (Tq.ofs t s).length (sc (Tq.ofs t s)) ∧ Below w.heap.size w w2 ∧ TkU w2 q t G m D P V) := by
          rcases HRW.out.2 with ⟨h0, _⟩ | ⟨g', cap', cur, hv, hbase, hb, h1, h2, h3, h4⟩
          · cases h0
          cases hv
          have hg := grownBy_sorted (w := wr) (g := g) (n := nn) (os := ob) (List.mergeSort (dl11 ls) leB).toArray
          have hl2 : (List.mergeSort (dl11 ls) leB).length = (dl11 ls).length := List.length_mergeSort _
          have hs := ownsRow_sorted (n := nn) (os := ob) (ts := List.mergeSort (dl11 ls) leB) (ss := dl11 ls) hl2 hbase hb (by rw [HX.out.2.2.2.1]; exact h1) h2 h3
          have he : List.mergeSort (dl11 ls) leB = dl11 (Tq.ofs t s) := sort_eq11 (Tq.ofs_rises HD.out.2.rise s) (HP.out.1.map _)
          have hlo : N = (Tq.ofs t s).length := by rw [HN.out]; exact HP.out.1.length_eq
          rw [he, enc11, HX.out.2.2.2.1] at hs
          rw [he] at hg
          have hw3 : w2 = grow (putRow encStr (Sort.ahead wr nn) g 0 (dl11 (Tq.ofs t s)).toArray) ob := by rw [hw2]; exact congrArg (fun l : List (List UInt8) => grow (putRow encStr (Sort.ahead wr nn) g 0 l.toArray) ob) he
          rw [← hw3] at hs hg
          refine ⟨by rw [← hlo]; exact hs, HS.out.below.grown hg HS.out.below.size (fun k hk => by simp at hk; have := HX.out.1; omega), HS.out.tk.keep (fun k hk => hg.block k (HS.out.tk.glt k hk) (by have := HD.out.1.glt k hk; have := HX.out.1; simp; omega))⟩
        clear hw2
        go_wp2
        go_ret
        exact ⟨_, rfl, HFIN.out.1, HFIN.out.2.2, HFIN.out.2.1⟩
    · intro x c kl y ys w1 cnt1 hkey hlk hv hat hrg1 hlt hg1 hs1 hen
      obtain ⟨e0, he0, hkl⟩ := (HS.out.tk.has kl).1 (Maps.has_true_of_atKey hat)
      have hyp : y = .held (P e0.1) := by rw [← hat .nil, hkl, HS.out.tk.at_ e0 he0]
      obtain ⟨pb, hpb⟩ : ∃ pb, pb = P e0.1 := ⟨_, rfl⟩
      have hc : (Value.pointer (c.map fun p => ⟨p, 0, none⟩)) = dptr pb := fElem_held (ps := ys) (by rw [hv, hyp, hpb])
      have hx : x = e0.1 := by
        obtain ⟨xs, h1, h2, _⟩ := Maps.keyOf_str Tryz.underlying9 hkey
        rw [hkl] at h2
        unfold fkey at h2
        simp only [Lit.string.injEq] at h2
        simp only [Value.string.injEq] at h1
        rw [h1, ← h2]
      subst hx
      rw [hc] at hen ⊢
      have HS1 : Hid (OfS w w1 q r m t s G D P V left cnt1 ls u5 ∨ True) := Or.inr trivial
      have hb1 : Below w.heap.size w w1 := HS.out.below.grown hg1 HS.out.below.size (fun k hk => by simp at hk; have := HS.out.hi; omega)
      have htk1 : TkU w1 q t G m D P V := HS.out.tk.keep (fun k hk => hg1.block k (HS.out.tk.glt k hk) (by have := HD.out.1.glt k hk; have := HS.out.hi; simp; omega))
      have hrow1 : w1.ownsRow w.heap.size 9 1 u5 ls.length (sc ls) := row_stays HS.out.row (fun k hk => hg1.block k (HS.out.row.lt k hk).2 (fun e => row_ne_iter HS.out.row HS.out.rg (by rw [hk, e])))
      have HF : Hid (e0 ∈ t.l ∧ pb = P e0.1 ∧ kl = fkey e0.1 ∧ left kl = true ∧ cnt1 < cnt ∧ wr.rangeLeft m r = cnt ∧ w1.ranges Tryz.prog 9 fElem m r t.l.length D (fun z => left z && !z.sameKey kl) cnt1 ∧ TkU w1 q t G m D P V ∧ Below w.heap.size w w1 ∧ w1.ownsRow w.heap.size 9 1 u5 ls.length (sc ls) ∧ r < w1.heap.size) := ⟨he0, hpb, hkl, hlk, hlt, HS.out.rg.left_eq, hrg1, htk1, hb1, hrow1, by rw [hs1]; exact HS.out.lt⟩
      have HO : Hid (Own11 w1 pb e0.2 (V e0.1)) := by
        have e : Own11 w1 pb e0.2 (V e0.1) := by rw [hpb]; exact htk1.node e0 he0
        exact e
      have HLT : Hid (∀ f : Tq.En, f ∈ t.l → f.1 ≠ e0.1 → (left (fkey f.1) && !(fkey f.1).sameKey kl) = left (fkey f.1)) := fun f _ hne => by
        rw [hkl, Maps.sameKey_ne (fun e3 => hne (fkey_inj e3))]
        simp
      have HL0 : Hid ((left (fkey e0.1) && !(fkey e0.1).sameKey kl) = false) := by
        have e : (left (fkey e0.1) && !(fkey e0.1).sameKey kl) = false := by
          rw [hkl, WideAt.sameKey_self (fkey_lit (good_max (HD.out.2.nodes e0 he0).1))]
          simp
        exact e
      have n4 : w1.cell? ⟨pb, 4, none⟩ = some (.int .i64 e0.2.owner) := HO.out.blk.cell 4
      have hLS : ls.length ≤ 500 := by
        have h1 := HS.out.perm.length_eq
        rw [List.length_map] at h1
        have h2 := List.length_filter_le (fun e : Tq.En => decide (e.2.owner = s) && !left (fkey e.1)) t.l
        have h3 := HD.out.2.len
        have h4 := HD.out.2.room
        omega
      have HLS : Hid (ls.length ≤ 500) := hLS
      clear hkey hlk hv hat hrg1 hlt hg1 hs1 he0 hyp hc hpb hkl hb1 htk1 hrow1 hS hLS HS1
      by_cases how : e0.2.owner = s
      · have hob : (e0.2.owner == s) = true := by simp [how]
        have HPM : Hid ((ls ++ [e0.1]).Perm ((t.l.filter fun e => decide (e.2.owner = s) && !(left (fkey e.1) && !(fkey e.1).sameKey kl)).map (·.1))) := by
          refine ((HS.out.perm.append_right [e0.1]).trans ?_)
          refine (Tq.filt_step _ _ HD.out.2.rise HF.out.1 ?_ ?_ ?_).symm
          · rw [← HF.out.2.2.1, HF.out.2.2.2.1]
            simp
          · rw [HL0.out]
            simp [how]
          · intro e he hne
            rw [HLT.out e he hne]
        clear how
        obtain ⟨va, vc, hu, _, hj⟩ := row_form HF.out.2.2.2.2.2.2.2.2.2.1
        clear hj
        subst hu
        go_wp2_with (at_builtin; refine append_strs2 rfl _ _ rfl w.heap.size (.slice va ls.length vc) (.slice (some ⟨w1.heap.size, 0, none⟩) 1 1) ls [e0.1] (w1.alloc (.cells #[.string e0.1] 9)) rfl rfl (HF.out.2.2.2.2.2.2.2.2.2.1.alloc _) (by rw [World.size_alloc]; have := HF.out.2.2.2.2.2.2.2.2.1.size; omega) (Src.one w1 e0.1 9) (by have := HLS.out; simp; omega) ?_)
        intro v2 w2 hrow2 hb2 hg2
        have hba := (Below.refl _ w1).alloc (Nat.le_refl _) (.cells #[.string e0.1] 9)
        have hne : ∀ k, (∃ z, w1.heap[k]? = some z ∧ ¬ ∃ cs t f, z = .cells cs t f) → some k ≠ (Value.slice va ls.length vc).ownBlock := fun k hk e => by
          obtain ⟨z, h1, h2⟩ := hk
          obtain ⟨cur, h3⟩ := row_in HF.out.2.2.2.2.2.2.2.2.2.1 e.symm
          rw [h1] at h3
          exact h2 ⟨_, _, _, Option.some.inj h3⟩
        have HNX : Hid (OfS w w2 q r m t s G D P V (fun z => left z && !z.sameKey kl) cnt1 (ls ++ [e0.1]) v2) := by
          have hrr := HF.out.2.2.2.2.2.2.1
          have hk2 : ∀ k, k < w1.heap.size → some k ≠ (Value.slice va ls.length vc).ownBlock → w2.heap[k]? = w1.heap[k]? := fun k hk hne => (hg2.block k (by rw [World.size_alloc]; omega) hne).trans (hba.block k hk)
          have hm : some m ≠ (Value.slice va ls.length vc).ownBlock := fun e => by have := (HF.out.2.2.2.2.2.2.2.2.2.1.lt m e.symm).1; have := HD.out.1.glt m HD.out.1.gm; omega
          refine ⟨ranges_keep hrr (hk2 m (HF.out.2.2.2.2.2.2.2.1.glt m HD.out.1.gm) hm) (hk2 r HF.out.2.2.2.2.2.2.2.2.2.2 (row_ne_iter HF.out.2.2.2.2.2.2.2.2.2.1 hrr)), HF.out.2.2.2.2.2.2.2.1.keep (fun k hk => hk2 k (HF.out.2.2.2.2.2.2.2.1.glt k hk) (fun e => by have := (HF.out.2.2.2.2.2.2.2.2.2.1.lt k e.symm).1; have := HD.out.1.glt k hk; omega)), by (rw [List.length_append]; exact hrow2), HPM.out, (HF.out.2.2.2.2.2.2.2.2.1.trans (hba.mono HF.out.2.2.2.2.2.2.2.2.1.size)).trans hb2, ?_, HS.out.hi⟩
          have h1 := hg2.size
          rw [World.size_alloc] at h1
          have := HF.out.2.2.2.2.2.2.2.2.2.2
          omega
        clear hrow2 hb2 hg2 hba hne
        have HME : Hid (w2.rangeLeft m r < wr.rangeLeft m r) := by
          have e : w2.rangeLeft m r < wr.rangeLeft m r := by
            rw [HNX.out.rg.left_eq, HF.out.2.2.2.2.2.1]
            exact HF.out.2.2.2.2.1
          exact e
        go_wp2
        go_roundw
        case rel => exact ⟨_, _, _, HNX.out⟩
        case measure => exact HME.out
      · have hob : (e0.2.owner == s) = false := by simp [how]
        have HNX : Hid (OfS w w1 q r m t s G D P V (fun z => left z && !z.sameKey kl) cnt1 ls u5) := by
          refine ⟨HF.out.2.2.2.2.2.2.1, HF.out.2.2.2.2.2.2.2.1, HF.out.2.2.2.2.2.2.2.2.2.1, ?_, HF.out.2.2.2.2.2.2.2.2.1, HF.out.2.2.2.2.2.2.2.2.2.2, HS.out.hi⟩
          have e : (t.l.filter fun e => decide (e.2.owner = s) && !(left (fkey e.1) && !(fkey e.1).sameKey kl)) = t.l.filter fun e => decide (e.2.owner = s) && !left (fkey e.1) := List.filter_congr (fun f hf => by
            by_cases hne : f.1 = e0.1
            · rw [Tq.en_uniq HD.out.2.rise hf HF.out.1 hne]
              simp [how]
            · rw [HLT.out f hf hne])
          rw [e]
          exact HS.out.perm
        have HME : Hid (w1.rangeLeft m r < wr.rangeLeft m r) := by
          have e : w1.rangeLeft m r < wr.rangeLeft m r := by
            rw [HNX.out.rg.left_eq, HF.out.2.2.2.2.2.1]
            exact HF.out.2.2.2.2.1
          exact e
        clear how
        go_wp2
        go_roundw
        case rel => exact ⟨_, _, _, HNX.out⟩
        case measure => exact HME.out
end
end Go.Proofs.YtfcbdjjbchcpjaaGreatDoor
