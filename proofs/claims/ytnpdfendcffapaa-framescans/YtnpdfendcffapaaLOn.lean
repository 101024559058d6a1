/- The walk of the statement FrameOn, over what Put and Scan answer: it answers true. -/
import Derived.Test.YtnpdfendcffapaaSpecs
namespace Go.Proofs.Ytnpdfendcffapaa
open Go.RowKit

theorem frames_le (l : List (List UInt8)) (h : ∀ r ∈ l, r.length ≤ 200) : (Fr.frames l).length ≤ 212 * l.length := by
  induction l with
  | nil => simp [Fr.frames]
  | cons r l ih =>
    have e : Fr.frames (r :: l) = Fr.frame r ++ Fr.frames l := by simp [Fr.frames]
    have h1 := h r (by simp)
    have h2 := ih (fun x hx => h x (by simp [hx]))
    rw [e, List.length_append, Fr.frame_len, List.length_cons]
    omega

/-- The cells of a slice of rows. -/
theorem Bl.cells {w : World} {v : Value} {ls : List (List UInt8)} (h : Bl w v ls) : ∃ (ao : Option Addr) (c : Nat) (us : List Value), v = .slice ao ls.length c ∧ us.length = ls.length ∧ (ao = none → ls.length = 0) ∧ (∀ ad, ao = some ad → ∀ j u, us[j]? = some u → w.cell? (ad.add j) = some u) ∧ (∀ u ∈ us, u.oneCell' = true) ∧ ∀ (j : Nat) xs u, ls[j]? = some xs → us[j]? = some u → Bs w u xs := by
  by_cases h0 : 0 < ls.length
  · obtain ⟨g, o, c, rfl, hc⟩ := h.at h0
    have hget : ∀ j : Nat, j < ls.length → ∃ u, w.cell? ⟨g, o + j, none⟩ = some u ∧ Bs w u (ls.getD j []) := fun j hj => by
      obtain ⟨u, h1, h2⟩ := hc j ls[j] (List.getElem?_eq_getElem hj)
      exact ⟨u, h1, by simpa [List.getD, List.getElem?_eq_getElem hj] using h2⟩
    have hus : ∀ (j : Nat) u, ((List.range ls.length).map fun j => (w.cell? ⟨g, o + j, none⟩).getD undef)[j]? = some u → j < ls.length ∧ w.cell? ⟨g, o + j, none⟩ = some u := fun j u hu => by
      have hj : j < ls.length := by
        have := (List.getElem?_eq_some_iff.1 hu).1
        simpa using this
      rw [List.getElem?_map, List.getElem?_range hj] at hu
      obtain ⟨u', h1, _⟩ := hget j hj
      have hu : (w.cell? ⟨g, o + j, none⟩).getD undef = u := Option.some.inj hu
      rw [h1] at hu
      have : u' = u := hu
      exact ⟨hj, by rw [h1, this]⟩
    refine ⟨some ⟨g, o, none⟩, c, (List.range ls.length).map fun j => (w.cell? ⟨g, o + j, none⟩).getD undef, rfl, by simp, fun e => (by cases e), fun ad had j u hu => ?_, fun u hu => ?_, fun j xs u hx hu => ?_⟩
    · obtain rfl := Option.some.inj had
      rw [Addr.add_lit]
      exact (hus j u hu).2
    · obtain ⟨j, hj, hju⟩ := List.mem_iff_getElem.1 hu
      have hu2 := hus j u (by rw [List.getElem?_eq_getElem hj, hju])
      obtain ⟨u', h1, h2⟩ := hget j hu2.1
      rw [hu2.2] at h1
      obtain rfl := Option.some.inj h1
      obtain ⟨_, _, _, rfl, _⟩ := h2
      rfl
    · obtain ⟨u', h1, h2⟩ := hc j xs hx
      rw [(hus j u hu).2] at h1
      obtain rfl := Option.some.inj h1
      exact h2
  · obtain ⟨ao, k, c, rfl, hk, hc⟩ := h
    have hl : ls = [] := List.length_eq_zero_iff.1 (by omega)
    subst hl
    exact ⟨ao, c, [], by rw [hk], rfl, fun _ => rfl, fun _ _ j u hu => (by simp at hu), fun _ hu => (by cases hu), fun j xs u hx => (by simp at hx)⟩

theorem wpList_want {P : Program} {w : World} {ops : Array Oper} {rest : List Oper} {o : Oper} {a : Act} {Q : Exit → Act → World → Prop} (hw : Region.wanted o (yielded ops a.tmps) = true)
    (h : ∀ K : Act → World → Prop, (∀ a w, wpList P ops Q rest a w → K a w) → o.wp P a w K Q) : wpList P ops Q (o :: rest) a w :=
  wpList_step fun K hK => by rw [if_pos hw]; exact h K hK

/-- 'append(l, m...)' of rows of bytes, also behind a guard. -/
theorem append_rows {ops : Array Oper} {rest : List Oper} {o : Oper} {a : Act} {Q : Exit → Act → World → Prop} (hw : Region.wanted o (yielded ops a.tmps) = true) (s x : Operand)
    (ho : o.op = .call { callee := .builtin .append, args := #[s, x], argTypes := #[27, 27] })
    (B : Nat) (v u : Value) (n : Nat) (us : List Value) (ms : List (List UInt8)) (w : World) (hs : a.eval s = v) (hx : a.eval x = u) (hown : w.ownsRow B 23 1 v n us) (hB : B ≤ w.heap.size) (wb : World) (hbel : Below wb.heap.size wb w) (hb : Bl wb u ms) (hz : Nz u) (hN : n + ms.length ≤ 1000)
    (h : ∀ v' w' us', us'.length = ms.length → (∀ (j : Nat) xs y, ms[j]? = some xs → us'[j]? = some y → Bs wb y xs) → w'.ownsRow B 23 1 v' (n + ms.length) (us ++ us') → Below B w w' → wpList Try.prog ops Q rest (a.put o.dst v') w') : wpList Try.prog ops Q (o :: rest) a w := by
  obtain ⟨i0, hi, hz0, hz1, hz2⟩ := info_parts infoBytes
  obtain ⟨ao, c, us', rfl, hl, hnil, hcells, hone, hbs⟩ := hb.cells
  cases ao with
  | none =>
    have h0 := hnil rfl
    obtain ⟨_, rfl⟩ := hz _ _ rfl
    obtain rfl : ms = [] := List.length_eq_zero_iff.1 h0
    obtain rfl : us' = [] := List.length_eq_zero_iff.1 hl
    refine wpList_want hw fun K hK => ?_
    have hrun := run_append_owned_none (P := Try.prog) (w := w) B 27 o.type 23 i0 1 Try.underlying27 hi v n us hown
    have hx2 : a.eval x = .slice none 0 0 := hx
    unfold Oper.wp
    simp [execOp, ho, resolve, invoke, builtin, hs, hx2, hrun, Result.andThen]
    exact hK _ _ (h v w [] rfl (fun j xs y hj => by simp at hj) (by simpa using hown) (Below.refl _ _))
  | some ad =>
    refine wpList_want hw fun K hK => ?_
    refine wp_append_own w s x 27 ho B 23 i0 (.slice none 0 0) 1 24 Try.underlying27 hi hz0 hz1 hz2 rfl (by decide) v n us hs hown ad ms.length c us' hx (by omega) (fun j y hy => Below.kept hbel (hcells ad rfl j y hy)) hone (by unfold maxLen; omega) (by omega) hB ?_
    intro v' w' ho' hg _
    exact hK _ _ (h v' w' us' hl hbs ho' ((Below.refl _ w).grown hg hB (fun k hk => (hown.lt k hk).1)))

theorem Bl.of_own {w : World} {B : Nat} {v : Value} {ls : List (List UInt8)} {us : List Value} (h : w.ownsRow B 23 1 v ls.length us) (hb : ∀ (j : Nat) xs y, ls[j]? = some xs → us[j]? = some y → Bs w y xs) : Bl w v ls := by
  have hul : us.length = ls.length := by have := h.1; omega
  rcases h.2 with ⟨rfl, h0⟩ | ⟨g, cap, cur, rfl, _⟩
  · refine ⟨none, 0, 0, rfl, h0.symm, fun j xs hx => ?_⟩
    have := (List.getElem?_eq_some_iff.1 hx).1
    omega
  · refine ⟨some ⟨g, 0, none⟩, ls.length, cap, rfl, rfl, fun j xs hx => ?_⟩
    have hj := (List.getElem?_eq_some_iff.1 hx).1
    have hju : j < us.length := by omega
    refine ⟨g, 0, us[j], rfl, ?_, hb j xs us[j] hx (List.getElem?_eq_getElem hju)⟩
    rw [Nat.zero_add, h.cellAt j (by omega), List.getElem?_eq_getElem hju]

theorem frames_take {ls : List (List UInt8)} {k : Nat} {r : List UInt8} (h : ls[k]? = some r) : Fr.frames (ls.take (k + 1)) = Fr.frames (ls.take k) ++ Fr.frame r := by
  rw [List.take_add_one, h]
  exact Fr.frames_snoc _ _

theorem small_take {ls : List (List UInt8)} {k : Nat} {r : List UInt8} (h : ls[k]? = some r) (hr : r.length ≤ 200) (hs : ∀ x ∈ ls.take k, x.length ≤ 200) : ∀ x ∈ ls.take (k + 1), x.length ≤ 200 := by
  rw [List.take_add_one, h]
  intro x hx
  rcases List.mem_append.1 hx with h1 | h1
  · exact hs x h1
  · simp at h1
    rw [h1]
    exact hr

theorem frames_small {ls : List (List UInt8)} {k : Nat} (hl : ls.length ≤ 12) (hs : ∀ x ∈ ls.take k, x.length ≤ 200) : (Fr.frames (ls.take k)).length ≤ 3000 := by
  have h1 := frames_le _ hs
  have h2 : (ls.take k).length ≤ ls.length := List.length_take_le' k ls
  omega

set_option maxRecDepth 20000 in
set_option maxHeartbeats 4000000 in
theorem on_few (hp : PutSpec) (hs : ScanSpec) (vl vm : Value) (ls ms : List (List UInt8)) (w : World) (hvl : Bl w vl ls) (hvm : Bl w vm ms) (hl : ls.length ≤ 8) (hm : ms.length ≤ 8) (hL : ∀ r ∈ ls, r.length ≤ maxLen) (hM : ∀ r ∈ ms, r.length ≤ maxLen) :
    Calls Try.prog 7 #[vl, vm] w fun e w' => e = .returned (.bool true) ∧ Below w.heap.size w w' := by
  have HP : Hid PutSpec := hp
  have HSc : Hid ScanSpec := hs
  have HVL : Hid (Bl w vl ls) := hvl
  have HVM : Hid (Bl w vm ms) := hvm
  have HLM : Hid ((∀ r ∈ ls, r.length ≤ 9223372036854775807) ∧ (∀ r ∈ ms, r.length ≤ 9223372036854775807)) := ⟨hL, hM⟩
  obtain ⟨al, n, cl, rfl, hn, hq1⟩ := hvl
  obtain ⟨am, m, cm, rfl, hm2, hq2⟩ := hvm
  have HN : Hid ((n = ls.length ∧ ls.length ≤ 8) ∧ m = ms.length ∧ ms.length ≤ 8) := ⟨⟨hn, hl⟩, hm2, hm⟩
  have t1 : ¬ (8 : Int) < (n : Int) := by omega
  have t2 : ¬ (8 : Int) < (m : Int) := by omega
  clear hp hs hn hm2 hl hm hL hM hq1 hq2
  go_enter Try.func7, Try.ntmps7
  go_wp2_with fail
  refine (awake_any HP.out HSc.out _).mono ?_
  rintro e w1 ⟨rfl, hb⟩
  have HB1 : Hid (Below w.heap.size w w1) := hb
  clear hb
  go_wp2
  go_loopw [5, 7] (fun f i wr => ∃ k : Nat, k ≤ n ∧ i = .int .i64 (k : Int) ∧ Bs wr f (Fr.frames (ls.take k)) ∧ (∀ r ∈ ls.take k, r.length ≤ 200) ∧ Below w.heap.size w wr) (fun _ i _ => ((n : Int) - intOf i).toNat)
  case atStart => exact ⟨0, Nat.zero_le _, rfl, Bs.nil _, fun r hr => by simp at hr, HB1.out⟩
  case round =>
    obtain ⟨k, hk, rfl, hf, hsm, hb⟩ := hrel
    have HF : Hid (Bs wr u5 (Fr.frames (ls.take k)) ∧ ∀ r ∈ ls.take k, r.length ≤ 200) := ⟨hf, hsm⟩
    have HB2 : Hid (Below w.heap.size w wr) := hb
    clear hf hsm
    by_cases hlt : k < n
    · have hlt' : (k : Int) < (n : Int) := by omega
      have hkl : k < ls.length := by rw [← HN.out.1.1]; exact hlt
      obtain ⟨g, o, c, hv, hc⟩ := (HVL.out.below hb).at (by omega)
      simp only [Value.slice.injEq] at hv
      obtain ⟨rfl, hx1, rfl⟩ := hv
      obtain ⟨u, hu, hbu⟩ := hc k ls[k] (List.getElem?_eq_getElem hkl)
      have HK : Hid (ls[k]? = some ls[k] ∧ ls[k].length ≤ 9223372036854775807) := ⟨List.getElem?_eq_getElem hkl, HLM.out.1 _ (List.getElem_mem hkl)⟩
      generalize ls[k] = r at *
      have HU : Hid (Bs wr u r) := hbu
      obtain ⟨ao, nr, cr, rfl, hnr, hq⟩ := hbu
      have HNR : Hid (nr = r.length) := hnr
      clear hc hx1 hnr hq hb hkl
      by_cases hbig : 200 < nr
      · have hbig' : (200 : Int) < (nr : Int) := by omega
        go_wp2
        go_ret
        exact ⟨rfl, HB2.out⟩
      · have hbig' : ¬ (200 : Int) < (nr : Int) := by omega
        go_wp2_with fail
        refine (HP.out u5 _ _ r _ HF.out.1 HU.out (by have := frames_small (by have := HN.out; omega) HF.out.2; omega) (by have := HNR.out; omega)).mono ?_
        rintro e w3 ⟨v3, rfl, ho, hb⟩
        have HF3 : Hid (Bs w3 v3 (Fr.frames (ls.take (k + 1))) ∧ ∀ r ∈ ls.take (k + 1), r.length ≤ 200) := by
          have h := Bs.own ho
          rw [← frames_take HK.out.1] at h
          exact ⟨h, small_take HK.out.1 (by have := HNR.out; omega) HF.out.2⟩
        have HB3 : Hid (Below w.heap.size w w3) := HB2.out.trans (hb.mono HB2.out.size)
        clear ho hb
        go_wp2
        go_roundw
        case rel => exact ⟨k + 1, by omega, by go_num, HF3.out.1, HF3.out.2, HB3.out⟩
        case measure => simp [intOf]; omega
    · have hlt' : ¬ (k : Int) < (n : Int) := by omega
      have hkn : ls.take k = ls := List.take_of_length_le (by rw [← HN.out.1.1]; omega)
      rw [hkn] at HF
      have HFu : Hid (Bs wr u5 (Fr.frames ls) ∧ ∀ r ∈ ls, r.length ≤ 200) := HF
      clear HF hkn hb
      obtain ⟨wq, hwq⟩ : ∃ wq, wq = wr := ⟨wr, rfl⟩
      subst hwq
      go_wp2
      go_loopw [6, 8] (fun f i wr => ∃ k : Nat, k ≤ m ∧ i = .int .i64 (k : Int) ∧ Bs wr f (Fr.frames (ms.take k)) ∧ (∀ r ∈ ms.take k, r.length ≤ 200) ∧ Below wq.heap.size wq wr) (fun _ i _ => ((m : Int) - intOf i).toNat)
      case atStart => exact ⟨0, Nat.zero_le _, rfl, Bs.nil _, fun r hr => by simp at hr, Below.refl _ _⟩
      case round =>
        obtain ⟨q, hq, rfl, hf, hsm, hb⟩ := hrel
        have HG : Hid (Bs wr u6 (Fr.frames (ms.take q)) ∧ ∀ r ∈ ms.take q, r.length ≤ 200) := ⟨hf, hsm⟩
        have HBr : Hid (Below wq.heap.size wq wr) := hb
        have HB4 : Hid (Below w.heap.size w wr) := HB2.out.trans (hb.mono HB2.out.size)
        clear hf hsm hb
        by_cases hlt2 : q < m
        · have hlt2' : (q : Int) < (m : Int) := by omega
          have hkl : q < ms.length := by rw [← HN.out.2.1]; exact hlt2
          obtain ⟨g, o, c, hv, hc⟩ := (HVM.out.below HB4.out).at (by omega)
          simp only [Value.slice.injEq] at hv
          obtain ⟨rfl, hx1, rfl⟩ := hv
          obtain ⟨u, hu, hbu⟩ := hc q ms[q] (List.getElem?_eq_getElem hkl)
          have HK : Hid (ms[q]? = some ms[q] ∧ ms[q].length ≤ 9223372036854775807) := ⟨List.getElem?_eq_getElem hkl, HLM.out.2 _ (List.getElem_mem hkl)⟩
          generalize ms[q] = r at *
          have HU : Hid (Bs wr u r) := hbu
          obtain ⟨ao, nr, cr, rfl, hnr, hq9⟩ := hbu
          have HNR : Hid (nr = r.length) := hnr
          clear hc hx1 hnr hq9 hkl
          by_cases hbig : 200 < nr
          · have hbig' : (200 : Int) < (nr : Int) := by omega
            go_wp2
            go_ret
            exact ⟨rfl, HB4.out⟩
          · have hbig' : ¬ (200 : Int) < (nr : Int) := by omega
            go_wp2_with fail
            refine (HP.out u6 _ _ r _ HG.out.1 HU.out (by have := frames_small (by have := HN.out; omega) HG.out.2; omega) (by have := HNR.out; omega)).mono ?_
            rintro e w3 ⟨v3, rfl, ho, hb⟩
            have HF3 : Hid (Bs w3 v3 (Fr.frames (ms.take (q + 1))) ∧ ∀ r ∈ ms.take (q + 1), r.length ≤ 200) := by
              have h := Bs.own ho
              rw [← frames_take HK.out.1] at h
              exact ⟨h, small_take HK.out.1 (by have := HNR.out; omega) HG.out.2⟩
            have HB3 : Hid (Below wq.heap.size wq w3) := HBr.out.trans (hb.mono HBr.out.size)
            clear ho hb
            go_wp2
            go_roundw
            case rel => exact ⟨q + 1, by omega, by go_num, HF3.out.1, HF3.out.2, HB3.out⟩
            case measure => simp [intOf]; omega
        · have hlt2' : ¬ (q : Int) < (m : Int) := by omega
          have hkn : ms.take q = ms := List.take_of_length_le (by rw [← HN.out.2.1]; omega)
          rw [hkn] at HG
          have HGu : Hid (Bs wr u6 (Fr.frames ms) ∧ ∀ r ∈ ms, r.length ≤ 200) := HG
          have HF4 : Hid (Bs wr u5 (Fr.frames ls)) := HFu.out.1.below HBr.out
          clear HG hkn
          have HFl : Hid ((Fr.frames ls).length ≤ 3000 ∧ (Fr.frames ms).length ≤ 3000) := by
            have h1 := frames_le ls HFu.out.2
            have h2 := frames_le ms HGu.out.2
            have h3 := HN.out
            exact ⟨by omega, by omega⟩
          go_wp2_with (at_builtin; refine append_copy rfl _ _ rfl u5 (Fr.frames ls) wr rfl rfl HF4.out (by have := HFl.out.1; omega) ?_)
          intro v5 w5 ho hb
          have HO5 : Hid (w5.ownsRow wr.heap.size 5 1 v5 (Fr.frames ls).length (bc (Fr.frames ls))) := ho
          have HB5 : Hid (Below wr.heap.size wr w5) := hb
          clear ho hb
          go_wp2_with (at_builtin; refine append_bs rfl _ _ rfl wr.heap.size v5 u6 (Fr.frames ls).length (Fr.frames ls) (Fr.frames ms) w5 rfl rfl HO5.out HB5.out.size (HGu.out.1.below HB5.out) (by have := HFl.out; omega) ?_)
          intro v6 w6 ho hb
          have HO6 : Hid (Bs w6 v6 (Fr.frames ls ++ Fr.frames ms)) := Bs.own ho
          have HB6 : Hid (Below wr.heap.size wr w6) := HB5.out.trans hb
          clear ho hb
          have HS1 : Hid (Fr.scan (Fr.frames ls ++ Fr.frames ms) = (ls ++ ms, (Fr.frames ls).length + (Fr.frames ms).length, 0)) := by
            have h := Fr.scan_whole (ls ++ ms) (fun r hr => by rcases List.mem_append.1 hr with h1 | h1; exact Nat.le_trans (HFu.out.2 r h1) (by decide); exact Nat.le_trans (HGu.out.2 r h1) (by decide))
            rw [Fr.frames_app, List.length_append] at h
            exact h
          have HS2 : Hid (Fr.scan (Fr.frames ls) = (ls, (Fr.frames ls).length, 0) ∧ Fr.scan (Fr.frames ms) = (ms, (Fr.frames ms).length, 0)) := ⟨Fr.scan_whole ls fun r hr => Nat.le_trans (HFu.out.2 r hr) (by decide), Fr.scan_whole ms fun r hr => Nat.le_trans (HGu.out.2 r hr) (by decide)⟩
          go_wp2_with fail
          refine (HSc.out v6 _ _ HO6.out (by rw [List.length_append]; have := HFl.out; omega)).mono ?_
          rw [HS1.out]
          rintro e w7 ⟨l7, rfl, hl, hz7, hb⟩
          have HL7 : Hid (Bl w7 l7 (ls ++ ms)) := hl
          clear hz7
          have HB7 : Hid (Below wr.heap.size wr w7) := HB6.out.trans (hb.mono HB6.out.size)
          clear hl hb
          go_wp2_with fail
          refine (HSc.out u5 _ _ (HF4.out.below HB7.out) (by have := HFl.out; omega)).mono ?_
          rw [HS2.out.1]
          rintro e w8 ⟨l8, rfl, hl, hz8, hb⟩
          have HL8 : Hid (Bl w8 l8 ls) := hl
          have HZ8 : Hid (Nz l8) := hz8
          clear hz8
          have HL78 : Hid (Bl w8 l7 (ls ++ ms)) := HL7.out.below hb
          have HB8 : Hid (Below wr.heap.size wr w8) := HB7.out.trans (hb.mono HB7.out.size)
          clear hl hb
          go_wp2_with fail
          refine (HSc.out u6 _ _ (HGu.out.1.below HB8.out) (by have := HFl.out; omega)).mono ?_
          rw [HS2.out.2]
          rintro e w9 ⟨l9, rfl, hl, hz9, hb⟩
          have HL9 : Hid (Bl w9 l9 ms) := hl
          have HZ9 : Hid (Nz l9) := hz9
          clear hz9
          have HL79 : Hid (Bl w9 l7 (ls ++ ms) ∧ Bl w9 l8 ls) := ⟨HL78.out.below hb, HL8.out.below hb⟩
          have HB9 : Hid (Below w.heap.size w w9) := HB4.out.trans ((HB8.out.trans (hb.mono HB8.out.size)).mono HB4.out.size)
          clear hl hb
          obtain ⟨x, hx⟩ : ∃ x : Nat, x = (Fr.frames ls).length := ⟨_, rfl⟩
          obtain ⟨y, hy⟩ : ∃ y : Nat, y = (Fr.frames ms).length := ⟨_, rfl⟩
          have hx1 : x ≤ 3000 := by rw [hx]; exact HFl.out.1
          have hy1 : y ≤ 3000 := by rw [hy]; exact HFl.out.2
          rw [← hx, ← hy]
          clear hx hy
          have hal : Below w9.heap.size w9 (w9.alloc (.cells #[] 23)) := (Below.refl _ w9).alloc (Nat.le_refl _) _
          have HAL : Hid (Below w9.heap.size w9 (w9.alloc (.cells #[] 23))) := hal
          have HOW : Hid ((w9.alloc (.cells #[] 23)).ownsRow w9.heap.size 23 1 (.slice (some ⟨w9.heap.size, 0, none⟩) 0 0) 0 []) := World.ownsRow_made w9 #[] 0 (Nat.le_refl _) (by decide) rfl
          clear hal
          go_wp2_with (at_builtin; refine append_rows (by rfl) _ _ rfl w9.heap.size (.slice (some ⟨w9.heap.size, 0, none⟩) 0 0) l8 0 [] ls _ rfl rfl HOW.out (by simp) w9 HAL.out HL79.out.2 HZ8.out (by have := HN.out; omega) ?_)
          intro va wa ua hla hra hoa hba
          have HOA : Hid (wa.ownsRow w9.heap.size 23 1 va ls.length ua) := by
            have h : wa.ownsRow w9.heap.size 23 1 va ls.length ua := by simpa using hoa
            exact h
          have HRA : Hid (ua.length = ls.length ∧ ∀ (j : Nat) xs y, ls[j]? = some xs → ua[j]? = some y → Bs w9 y xs) := ⟨hla, hra⟩
          have HBA : Hid (Below w9.heap.size w9 wa) := HAL.out.trans hba
          clear hla hra hoa hba
          go_wp2_with (at_builtin; refine append_rows (by rfl) _ _ rfl w9.heap.size va l9 ls.length ua ms _ rfl rfl HOA.out HBA.out.size w9 HBA.out HL9.out HZ9.out (by have := HN.out; omega) ?_)
          intro vc wc uc hlc hrc hoc hbc
          have HBC : Hid (Below w9.heap.size w9 wc) := HBA.out.trans hbc
          have HLC : Hid (Bl wc vc (ls ++ ms)) := by
            refine Bl.of_own (us := ua ++ uc) (by rw [List.length_append]; exact hoc) fun j xs y hx hy => ?_
            by_cases hj : j < ls.length
            · rw [List.getElem?_append_left hj] at hx
              rw [List.getElem?_append_left (by rw [HRA.out.1]; exact hj)] at hy
              exact (HRA.out.2 j xs y hx hy).below HBC.out
            · rw [List.getElem?_append_right (by omega)] at hx
              rw [List.getElem?_append_right (by rw [HRA.out.1]; omega), HRA.out.1] at hy
              exact (hrc _ xs y hx hy).below HBC.out
          clear hlc hrc hoc hbc
          go_wp2_with fail
          refine (all_any l7 vc _ _ _ (HL79.out.1.below HBC.out) HLC.out (by rw [List.length_append]; have := HN.out; omega)).mono ?_
          rintro e wd ⟨rfl, hb⟩
          have hd : decide (ls ++ ms = ls ++ ms) = true := decide_eq_true rfl
          rw [hd]
          have HBD : Hid (Below w.heap.size w wd) := (HB9.out.trans (HBC.out.mono HB9.out.size)).trans (hb.mono (Nat.le_trans HB9.out.size HBC.out.size))
          clear hb hd
          go_wp2
          go_ret
          exact ⟨rfl, HBD.out⟩

set_option maxHeartbeats 1000000 in
theorem on_many (hp : PutSpec) (hs : ScanSpec) (al am : Option Addr) (n m cl cm : Nat) (w : World) (h : (8 : Int) < (n : Int) ∨ (8 : Int) < (m : Int)) :
    Calls Try.prog 7 #[.slice al n cl, .slice am m cm] w fun e w' => e = .returned (.bool true) ∧ Below w.heap.size w w' := by
  have H : Hid ((8 : Int) < (n : Int) ∨ (8 : Int) < (m : Int)) := h
  have HP : Hid PutSpec := hp
  have HSc : Hid ScanSpec := hs
  clear h hp hs
  go_enter Try.func7, Try.ntmps7
  go_wp2_with fail
  refine (awake_any HP.out HSc.out _).mono ?_
  rintro e w1 ⟨rfl, hb⟩
  have HB1 : Hid (Below w.heap.size w w1) := hb
  clear hb
  by_cases h1 : (8 : Int) < (n : Int)
  · go_wp2
    go_ret
    exact ⟨rfl, HB1.out⟩
  · have h2 : (8 : Int) < (m : Int) := by have := H.out; omega
    go_wp2
    go_ret
    exact ⟨rfl, HB1.out⟩

/-- FrameOn answers true. -/
theorem on_any (hp : PutSpec) (hs : ScanSpec) (vl vm : Value) (ls ms : List (List UInt8)) (w : World) (hvl : Bl w vl ls) (hvm : Bl w vm ms) (hL : ∀ r ∈ ls, r.length ≤ maxLen) (hM : ∀ r ∈ ms, r.length ≤ maxLen) :
    Calls Try.prog 7 #[vl, vm] w fun e w' => e = .returned (.bool true) ∧ Below w.heap.size w w' := by
  by_cases h : (8 : Int) < (ls.length : Int) ∨ (8 : Int) < (ms.length : Int)
  · obtain ⟨al, n, cl, rfl, hn, _⟩ := hvl
    obtain ⟨am, m, cm, rfl, hm, _⟩ := hvm
    exact on_many hp hs al am n m cl cm w (by rw [hn, hm]; exact h)
  · exact on_few hp hs vl vm ls ms w hvl hvm (by omega) (by omega) hL hM
end Go.Proofs.Ytnpdfendcffapaa
