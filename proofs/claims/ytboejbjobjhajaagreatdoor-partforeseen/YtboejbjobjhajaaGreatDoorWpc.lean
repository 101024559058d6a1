import Derived.Test.YtboejbjobjhajaaGreatDoorWt2
import Derived.Sort.OwnSorted
import Derived.Lib.OwnBridge
namespace Go.Proofs.YtboejbjobjhajaaGreatDoor
open Go.RowKit Go.Sort
theorem bless_lt : ∀ {x y : List UInt8}, Op.bytesLess x y = true → x < y
  | _, [], h => by simp [Op.bytesLess] at h
  | [], _ :: _, _ => by simp
  | a :: x, b :: y, h => by
    simp only [Op.bytesLess, Bool.or_eq_true, decide_eq_true_eq, Bool.and_eq_true, beq_iff_eq] at h
    rw [List.cons_lt_cons_iff]
    rcases h with h | ⟨rfl, h⟩
    · exact Or.inl h
    · exact Or.inr ⟨rfl, bless_lt h⟩
abbrev dl11 (L : List ByteArray) : List (List UInt8) := L.map fun s => s.data.toList
theorem rises_le11 {L : List ByteArray} (h : Kq.Rises L) : (dl11 L).Pairwise (fun a b => leB a b = true) := by
  rw [List.pairwise_map]
  refine h.imp ?_
  intro a b hab
  unfold Kq.lt at hab
  rw [ByteArray.toList_eq, ByteArray.toList_eq] at hab
  simp only [leB, decide_eq_true_eq]
  exact List.le_of_lt (bless_lt hab)
theorem rises_nodup11 {L : List ByteArray} (h : Kq.Rises L) : (dl11 L).Nodup := by
  unfold List.Nodup
  rw [List.pairwise_map]
  refine h.imp ?_
  intro a b hab e
  refine Kq.lt_ne hab ?_
  exact bytes_eq (by rw [ByteArray.toList_eq, ByteArray.toList_eq, e]; simp)
theorem sort_eq11 {L : List ByteArray} (h : Kq.Rises L) {ss : List (List UInt8)} (hp : ss.Perm (dl11 L)) : ss.mergeSort leB = dl11 L := by
  have tr : ∀ a b c : List UInt8, leB a b = true → leB b c = true → leB a c = true := fun a b c h1 h2 => by simp only [leB, decide_eq_true_eq] at *; exact List.le_trans h1 h2
  have tot : ∀ a b : List UInt8, (leB a b || leB b a) = true := fun a b => by simp only [leB, Bool.or_eq_true, decide_eq_true_eq]; exact List.le_total a b
  refine List.Perm.eq_of_pairwise (le := fun a b => leB a b = true) (fun a b _ _ h1 h2 => ?_) (List.pairwise_mergeSort tr tot ss) (rises_le11 h) ((List.mergeSort_perm ss leB).trans hp)
  simp only [leB, decide_eq_true_eq] at h1 h2
  exact List.le_antisymm h1 h2
theorem enc11 (L : List ByteArray) : (dl11 L).map encStr = sc L := by
  unfold sc
  rw [List.map_map]
  apply List.map_congr_left
  intro s _
  simp [encStr]
section
variable {w : World} {q m : Nat} {t : Tq.Tr} {G : Nat → Prop} {D : DataW Nat} {P : ByteArray → Nat} {V : ByteArray → Value}
theorem TkU.keys (h : TkU w q t G m D P V) (hr : Kq.Rises (Tq.keys t.l)) : (dl11 (Tq.keys t.l)).Perm (strKeys D) := by
  obtain ⟨es, hD, hpw, _⟩ := h.own.entries keyed11
  obtain ⟨es', hD', hko⟩ := h.own.keysOf
  obtain rfl : es = es' := by rw [hD] at hD'; simpa using hD'
  rw [hD]
  refine perm_strKeys hpw (fun p hp => by obtain ⟨v, hv⟩ := hko p hp; obtain ⟨x, _, hx, _⟩ := Maps.keyOf_str Tryz.underlying9 hv; exact ⟨x, hx⟩) (rises_nodup11 hr) (fun x => ?_)
  rw [← hD, h.has, List.mem_map]
  constructor
  · rintro ⟨s, hs, e⟩
    obtain ⟨f, hf, rfl⟩ := List.mem_map.1 hs
    exact ⟨f, hf, by unfold fkey; rw [e]⟩
  · rintro ⟨f, hf, e⟩
    unfold fkey at e
    simp only [Lit.string.injEq] at e
    exact ⟨f.1, List.mem_map.2 ⟨f, hf, rfl⟩, e.symm⟩
theorem sorts11 (n : Nat) : AnyZ.SortsIn Tryz.prog Tryz.sorted_ren Fence.wide n :=
  ⟨fun blk off cap ss W hH hblk hsz => callsIn_wide.2 (AnyM.slices_Sort_string Tryz.sort blk off cap ss W hH hblk hsz), fun p cap W => callsIn_wide.2 (AnyM.slices_Sort_string_none Tryz.sort p cap W)⟩
theorem keys11 (mb : Option Nat) (W : World) : Calls Tryz.prog 121 #[.map mb] W fun e w' => e = .returned (.func (.func 156) #[] #[.pointer (some ⟨W.heap.size, 0, none⟩)]) ∧ w' = W.alloc (.cells #[.map mb] 111) :=
  callsIn_wide.1 (AnyZ.keys_in Tryz.keys Fence.wide 5 trivial rfl mb W)
set_option maxHeartbeats 2000000 in
theorem sorted11 (b n : Nat) (D0 : DataW Nat) (w : World) (hown : w.ownsMap Tryz.prog 9 fElem b n D0) (hmax : Maps.size D0 ≤ 100000) :
    Calls Tryz.prog 120 #[.func (.func 156) #[] #[.pointer (some ⟨w.heap.size, 0, none⟩)]] (w.alloc (.cells #[.map (some b)] 111)) fun e w' => ∃ (v : Value) (ss : List (List UInt8)), e = .returned v ∧ ss.Perm (strKeys D0) ∧
      w'.ownsRow (w.alloc (.cells #[.map (some b)] 111)).heap.size 9 1 v ss.length ((ss.mergeSort leB).map encStr) ∧ Below (w.alloc (.cells #[.map (some b)] 111)).heap.size (w.alloc (.cells #[.map (some b)] 111)) w' := by
  have hseq : SeqGives Fence.wide 2 Tryz.prog 156 #[.pointer (some ⟨w.heap.size, 0, none⟩)] encStr (fun ss => ss.Perm (strKeys D0)) (Maps.size D0) (w.alloc (.cells #[.map (some b)] 111)) :=
    AnyZ.keys_gives (ρ := Tryz.keys_ren) { Tryz.keys with } Fence.wide _ trivial rfl (by omega) w.heap.size b n D0 _ (by simp) (by simp) (hown.alloc _)
  have key := AnyZ.sorted_in Tryz.sorted Fence.wide 5 trivial trivial trivial trivial rfl (by omega) (sorts11 _) (enters_of Tryz.func106 (by kernel_rfl) rfl) 156 #[.pointer (some ⟨w.heap.size, 0, none⟩)] trivial (enters_of Tryz.func156 (by kernel_rfl) rfl) _ _ (by unfold maxLen; omega) (by omega) _ hseq
  refine (callsIn_wide.1 key).mono ?_
  rintro e w' ⟨v, ss, h1, h2, h3, _, h5⟩
  exact ⟨v, ss, h1, h2, h3, h5⟩
set_option maxRecDepth 20000 in
set_option maxHeartbeats 2000000 in
theorem paths_any11 (h : TkU w q t G m D P V) (hf : Fine11 t) :
    Calls Tryz.prog 81 #[dptr q] w fun e w' => ∃ v, e = .returned v ∧ Sq w' v (Tq.keys t.l) ∧ Off11 G v ∧ TkU w' q t G m D P V ∧ Below w.heap.size w w' := by
  have HD : Hid (TkU w q t G m D P V) := h
  have c0 : w.cell? ⟨q, 0, none⟩ = some (.map (some m)) := h.blk.cell 0
  have HK : Hid (Calls Tryz.prog 121 #[.map (some m)] w fun e w' => e = .returned (.func (.func 156) #[] #[.pointer (some ⟨w.heap.size, 0, none⟩)]) ∧ w' = (w.alloc (.cells #[.map (some m)] 111))) := keys11 (some m) w
  have HS : Hid (Calls Tryz.prog 120 #[.func (.func 156) #[] #[.pointer (some ⟨w.heap.size, 0, none⟩)]] (w.alloc (.cells #[.map (some m)] 111)) fun e w' => ∃ a n c, e = .returned (.slice a n c) ∧ Sq w' (.slice a n c) (Tq.keys t.l) ∧ (∀ k, (Value.slice a n c).ownBlock = some k → w.heap.size ≤ k) ∧ Below w.heap.size w w') := by
    refine (sorted11 m _ D w h.own (by have h1 := h.sz; have h2 := hf.len; have h3 := hf.room; omega)).mono ?_
    rintro e w' ⟨v, ss, rfl, hp, hrow, hb⟩
    have hlen : ss.length = (Tq.keys t.l).length := by
      have := (hp.trans (h.keys hf.rise).symm).length_eq
      simpa using this
    rw [sort_eq11 hf.rise (hp.trans (h.keys hf.rise).symm), enc11, hlen] at hrow
    obtain ⟨a, c, e1, _⟩ := row_form hrow
    have hb1 : Below w.heap.size w (w.alloc (.cells #[.map (some m)] 111)) := (Below.refl _ w).alloc (Nat.le_refl _) _
    subst e1
    exact ⟨_, _, _, rfl, sq_of_row hrow, fun k hk => by have := (hrow.lt k hk).1; have := hb1.size; omega, hb1.trans (hb.mono hb1.size)⟩
  clear h hf
  go_enter Tryz.func81, Tryz.ntmps81
  go_wp2_with fail
  refine HK.out.mono ?_
  rintro e w1 ⟨rfl, hw1⟩
  rw [hw1]
  clear hw1
  go_wp2_with fail
  refine HS.out.mono ?_
  rintro e w2 ⟨a, n, c, rfl, hss, hnw, hb⟩
  have HFIN : Hid (Sq w2 (.slice a n c) (Tq.keys t.l) ∧ (∀ k, (Value.slice a n c).ownBlock = some k → w.heap.size ≤ k) ∧ Below w.heap.size w w2) := ⟨hss, hnw, hb⟩
  clear hss hb hnw
  go_wp2
  go_ret
  exact ⟨_, rfl, HFIN.out.1, fun k hk e => by have := HFIN.out.2.1 k hk; have := HD.out.glt k e; omega, HD.out.below HFIN.out.2.2, HFIN.out.2.2⟩
end
end Go.Proofs.YtboejbjobjhajaaGreatDoor
namespace Go.Proofs.YtboejbjobjhajaaGreatDoor.Tq
open Kq
theorem filt_step (f f' : En → Bool) {e0 : En} : ∀ {l : List En}, Rises (keys l) → e0 ∈ l → f e0 = false → f' e0 = true → (∀ e ∈ l, e.1 ≠ e0.1 → f' e = f e) → ((l.filter f').map (·.1)).Perm ((l.filter f).map (·.1) ++ [e0.1])
  | [], _, h, _, _, _ => by cases h
  | e :: l, hr, he, h0, h1, ho => by
    have hr' := hr
    unfold keys at hr
    rw [List.map_cons] at hr
    obtain ⟨h2, h3⟩ := List.pairwise_cons.1 hr
    by_cases hee : e.1 = e0.1
    · have hx : e = e0 := en_uniq hr' List.mem_cons_self he hee
      subst hx
      have hl : ∀ x ∈ l, f' x = f x := fun x hx => ho x (List.mem_cons_of_mem _ hx) (fun e2 => lt_ne (h2 x.1 (List.mem_map.2 ⟨x, hx, rfl⟩)) e2.symm)
      rw [List.filter_cons_of_pos h1, List.filter_cons_of_neg (by simp [h0]), List.filter_congr hl, List.map_cons]
      exact (List.perm_append_singleton _ _).symm
    · have hm : e0 ∈ l := by
        rcases List.mem_cons.1 he with e1 | e1
        · exact absurd (by rw [e1]) hee
        · exact e1
      have ih := filt_step f f' h3 hm h0 h1 (fun x hx => ho x (List.mem_cons_of_mem _ hx))
      have hfe := ho e List.mem_cons_self hee
      cases hfv : f e with
      | true =>
        rw [List.filter_cons_of_pos (by rw [hfe, hfv]), List.filter_cons_of_pos hfv, List.map_cons, List.map_cons, List.cons_append]
        exact ih.cons _
      | false =>
        rw [List.filter_cons_of_neg (by simp [hfe, hfv]), List.filter_cons_of_neg (by simp [hfv])]
        exact ih
theorem ofs_rises {t : Tr} (hr : Rises (keys t.l)) (s : Int) : Rises (ofs t s) := by
  unfold ofs
  split
  · have h : ((t.l.filter fun e => decide (e.2.owner = s)).map (·.1)).Sublist (keys t.l) := List.Sublist.map _ List.filter_sublist
    exact List.Pairwise.sublist h hr
  · exact List.Pairwise.nil
end Go.Proofs.YtboejbjobjhajaaGreatDoor.Tq
namespace Go.Proofs.YtboejbjobjhajaaGreatDoor
open Go.RowKit Go.Sort
theorem append_strs2 {ops : Array Oper} {rest : List Oper} {o : Oper} {a : Act} {Q : Exit → Act → World → Prop} (hgd : o.guard = none) (s x : Operand)
    (ho : o.op = .call { callee := .builtin .append, args := #[s, x], argTypes := #[71, 71] })
    (B : Nat) (v u : Value) (ls ms : List ByteArray) (w : World) (hs : a.eval s = v) (hx : a.eval x = u) (hown : w.ownsRow B 9 1 v ls.length (sc ls)) (hB : B ≤ w.heap.size) (hb : Src w u ms) (hN : ls.length + ms.length ≤ 3000)
    (h : ∀ v' w', w'.ownsRow B 9 1 v' (ls ++ ms).length (sc (ls ++ ms)) → Below B w w' → w.grownBy w' v.ownBlock → wpList Tryz.prog ops Q rest (a.put o.dst v') w') : wpList Tryz.prog ops Q (o :: rest) a w :=
  wpList_plain hgd fun _ hK => wp_strs s x ho B v u ls ms w hs hx hown hB hb hN (fun v' w' h1 h2 h3 => hK _ _ (h v' w' h1 h2 h3))
theorem ranges_keep {w w' : World} {b r n : Nat} {D : DataW Nat} {left : Lit → Bool} {cnt : Nat} (h : w.ranges Tryz.prog 9 fElem b r n D left cnt) (hb : w'.heap[b]? = w.heap[b]?) (hr : w'.heap[r]? = w.heap[r]?) : w'.ranges Tryz.prog 9 fElem b r n D left cnt := by
  obtain ⟨es, clock, since, seen, c0, h1, F, hs, hD, h2, rest⟩ := h
  exact ⟨es, clock, since, seen, c0, hb.trans h1, F, hs, hD, hr.trans h2, rest⟩
structure OfS (w wr : World) (q r m : Nat) (t : Tq.Tr) (s : Int) (G : Nat → Prop) (D : DataW Nat) (P : ByteArray → Nat) (V : ByteArray → Value) (left : Lit → Bool) (cnt : Nat) (ls : List ByteArray) (v : Value) : Prop where
  rg : wr.ranges Tryz.prog 9 fElem m r t.l.length D left cnt
  tk : TkU wr q t G m D P V
  row : wr.ownsRow w.heap.size 9 1 v ls.length (sc ls)
  perm : ls.Perm ((t.l.filter fun e => decide (e.2.owner = s) && !left (fkey e.1)).map (·.1))
  below : Below w.heap.size w wr
  lt : r < wr.heap.size
  hi : w.heap.size ≤ r
section
variable {w : World} {q m : Nat} {t : Tq.Tr} {G : Nat → Prop} {D : DataW Nat} {P : ByteArray → Nat} {V : ByteArray → Value}
set_option maxRecDepth 20000 in
set_option maxHeartbeats 4000000 in
theorem of_any11 (s : Int) (h : TkU w q t G m D P V) (hf : Fine11 t) :
    Calls Tryz.prog 59 #[dptr q, .int .i64 s] w fun e w' => ∃ v, e = .returned v ∧ Sq w' v (Tq.ofs t s) ∧ Off11 G v ∧ TkU w' q t G m D P V ∧ Below w.heap.size w w' := by
  have HD : Hid (TkU w q t G m D P V ∧ Fine11 t) := ⟨h, hf⟩
  have c0 : w.cell? ⟨q, 0, none⟩ = some (.map (some m)) := h.blk.cell 0
  clear h hf
  by_cases hs1 : s < 1
  · have HE : Hid (Tq.ofs t s = []) := by
      have e : Tq.ofs t s = [] := by unfold Tq.ofs; rw [if_neg (by omega)]
      exact e
    go_enter Tryz.func59, Tryz.ntmps59
    go_wp2
    go_ret
    exact ⟨_, rfl, by rw [HE.out]; exact Sq.nil _, fun k hk => by (cases hk), HD.out.1, Below.refl _ _⟩
  have HE : Hid (Tq.ofs t s = (t.l.filter fun e => decide (e.2.owner = s)).map (·.1)) := by
    have e : Tq.ofs t s = (t.l.filter fun e => decide (e.2.owner = s)).map (·.1) := by unfold Tq.ofs; rw [if_pos (by omega)]
    exact e
  go_enter Tryz.func59, Tryz.ntmps59
  go_wp2_with (at_range; refine wpList_range_own _ rfl _ 111 rfl 9 151 keyed11 Tryz.underlying111 fElem m t.l.length D rfl HD.out.1.own ?_)
  intro w1 hrg0 hg0 hs0
  obtain ⟨r, hr⟩ : ∃ r, r = w.heap.size := ⟨_, rfl⟩
  have HS0 : Hid (OfS w w1 q r m t s G D P V (Maps.has D) (Maps.size D) [] (.slice none 0 0)) := by
    have hb : Below w.heap.size w w1 := ⟨hg0.os, hg0.tape, hg0.output, hg0.size, fun k hk => hg0.block k hk (by simp)⟩
    refine ⟨by rw [hr]; exact hrg0, HD.out.1.below hb, World.ownsRow_nil _ _ _ _, ?_, hb, by omega, by omega⟩
    rw [List.filter_eq_nil_iff.2 (fun e he => by rw [(HD.out.1.has _).2 ⟨e, he, rfl⟩]; simp)]
    exact List.Perm.nil
  rw [← hr]
  clear hr hrg0 hg0 hs0 c0
  go_wp2
  go_loopw [5] (fun v wr => ∃ left cnt ls, OfS w wr q r m t s G D P V left cnt ls v) (fun _ wr => wr.rangeLeft m r)
  case atStart => exact ⟨_, _, _, HS0.out⟩
  case round =>
    obtain ⟨left, cnt, ls, hS⟩ := hrel
    have HS : Hid (OfS w wr q r m t s G D P V left cnt ls u5) := hS
    clear HS0
    go_wp2_with (at_next; refine wpList_next_ranges _ rfl _ rfl 9 keyed11 fElem Value.string (fun o : Option Nat => .pointer (o.map fun p => ⟨p, 0, none⟩)) (fun key kl hk => by obtain ⟨x, rfl, _⟩ := Maps.keyOf_str Tryz.underlying9 hk; exact ⟨_, rfl⟩) (fun v y hv => fElem_inv hv) m r t.l.length D left cnt rfl hS.rg ?_ ?_)
    · intro _ hl0
      have HP : Hid (ls.Perm (Tq.ofs t s) ∧ ls.length ≤ 500) := by
        have h1 := HS.out.perm
        have e : (t.l.filter fun e => decide (e.2.owner = s) && !left (fkey e.1)) = t.l.filter fun e => decide (e.2.owner = s) := List.filter_congr (fun e _ => by rw [hl0]; simp)
        rw [e, ← HE.out] at h1
        refine ⟨h1, ?_⟩
        have h2 := h1.length_eq
        have h3 := HD.out.2.len
        have h4 := HD.out.2.room
        rw [HE.out, List.length_map] at h2
        have h5 := List.length_filter_le (fun e : Tq.En => decide (e.2.owner = s)) t.l
        omega
      obtain ⟨va, vc, rfl, _, hj⟩ := row_form hS.row
      clear hj hl0 hS
      obtain ⟨N, hN⟩ : ∃ N, N = ls.length := ⟨_, rfl⟩
      rw [← hN] at HS
      rw [← hN]
      have HN : Hid (N = ls.length) := hN
      clear hN
      have HRW : Hid (wr.ownsRow w.heap.size 9 1 (.slice va N vc) N ((dl11 ls).map encStr)) := by
        have e : wr.ownsRow w.heap.size 9 1 (.slice va N vc) N ((dl11 ls).map encStr) := by
          rw [enc11]
          have h := HS.out.row
          rw [← HN.out] at h
          exact h
        exact e
      by_cases hn0 : N = 0
      · have HZ : Hid (Tq.ofs t s = []) := by
          have e : Tq.ofs t s = [] := by
            have h := HP.out.1.length_eq
            rw [← HN.out, hn0] at h
            exact List.length_eq_zero_iff.1 h.symm
          exact e
        subst hn0
        go_wp2_with fail
        refine (AnyM.slices_Sort_string_none Tryz.sort va vc wr).mono ?_
        rintro e w2 ⟨rfl, hw2⟩
        rw [hw2]
        clear hw2
        go_wp2
        go_ret
        exact ⟨_, rfl, by (rw [HZ.out]; have h := HS.out.row; have e : ls = [] := List.length_eq_zero_iff.1 HN.out.symm; rw [e] at h; exact sq_of_row h), fun k hk e => by have := (HRW.out.lt k hk).1; have := HD.out.1.glt k e; omega, HS.out.tk, HS.out.below⟩
      · obtain ⟨g, cap, hu3, hbg, hgl, hncap, hcm, hlen, hH⟩ := Lib.holds_of_ownsRow HRW.out (fun e => by
          have h := HRW.out.2
          rw [e] at h
          rcases h with ⟨_, h⟩ | ⟨_, _, _, h, _⟩
          · exact hn0 h
          · cases h)
        simp only [Value.slice.injEq] at hu3
        obtain ⟨rfl, _, rfl⟩ := hu3
        have HX : Hid (w.heap.size ≤ g ∧ g < wr.heap.size ∧ N ≤ vc ∧ (dl11 ls).length = N ∧ Holds encStr wr g 0 (dl11 ls).toArray) := ⟨hbg, hgl, hncap, hlen, hH⟩
        clear hbg hgl hncap hcm hlen hH
        have hsort := AnyM.slices_Sort_string Tryz.sort g 0 vc (dl11 ls) wr HX.out.2.2.2.2 HX.out.2.1 (by rw [HX.out.2.2.2.1]; have := HP.out.2; have := HN.out; omega)
        rw [HX.out.2.2.2.1] at hsort
        have HSORT : Hid (Calls Tryz.prog 106 #[.slice (some ⟨g, 0, none⟩) N vc] wr fun e w' => e = .returned (.tuple #[]) ∧ ∃ n os, w' = grow (putRow encStr (Sort.ahead wr n) g 0 (List.mergeSort (dl11 ls) fun x y => decide (x ≤ y)).toArray) os) := hsort
        clear hsort
        go_wp2_with fail
        refine HSORT.out.mono ?_
        rintro e w2 ⟨rfl, nn, ob, hw2⟩
        have HFIN : Hid (w2.ownsRow w.heap.size 9 1 (.slice (some ⟨g, 0, none⟩) N vc) (Tq.ofs t s).length (sc (Tq.ofs t s)) ∧ Below w.heap.size w w2 ∧ TkU w2 q t G m D P V) := by
          rcases HRW.out.2 with ⟨h0, _⟩ | ⟨g', cap', cur, hv, hbase, hb, h1, h2, h3, h4⟩
          · cases h0
          cases hv
          have hg := grownBy_sorted (w := wr) (g := g) (n := nn) (os := ob) (List.mergeSort (dl11 ls) leB).toArray
          have hl2 : (List.mergeSort (dl11 ls) leB).length = (dl11 ls).length := List.length_mergeSort _
          have hs := ownsRow_sorted (n := nn) (os := ob) (ts := List.mergeSort (dl11 ls) leB) (ss := dl11 ls) hl2 hbase hb (by rw [HX.out.2.2.2.1]; exact h1) h2 h3
          have he : List.mergeSort (dl11 ls) leB = dl11 (Tq.ofs t s) := sort_eq11 (Tq.ofs_rises HD.out.2.rise s) (HP.out.1.map _)
          have hlo : N = (Tq.ofs t s).length := by rw [HN.out]; exact HP.out.1.length_eq
          rw [he, enc11, HX.out.2.2.2.1] at hs
          rw [he] at hg
          have hw3 : w2 = grow (putRow encStr (Sort.ahead wr nn) g 0 (dl11 (Tq.ofs t s)).toArray) ob := by rw [hw2]; exact congrArg (fun l : List (List UInt8) => grow (putRow encStr (Sort.ahead wr nn) g 0 l.toArray) ob) he
          rw [← hw3] at hs hg
          refine ⟨by rw [← hlo]; exact hs, HS.out.below.grown hg HS.out.below.size (fun k hk => by simp at hk; have := HX.out.1; omega), HS.out.tk.keep (fun k hk => hg.block k (HS.out.tk.glt k hk) (by have := HD.out.1.glt k hk; have := HX.out.1; simp; omega))⟩
        clear hw2
        go_wp2
        go_ret
        exact ⟨_, rfl, sq_of_row (by
          have h := HFIN.out.1
          exact h), fun k hk e => by have := (HFIN.out.1.lt k hk).1; have := HD.out.1.glt k e; omega, HFIN.out.2.2, HFIN.out.2.1⟩
    · intro x c kl y ys w1 cnt1 hkey hlk hv hat hrg1 hlt hg1 hs1 hen
      obtain ⟨e0, he0, hkl⟩ := (HS.out.tk.has kl).1 (Maps.has_true_of_atKey hat)
      have hyp : y = .held (P e0.1) := by rw [← hat .nil, hkl, HS.out.tk.at_ e0 he0]
      obtain ⟨pb, hpb⟩ : ∃ pb, pb = P e0.1 := ⟨_, rfl⟩
      have hc : (Value.pointer (c.map fun p => ⟨p, 0, none⟩)) = dptr pb := fElem_held (ps := ys) (by rw [hv, hyp, hpb])
      have hx : x = e0.1 := by
        obtain ⟨xs, h1, h2, _⟩ := Maps.keyOf_str Tryz.underlying9 hkey
        rw [hkl] at h2
        unfold fkey at h2
        simp only [Lit.string.injEq] at h2
        simp only [Value.string.injEq] at h1
        rw [h1, ← h2]
      subst hx
      rw [hc] at hen ⊢
      have HS1 : Hid (OfS w w1 q r m t s G D P V left cnt1 ls u5 ∨ True) := Or.inr trivial
      have hb1 : Below w.heap.size w w1 := HS.out.below.grown hg1 HS.out.below.size (fun k hk => by simp at hk; have := HS.out.hi; omega)
      have htk1 : TkU w1 q t G m D P V := HS.out.tk.keep (fun k hk => hg1.block k (HS.out.tk.glt k hk) (by have := HD.out.1.glt k hk; have := HS.out.hi; simp; omega))
      have hrow1 : w1.ownsRow w.heap.size 9 1 u5 ls.length (sc ls) := row_stays HS.out.row (fun k hk => hg1.block k (HS.out.row.lt k hk).2 (fun e => row_ne_iter HS.out.row HS.out.rg (by rw [hk, e])))
      have HF : Hid (e0 ∈ t.l ∧ pb = P e0.1 ∧ kl = fkey e0.1 ∧ left kl = true ∧ cnt1 < cnt ∧ wr.rangeLeft m r = cnt ∧ w1.ranges Tryz.prog 9 fElem m r t.l.length D (fun z => left z && !z.sameKey kl) cnt1 ∧ TkU w1 q t G m D P V ∧ Below w.heap.size w w1 ∧ w1.ownsRow w.heap.size 9 1 u5 ls.length (sc ls) ∧ r < w1.heap.size) := ⟨he0, hpb, hkl, hlk, hlt, HS.out.rg.left_eq, hrg1, htk1, hb1, hrow1, by rw [hs1]; exact HS.out.lt⟩
      have HO : Hid (Own11 w1 pb e0.2 (V e0.1)) := by
        have e : Own11 w1 pb e0.2 (V e0.1) := by rw [hpb]; exact htk1.node e0 he0
        exact e
      have HLT : Hid (∀ f : Tq.En, f ∈ t.l → f.1 ≠ e0.1 → (left (fkey f.1) && !(fkey f.1).sameKey kl) = left (fkey f.1)) := fun f _ hne => by
        rw [hkl, Maps.sameKey_ne (fun e3 => hne (fkey_inj e3))]
        simp
      have HL0 : Hid ((left (fkey e0.1) && !(fkey e0.1).sameKey kl) = false) := by
        have e : (left (fkey e0.1) && !(fkey e0.1).sameKey kl) = false := by
          rw [hkl, WideAt.sameKey_self (fkey_lit (good_max (HD.out.2.nodes e0 he0).1))]
          simp
        exact e
      have n4 : w1.cell? ⟨pb, 4, none⟩ = some (.int .i64 e0.2.owner) := HO.out.blk.cell 4
      have hLS : ls.length ≤ 500 := by
        have h1 := HS.out.perm.length_eq
        rw [List.length_map] at h1
        have h2 := List.length_filter_le (fun e : Tq.En => decide (e.2.owner = s) && !left (fkey e.1)) t.l
        have h3 := HD.out.2.len
        have h4 := HD.out.2.room
        omega
      have HLS : Hid (ls.length ≤ 500) := hLS
      clear hkey hlk hv hat hrg1 hlt hg1 hs1 he0 hyp hc hpb hkl hb1 htk1 hrow1 hS hLS HS1
      by_cases how : e0.2.owner = s
      · have hob : (e0.2.owner == s) = true := by simp [how]
        have HPM : Hid ((ls ++ [e0.1]).Perm ((t.l.filter fun e => decide (e.2.owner = s) && !(left (fkey e.1) && !(fkey e.1).sameKey kl)).map (·.1))) := by
          refine ((HS.out.perm.append_right [e0.1]).trans ?_)
          refine (Tq.filt_step _ _ HD.out.2.rise HF.out.1 ?_ ?_ ?_).symm
          · rw [← HF.out.2.2.1, HF.out.2.2.2.1]
            simp
          · rw [HL0.out]
            simp [how]
          · intro e he hne
            rw [HLT.out e he hne]
        clear how
        obtain ⟨va, vc, hu, _, hj⟩ := row_form HF.out.2.2.2.2.2.2.2.2.2.1
        clear hj
        subst hu
        go_wp2_with (at_builtin; refine append_strs2 rfl _ _ rfl w.heap.size (.slice va ls.length vc) (.slice (some ⟨w1.heap.size, 0, none⟩) 1 1) ls [e0.1] (w1.alloc (.cells #[.string e0.1] 9)) rfl rfl (HF.out.2.2.2.2.2.2.2.2.2.1.alloc _) (by rw [World.size_alloc]; have := HF.out.2.2.2.2.2.2.2.2.1.size; omega) (Src.one w1 e0.1 9) (by have := HLS.out; simp; omega) ?_)
        intro v2 w2 hrow2 hb2 hg2
        have hba := (Below.refl _ w1).alloc (Nat.le_refl _) (.cells #[.string e0.1] 9)
        have hne : ∀ k, (∃ z, w1.heap[k]? = some z ∧ ¬ ∃ cs t f, z = .cells cs t f) → some k ≠ (Value.slice va ls.length vc).ownBlock := fun k hk e => by
          obtain ⟨z, h1, h2⟩ := hk
          obtain ⟨cur, h3⟩ := row_in HF.out.2.2.2.2.2.2.2.2.2.1 e.symm
          rw [h1] at h3
          exact h2 ⟨_, _, _, Option.some.inj h3⟩
        have HNX : Hid (OfS w w2 q r m t s G D P V (fun z => left z && !z.sameKey kl) cnt1 (ls ++ [e0.1]) v2) := by
          have hrr := HF.out.2.2.2.2.2.2.1
          have hk2 : ∀ k, k < w1.heap.size → some k ≠ (Value.slice va ls.length vc).ownBlock → w2.heap[k]? = w1.heap[k]? := fun k hk hne => (hg2.block k (by rw [World.size_alloc]; omega) hne).trans (hba.block k hk)
          have hm : some m ≠ (Value.slice va ls.length vc).ownBlock := fun e => by have := (HF.out.2.2.2.2.2.2.2.2.2.1.lt m e.symm).1; have := HD.out.1.glt m HD.out.1.gm; omega
          refine ⟨ranges_keep hrr (hk2 m (HF.out.2.2.2.2.2.2.2.1.glt m HD.out.1.gm) hm) (hk2 r HF.out.2.2.2.2.2.2.2.2.2.2 (row_ne_iter HF.out.2.2.2.2.2.2.2.2.2.1 hrr)), HF.out.2.2.2.2.2.2.2.1.keep (fun k hk => hk2 k (HF.out.2.2.2.2.2.2.2.1.glt k hk) (fun e => by have := (HF.out.2.2.2.2.2.2.2.2.2.1.lt k e.symm).1; have := HD.out.1.glt k hk; omega)), by (rw [List.length_append]; exact hrow2), HPM.out, (HF.out.2.2.2.2.2.2.2.2.1.trans (hba.mono HF.out.2.2.2.2.2.2.2.2.1.size)).trans hb2, ?_, HS.out.hi⟩
          have h1 := hg2.size
          rw [World.size_alloc] at h1
          have := HF.out.2.2.2.2.2.2.2.2.2.2
          omega
        clear hrow2 hb2 hg2 hba hne
        have HME : Hid (w2.rangeLeft m r < wr.rangeLeft m r) := by
          have e : w2.rangeLeft m r < wr.rangeLeft m r := by
            rw [HNX.out.rg.left_eq, HF.out.2.2.2.2.2.1]
            exact HF.out.2.2.2.2.1
          exact e
        go_wp2
        go_roundw
        case rel => exact ⟨_, _, _, HNX.out⟩
        case measure => exact HME.out
      · have hob : (e0.2.owner == s) = false := by simp [how]
        have HNX : Hid (OfS w w1 q r m t s G D P V (fun z => left z && !z.sameKey kl) cnt1 ls u5) := by
          refine ⟨HF.out.2.2.2.2.2.2.1, HF.out.2.2.2.2.2.2.2.1, HF.out.2.2.2.2.2.2.2.2.2.1, ?_, HF.out.2.2.2.2.2.2.2.2.1, HF.out.2.2.2.2.2.2.2.2.2.2, HS.out.hi⟩
          have e : (t.l.filter fun e => decide (e.2.owner = s) && !(left (fkey e.1) && !(fkey e.1).sameKey kl)) = t.l.filter fun e => decide (e.2.owner = s) && !left (fkey e.1) := List.filter_congr (fun f hf => by
            by_cases hne : f.1 = e0.1
            · rw [Tq.en_uniq HD.out.2.rise hf HF.out.1 hne]
              simp [how]
            · rw [HLT.out f hf hne])
          rw [e]
          exact HS.out.perm
        have HME : Hid (w1.rangeLeft m r < wr.rangeLeft m r) := by
          have e : w1.rangeLeft m r < wr.rangeLeft m r := by
            rw [HNX.out.rg.left_eq, HF.out.2.2.2.2.2.1]
            exact HF.out.2.2.2.2.1
          exact e
        clear how
        go_wp2
        go_roundw
        case rel => exact ⟨_, _, _, HNX.out⟩
        case measure => exact HME.out
end
end Go.Proofs.YtboejbjobjhajaaGreatDoor
namespace Go.Proofs.YtboejbjobjhajaaGreatDoor.Tq
open Kq
theorem rises_pair {l : List En} : Rises (keys l) ↔ l.Pairwise fun x y => lt x.1 y.1 = true := by
  unfold Rises keys
  rw [List.pairwise_map]
theorem en_ext {a b : List En} (ha : Rises (keys a)) (hb : Rises (keys b)) (h : ∀ e, e ∈ a ↔ e ∈ b) : a = b := by
  have ha' := rises_pair.1 ha
  have hb' := rises_pair.1 hb
  have na : a.Nodup := by
    unfold List.Nodup
    exact ha'.imp (fun {x y} hxy (e : x = y) => lt_ne hxy (by rw [e]))
  have nb : b.Nodup := by
    unfold List.Nodup
    exact hb'.imp (fun {x y} hxy (e : x = y) => lt_ne hxy (by rw [e]))
  refine List.Perm.eq_of_pairwise (le := fun x y : En => lt x.1 y.1 = true) (fun x y _ _ h1 h2 => ?_) ha' hb' ((List.perm_ext_iff_of_nodup na nb).2 h)
  rw [lt_asymm h1] at h2
  cases h2
theorem rises_filter {l : List En} (f : En → Bool) (hr : Rises (keys l)) : Rises (keys (l.filter f)) := by
  have h : (keys (l.filter f)).Sublist (keys l) := List.Sublist.map _ List.filter_sublist
  exact List.Pairwise.sublist h hr
theorem ins_filter {l : List En} (hr : Rises (keys l)) {e0 : En} (he : e0 ∈ l) (f f' : En → Bool) (h0 : f e0 = false) (h1 : f' e0 = true) (ho : ∀ e ∈ l, e.1 ≠ e0.1 → f' e = f e) : find (l.filter f) e0.1 = none ∧ ins (l.filter f) e0.1 e0.2 = l.filter f' := by
  have hn : find (l.filter f) e0.1 = none := by
    cases hf : find (l.filter f) e0.1 with
    | none => rfl
    | some n =>
      have hm := List.mem_filter.1 (find_some hf)
      have := en_uniq hr hm.1 he rfl
      rw [this, h0] at hm
      exact absurd hm.2 (by simp)
  refine ⟨hn, en_ext (rises_ins _ (rises_filter f hr) hn) (rises_filter f' hr) (fun e => ?_)⟩
  rw [mem_ins, List.mem_filter, List.mem_filter]
  constructor
  · rintro (rfl | ⟨h2, h3⟩)
    · exact ⟨he, h1⟩
    · refine ⟨h2, ?_⟩
      by_cases hk : e.1 = e0.1
      · rw [en_uniq hr h2 he hk]
        exact h1
      · rw [ho e h2 hk]
        exact h3
  · rintro ⟨h2, h3⟩
    by_cases hk : e.1 = e0.1
    · exact Or.inl (en_uniq hr h2 he hk)
    · rw [ho e h2 hk] at h3
      exact Or.inr ⟨h2, h3⟩
end Go.Proofs.YtboejbjobjhajaaGreatDoor.Tq
namespace Go.Proofs.YtboejbjobjhajaaGreatDoor
open Go.RowKit
structure TkM (w : World) (l : List Tq.En) (G : Nat → Prop) (m : Nat) (D : DataW Nat) (P : ByteArray → Nat) (V : ByteArray → Value) : Prop where
  own : w.ownsMap Tryz.prog 9 fElem m l.length D
  sz : Maps.size D = l.length
  has : ∀ kl, Maps.has D kl = true ↔ ∃ e ∈ l, kl = fkey e.1
  at_ : ∀ e ∈ l, ∀ z, D.atKey (fkey e.1) z = .held (P e.1)
  node : ∀ e ∈ l, Own11 w (P e.1) e.2 (V e.1)
  apart : ∀ e ∈ l, ∀ f ∈ l, e.1 ≠ f.1 → P e.1 ≠ P f.1 ∧ ∀ k, (V e.1).ownBlock = some k → (V f.1).ownBlock ≠ some k
  gm : G m
  gf : ∀ e ∈ l, G (P e.1) ∧ ∀ k, (V e.1).ownBlock = some k → G k
  glt : ∀ k, G k → k < w.heap.size
section
variable {w w' : World} {m : Nat} {l : List Tq.En} {G : Nat → Prop} {D : DataW Nat} {P : ByteArray → Nat} {V : ByteArray → Value}
theorem TkM.keep (h : TkM w l G m D P V) (hk : ∀ k, G k → w'.heap[k]? = w.heap[k]?) : TkM w' l G m D P V := by
  refine ⟨?_, h.sz, h.has, h.at_, fun e he => (h.node e he).keep (fun k hk2 => ?_), h.apart, h.gm, h.gf, fun k e => ?_⟩
  · obtain ⟨es, clock, hb, r⟩ := h.own
    exact ⟨es, clock, (hk m h.gm).trans hb, r⟩
  · rcases hk2 with rfl | hk2
    · exact hk _ (h.gf e he).1
    · exact hk _ ((h.gf e he).2 k hk2)
  · have h1 := h.glt k e
    have h2 := hk k e
    rw [Array.getElem?_eq_getElem h1] at h2
    exact (Array.getElem?_eq_some_iff.1 h2).1
theorem TkM.below (h : TkM w l G m D P V) (hb : Below w.heap.size w w') : TkM w' l G m D P V := h.keep fun k hk => hb.block k (h.glt k hk)
theorem TkM.more {G' : Nat → Prop} (h : TkM w l G m D P V) (hs : ∀ k, G k → G' k) (hl : ∀ k, G' k → k < w.heap.size) : TkM w l G' m D P V :=
  ⟨h.own, h.sz, h.has, h.at_, h.node, h.apart, hs m h.gm, fun f hf => ⟨hs _ (h.gf f hf).1, fun k e => hs k ((h.gf f hf).2 k e)⟩, hl⟩
theorem TkM.p_m (h : TkM w l G m D P V) {e : Tq.En} (he : e ∈ l) : P e.1 ≠ m := fun e2 => by
  obtain ⟨es, clock, hb, _⟩ := h.own
  have := (h.node e he).blk
  unfold Cb at this
  rw [e2, hb] at this
  cases this
theorem TkM.v_m (h : TkM w l G m D P V) {e : Tq.En} (he : e ∈ l) : (V e.1).ownBlock ≠ some m := fun e2 => by
  obtain ⟨es, clock, hb, _⟩ := h.own
  obtain ⟨cur, hc⟩ := row_in (h.node e he).row e2
  rw [hb] at hc
  cases hc
theorem TkM.tree (h : TkM w l G m D P V) {q : Nat} {room : Int} (hq : Cb w q [.map (some m), .int .i64 room] 113) : TkU w q ⟨room, l⟩ (fun k => G k ∨ k = q) m D P V :=
  ⟨hq, h.own, h.sz, h.has, h.at_, h.node, h.apart, Or.inr rfl, Or.inl h.gm, fun e he => ⟨Or.inl (h.gf e he).1, fun k hk => Or.inl ((h.gf e he).2 k hk)⟩, fun k hk => by
    rcases hk with hk | rfl
    · exact h.glt k hk
    · exact hq.lt⟩
theorem TkM.come (h : TkM w l G m D P V) {p : ByteArray} {n : Kq.Kn} {b N : Nat} {v : Value} (hlen : p.size ≤ maxLen) (hnone : Tq.find l p = none) (ho : w'.ownsMap Tryz.prog 9 fElem m N (D.put (fkey p) (.held b))) (ht : w.mapTurned w' m)
    (hfd : Own11 w b n v) (hap : ∀ f ∈ l, P f.1 ≠ b ∧ ∀ k, (V f.1).ownBlock = some k → v.ownBlock ≠ some k) (hG : G b ∧ ∀ k, v.ownBlock = some k → G k) :
    TkM w' (Tq.ins l p n) G m (D.put (fkey p) (.held b)) (fun x => if x = p then b else P x) (fun x => if x = p then v else V x) := by
  have hg := ht.grown
  have hbm : b ≠ m := fun e => by
    obtain ⟨es, clock, hb, _⟩ := h.own
    have := hfd.blk
    unfold Cb at this
    rw [e, hb] at this
    cases this
  have hvm : v.ownBlock ≠ some m := fun e2 => by
    obtain ⟨es, clock, hb, _⟩ := h.own
    obtain ⟨cur, hc⟩ := row_in hfd.row e2
    rw [hb] at hc
    cases hc
  have hkp : ∀ k, G k → k ≠ m → w'.heap[k]? = w.heap[k]? := fun k hk hne => hg.block k (h.glt k hk) (by simpa using hne)
  have hne : ∀ x ∈ l, x.1 ≠ p := fun x hx e => Tq.find_none hnone (List.mem_map.2 ⟨x, hx, e⟩)
  have hcase : ∀ x ∈ Tq.ins l p n, x = (p, n) ∨ (x ∈ l ∧ x.1 ≠ p) := fun x hx => (Tq.mem_ins.1 hx).imp id (fun e => ⟨e, hne x e⟩)
  have hsz : Maps.size (D.put (fkey p) (.held b)) = (Tq.ins l p n).length := by
    have h1 := Maps.size_put (k := fkey p) (h.own.tidy keyed11) (.held b)
    have h2 : Maps.has D (fkey p) = false := by
      cases hh : Maps.has D (fkey p) with
      | false => rfl
      | true =>
        obtain ⟨x, hx, e⟩ := (h.has _).1 hh
        exact absurd (fkey_inj e).symm (hne x hx)
    rw [h2] at h1
    rw [Tq.len_ins, h1, h.sz]
    rfl
  refine ⟨(tight11 ho).mono (Nat.le_of_eq hsz), hsz, fun kl => ?_, fun x hx z => ?_, fun x hx => ?_, fun x hx y hy hxy => ?_, h.gm, fun x hx => ?_, fun k hk => Nat.lt_of_lt_of_le (h.glt k hk) hg.size⟩
  · by_cases e : kl = fkey p
    · subst e
      rw [Maps.has_put_same h.own.isMap (fkey_lit hlen)]
      exact ⟨fun _ => ⟨_, Tq.mem_ins.2 (Or.inl rfl), rfl⟩, fun _ => rfl⟩
    · rw [Maps.has_put_other e, h.has]
      constructor
      · rintro ⟨x, hx, e2⟩
        exact ⟨x, Tq.mem_ins.2 (Or.inr hx), e2⟩
      · rintro ⟨x, hx, e2⟩
        rcases hcase x hx with e3 | e3
        · exact absurd (by rw [e2, e3]) e
        · exact ⟨x, e3.1, e2⟩
  · rcases hcase x hx with e | e
    · rw [e, Maps.atKey_put_same h.own.isMap (fkey_lit hlen)]
      simp
    · rw [Maps.atKey_put_other (fun e2 => e.2 (fkey_inj e2)), if_neg e.2]
      exact h.at_ x e.1 z
  · rcases hcase x hx with e | e
    · simp only [e, if_pos]
      refine hfd.keep (fun k hk => ?_)
      rcases hk with rfl | hk
      · exact hkp _ hG.1 hbm
      · exact hkp k (hG.2 k hk) (fun e => hvm (e ▸ hk))
    · simp only [if_neg e.2]
      refine (h.node x e.1).keep (fun k hk => ?_)
      rcases hk with rfl | hk
      · exact hkp _ (h.gf x e.1).1 (h.p_m e.1)
      · exact hkp k ((h.gf x e.1).2 k hk) (fun e2 => h.v_m e.1 (e2 ▸ hk))
  · rcases hcase x hx with e | e
    · rcases hcase y hy with e' | e'
      · exact absurd (by rw [e, e']) hxy
      · simp only [e, if_neg e'.2, if_pos]
        exact ⟨Ne.symm (hap y e'.1).1, fun k hk hk2 => (hap y e'.1).2 k hk2 hk⟩
    · rcases hcase y hy with e' | e'
      · simp only [e', if_neg e.2, if_pos]
        exact hap x e.1
      · simp only [if_neg e.2, if_neg e'.2]
        exact h.apart x e.1 y e'.1 hxy
  · rcases hcase x hx with e | e
    · simp only [e, if_pos]
      exact hG
    · simp only [if_neg e.2]
      exact h.gf x e.1
end
section
variable {w : World} {q m : Nat} {t : Tq.Tr} {G : Nat → Prop} {D : DataW Nat} {P : ByteArray → Nat} {V : ByteArray → Value}
structure CpS (w wr : World) (q r m m2 : Nat) (t : Tq.Tr) (G : Nat → Prop) (D : DataW Nat) (P : ByteArray → Nat) (V : ByteArray → Value) (left : Lit → Bool) (cnt : Nat) (G2 : Nat → Prop) (D2 : DataW Nat) (P2 : ByteArray → Nat) (V2 : ByteArray → Value) : Prop where
  rg : wr.ranges Tryz.prog 9 fElem m r t.l.length D left cnt
  tk : TkU wr q t G m D P V
  tm : TkM wr (t.l.filter fun e => !left (fkey e.1)) G2 m2 D2 P2 V2
  hi2 : ∀ k, G2 k → w.heap.size ≤ k
  nr : ¬ G2 r
  below : Below w.heap.size w wr
  lt : r < wr.heap.size
  hi : w.heap.size ≤ r
set_option maxRecDepth 20000 in
set_option maxHeartbeats 4000000 in
theorem copy_any11 (h : TkU w q t G m D P V) (hf : Fine11 t) :
    Calls Tryz.prog 47 #[dptr q] w fun e w' => ∃ q2 F2, e = .returned (dptr q2) ∧ LTk w' q2 t F2 ∧ (∀ k, F2 k → w.heap.size ≤ k) ∧ LTk w' q t G ∧ Below w.heap.size w w' := by
  have HD : Hid (TkU w q t G m D P V ∧ Fine11 t) := ⟨h, hf⟩
  have c0 : w.cell? ⟨q, 0, none⟩ = some (.map (some m)) := h.blk.cell 0
  have hln : (Builtin.len_ #[111] 3 #[.map (some m)]).run Tryz.prog w = .ok (.int .i64 (t.l.length : Int)) w := by
    have e := h.own.len Tryz.underlying111 3
    rw [h.sz] at e
    exact e
  have hmm : (Instr.makeMap 111 (some (.int .i64 (t.l.length : Int)))).run Tryz.prog w = .ok (.map (some w.heap.size)) (w.alloc (.map #[] 0)) := by kernel_rfl
  obtain ⟨m2, hm2⟩ : ∃ m2, m2 = w.heap.size := ⟨_, rfl⟩
  have H0 : Hid (TkU (w.alloc (.map #[] 0)) q t G m D P V ∧ TkM (w.alloc (.map #[] 0)) [] (fun k => k = m2) m2 (.map []) (fun _ => 0) (fun _ => .slice none 0 0) ∧ Below w.heap.size w (w.alloc (.map #[] 0)) ∧ m2 = w.heap.size) := by
    have hba := (Below.refl _ w).alloc (Nat.le_refl _) (.map #[] 0)
    refine ⟨h.below hba, ⟨by rw [hm2]; exact World.ownsMap_made w _ _ _, rfl, fun kl => ⟨fun h => (by cases h), fun ⟨e, he, _⟩ => (by cases he)⟩, fun e he => (by cases he), fun e he => (by cases he), fun e he => (by cases he), rfl, fun e he => (by cases he), fun k hk => ?_⟩, hba, hm2⟩
    rw [World.size_alloc]
    omega
  clear h hf
  have hl5 : t.l.length ≤ 500 := by have h1 := HD.out.2.len; have h2 := HD.out.2.room; omega
  go_enter Tryz.func47, Tryz.ntmps47
  go_upto_region 2 with fail
  rw [← hm2]
  clear hm2 hmm hln c0
  generalize w.alloc (.map #[] 0) = w0 at *
  have c0 : w0.cell? ⟨q, 0, none⟩ = some (.map (some m)) := H0.out.1.blk.cell 0
  go_wp2_with (at_range; refine wpList_range_own _ rfl _ 111 rfl 9 151 keyed11 Tryz.underlying111 fElem m t.l.length D rfl H0.out.1.own ?_)
  intro w1 hrg0 hg0 hs0
  obtain ⟨r, hr⟩ : ∃ r, r = w0.heap.size := ⟨_, rfl⟩
  have HS0 : Hid (CpS w w1 q r m m2 t G D P V (Maps.has D) (Maps.size D) (fun k => k = m2) (.map []) (fun _ => 0) (fun _ => .slice none 0 0)) := by
    have hb : Below w0.heap.size w0 w1 := ⟨hg0.os, hg0.tape, hg0.output, hg0.size, fun k hk => hg0.block k hk (by simp)⟩
    have hsz := H0.out.2.2.1.size
    have hml := H0.out.2.1.glt m2 rfl
    refine ⟨by rw [hr]; exact hrg0, H0.out.1.below hb, ?_, fun k hk => by rw [hk, H0.out.2.2.2]; exact Nat.le_refl _, fun e => by omega, H0.out.2.2.1.trans (hb.mono hsz), by omega, by omega⟩
    rw [List.filter_eq_nil_iff.2 (fun e he => by rw [(H0.out.1.has _).2 ⟨e, he, rfl⟩]; simp)]
    exact H0.out.2.1.below hb
  rw [← hr]
  clear hr hrg0 hg0 hs0 c0 H0
  go_wp2
  go_loopw [17] (fun _ wr => ∃ left cnt G2 D2 P2 V2, CpS w wr q r m m2 t G D P V left cnt G2 D2 P2 V2) (fun _ wr => wr.rangeLeft m r)
  case atStart => exact ⟨_, _, _, _, _, _, HS0.out⟩
  case round =>
    obtain ⟨left, cnt, G2, D2, P2, V2, hS⟩ := hrel
    have HS : Hid (CpS w wr q r m m2 t G D P V left cnt G2 D2 P2 V2) := hS
    clear HS0
    go_wp2_with (at_next; refine wpList_next_ranges _ rfl _ rfl 9 keyed11 fElem Value.string (fun o : Option Nat => .pointer (o.map fun p => ⟨p, 0, none⟩)) (fun key kl hk => by obtain ⟨x, rfl, _⟩ := Maps.keyOf_str Tryz.underlying9 hk; exact ⟨_, rfl⟩) (fun v y hv => fElem_inv hv) m r t.l.length D left cnt rfl hS.rg ?_ ?_)
    · intro _ hl0
      have HM : Hid (TkM wr t.l G2 m2 D2 P2 V2) := by
        have h := HS.out.tm
        rw [List.filter_eq_self.2 (fun e _ => by rw [hl0]; rfl)] at h
        exact h
      have c1 : wr.cell? ⟨q, 1, none⟩ = some (.int .i64 t.room) := HS.out.tk.blk.cell 1
      clear hl0 hS
      obtain ⟨q2, hq2⟩ : ∃ q2, q2 = wr.heap.size := ⟨_, rfl⟩
      have HF : Hid (LTk (wr.alloc (.cells #[.map (some m2), .int .i64 t.room] 113)) q2 t (fun k => G2 k ∨ k = q2) ∧ (∀ k, (G2 k ∨ k = q2) → w.heap.size ≤ k) ∧ LTk (wr.alloc (.cells #[.map (some m2), .int .i64 t.room] 113)) q t G ∧ Below w.heap.size w (wr.alloc (.cells #[.map (some m2), .int .i64 t.room] 113))) := by
        have hba := (Below.refl _ wr).alloc (Nat.le_refl _) (.cells #[.map (some m2), .int .i64 t.room] 113)
        have hs := HS.out.below.size
        refine ⟨⟨_, _, _, _, (HM.out.below hba).tree (by rw [hq2]; exact Cb.made wr _ _)⟩, fun k hk => ?_, ⟨_, _, _, _, HS.out.tk.below hba⟩, HS.out.below.trans (hba.mono hs)⟩
        rcases hk with hk | hk
        · exact HS.out.hi2 k hk
        · omega
      go_wp2
      rw [← hq2]
      go_ret
      exact ⟨q2, _, rfl, HF.out⟩
    · intro x c kl y ys w1 cnt1 hkey hlk hv hat hrg1 hlt hg1 hs1 hen
      obtain ⟨e0, he0, hkl⟩ := (HS.out.tk.has kl).1 (Maps.has_true_of_atKey hat)
      have hyp : y = .held (P e0.1) := by rw [← hat .nil, hkl, HS.out.tk.at_ e0 he0]
      obtain ⟨pb, hpb⟩ : ∃ pb, pb = P e0.1 := ⟨_, rfl⟩
      have hc : (Value.pointer (c.map fun p => ⟨p, 0, none⟩)) = dptr pb := fElem_held (ps := ys) (by rw [hv, hyp, hpb])
      have hx : x = e0.1 := by
        obtain ⟨xs, h1, h2, _⟩ := Maps.keyOf_str Tryz.underlying9 hkey
        rw [hkl] at h2
        unfold fkey at h2
        simp only [Lit.string.injEq] at h2
        simp only [Value.string.injEq] at h1
        rw [h1, ← h2]
      subst hx
      rw [hc] at hen ⊢
      have hb1 : Below w.heap.size w w1 := HS.out.below.grown hg1 HS.out.below.size (fun k hk => by simp at hk; have := HS.out.hi; omega)
      have htk1 : TkU w1 q t G m D P V := HS.out.tk.keep (fun k hk => hg1.block k (HS.out.tk.glt k hk) (by have := HD.out.1.glt k hk; have := HS.out.hi; simp; omega))
      have htm1 : TkM w1 (t.l.filter fun e => !left (fkey e.1)) G2 m2 D2 P2 V2 := HS.out.tm.keep (fun k hk => hg1.block k (HS.out.tm.glt k hk) (fun e => HS.out.nr (by rw [← Option.some.inj e]; exact hk)))
      have HF : Hid (e0 ∈ t.l ∧ pb = P e0.1 ∧ kl = fkey e0.1 ∧ left kl = true ∧ cnt1 < cnt ∧ wr.rangeLeft m r = cnt ∧ w1.ranges Tryz.prog 9 fElem m r t.l.length D (fun z => left z && !z.sameKey kl) cnt1 ∧ TkU w1 q t G m D P V ∧ Below w.heap.size w w1 ∧ TkM w1 (t.l.filter fun e => !left (fkey e.1)) G2 m2 D2 P2 V2 ∧ r < w1.heap.size) := ⟨he0, hpb, hkl, hlk, hlt, HS.out.rg.left_eq, hrg1, htk1, hb1, htm1, by rw [hs1]; exact HS.out.lt⟩
      have HO : Hid (Own11 w1 pb e0.2 (V e0.1)) := by
        have e : Own11 w1 pb e0.2 (V e0.1) := by rw [hpb]; exact htk1.node e0 he0
        exact e
      have HIN : Hid (Tq.find (t.l.filter fun e => !left (fkey e.1)) e0.1 = none ∧ Tq.ins (t.l.filter fun e => !left (fkey e.1)) e0.1 e0.2 = t.l.filter fun e => !(left (fkey e.1) && !(fkey e.1).sameKey kl)) := by
        refine Tq.ins_filter HD.out.2.rise he0 _ _ (by rw [← hkl, hlk]; rfl) ?_ (fun f hf hne => ?_)
        · rw [hkl, WideAt.sameKey_self (fkey_lit (good_max (HD.out.2.nodes e0 he0).1))]
          simp
        · rw [hkl, Maps.sameKey_ne (fun e3 => hne (fkey_inj e3))]
          simp
      have HK : Hid (keyOf Tryz.prog 9 (.string e0.1) = some (fkey e0.1) ∧ e0.1.size ≤ maxLen ∧ e0.2.names.length ≤ 3000) := ⟨key_of (good_max (HD.out.2.nodes e0 he0).1), good_max (HD.out.2.nodes e0 he0).1, by have := (HD.out.2.nodes e0 he0).2.many; omega⟩
      clear hkey hlk hv hat hrg1 hlt hg1 hs1 he0 hyp hc hpb hkl hb1 htk1 htm1 hS
      go_wp2_with fail
      clear hen
      refine (twin_any11 pb e0.2 (V e0.1) HO.out HK.out.2.2).mono ?_
      rintro e w2 ⟨na, nc, rfl, hO, hrow, hb⟩
      obtain ⟨nb, hnb⟩ : ∃ nb, nb = w1.heap.size := ⟨_, rfl⟩
      rw [← hnb] at hO hrow
      have H2 : Hid (TkM w2 (t.l.filter fun e => !left (fkey e.1)) (fun k => G2 k ∨ k = nb ∨ (Value.slice na e0.2.names.length nc).ownBlock = some k) m2 D2 P2 V2 ∧ Own11 w2 nb e0.2 (.slice na e0.2.names.length nc) ∧ (∀ f ∈ (t.l.filter fun e => !left (fkey e.1)), P2 f.1 ≠ nb ∧ ∀ k, (V2 f.1).ownBlock = some k → (Value.slice na e0.2.names.length nc).ownBlock ≠ some k) ∧ Below w1.heap.size w1 w2 ∧ ∀ k, (k = nb ∨ (Value.slice na e0.2.names.length nc).ownBlock = some k) → w1.heap.size ≤ k) := by
        have h3 := HF.out.2.2.2.2.2.2.2.2.2.1
        have hrl := hrow.lt
        refine ⟨(h3.below hb).more (fun k hk => Or.inl hk) (fun k hk => ?_), hO, fun f hf => ⟨fun e => ?_, fun k hk e => ?_⟩, hb, fun k hk => ?_⟩
        · rcases hk with hk | hk | hk
          · exact Nat.lt_of_lt_of_le (h3.glt k hk) hb.size
          · rw [hk]
            exact hO.flt (Or.inl rfl)
          · exact (hrl k hk).2
        · have := h3.glt _ (h3.gf f hf).1
          omega
        · have := h3.glt _ ((h3.gf f hf).2 k hk)
          have := (hrl k e).1
          omega
        · rcases hk with hk | hk
          · omega
          · have := (hrl k hk).1
            omega
      rw [← hnb]
      clear hO hrow hb hnb
      go_wp2_with (at_mapUpdate; refine wpList_mapUpdate_in _ rfl _ _ _ 111 rfl 9 151 keyed11 Tryz.underlying111 fElem m2 _ D2 rfl H2.out.1.own ?hn (.string e0.1) (dptr nb) (fkey e0.1) rfl rfl HK.out.1 (.held nb) [] (fElem_ptr nb) ?_)
      case hn =>
        have h1 := List.length_filter_le (fun e : Tq.En => !left (fkey e.1)) t.l
        unfold maxLen
        omega
      intro w3 hown hturn
      have HNX : Hid (CpS w w3 q r m m2 t G D P V (fun z => left z && !z.sameKey kl) cnt1 (fun k => G2 k ∨ k = nb ∨ (Value.slice na e0.2.names.length nc).ownBlock = some k) (D2.put (fkey e0.1) (.held nb)) (fun x' => if x' = e0.1 then nb else P2 x') (fun x' => if x' = e0.1 then .slice na e0.2.names.length nc else V2 x')) := by
        have hcm := H2.out.1.come HK.out.2.1 HIN.out.1 hown hturn H2.out.2.1 H2.out.2.2.1 ⟨Or.inr (Or.inl rfl), fun k hk => Or.inr (Or.inr hk)⟩
        rw [HIN.out.2] at hcm
        have hg := hturn.grown
        have h2 := H2.out.2.2.2.1
        have hm2 := HS.out.hi2 m2 HS.out.tm.gm
        have hrm : r ≠ m2 := fun e => HS.out.nr (by rw [e]; exact HS.out.tm.gm)
        have hkk : ∀ k, k < w1.heap.size → k ≠ m2 → w3.heap[k]? = w1.heap[k]? := fun k hk hne => (hg.block k (Nat.lt_of_lt_of_le hk h2.size) (by simpa using hne)).trans (h2.block k hk)
        have hsw := HF.out.2.2.2.2.2.2.2.2.1.size
        refine ⟨ranges_keep HF.out.2.2.2.2.2.2.1 (hkk m (HF.out.2.2.2.2.2.2.2.1.glt m HD.out.1.gm) (by have := HD.out.1.glt m HD.out.1.gm; omega)) (hkk r HF.out.2.2.2.2.2.2.2.2.2.2 hrm), HF.out.2.2.2.2.2.2.2.1.keep (fun k hk => hkk k (HF.out.2.2.2.2.2.2.2.1.glt k hk) (by have := HD.out.1.glt k hk; omega)), hcm, fun k hk => ?_, fun e => ?_, (HF.out.2.2.2.2.2.2.2.2.1.trans (h2.mono hsw)).grown hg (by have := h2.size; omega) (fun k hk => by simp at hk; omega), ?_, HS.out.hi⟩
        · rcases hk with hk | hk
          · exact HS.out.hi2 k hk
          · have := H2.out.2.2.2.2 k hk
            omega
        · rcases e with e | e
          · exact HS.out.nr e
          · have := H2.out.2.2.2.2 r e
            have := HF.out.2.2.2.2.2.2.2.2.2.2
            omega
        · have := HF.out.2.2.2.2.2.2.2.2.2.2
          have := h2.size
          have := hg.size
          omega
      clear hown hturn
      have HME : Hid (w3.rangeLeft m r < wr.rangeLeft m r) := by
        have e : w3.rangeLeft m r < wr.rangeLeft m r := by
          rw [HNX.out.rg.left_eq, HF.out.2.2.2.2.2.1]
          exact HF.out.2.2.2.2.1
        exact e
      go_wp2
      go_roundw
      case rel => exact ⟨_, _, _, _, _, _, HNX.out⟩
      case measure => exact HME.out
end
end Go.Proofs.YtboejbjobjhajaaGreatDoor
