/- What the landed tree's Paths tells: the map's keys, sorted. What the landed tree's Of tells: a session's paths, sorted. What the landed tree's Copy answers: another tree, of other blocks. -/
import Derived.Test.YtfcbdjjbchcpjaaDoorWNd11
import Derived.Sort.OwnSorted
import Derived.Lib.OwnBridge
namespace Go.Proofs.YtfcbdjjbchcpjaaDoor
open Go.RowKit Go.Sort

/-- The order of texts, as lists of bytes. -/
theorem bless_lt : ∀ {x y : List UInt8}, Op.bytesLess x y = true → x < y
  | _, [], h => by simp [Op.bytesLess] at h
  | [], _ :: _, _ => by simp
  | a :: x, b :: y, h => by
    simp only [Op.bytesLess, Bool.or_eq_true, decide_eq_true_eq, Bool.and_eq_true, beq_iff_eq] at h
    rw [List.cons_lt_cons_iff]
    rcases h with h | ⟨rfl, h⟩
    · exact Or.inl h
    · exact Or.inr ⟨rfl, bless_lt h⟩
abbrev dl11 (L : List ByteArray) : List (List UInt8) := L.map fun s => s.data.toList
theorem rises_le11 {L : List ByteArray} (h : Kq.Rises L) : (dl11 L).Pairwise (fun a b => leB a b = true) := by
  rw [List.pairwise_map]
  refine h.imp ?_
  intro a b hab
  unfold Kq.lt at hab
  rw [ByteArray.toList_eq, ByteArray.toList_eq] at hab
  simp only [leB, decide_eq_true_eq]
  exact List.le_of_lt (bless_lt hab)
theorem rises_nodup11 {L : List ByteArray} (h : Kq.Rises L) : (dl11 L).Nodup := by
  unfold List.Nodup
  rw [List.pairwise_map]
  refine h.imp ?_
  intro a b hab e
  refine Kq.lt_ne hab ?_
  exact bytes_eq (by rw [ByteArray.toList_eq, ByteArray.toList_eq, e]; simp)
theorem sort_eq11 {L : List ByteArray} (h : Kq.Rises L) {ss : List (List UInt8)} (hp : ss.Perm (dl11 L)) : ss.mergeSort leB = dl11 L := by
  have tr : ∀ a b c : List UInt8, leB a b = true → leB b c = true → leB a c = true := fun a b c h1 h2 => by simp only [leB, decide_eq_true_eq] at *; exact List.le_trans h1 h2
  have tot : ∀ a b : List UInt8, (leB a b || leB b a) = true := fun a b => by simp only [leB, Bool.or_eq_true, decide_eq_true_eq]; exact List.le_total a b
  refine List.Perm.eq_of_pairwise (le := fun a b => leB a b = true) (fun a b _ _ h1 h2 => ?_) (List.pairwise_mergeSort tr tot ss) (rises_le11 h) ((List.mergeSort_perm ss leB).trans hp)
  simp only [leB, decide_eq_true_eq] at h1 h2
  exact List.le_antisymm h1 h2
theorem enc11 (L : List ByteArray) : (dl11 L).map encStr = sc L := by
  unfold sc
  rw [List.map_map]
  apply List.map_congr_left
  intro s _
  simp [encStr]
section
variable {w : World} {q m : Nat} {t : Tq.Tr} {G : Nat → Prop} {D : DataW Nat} {P : ByteArray → Nat} {V : ByteArray → Value}
theorem TkU.keys (h : TkU w q t G m D P V) (hr : Kq.Rises (Tq.keys t.l)) : (dl11 (Tq.keys t.l)).Perm (strKeys D) := by
  obtain ⟨es, hD, hpw, _⟩ := h.own.entries keyed11
  obtain ⟨es', hD', hko⟩ := h.own.keysOf
  obtain rfl : es = es' := by rw [hD] at hD'; simpa using hD'
  rw [hD]
  refine perm_strKeys hpw (fun p hp => by obtain ⟨v, hv⟩ := hko p hp; obtain ⟨x, _, hx, _⟩ := Maps.keyOf_str Tryd.underlying9 hv; exact ⟨x, hx⟩) (rises_nodup11 hr) (fun x => ?_)
  rw [← hD, h.has, List.mem_map]
  constructor
  · rintro ⟨s, hs, e⟩
    obtain ⟨f, hf, rfl⟩ := List.mem_map.1 hs
    exact ⟨f, hf, by unfold fkey; rw [e]⟩
  · rintro ⟨f, hf, e⟩
    unfold fkey at e
    simp only [Lit.string.injEq] at e
    exact ⟨f.1, List.mem_map.2 ⟨f, hf, rfl⟩, e.symm⟩

end
end Go.Proofs.YtfcbdjjbchcpjaaDoor
namespace Go.Proofs.YtfcbdjjbchcpjaaDoor.Tq
open Kq
theorem filt_step (f f' : En → Bool) {e0 : En} : ∀ {l : List En}, Rises (keys l) → e0 ∈ l → f e0 = false → f' e0 = true → (∀ e ∈ l, e.1 ≠ e0.1 → f' e = f e) → ((l.filter f').map (·.1)).Perm ((l.filter f).map (·.1) ++ [e0.1])
  | [], _, h, _, _, _ => by cases h
  | e :: l, hr, he, h0, h1, ho => by
    have hr' := hr
    unfold keys at hr
    rw [List.map_cons] at hr
    obtain ⟨h2, h3⟩ := List.pairwise_cons.1 hr
    by_cases hee : e.1 = e0.1
    · have hx : e = e0 := en_uniq hr' List.mem_cons_self he hee
      subst hx
      have hl : ∀ x ∈ l, f' x = f x := fun x hx => ho x (List.mem_cons_of_mem _ hx) (fun e2 => lt_ne (h2 x.1 (List.mem_map.2 ⟨x, hx, rfl⟩)) e2.symm)
      rw [List.filter_cons_of_pos h1, List.filter_cons_of_neg (by simp [h0]), List.filter_congr hl, List.map_cons]
      exact (List.perm_append_singleton _ _).symm
    · have hm : e0 ∈ l := by
        rcases List.mem_cons.1 he with e1 | e1
        · exact absurd (by rw [e1]) hee
        · exact e1
      have ih := filt_step f f' h3 hm h0 h1 (fun x hx => ho x (List.mem_cons_of_mem _ hx))
      have hfe := ho e List.mem_cons_self hee
      cases hfv : f e with
      | true =>
        rw [List.filter_cons_of_pos (by rw [hfe, hfv]), List.filter_cons_of_pos hfv, List.map_cons, List.map_cons, List.cons_append]
        exact ih.cons _
      | false =>
        rw [List.filter_cons_of_neg (by simp [hfe, hfv]), List.filter_cons_of_neg (by simp [hfv])]
        exact ih
theorem ofs_rises {t : Tr} (hr : Rises (keys t.l)) (s : Int) : Rises (ofs t s) := by
  unfold ofs
  split
  · have h : ((t.l.filter fun e => decide (e.2.owner = s)).map (·.1)).Sublist (keys t.l) := List.Sublist.map _ List.filter_sublist
    exact List.Pairwise.sublist h hr
  · exact List.Pairwise.nil
end Go.Proofs.YtfcbdjjbchcpjaaDoor.Tq
namespace Go.Proofs.YtfcbdjjbchcpjaaDoor
open Go.RowKit Go.Sort

/-- 'append(s, x...)', of texts, with what it leaves alone. -/
theorem append_strs2 {ops : Array Oper} {rest : List Oper} {o : Oper} {a : Act} {Q : Exit → Act → World → Prop} (hgd : o.guard = none) (s x : Operand)
    (ho : o.op = .call { callee := .builtin .append, args := #[s, x], argTypes := #[28, 28] })
    (B : Nat) (v u : Value) (ls ms : List ByteArray) (w : World) (hs : a.eval s = v) (hx : a.eval x = u) (hown : w.ownsRow B 9 1 v ls.length (sc ls)) (hB : B ≤ w.heap.size) (hb : Src w u ms) (hN : ls.length + ms.length ≤ 3000)
    (h : ∀ v' w', w'.ownsRow B 9 1 v' (ls ++ ms).length (sc (ls ++ ms)) → Below B w w' → w.grownBy w' v.ownBlock → wpList Tryd.prog ops Q rest (a.put o.dst v') w') : wpList Tryd.prog ops Q (o :: rest) a w :=
  wpList_plain hgd fun _ hK => wp_strs s x ho B v u ls ms w hs hx hown hB hb hN (fun v' w' h1 h2 h3 => hK _ _ (h v' w' h1 h2 h3))

theorem ranges_keep {w w' : World} {b r n : Nat} {D : DataW Nat} {left : Lit → Bool} {cnt : Nat} (h : w.ranges Tryd.prog 9 fElem b r n D left cnt) (hb : w'.heap[b]? = w.heap[b]?) (hr : w'.heap[r]? = w.heap[r]?) : w'.ranges Tryd.prog 9 fElem b r n D left cnt := by
  obtain ⟨es, clock, since, seen, c0, h1, F, hs, hD, h2, rest⟩ := h
  exact ⟨es, clock, since, seen, c0, hb.trans h1, F, hs, hD, hr.trans h2, rest⟩

/-- What Of has under way. -/
structure OfS (w wr : World) (q r m : Nat) (t : Tq.Tr) (s : Int) (G : Nat → Prop) (D : DataW Nat) (P : ByteArray → Nat) (V : ByteArray → Value) (left : Lit → Bool) (cnt : Nat) (ls : List ByteArray) (v : Value) : Prop where
  rg : wr.ranges Tryd.prog 9 fElem m r t.l.length D left cnt
  tk : TkU wr q t G m D P V
  row : wr.ownsRow w.heap.size 9 1 v ls.length (sc ls)
  perm : ls.Perm ((t.l.filter fun e => decide (e.2.owner = s) && !left (fkey e.1)).map (·.1))
  below : Below w.heap.size w wr
  lt : r < wr.heap.size
  hi : w.heap.size ≤ r

section
variable {w : World} {q m : Nat} {t : Tq.Tr} {G : Nat → Prop} {D : DataW Nat} {P : ByteArray → Nat} {V : ByteArray → Value}
end
end Go.Proofs.YtfcbdjjbchcpjaaDoor
namespace Go.Proofs.YtfcbdjjbchcpjaaDoor.Tq
open Kq
theorem rises_pair {l : List En} : Rises (keys l) ↔ l.Pairwise fun x y => lt x.1 y.1 = true := by
  unfold Rises keys
  rw [List.pairwise_map]
theorem en_ext {a b : List En} (ha : Rises (keys a)) (hb : Rises (keys b)) (h : ∀ e, e ∈ a ↔ e ∈ b) : a = b := by
  have ha' := rises_pair.1 ha
  have hb' := rises_pair.1 hb
  have na : a.Nodup := by
    unfold List.Nodup
    exact ha'.imp (fun {x y} hxy (e : x = y) => lt_ne hxy (by rw [e]))
  have nb : b.Nodup := by
    unfold List.Nodup
    exact hb'.imp (fun {x y} hxy (e : x = y) => lt_ne hxy (by rw [e]))
  refine List.Perm.eq_of_pairwise (le := fun x y : En => lt x.1 y.1 = true) (fun x y _ _ h1 h2 => ?_) ha' hb' ((List.perm_ext_iff_of_nodup na nb).2 h)
  rw [lt_asymm h1] at h2
  cases h2
theorem rises_filter {l : List En} (f : En → Bool) (hr : Rises (keys l)) : Rises (keys (l.filter f)) := by
  have h : (keys (l.filter f)).Sublist (keys l) := List.Sublist.map _ List.filter_sublist
  exact List.Pairwise.sublist h hr
theorem ins_filter {l : List En} (hr : Rises (keys l)) {e0 : En} (he : e0 ∈ l) (f f' : En → Bool) (h0 : f e0 = false) (h1 : f' e0 = true) (ho : ∀ e ∈ l, e.1 ≠ e0.1 → f' e = f e) : find (l.filter f) e0.1 = none ∧ ins (l.filter f) e0.1 e0.2 = l.filter f' := by
  have hn : find (l.filter f) e0.1 = none := by
    cases hf : find (l.filter f) e0.1 with
    | none => rfl
    | some n =>
      have hm := List.mem_filter.1 (find_some hf)
      have := en_uniq hr hm.1 he rfl
      rw [this, h0] at hm
      exact absurd hm.2 (by simp)
  refine ⟨hn, en_ext (rises_ins _ (rises_filter f hr) hn) (rises_filter f' hr) (fun e => ?_)⟩
  rw [mem_ins, List.mem_filter, List.mem_filter]
  constructor
  · rintro (rfl | ⟨h2, h3⟩)
    · exact ⟨he, h1⟩
    · refine ⟨h2, ?_⟩
      by_cases hk : e.1 = e0.1
      · rw [en_uniq hr h2 he hk]
        exact h1
      · rw [ho e h2 hk]
        exact h3
  · rintro ⟨h2, h3⟩
    by_cases hk : e.1 = e0.1
    · exact Or.inl (en_uniq hr h2 he hk)
    · rw [ho e h2 hk] at h3
      exact Or.inr ⟨h2, h3⟩
end Go.Proofs.YtfcbdjjbchcpjaaDoor.Tq
namespace Go.Proofs.YtfcbdjjbchcpjaaDoor
open Go.RowKit
/-- A map of nodes, without a tree. -/
structure TkM (w : World) (l : List Tq.En) (G : Nat → Prop) (m : Nat) (D : DataW Nat) (P : ByteArray → Nat) (V : ByteArray → Value) : Prop where
  own : w.ownsMap Tryd.prog 9 fElem m l.length D
  sz : Maps.size D = l.length
  has : ∀ kl, Maps.has D kl = true ↔ ∃ e ∈ l, kl = fkey e.1
  at_ : ∀ e ∈ l, ∀ z, D.atKey (fkey e.1) z = .held (P e.1)
  node : ∀ e ∈ l, Own11 w (P e.1) e.2 (V e.1)
  apart : ∀ e ∈ l, ∀ f ∈ l, e.1 ≠ f.1 → P e.1 ≠ P f.1 ∧ ∀ k, (V e.1).ownBlock = some k → (V f.1).ownBlock ≠ some k
  gm : G m
  gf : ∀ e ∈ l, G (P e.1) ∧ ∀ k, (V e.1).ownBlock = some k → G k
  glt : ∀ k, G k → k < w.heap.size
section
variable {w w' : World} {m : Nat} {l : List Tq.En} {G : Nat → Prop} {D : DataW Nat} {P : ByteArray → Nat} {V : ByteArray → Value}
theorem TkM.keep (h : TkM w l G m D P V) (hk : ∀ k, G k → w'.heap[k]? = w.heap[k]?) : TkM w' l G m D P V := by
  refine ⟨?_, h.sz, h.has, h.at_, fun e he => (h.node e he).keep (fun k hk2 => ?_), h.apart, h.gm, h.gf, fun k e => ?_⟩
  · obtain ⟨es, clock, hb, r⟩ := h.own
    exact ⟨es, clock, (hk m h.gm).trans hb, r⟩
  · rcases hk2 with rfl | hk2
    · exact hk _ (h.gf e he).1
    · exact hk _ ((h.gf e he).2 k hk2)
  · have h1 := h.glt k e
    have h2 := hk k e
    rw [Array.getElem?_eq_getElem h1] at h2
    exact (Array.getElem?_eq_some_iff.1 h2).1
theorem TkM.below (h : TkM w l G m D P V) (hb : Below w.heap.size w w') : TkM w' l G m D P V := h.keep fun k hk => hb.block k (h.glt k hk)
theorem TkM.more {G' : Nat → Prop} (h : TkM w l G m D P V) (hs : ∀ k, G k → G' k) (hl : ∀ k, G' k → k < w.heap.size) : TkM w l G' m D P V :=
  ⟨h.own, h.sz, h.has, h.at_, h.node, h.apart, hs m h.gm, fun f hf => ⟨hs _ (h.gf f hf).1, fun k e => hs k ((h.gf f hf).2 k e)⟩, hl⟩
theorem TkM.p_m (h : TkM w l G m D P V) {e : Tq.En} (he : e ∈ l) : P e.1 ≠ m := fun e2 => by
  obtain ⟨es, clock, hb, _⟩ := h.own
  have := (h.node e he).blk
  unfold Cb at this
  rw [e2, hb] at this
  cases this
theorem TkM.v_m (h : TkM w l G m D P V) {e : Tq.En} (he : e ∈ l) : (V e.1).ownBlock ≠ some m := fun e2 => by
  obtain ⟨es, clock, hb, _⟩ := h.own
  obtain ⟨cur, hc⟩ := row_in (h.node e he).row e2
  rw [hb] at hc
  cases hc
theorem TkM.tree (h : TkM w l G m D P V) {q : Nat} {room : Int} (hq : Cb w q [.map (some m), .int .i64 room] 52) : TkU w q ⟨room, l⟩ (fun k => G k ∨ k = q) m D P V :=
  ⟨hq, h.own, h.sz, h.has, h.at_, h.node, h.apart, Or.inr rfl, Or.inl h.gm, fun e he => ⟨Or.inl (h.gf e he).1, fun k hk => Or.inl ((h.gf e he).2 k hk)⟩, fun k hk => by
    rcases hk with hk | rfl
    · exact h.glt k hk
    · exact hq.lt⟩
/-- An entry comes. -/
theorem TkM.come (h : TkM w l G m D P V) {p : ByteArray} {n : Kq.Kn} {b N : Nat} {v : Value} (hlen : p.size ≤ maxLen) (hnone : Tq.find l p = none) (ho : w'.ownsMap Tryd.prog 9 fElem m N (D.put (fkey p) (.held b))) (ht : w.mapTurned w' m)
    (hfd : Own11 w b n v) (hap : ∀ f ∈ l, P f.1 ≠ b ∧ ∀ k, (V f.1).ownBlock = some k → v.ownBlock ≠ some k) (hG : G b ∧ ∀ k, v.ownBlock = some k → G k) :
    TkM w' (Tq.ins l p n) G m (D.put (fkey p) (.held b)) (fun x => if x = p then b else P x) (fun x => if x = p then v else V x) := by
  have hg := ht.grown
  have hbm : b ≠ m := fun e => by
    obtain ⟨es, clock, hb, _⟩ := h.own
    have := hfd.blk
    unfold Cb at this
    rw [e, hb] at this
    cases this
  have hvm : v.ownBlock ≠ some m := fun e2 => by
    obtain ⟨es, clock, hb, _⟩ := h.own
    obtain ⟨cur, hc⟩ := row_in hfd.row e2
    rw [hb] at hc
    cases hc
  have hkp : ∀ k, G k → k ≠ m → w'.heap[k]? = w.heap[k]? := fun k hk hne => hg.block k (h.glt k hk) (by simpa using hne)
  have hne : ∀ x ∈ l, x.1 ≠ p := fun x hx e => Tq.find_none hnone (List.mem_map.2 ⟨x, hx, e⟩)
  have hcase : ∀ x ∈ Tq.ins l p n, x = (p, n) ∨ (x ∈ l ∧ x.1 ≠ p) := fun x hx => (Tq.mem_ins.1 hx).imp id (fun e => ⟨e, hne x e⟩)
  have hsz : Maps.size (D.put (fkey p) (.held b)) = (Tq.ins l p n).length := by
    have h1 := Maps.size_put (k := fkey p) (h.own.tidy keyed11) (.held b)
    have h2 : Maps.has D (fkey p) = false := by
      cases hh : Maps.has D (fkey p) with
      | false => rfl
      | true =>
        obtain ⟨x, hx, e⟩ := (h.has _).1 hh
        exact absurd (fkey_inj e).symm (hne x hx)
    rw [h2] at h1
    rw [Tq.len_ins, h1, h.sz]
    rfl
  refine ⟨(tight11 ho).mono (Nat.le_of_eq hsz), hsz, fun kl => ?_, fun x hx z => ?_, fun x hx => ?_, fun x hx y hy hxy => ?_, h.gm, fun x hx => ?_, fun k hk => Nat.lt_of_lt_of_le (h.glt k hk) hg.size⟩
  · by_cases e : kl = fkey p
    · subst e
      rw [Maps.has_put_same h.own.isMap (fkey_lit hlen)]
      exact ⟨fun _ => ⟨_, Tq.mem_ins.2 (Or.inl rfl), rfl⟩, fun _ => rfl⟩
    · rw [Maps.has_put_other e, h.has]
      constructor
      · rintro ⟨x, hx, e2⟩
        exact ⟨x, Tq.mem_ins.2 (Or.inr hx), e2⟩
      · rintro ⟨x, hx, e2⟩
        rcases hcase x hx with e3 | e3
        · exact absurd (by rw [e2, e3]) e
        · exact ⟨x, e3.1, e2⟩
  · rcases hcase x hx with e | e
    · rw [e, Maps.atKey_put_same h.own.isMap (fkey_lit hlen)]
      simp
    · rw [Maps.atKey_put_other (fun e2 => e.2 (fkey_inj e2)), if_neg e.2]
      exact h.at_ x e.1 z
  · rcases hcase x hx with e | e
    · simp only [e, if_pos]
      refine hfd.keep (fun k hk => ?_)
      rcases hk with rfl | hk
      · exact hkp _ hG.1 hbm
      · exact hkp k (hG.2 k hk) (fun e => hvm (e ▸ hk))
    · simp only [if_neg e.2]
      refine (h.node x e.1).keep (fun k hk => ?_)
      rcases hk with rfl | hk
      · exact hkp _ (h.gf x e.1).1 (h.p_m e.1)
      · exact hkp k ((h.gf x e.1).2 k hk) (fun e2 => h.v_m e.1 (e2 ▸ hk))
  · rcases hcase x hx with e | e
    · rcases hcase y hy with e' | e'
      · exact absurd (by rw [e, e']) hxy
      · simp only [e, if_neg e'.2, if_pos]
        exact ⟨Ne.symm (hap y e'.1).1, fun k hk hk2 => (hap y e'.1).2 k hk2 hk⟩
    · rcases hcase y hy with e' | e'
      · simp only [e', if_neg e.2, if_pos]
        exact hap x e.1
      · simp only [if_neg e.2, if_neg e'.2]
        exact h.apart x e.1 y e'.1 hxy
  · rcases hcase x hx with e | e
    · simp only [e, if_pos]
      exact hG
    · simp only [if_neg e.2]
      exact h.gf x e.1
end
section
variable {w : World} {q m : Nat} {t : Tq.Tr} {G : Nat → Prop} {D : DataW Nat} {P : ByteArray → Nat} {V : ByteArray → Value}
/-- What Copy has under way. -/
structure CpS (w wr : World) (q r m m2 : Nat) (t : Tq.Tr) (G : Nat → Prop) (D : DataW Nat) (P : ByteArray → Nat) (V : ByteArray → Value) (left : Lit → Bool) (cnt : Nat) (G2 : Nat → Prop) (D2 : DataW Nat) (P2 : ByteArray → Nat) (V2 : ByteArray → Value) : Prop where
  rg : wr.ranges Tryd.prog 9 fElem m r t.l.length D left cnt
  tk : TkU wr q t G m D P V
  tm : TkM wr (t.l.filter fun e => !left (fkey e.1)) G2 m2 D2 P2 V2
  hi2 : ∀ k, G2 k → w.heap.size ≤ k
  nr : ¬ G2 r
  below : Below w.heap.size w wr
  lt : r < wr.heap.size
  hi : w.heap.size ≤ r

set_option maxRecDepth 20000 in
set_option maxHeartbeats 4000000 in
theorem copy_any11 (h : TkU w q t G m D P V) (hf : Fine11 t) :
    Calls Tryd.prog 21 #[dptr q] w fun e w' => ∃ q2 F2, e = .returned (dptr q2) ∧ LTk w' q2 t F2 ∧ (∀ k, F2 k → w.heap.size ≤ k) ∧ LTk w' q t G ∧ Below w.heap.size w w' := by
  have HD : Hid (TkU w q t G m D P V ∧ Fine11 t) := ⟨h, hf⟩
  have c0 : w.cell? ⟨q, 0, none⟩ = some (.map (some m)) := h.blk.cell 0
  have hln : (Builtin.len_ #[50] 3 #[.map (some m)]).run Tryd.prog w = .ok (.int .i64 (t.l.length : Int)) w := by
    have e := h.own.len Tryd.underlying50 3
    rw [h.sz] at e
    exact e
  have hmm : (Instr.makeMap 50 (some (.int .i64 (t.l.length : Int)))).run Tryd.prog w = .ok (.map (some w.heap.size)) (w.alloc (.map #[] 0)) := by kernel_rfl
  obtain ⟨m2, hm2⟩ : ∃ m2, m2 = w.heap.size := ⟨_, rfl⟩
  have H0 : Hid (TkU (w.alloc (.map #[] 0)) q t G m D P V ∧ TkM (w.alloc (.map #[] 0)) [] (fun k => k = m2) m2 (.map []) (fun _ => 0) (fun _ => .slice none 0 0) ∧ Below w.heap.size w (w.alloc (.map #[] 0)) ∧ m2 = w.heap.size) := by
    have hba := (Below.refl _ w).alloc (Nat.le_refl _) (.map #[] 0)
    refine ⟨h.below hba, ⟨by rw [hm2]; exact World.ownsMap_made w _ _ _, rfl, fun kl => ⟨fun h => (by cases h), fun ⟨e, he, _⟩ => (by cases he)⟩, fun e he => (by cases he), fun e he => (by cases he), fun e he => (by cases he), rfl, fun e he => (by cases he), fun k hk => ?_⟩, hba, hm2⟩
    rw [World.size_alloc]
    omega
  clear h hf
  have hl5 : t.l.length ≤ 500 := by have h1 := HD.out.2.len; have h2 := HD.out.2.room; omega
  go_enter Tryd.func21, Tryd.ntmps21
  go_upto_region 2 with fail
  rw [← hm2]
  clear hm2 hmm hln c0
  generalize w.alloc (.map #[] 0) = w0 at *
  have c0 : w0.cell? ⟨q, 0, none⟩ = some (.map (some m)) := H0.out.1.blk.cell 0
  go_wp2_with (at_range; refine wpList_range_own _ rfl _ 50 rfl 9 54 keyed11 Tryd.underlying50 fElem m t.l.length D rfl H0.out.1.own ?_)
  intro w1 hrg0 hg0 hs0
  obtain ⟨r, hr⟩ : ∃ r, r = w0.heap.size := ⟨_, rfl⟩
  have HS0 : Hid (CpS w w1 q r m m2 t G D P V (Maps.has D) (Maps.size D) (fun k => k = m2) (.map []) (fun _ => 0) (fun _ => .slice none 0 0)) := by
    have hb : Below w0.heap.size w0 w1 := ⟨hg0.os, hg0.tape, hg0.output, hg0.size, fun k hk => hg0.block k hk (by simp)⟩
    have hsz := H0.out.2.2.1.size
    have hml := H0.out.2.1.glt m2 rfl
    refine ⟨by rw [hr]; exact hrg0, H0.out.1.below hb, ?_, fun k hk => by rw [hk, H0.out.2.2.2]; exact Nat.le_refl _, fun e => by omega, H0.out.2.2.1.trans (hb.mono hsz), by omega, by omega⟩
    rw [List.filter_eq_nil_iff.2 (fun e he => by rw [(H0.out.1.has _).2 ⟨e, he, rfl⟩]; simp)]
    exact H0.out.2.1.below hb
  rw [← hr]
  clear hr hrg0 hg0 hs0 c0 H0
  go_wp2
  go_loopw [17] (fun _ wr => ∃ left cnt G2 D2 P2 V2, CpS w wr q r m m2 t G D P V left cnt G2 D2 P2 V2) (fun _ wr => wr.rangeLeft m r)
  case atStart => exact ⟨_, _, _, _, _, _, HS0.out⟩
  case round =>
    obtain ⟨left, cnt, G2, D2, P2, V2, hS⟩ := hrel
    have HS : Hid (CpS w wr q r m m2 t G D P V left cnt G2 D2 P2 V2) := hS
    clear HS0
    go_wp2_with (at_next; refine wpList_next_ranges _ rfl _ rfl 9 keyed11 fElem Value.string (fun o : Option Nat => .pointer (o.map fun p => ⟨p, 0, none⟩)) (fun key kl hk => by obtain ⟨x, rfl, _⟩ := Maps.keyOf_str Tryd.underlying9 hk; exact ⟨_, rfl⟩) (fun v y hv => fElem_inv hv) m r t.l.length D left cnt rfl hS.rg ?_ ?_)
    · intro _ hl0
      have HM : Hid (TkM wr t.l G2 m2 D2 P2 V2) := by
        have h := HS.out.tm
        rw [List.filter_eq_self.2 (fun e _ => by rw [hl0]; rfl)] at h
        exact h
      have c1 : wr.cell? ⟨q, 1, none⟩ = some (.int .i64 t.room) := HS.out.tk.blk.cell 1
      clear hl0 hS
      obtain ⟨q2, hq2⟩ : ∃ q2, q2 = wr.heap.size := ⟨_, rfl⟩
      have HF : Hid (LTk (wr.alloc (.cells #[.map (some m2), .int .i64 t.room] 52)) q2 t (fun k => G2 k ∨ k = q2) ∧ (∀ k, (G2 k ∨ k = q2) → w.heap.size ≤ k) ∧ LTk (wr.alloc (.cells #[.map (some m2), .int .i64 t.room] 52)) q t G ∧ Below w.heap.size w (wr.alloc (.cells #[.map (some m2), .int .i64 t.room] 52))) := by
        have hba := (Below.refl _ wr).alloc (Nat.le_refl _) (.cells #[.map (some m2), .int .i64 t.room] 52)
        have hs := HS.out.below.size
        refine ⟨⟨_, _, _, _, (HM.out.below hba).tree (by rw [hq2]; exact Cb.made wr _ _)⟩, fun k hk => ?_, ⟨_, _, _, _, HS.out.tk.below hba⟩, HS.out.below.trans (hba.mono hs)⟩
        rcases hk with hk | hk
        · exact HS.out.hi2 k hk
        · omega
      go_wp2
      rw [← hq2]
      go_ret
      exact ⟨q2, _, rfl, HF.out⟩
    · intro x c kl y ys w1 cnt1 hkey hlk hv hat hrg1 hlt hg1 hs1 hen
      obtain ⟨e0, he0, hkl⟩ := (HS.out.tk.has kl).1 (Maps.has_true_of_atKey hat)
      have hyp : y = .held (P e0.1) := by rw [← hat .nil, hkl, HS.out.tk.at_ e0 he0]
      obtain ⟨pb, hpb⟩ : ∃ pb, pb = P e0.1 := ⟨_, rfl⟩
      have hc : (Value.pointer (c.map fun p => ⟨p, 0, none⟩)) = dptr pb := fElem_held (ps := ys) (by rw [hv, hyp, hpb])
      have hx : x = e0.1 := by
        obtain ⟨xs, h1, h2, _⟩ := Maps.keyOf_str Tryd.underlying9 hkey
        rw [hkl] at h2
        unfold fkey at h2
        simp only [Lit.string.injEq] at h2
        simp only [Value.string.injEq] at h1
        rw [h1, ← h2]
      subst hx
      rw [hc] at hen ⊢
      have hb1 : Below w.heap.size w w1 := HS.out.below.grown hg1 HS.out.below.size (fun k hk => by simp at hk; have := HS.out.hi; omega)
      have htk1 : TkU w1 q t G m D P V := HS.out.tk.keep (fun k hk => hg1.block k (HS.out.tk.glt k hk) (by have := HD.out.1.glt k hk; have := HS.out.hi; simp; omega))
      have htm1 : TkM w1 (t.l.filter fun e => !left (fkey e.1)) G2 m2 D2 P2 V2 := HS.out.tm.keep (fun k hk => hg1.block k (HS.out.tm.glt k hk) (fun e => HS.out.nr (by rw [← Option.some.inj e]; exact hk)))
      have HF : Hid (e0 ∈ t.l ∧ pb = P e0.1 ∧ kl = fkey e0.1 ∧ left kl = true ∧ cnt1 < cnt ∧ wr.rangeLeft m r = cnt ∧ w1.ranges Tryd.prog 9 fElem m r t.l.length D (fun z => left z && !z.sameKey kl) cnt1 ∧ TkU w1 q t G m D P V ∧ Below w.heap.size w w1 ∧ TkM w1 (t.l.filter fun e => !left (fkey e.1)) G2 m2 D2 P2 V2 ∧ r < w1.heap.size) := ⟨he0, hpb, hkl, hlk, hlt, HS.out.rg.left_eq, hrg1, htk1, hb1, htm1, by rw [hs1]; exact HS.out.lt⟩
      have HO : Hid (Own11 w1 pb e0.2 (V e0.1)) := by
        have e : Own11 w1 pb e0.2 (V e0.1) := by rw [hpb]; exact htk1.node e0 he0
        exact e
      have HIN : Hid (Tq.find (t.l.filter fun e => !left (fkey e.1)) e0.1 = none ∧ Tq.ins (t.l.filter fun e => !left (fkey e.1)) e0.1 e0.2 = t.l.filter fun e => !(left (fkey e.1) && !(fkey e.1).sameKey kl)) := by
        refine Tq.ins_filter HD.out.2.rise he0 _ _ (by rw [← hkl, hlk]; rfl) ?_ (fun f hf hne => ?_)
        · rw [hkl, WideAt.sameKey_self (fkey_lit (good_max (HD.out.2.nodes e0 he0).1))]
          simp
        · rw [hkl, Maps.sameKey_ne (fun e3 => hne (fkey_inj e3))]
          simp
      have HK : Hid (keyOf Tryd.prog 9 (.string e0.1) = some (fkey e0.1) ∧ e0.1.size ≤ maxLen ∧ e0.2.names.length ≤ 3000) := ⟨key_of (good_max (HD.out.2.nodes e0 he0).1), good_max (HD.out.2.nodes e0 he0).1, by have := (HD.out.2.nodes e0 he0).2.many; omega⟩
      clear hkey hlk hv hat hrg1 hlt hg1 hs1 he0 hyp hc hpb hkl hb1 htk1 htm1 hS
      go_wp2_with fail
      clear hen
      refine (twin_any11 pb e0.2 (V e0.1) HO.out HK.out.2.2).mono ?_
      rintro e w2 ⟨na, nc, rfl, hO, hrow, hb⟩
      obtain ⟨nb, hnb⟩ : ∃ nb, nb = w1.heap.size := ⟨_, rfl⟩
      rw [← hnb] at hO hrow
      have H2 : Hid (TkM w2 (t.l.filter fun e => !left (fkey e.1)) (fun k => G2 k ∨ k = nb ∨ (Value.slice na e0.2.names.length nc).ownBlock = some k) m2 D2 P2 V2 ∧ Own11 w2 nb e0.2 (.slice na e0.2.names.length nc) ∧ (∀ f ∈ (t.l.filter fun e => !left (fkey e.1)), P2 f.1 ≠ nb ∧ ∀ k, (V2 f.1).ownBlock = some k → (Value.slice na e0.2.names.length nc).ownBlock ≠ some k) ∧ Below w1.heap.size w1 w2 ∧ ∀ k, (k = nb ∨ (Value.slice na e0.2.names.length nc).ownBlock = some k) → w1.heap.size ≤ k) := by
        have h3 := HF.out.2.2.2.2.2.2.2.2.2.1
        have hrl := hrow.lt
        refine ⟨(h3.below hb).more (fun k hk => Or.inl hk) (fun k hk => ?_), hO, fun f hf => ⟨fun e => ?_, fun k hk e => ?_⟩, hb, fun k hk => ?_⟩
        · rcases hk with hk | hk | hk
          · exact Nat.lt_of_lt_of_le (h3.glt k hk) hb.size
          · rw [hk]
            exact hO.flt (Or.inl rfl)
          · exact (hrl k hk).2
        · have := h3.glt _ (h3.gf f hf).1
          omega
        · have := h3.glt _ ((h3.gf f hf).2 k hk)
          have := (hrl k e).1
          omega
        · rcases hk with hk | hk
          · omega
          · have := (hrl k hk).1
            omega
      rw [← hnb]
      clear hO hrow hb hnb
      go_wp2_with (at_mapUpdate; refine wpList_mapUpdate_in _ rfl _ _ _ 50 rfl 9 54 keyed11 Tryd.underlying50 fElem m2 _ D2 rfl H2.out.1.own ?hn (.string e0.1) (dptr nb) (fkey e0.1) rfl rfl HK.out.1 (.held nb) [] (fElem_ptr nb) ?_)
      case hn =>
        have h1 := List.length_filter_le (fun e : Tq.En => !left (fkey e.1)) t.l
        unfold maxLen
        omega
      intro w3 hown hturn
      have HNX : Hid (CpS w w3 q r m m2 t G D P V (fun z => left z && !z.sameKey kl) cnt1 (fun k => G2 k ∨ k = nb ∨ (Value.slice na e0.2.names.length nc).ownBlock = some k) (D2.put (fkey e0.1) (.held nb)) (fun x' => if x' = e0.1 then nb else P2 x') (fun x' => if x' = e0.1 then .slice na e0.2.names.length nc else V2 x')) := by
        have hcm := H2.out.1.come HK.out.2.1 HIN.out.1 hown hturn H2.out.2.1 H2.out.2.2.1 ⟨Or.inr (Or.inl rfl), fun k hk => Or.inr (Or.inr hk)⟩
        rw [HIN.out.2] at hcm
        have hg := hturn.grown
        have h2 := H2.out.2.2.2.1
        have hm2 := HS.out.hi2 m2 HS.out.tm.gm
        have hrm : r ≠ m2 := fun e => HS.out.nr (by rw [e]; exact HS.out.tm.gm)
        have hkk : ∀ k, k < w1.heap.size → k ≠ m2 → w3.heap[k]? = w1.heap[k]? := fun k hk hne => (hg.block k (Nat.lt_of_lt_of_le hk h2.size) (by simpa using hne)).trans (h2.block k hk)
        have hsw := HF.out.2.2.2.2.2.2.2.2.1.size
        refine ⟨ranges_keep HF.out.2.2.2.2.2.2.1 (hkk m (HF.out.2.2.2.2.2.2.2.1.glt m HD.out.1.gm) (by have := HD.out.1.glt m HD.out.1.gm; omega)) (hkk r HF.out.2.2.2.2.2.2.2.2.2.2 hrm), HF.out.2.2.2.2.2.2.2.1.keep (fun k hk => hkk k (HF.out.2.2.2.2.2.2.2.1.glt k hk) (by have := HD.out.1.glt k hk; omega)), hcm, fun k hk => ?_, fun e => ?_, (HF.out.2.2.2.2.2.2.2.2.1.trans (h2.mono hsw)).grown hg (by have := h2.size; omega) (fun k hk => by simp at hk; omega), ?_, HS.out.hi⟩
        · rcases hk with hk | hk
          · exact HS.out.hi2 k hk
          · have := H2.out.2.2.2.2 k hk
            omega
        · rcases e with e | e
          · exact HS.out.nr e
          · have := H2.out.2.2.2.2 r e
            have := HF.out.2.2.2.2.2.2.2.2.2.2
            omega
        · have := HF.out.2.2.2.2.2.2.2.2.2.2
          have := h2.size
          have := hg.size
          omega
      clear hown hturn
      have HME : Hid (w3.rangeLeft m r < wr.rangeLeft m r) := by
        have e : w3.rangeLeft m r < wr.rangeLeft m r := by
          rw [HNX.out.rg.left_eq, HF.out.2.2.2.2.2.1]
          exact HF.out.2.2.2.2.1
        exact e
      go_wp2
      go_roundw
      case rel => exact ⟨_, _, _, _, _, _, HNX.out⟩
      case measure => exact HME.out
end
end Go.Proofs.YtfcbdjjbchcpjaaDoor
