import Derived.Test.YtboejbjobjhajaaGreatDoorPp8
import Derived.Test.YtboejbjobjhajaaGreatDoorWRp18
import Derived.Test.YtboejbjobjhajaaGreatDoorWQq18
namespace Go.Proofs.YtboejbjobjhajaaGreatDoor.Kq
theorem has_del18 {l : List ByteArray} {a b : ByteArray} (h : b ≠ a) : has (del l a) b = has l b := by
  rw [Bool.eq_iff_iff, has_iff, has_iff]
  unfold del
  rw [List.mem_filter]
  simp [h]
theorem del_comm18 (l : List ByteArray) (a b : ByteArray) : del (del l a) b = del (del l b) a := by
  unfold del
  rw [List.filter_filter, List.filter_filter]
  congr 1
  funext x
  rw [Bool.and_comm]
theorem len_del18 : ∀ {l : List ByteArray} {a : ByteArray}, l.Nodup → a ∈ l → (del l a).length + 1 = l.length
  | [], _, _, h => by cases h
  | x :: l, a, hn, h => by
    obtain ⟨h1, h2⟩ := List.nodup_cons.1 hn
    by_cases e : x = a
    · have e2 : del l a = l := by
        unfold del
        rw [List.filter_eq_self]
        intro y hy
        simpa using fun e3 : y = a => h1 (by rw [e, ← e3]; exact hy)
      have e1 : del (x :: l) a = del l a := by unfold del; rw [List.filter_cons_of_neg (by simp [e])]
      rw [e1, e2, List.length_cons]
    · have e1 : del (x :: l) a = x :: del l a := by unfold del; rw [List.filter_cons_of_pos (by simp [e])]
      have ih := len_del18 h2 (show a ∈ l from (List.mem_cons.1 h).resolve_left (fun e3 => e e3.symm))
      rw [e1, List.length_cons, List.length_cons]
      omega
theorem remove_comm18 {n : Kn} (hn : n.names.Nodup) (a b : ByteArray) : remove (remove n a) b = remove (remove n b) a := by
  by_cases e : b = a
  · rw [e]
  cases ha : has n.names a with
  | false =>
    have h1 : remove n a = n := by unfold remove; rw [ha]; rfl
    rw [h1]
    cases hb : has n.names b with
    | false =>
      have h2 : remove n b = n := by unfold remove; rw [hb]; rfl
      rw [h2, h1]
    | true =>
      have h2 : remove n b = { n with names := del n.names b, kids := more n.kids, cnt := ((n.names.length - 1 : Nat) : Int) } := by unfold remove; rw [hb]; rfl
      rw [h2]
      unfold remove
      rw [has_del18 (fun e2 => e e2.symm), ha]
      rfl
  | true =>
    have h1 : remove n a = { n with names := del n.names a, kids := more n.kids, cnt := ((n.names.length - 1 : Nat) : Int) } := by unfold remove; rw [ha]; rfl
    rw [h1]
    cases hb : has n.names b with
    | false =>
      have h2 : remove n b = n := by unfold remove; rw [hb]; rfl
      rw [h2, h1]
      unfold remove
      rw [has_del18 e, hb]
      rfl
    | true =>
      have h2 : remove n b = { n with names := del n.names b, kids := more n.kids, cnt := ((n.names.length - 1 : Nat) : Int) } := by unfold remove; rw [hb]; rfl
      rw [h2]
      unfold remove
      rw [has_del18 e, hb, has_del18 (fun e2 => e e2.symm), ha]
      have l1 := len_del18 hn (has_iff.1 ha)
      have l2 := len_del18 hn (has_iff.1 hb)
      simp only [if_true, del_comm18 n.names a b]
      congr 2
      omega
end Go.Proofs.YtboejbjobjhajaaGreatDoor.Kq
namespace Go.Proofs.YtboejbjobjhajaaGreatDoor.Tq
open Kq
theorem ext18 {l m : List En} (hl : Rises (keys l)) (hm : Rises (keys m)) (h : ∀ q, find l q = find m q) : l = m := by
  have nd : ∀ {l : List En}, Rises (keys l) → l.Pairwise fun x y => lt x.1 y.1 = true := fun {l} h => by
    unfold Rises keys at h
    rwa [List.pairwise_map] at h
  have nn : ∀ {l : List En}, Rises (keys l) → l.Nodup := fun {l} h => by
    unfold List.Nodup
    exact (nd h).imp fun {a b} hab (e : a = b) => lt_ne hab (by rw [e])
  have mem : ∀ {l : List En}, Rises (keys l) → ∀ e, e ∈ l ↔ find l e.1 = some e.2 := fun {l} h e => ⟨fun he => find_of h he, fun he => find_some he⟩
  refine List.Perm.eq_of_pairwise (le := fun a b : En => lt a.1 b.1 = true) (fun a b _ _ h1 h2 => absurd (lt_trans h1 h2) (by rw [lt_irrefl]; simp)) (nd hl) (nd hm) ?_
  rw [List.perm_ext_iff_of_nodup (nn hl) (nn hm)]
  intro e
  rw [mem hl, mem hm, h]
theorem drop_no18 {t : Tr} {p : ByteArray} (h : find t.l p = none) : dropT t p = t := by unfold dropT; rw [h]
theorem drop_find18 {t : Tr} (hr : Rises (keys t.l)) {p : ByteArray} {n : Kn} (hp : find t.l p = some n) (q : ByteArray) : find (dropT t p).l q = if up p = some q then (if q = p then none else find t.l q).map (fun m => remove m (nm p)) else if q = p then none else find t.l q := by
  rw [drop_is hp]
  exact find_gone18 hr
theorem drop_comm18 {t : Tr} (hf : Fine11 t) (a b : ByteArray) (hab : up a ≠ some b) (hba : up b ≠ some a) : dropT (dropT t a) b = dropT (dropT t b) a := by
  by_cases e : a = b
  · rw [e]
  have hself : ∀ x, find t.l x ≠ none → up x ≠ some x := fun x hx hu => by
    cases hn : find t.l x with
    | none => exact hx hn
    | some n =>
      have h1 := up_sub (good_of hf hn).1 hu
      have h2 := congrArg ByteArray.size h1.1
      unfold sub at h2
      simp only [tb, ByteArray.size, List.size_toArray, List.length_append, List.length_cons] at h2
      have h3 : x.data.toList.length = x.data.size := Array.length_toList
      omega
  cases hna : find t.l a with
  | none =>
    have h1 : dropT t a = t := by unfold dropT; rw [hna]
    rw [h1]
    cases hnb : find t.l b with
    | none =>
      have h2 : dropT t b = t := by unfold dropT; rw [hnb]
      rw [h2, h1]
    | some nb =>
      have h3 : find (dropT t b).l a = none := by
        rw [drop_find18 hf.rise hnb, if_neg hba, if_neg e, hna]
      have h4 : dropT (dropT t b) a = dropT t b := drop_no18 h3
      rw [h4]
  | some na =>
    cases hnb : find t.l b with
    | none =>
      have h2 : dropT t b = t := by unfold dropT; rw [hnb]
      have h3 : find (dropT t a).l b = none := by
        rw [drop_find18 hf.rise hna, if_neg hab, if_neg (fun e2 => e e2.symm), hnb]
      have h4 : dropT (dropT t a) b = dropT t a := drop_no18 h3
      rw [h2, h4]
    | some nb =>
      have fa := fine_drop hf a
      have fb := fine_drop hf b
      have ea : find (dropT t a).l b = some nb := by rw [drop_find18 hf.rise hna, if_neg hab, if_neg (fun e2 => e e2.symm), hnb]
      have eb : find (dropT t b).l a = some na := by rw [drop_find18 hf.rise hnb, if_neg hba, if_neg e, hna]
      have hroom : ∀ (s : Tr) (x : ByteArray), (dropT s x).room = s.room := fun s x => by unfold dropT; split <;> rfl
      have hl : (dropT (dropT t a) b).l = (dropT (dropT t b) a).l := by
        refine ext18 (fine_drop fa b).rise (fine_drop fb a).rise fun q => ?_
        rw [drop_find18 fa.rise ea, drop_find18 fb.rise eb, drop_find18 hf.rise hna, drop_find18 hf.rise hnb]
        by_cases qa : q = a
        · subst qa
          have k1 := hself q (by rw [hna]; simp)
          simp [k1, hba, e]
        · by_cases qb : q = b
          · subst qb
            have k1 := hself q (by rw [hnb]; simp)
            simp [k1, hab, qa]
          · by_cases u1 : up a = some q
            · by_cases u2 : up b = some q
              · cases hq : find t.l q with
                | none => simp [u1, u2, qa, qb]
                | some n =>
                  have k1 := remove_comm18 (((good_of hf hq).2.rises).imp fun {x y} hxy => lt_ne hxy) (nm a) (nm b)
                  simp [u1, u2, qa, qb, k1]
              · simp [u1, u2, qa, qb]
            · simp [u1, qa, qb]
      have hr : (dropT (dropT t a) b).room = (dropT (dropT t b) a).room := by rw [hroom, hroom, hroom, hroom]
      cases h1 : dropT (dropT t a) b with
      | mk r1 l1 =>
        cases h2 : dropT (dropT t b) a with
        | mk r2 l2 =>
          rw [h1, h2] at hl hr
          simp only [] at hl hr
          rw [hl, hr]
theorem drops_perm18 {ts us : List ByteArray} (hp : ts.Perm us) : ∀ {t : Tr}, Fine11 t → (∀ a ∈ ts, ∀ b ∈ ts, up a ≠ some b) → drops t ts = drops t us := by
  induction hp with
  | nil => intro t _ _; rfl
  | cons x _ ih =>
    intro t hf h
    exact ih (fine_drop hf x) fun a ha b hb => h a (by simp [ha]) b (by simp [hb])
  | swap x y l =>
    intro t hf h
    show drops (dropT (dropT t y) x) l = drops (dropT (dropT t x) y) l
    rw [drop_comm18 hf y x (h y (by simp) x (by simp)) (h x (by simp) y (by simp))]
  | trans p1 _ ih1 ih2 =>
    intro t hf h
    rw [ih1 hf h]
    exact ih2 hf fun a ha b hb => h a (p1.mem_iff.2 ha) b (p1.mem_iff.2 hb)
theorem drops_ofs18 {t : Tr} (h : Well t) {s : Int} {ts : List ByteArray} (hp : ts.Perm (ofs t s)) : drops t ts = drops t (ofs t s) := by
  refine drops_perm18 hp h.fine fun a ha b hb hu => ?_
  obtain ⟨hs, na, h1, h2⟩ := ofs_owner18 h.fine (hp.mem_iff.1 ha)
  obtain ⟨_, nb, h3, h4⟩ := ofs_owner18 h.fine (hp.mem_iff.1 hb)
  obtain ⟨m, h5, h6, h7⟩ := h.snd.par a na b h1 hu
  rw [h3] at h5
  obtain rfl := Option.some.inj h5
  omega
end Go.Proofs.YtboejbjobjhajaaGreatDoor.Tq
namespace Go.Proofs.YtboejbjobjhajaaGreatDoor
open Go.RowKit
section
variable {LT : Rep11} {LS : Rep17} {w w' : World} {q : Nat} {room z wt : Int} {t : Tq.Tr} {lk : Lk.St} {fw fd fs : Lit → Option Value} {F : Nat → Prop} {qt ql a b c : Nat} {Ft Fl G : Nat → Prop} {se : Int} {av : Option Addr} {N cc : Nat} {clo : Bool}
structure Cm18 (LT : Rep11) (LS : Rep17) (w0 w : World) (q : Nat) (room z wt : Int) (t : Tq.Tr) (lk : Lk.St) (fw fd fs : Lit → Option Value) (F0 F : Nat → Prop) (qt ql a b c : Nat) (Ft Fl G : Nat → Prop) (b1 : Nat) (se : Int) (u : Value) (clo : Bool) : Prop where
  pt : PtU18 LT LS w q room z wt t lk fw fd fs F qt ql a b c Ft Fl G
  box : Kept11 w F b1 [.int .i64 se, u, .bool clo] 94
  mv : Moved w0 w F0 F
  kg : ∀ k, G k → w.heap[k]? = w0.heap[k]?
  kq : ∀ k, k = q ∨ k = a ∨ k = b → w.heap[k]? = w0.heap[k]?
theorem Cm18.made (S : Base18 LT LS) (h : PtU18 LT LS w q room z wt t lk fw fd fs F qt ql a b c Ft Fl G) (b1 : Nat) (hb1 : b1 = w.heap.size) : Cm18 LT LS w (w.alloc (.cells #[.int .i64 se, .slice av N cc, .bool clo] 94)) q room z wt t lk fw fd fs F F qt ql a b c Ft Fl G b1 se (.slice av N cc) clo := by
  have hb := (Below.refl w.heap.size w).alloc (Nat.le_refl _) (.cells #[.int .i64 se, .slice av N cc, .bool clo] 94)
  obtain ⟨col, hc⟩ := h.col
  refine ⟨h.below S.t S.l hb, ?_, Moved.of_below F hb, fun k hk => hb.block k (h.flt k (hc.fg hk)), fun k hk => hb.block k (h.flt k ?_)⟩
  · rw [hb1]
    exact Kept11.made w F (fun k hk => h.flt k hk) _ _
  · rcases hk with rfl | rfl | rfl
    · exact hc.fq
    · exact hc.fa
    · exact hc.fb
theorem Cm18.later (S : Base18 LT LS) {w0 : World} {F0 : Nat → Prop} {b1 : Nat} {u : Value} (h : Cm18 LT LS w0 w q room z wt t lk fw fd fs F0 F qt ql a b c Ft Fl G b1 se u clo) (hb : Below w.heap.size w w') : Cm18 LT LS w0 w' q room z wt t lk fw fd fs F0 F qt ql a b c Ft Fl G b1 se u clo := by
  obtain ⟨col, hc⟩ := h.pt.col
  refine ⟨h.pt.below S.t S.l hb, h.box.later hb, h.mv.trans (Moved.of_below F hb), fun k hk => (hb.block k (h.pt.flt k (hc.fg hk))).trans (h.kg k hk), fun k hk => (hb.block k (h.pt.flt k ?_)).trans (h.kq k hk)⟩
  rcases hk with rfl | rfl | rfl
  · exact hc.fq
  · exact hc.fa
  · exact hc.fb
theorem Cm18.tree (S : Base18 LT LS) {w0 : World} {F0 Ft' : Nat → Prop} {b1 : Nat} {u : Value} {t' : Tq.Tr} (h : Cm18 LT LS w0 w q room z wt t lk fw fd fs F0 F qt ql a b c Ft Fl G b1 se u clo) (hl : LT w' qt t' Ft') (hm : Moved w w' Ft Ft') : ∃ F', Cm18 LT LS w0 w' q room z wt t' lk fw fd fs F0 F' qt ql a b c Ft' Fl G b1 se u clo ∧ Moved w w' F F' ∧ (∀ k, F' k → F k ∨ Ft' k) := by
  obtain ⟨F', g1, g2, g3, g4, g5⟩ := h.pt.tree S.t S.l hl hm
  obtain ⟨col, hc⟩ := h.pt.col
  refine ⟨F', ⟨g1, h.box.moved g2, h.mv.trans g2, fun k hk => (g3 k (hc.fg hk) (fun e => ?_)).trans (h.kg k hk), fun k hk => ?_⟩, g2, g5⟩
  · have e1 := hc.g k hk
    rw [hc.t k e] at e1
    cases e1
  · refine Eq.trans ?_ (h.kq k hk)
    rcases hk with rfl | rfl | rfl
    · exact g3 _ hc.fq fun e => by have e1 := hc.t _ e; rw [hc.q] at e1; cases e1
    · exact g3 _ hc.fa fun e => by have e1 := hc.t _ e; rw [hc.a] at e1; cases e1
    · exact g3 _ hc.fb fun e => by have e1 := hc.t _ e; rw [hc.b] at e1; cases e1
theorem Cm18.turn (S : Base18 LT LS) {w0 : World} {F0 : Nat → Prop} {b1 : Nat} {u : Value} {fs' : Lit → Option Value} (h : Cm18 LT LS w0 w q room z wt t lk fw fd fs F0 F qt ql a b c Ft Fl G b1 se u clo) (ht : w.mapTurned w' c) (hm : Mq w' 2 c fs') : Cm18 LT LS w0 w' q room z wt t lk fw fd fs' F0 F qt ql a b c Ft Fl G b1 se u clo := by
  obtain ⟨h1, h2, h3⟩ := h.pt.turn_s S.t S.l ht hm
  obtain ⟨col, hc⟩ := h.pt.col
  refine ⟨h1, h.box.moved h2, h.mv.trans h2, fun k hk => (h3 k (h.pt.flt k (hc.fg hk)) (fun e => ?_)).trans (h.kg k hk), fun k hk => ?_⟩
  · have e1 := hc.g k hk
    rw [e, hc.c] at e1
    cases e1
  · refine Eq.trans ?_ (h.kq k hk)
    rcases hk with rfl | rfl | rfl
    · exact h3 _ (h.pt.flt _ hc.fq) fun e => by have e1 := hc.q; rw [e, hc.c] at e1; cases e1
    · exact h3 _ (h.pt.flt _ hc.fa) fun e => by have e1 := hc.a; rw [e, hc.c] at e1; cases e1
    · exact h3 _ (h.pt.flt _ hc.fb) fun e => by have e1 := hc.b; rw [e, hc.c] at e1; cases e1
theorem Cm18.grown (S : Base18 LT LS) {w0 : World} {F0 : Nat → Prop} {b1 b5 : Nat} {u : Value} (h : Cm18 LT LS w0 w q room z wt t lk fw fd fs F0 F qt ql a b c Ft Fl G b1 se u clo) (hg : w.grownBy w' (some b5)) (h5 : ¬ F b5) (hb : w0.heap.size ≤ b5) (hn : b1 ≠ b5) : Cm18 LT LS w0 w' q room z wt t lk fw fd fs F0 F qt ql a b c Ft Fl G b1 se u clo := by
  obtain ⟨col, hc⟩ := h.pt.col
  have hk : ∀ k, F k → w'.heap[k]? = w.heap[k]? := fun k hk => hg.block k (h.pt.flt k hk) (fun e => h5 (by rw [← Option.some.inj e]; exact hk))
  refine ⟨h.pt.keep S.t S.l hk, ⟨h.box.cb.keep (hg.block b1 h.box.cb.lt (fun e => hn (Option.some.inj e))), h.box.off⟩, ⟨hg.os.trans h.mv.os, hg.tape.trans h.mv.tape, hg.output.trans h.mv.output, Nat.le_trans h.mv.size hg.size, fun k hl hF => (hg.block k (Nat.lt_of_lt_of_le hl h.mv.size) (fun e => by have := Option.some.inj e; omega)).trans (h.mv.block k hl hF), h.mv.sub⟩, fun k hk2 => (hk k (hc.fg hk2)).trans (h.kg k hk2), fun k hk2 => (hk k ?_).trans (h.kq k hk2)⟩
  rcases hk2 with rfl | rfl | rfl
  · exact hc.fq
  · exact hc.fa
  · exact hc.fb
def Sm18 (q qt b1 : Nat) (z se : Int) (u : Value) (w : World) : Prop := w.cell? ⟨q, 0, none⟩ = some (dptr qt) ∧ w.cell? ⟨q, 2, none⟩ = some (.int .i64 z) ∧ w.cell? ⟨b1, 0, none⟩ = some (.int .i64 se) ∧ w.cell? ⟨b1, 1, none⟩ = some u
theorem Cm18.sm {w0 : World} {F0 : Nat → Prop} {b1 : Nat} {u : Value} (h : Cm18 LT LS w0 w q room z wt t lk fw fd fs F0 F qt ql a b c Ft Fl G b1 se u clo) : Sm18 q qt b1 z se u w := ⟨h.pt.c0, h.pt.c2, h.box.cb.cell 0, h.box.cb.cell 1⟩
theorem Cm18.om {w0 : World} {F0 : Nat → Prop} {b1 : Nat} {u v : Value} {os : List O} (h : Cm18 LT LS w0 w q room z wt t lk fw fd fs F0 F qt ql a b c Ft Fl G b1 se u clo) (hv : Ol w0 v os) (hoff : ∀ k, v.ownBlock = some k → os ≠ [] → G k) : Om12 w Ft v os := by
  obtain ⟨col, hc⟩ := h.pt.col
  refine ⟨ol_keep18 hv fun hne k hk _ => h.kg k (hoff k hk hne), fun hne k hk e => ?_⟩
  have e1 := hc.g k (hoff k hk hne)
  rw [hc.t k e] at e1
  cases e1
theorem Rn12.share {B : Nat} {F2 Ft' F' : Nat → Prop} {u : Value} {xs : List X} (h : Rn12 B Ft' w u xs) (hF : ∀ k, F' k → F2 k ∨ Ft' k) (h2 : ∀ k, F2 k → k < B) : Rn12 B F' w u xs := h.keep fun k hk hn _ => ⟨rfl, fun e => by
  rcases hF k e with e | e
  · have := h2 k e
    omega
  · exact hn e⟩
set_option maxRecDepth 20000 in
set_option maxHeartbeats 8000000 in
theorem commit_close18 (S : Base18 LT LS) (h : PtU18 LT LS w q room z wt t lk fw fd fs F qt ql a b c Ft Fl G) (hw : Tq.Well t) (hfew : Few fs 4000) (hse : I64 se) (h6 : ∀ k, F k → 6 ≤ k) (hS : Pa.Std w) (av : Option Addr) (N cc : Nat) :
    Calls Tryz.prog 55 #[dptr q, .agg #[.int .i64 se, .slice av N cc, .bool true]] w fun e w' => e = .returned (.slice none 0 0) ∧ ∃ fs' F' Ft', Up fs (ikey se) (some (.agg #[.int .i64 0, .bool false, .bool true])) fs' ∧ PtU18 LT LS w' q room z wt (Tq.drops t (Tq.ofs t se)) lk fw fd fs' F' qt ql a b c Ft' Fl G ∧ Moved w w' F F' ∧ ∀ k, G k → w'.heap[k]? = w.heap[k]? := by
  obtain ⟨b1, hb1⟩ : ∃ b, b = w.heap.size := ⟨_, rfl⟩
  have H0 : Hid (Base18 LT LS ∧ Tq.Well t ∧ Few fs 4000 ∧ keyOf Tryz.prog 2 (.int .i64 se) = some (ikey se) ∧ (∀ k, F k → 6 ≤ k) ∧ Pa.Std w) := ⟨S, hw, hfew, key_i hse, h6, hS⟩
  have H1 : Hid (Cm18 LT LS w (w.alloc (.cells #[.int .i64 se, .slice av N cc, .bool true] 94)) q room z wt t lk fw fd fs F F qt ql a b c Ft Fl G b1 se (.slice av N cc) true ∧ Pa.Std (w.alloc (.cells #[.int .i64 se, .slice av N cc, .bool true] 94))) := ⟨Cm18.made S h b1 hb1, hS.below ((Below.refl _ w).alloc (Nat.le_refl _) _)⟩
  clear S h hw hfew hse h6 hS
  go_enter Tryz.func55, Tryz.ntmps55
  go_upto_region 1 with fail
  rw [← hb1]
  clear hb1
  generalize w.alloc (.cells #[.int .i64 se, .slice av N cc, .bool true] 94) = w1 at *
  have x2 : w1.cell? ⟨b1, 2, none⟩ = some (.bool true) := H1.out.1.box.cb.cell 2
  go_upto_region 2 with fail
  clear x2
  refine wp_region_T (fun w' => Below w1.heap.size w1 w') 6 (by kernel_rfl) ?_
  have H2 : Hid (Below w1.heap.size w1 w1.drew) := (Below.refl _ w1).drew
  generalize w1.drew = w2 at *
  refine' take_T (i := 0) (d := 9) (v := _) rfl rfl (by kernel_rfl) (by kernel_rfl) (by kernel_rfl) (by kernel_rfl) (by kernel_rfl) (fun _ _ _ h => h) (Or.inl ⟨by rfl, ?h0⟩) (H2.out) ?_
  case h0 => intro w hSw; have t1 := Below.kept hSw H1.out.1.pt.c0; have t2 : w.cell? ⟨b1, 0, none⟩ = some (.int .i64 se) := Below.kept hSw (H1.out.1.box.cb.cell 0); go_simp; with_reducible rfl
  simp only [sA, sB, sC]
  refine' take_T (i := 1) (d := 10) (v := _) rfl rfl (by kernel_rfl) (by kernel_rfl) (by kernel_rfl) (by kernel_rfl) (by kernel_rfl) (fun _ _ _ h => h) (Or.inl ⟨by rfl, ?h1⟩) (H2.out) ?_
  case h1 => intro w hSw; have t1 := Below.kept hSw H1.out.1.pt.c0; have t2 : w.cell? ⟨b1, 0, none⟩ = some (.int .i64 se) := Below.kept hSw (H1.out.1.box.cb.cell 0); go_simp; with_reducible rfl
  simp only [sA, sB, sC]
  refine' take_T (i := 2) (d := 11) (v := _) rfl rfl (by kernel_rfl) (by kernel_rfl) (by kernel_rfl) (by kernel_rfl) (by kernel_rfl) (fun _ _ _ h => h) (Or.inl ⟨by rfl, ?h2⟩) (H2.out) ?_
  case h2 => intro w hSw; have t1 := Below.kept hSw H1.out.1.pt.c0; have t2 : w.cell? ⟨b1, 0, none⟩ = some (.int .i64 se) := Below.kept hSw (H1.out.1.box.cb.cell 0); go_simp; with_reducible rfl
  simp only [sA, sB, sC]
  refine' take_T (i := 3) (d := 12) (v := _) rfl rfl (by kernel_rfl) (by kernel_rfl) (by kernel_rfl) (by kernel_rfl) (by kernel_rfl) (fun _ _ _ h => h) (Or.inl ⟨by rfl, ?h3⟩) (H2.out) ?_
  case h3 => intro w hSw; have t1 := Below.kept hSw H1.out.1.pt.c0; have t2 : w.cell? ⟨b1, 0, none⟩ = some (.int .i64 se) := Below.kept hSw (H1.out.1.box.cb.cell 0); go_simp; with_reducible rfl
  simp only [sA, sB, sC]
  refine' take_T (i := 4) (d := 13) (v := _) rfl rfl (by kernel_rfl) (by kernel_rfl) (by kernel_rfl) (by kernel_rfl) (by kernel_rfl) (fun _ _ _ h => h) (Or.inl ⟨by rfl, ?h4⟩) (H2.out) ?_
  case h4 => intro w hSw; have t1 := Below.kept hSw H1.out.1.pt.c0; have t2 : w.cell? ⟨b1, 0, none⟩ = some (.int .i64 se) := Below.kept hSw (H1.out.1.box.cb.cell 0); go_simp; with_reducible rfl
  simp only [sA, sB, sC]
  refine' take_T (i := 5) (d := 14) (v := _) rfl rfl (by kernel_rfl) (by kernel_rfl) (by kernel_rfl) (by kernel_rfl) (by kernel_rfl) (fun _ _ _ h => h) (Or.inl ⟨by rfl, ?h5⟩) (H2.out) ?_
  case h5 => intro w hSw; have t1 := Below.kept hSw H1.out.1.pt.c0; have t2 : w.cell? ⟨b1, 0, none⟩ = some (.int .i64 se) := Below.kept hSw (H1.out.1.box.cb.cell 0); go_simp; with_reducible rfl
  simp only [sA, sB, sC]
  have H3 : Hid (Cm18 LT LS w w2 q room z wt t lk fw fd fs F F qt ql a b c Ft Fl G b1 se (.slice av N cc) true ∧ Pa.Std w2) := ⟨H1.out.1.later H0.out.1 H2.out, H1.out.2.below H2.out⟩
  clear H1 H2
  refine wpAnyT_ready (rs := [6]) (by kernel_rfl) (by simp) ?_
  refine AllReadyT.cons (o := _) rfl (fun KQ hKQ => ?_) AllReadyT.nil
  go_simp
  refine (purge_any12 H0.out.1.t H0.out.1.p qt t Ft se w2 H3.out.1.pt.tr H0.out.2.1.fine (fun k hk => by
    obtain ⟨col, hc⟩ := H3.out.1.pt.col
    exact H0.out.2.2.2.2.1 k (hc.ft hk)) H3.out.2).mono ?_
  rintro e w3 ⟨Ft3, v, ts, rfl, hperm, _, hpu⟩
  obtain ⟨F3, g1, g2, _⟩ := H3.out.1.tree H0.out.1 hpu.ld hpu.mv
  rw [Tq.drops_ofs18 H0.out.2.1 hperm] at g1
  have H4 : Hid (Cm18 LT LS w w3 q room z wt (Tq.drops t (Tq.ofs t se)) lk fw fd fs F F3 qt ql a b c Ft3 Fl G b1 se (.slice av N cc) true) := g1
  clear hperm hpu g1 g2 H3
  refine hKQ.out _ _ (fun h => absurd rfl h) ?_
  clear hKQ KQ
  refine wpAnyT_done (by kernel_rfl) ?_ _
  go_upto_region 3 with fail
  refine wp_region_T (fun w' => Below w3.heap.size w3 w') 7 (by kernel_rfl) ?_
  have H5 : Hid (Below w3.heap.size w3 w3.drew) := (Below.refl _ w3).drew
  generalize w3.drew = w4 at *
  refine' take_T (i := 0) (d := 16) (v := _) rfl rfl (by kernel_rfl) (by kernel_rfl) (by kernel_rfl) (by kernel_rfl) (by kernel_rfl) (fun _ _ _ h => h) (Or.inl ⟨by rfl, ?h0⟩) (H5.out) ?_
  case h0 => intro w hSw; have t1 := Below.kept hSw H4.out.pt.c6; have t2 : w.cell? ⟨b1, 0, none⟩ = some (.int .i64 se) := Below.kept hSw (H4.out.box.cb.cell 0); go_simp; with_reducible rfl
  simp only [sA, sB, sC]
  refine' take_T (i := 1) (d := 17) (v := _) rfl rfl (by kernel_rfl) (by kernel_rfl) (by kernel_rfl) (by kernel_rfl) (by kernel_rfl) (fun _ _ _ h => h) (Or.inl ⟨by rfl, ?h1⟩) (H5.out) ?_
  case h1 => intro w hSw; have t1 := Below.kept hSw H4.out.pt.c6; have t2 : w.cell? ⟨b1, 0, none⟩ = some (.int .i64 se) := Below.kept hSw (H4.out.box.cb.cell 0); go_simp; with_reducible rfl
  simp only [sA, sB, sC]
  refine' take_T (i := 2) (d := 18) (v := _) rfl rfl (by kernel_rfl) (by kernel_rfl) (by kernel_rfl) (by kernel_rfl) (by kernel_rfl) (fun _ _ _ h => h) (Or.inl ⟨by rfl, ?h2⟩) (H5.out) ?_
  case h2 => intro w hSw; have t1 := Below.kept hSw H4.out.pt.c6; have t2 : w.cell? ⟨b1, 0, none⟩ = some (.int .i64 se) := Below.kept hSw (H4.out.box.cb.cell 0); go_simp; with_reducible rfl
  simp only [sA, sB, sC]
  refine' take_T (i := 3) (d := 19) (v := _) rfl rfl (by kernel_rfl) (by kernel_rfl) (by kernel_rfl) (by kernel_rfl) (by kernel_rfl) (fun _ _ _ h => h) (Or.inl ⟨by rfl, ?h3⟩) (H5.out) ?_
  case h3 => intro w hSw; have t1 := Below.kept hSw H4.out.pt.c6; have t2 : w.cell? ⟨b1, 0, none⟩ = some (.int .i64 se) := Below.kept hSw (H4.out.box.cb.cell 0); go_simp; with_reducible rfl
  simp only [sA, sB, sC]
  refine' take_T (i := 4) (d := 20) (v := _) rfl rfl (by kernel_rfl) (by kernel_rfl) (by kernel_rfl) (by kernel_rfl) (by kernel_rfl) (fun _ _ _ h => h) (Or.inl ⟨by rfl, ?h4⟩) (H5.out) ?_
  case h4 => intro w hSw; have t1 := Below.kept hSw H4.out.pt.c6; have t2 : w.cell? ⟨b1, 0, none⟩ = some (.int .i64 se) := Below.kept hSw (H4.out.box.cb.cell 0); go_simp; with_reducible rfl
  simp only [sA, sB, sC]
  refine' take_T (i := 5) (d := 21) (v := _) rfl rfl (by kernel_rfl) (by kernel_rfl) (by kernel_rfl) (by kernel_rfl) (by kernel_rfl) (fun _ _ _ h => h) (Or.inl ⟨by rfl, ?h5⟩) (H5.out) ?_
  case h5 => intro w hSw; have t1 := Below.kept hSw H4.out.pt.c6; have t2 : w.cell? ⟨b1, 0, none⟩ = some (.int .i64 se) := Below.kept hSw (H4.out.box.cb.cell 0); go_simp; with_reducible rfl
  simp only [sA, sB, sC]
  refine' take_T (i := 6) (d := 22) (v := _) rfl rfl (by kernel_rfl) (by kernel_rfl) (by kernel_rfl) (by kernel_rfl) (by kernel_rfl) (fun _ _ _ h => h) (Or.inl ⟨by rfl, ?h6⟩) (H5.out) ?_
  case h6 => intro w hSw; have t1 := Below.kept hSw H4.out.pt.c6; have t2 : w.cell? ⟨b1, 0, none⟩ = some (.int .i64 se) := Below.kept hSw (H4.out.box.cb.cell 0); go_simp; with_reducible rfl
  simp only [sA, sB, sC]
  have H6 : Hid (Cm18 LT LS w w4 q room z wt (Tq.drops t (Tq.ofs t se)) lk fw fd fs F F3 qt ql a b c Ft3 Fl G b1 se (.slice av N cc) true) := H4.out.later H0.out.1 H5.out
  obtain ⟨fs1, hfs1⟩ := Up.some_is fs (ikey se) (some (.agg #[.int .i64 0, .bool false, .bool true]))
  have HU : Hid (Up fs (ikey se) (some (.agg #[.int .i64 0, .bool false, .bool true])) fs1) := hfs1
  clear hfs1 H4 H5
  refine wpAnyT_ready (rs := [7]) (by kernel_rfl) (by simp) ?_
  refine AllReadyT.cons (o := _) rfl (fun KQ hKQ => ?_) AllReadyT.nil
  refine wp_storeM (.tmp 19) (.tmp 21) (.tmp 22) 88 rfl 2 109 keyedI Tryz.underlying88 rfl H6.out.pt.ms H0.out.2.2.1 (by decide) (.int .i64 se) (.agg #[.int .i64 0, .bool false, .bool true]) (ikey se) rfl rfl H0.out.2.2.2.1 HU.out ?_
  intro w5 hm ht
  have H7 : Hid (Cm18 LT LS w w5 q room z wt (Tq.drops t (Tq.ofs t se)) lk fw fd fs1 F F3 qt ql a b c Ft3 Fl G b1 se (.slice av N cc) true) := H6.out.turn H0.out.1 ht hm
  clear hm ht H6
  refine hKQ.out _ _ (fun h => absurd rfl h) ?_
  clear hKQ KQ
  refine wpAnyT_done (by kernel_rfl) ?_ _
  go_wp2
  go_ret
  exact ⟨rfl, fs1, F3, Ft3, HU.out, H7.out.pt, H7.out.mv, H7.out.kg⟩
set_option maxRecDepth 20000 in
set_option maxHeartbeats 2000000 in
theorem commit_none18 (w : World) (q : Nat) (se : Int) (av : Option Addr) (cc : Nat) :
    Calls Tryz.prog 55 #[dptr q, .agg #[.int .i64 se, .slice av 0 cc, .bool false]] w fun e w' => e = .returned (.slice none 0 0) ∧ Below w.heap.size w w' := by
  have HB : Hid (Below w.heap.size w (w.alloc (.cells #[.int .i64 se, .slice av 0 cc, .bool false] 94))) := (Below.refl _ w).alloc (Nat.le_refl _) _
  go_enter Tryz.func55, Tryz.ntmps55
  go_wp2
  go_ret
  exact ⟨rfl, HB.out⟩
set_option maxRecDepth 20000 in
set_option maxHeartbeats 16000000 in
theorem commit_ops18 (S : Base18 LT LS) (h : PtU18 LT LS w q room z wt t lk fw fd fs F qt ql a b c Ft Fl G) (hw : Tq.Well t) (h6 : ∀ k, F k → 6 ≤ k) (hS : Pa.Std w) (av : Option Addr) (N cc : Nat) (os : List O) (hu : Ol w (.slice av N cc) os) (hoff : ∀ k, (Value.slice av N cc).ownBlock = some k → os ≠ [] → G k) (hne : os ≠ []) (hl : os.length ≤ 16) (hok : ∀ o ∈ os, OFit o) :
    Calls Tryz.prog 55 #[dptr q, .agg #[.int .i64 se, .slice av N cc, .bool false]] w fun e w' => ∃ u F' Ft', e = .returned u ∧ Rn12 w.heap.size F' w' u (Tq.many t se z os).1.1.xs ∧ PtU18 LT LS w' q room z wt (Tq.many t se z os).2 lk fw fd fs F' qt ql a b c Ft' Fl G ∧ Moved w w' F F' ∧ ∀ k, G k → w'.heap[k]? = w.heap[k]? := by
  obtain ⟨b1, hb1⟩ : ∃ b, b = w.heap.size := ⟨_, rfl⟩
  have hN : N = os.length := by
    obtain ⟨_, _, _, e, h1, _⟩ := hu
    rw [(Value.slice.inj e).2.1, h1]
  have H0 : Hid (Base18 LT LS ∧ Tq.Well t ∧ (∀ k, F k → 6 ≤ k) ∧ Pa.Std w ∧ Ol w (.slice av N cc) os ∧ (∀ k, (Value.slice av N cc).ownBlock = some k → os ≠ [] → G k) ∧ os ≠ [] ∧ os.length ≤ 16 ∧ (∀ o ∈ os, OFit o)) := ⟨S, hw, h6, hS, hu, hoff, hne, hl, hok⟩
  have H1 : Hid (Cm18 LT LS w (w.alloc (.cells #[.int .i64 se, .slice av N cc, .bool false] 94)) q room z wt t lk fw fd fs F F qt ql a b c Ft Fl G b1 se (.slice av N cc) false ∧ Pa.Std (w.alloc (.cells #[.int .i64 se, .slice av N cc, .bool false] 94))) := ⟨Cm18.made S h b1 hb1, hS.below ((Below.refl _ w).alloc (Nat.le_refl _) _)⟩
  have hN0 : ¬ (N : Int) = 0 := by have := List.length_pos_iff.2 hne; omega
  have hN1 : ((N : Int) == 0) = false := by simpa using hN0
  obtain ⟨r, hr⟩ : ∃ r, r = (Tq.many t se z os).1.1 := ⟨_, rfl⟩
  obtain ⟨ok, hok2⟩ : ∃ r, r = (Tq.many t se z os).1.2 := ⟨_, rfl⟩
  obtain ⟨t', ht'⟩ : ∃ r, r = (Tq.many t se z os).2 := ⟨_, rfl⟩
  rw [← hr, ← ht']
  have HR : Hid (r = (Tq.many t se z os).1.1 ∧ ok = (Tq.many t se z os).1.2 ∧ t' = (Tq.many t se z os).2) := ⟨hr, hok2, ht'⟩
  clear S h hw h6 hS hu hoff hne hl hok hN hr hok2 ht'
  go_enter Tryz.func55, Tryz.ntmps55
  go_upto_region 1 with fail
  rw [← hb1]
  clear hb1
  generalize w.alloc (.cells #[.int .i64 se, .slice av N cc, .bool false] 94) = w1 at *
  have x2 : w1.cell? ⟨b1, 2, none⟩ = some (.bool false) := H1.out.1.box.cb.cell 2
  have x1 : w1.cell? ⟨b1, 1, none⟩ = some (.slice av N cc) := H1.out.1.box.cb.cell 1
  go_upto_region 7 with fail
  clear x2 x1
  go_cut [5] (fun x wx => ∃ b5 ru F' Ft', x = .pointer (some ⟨b5, 0, none⟩) ∧ Cm18 LT LS w wx q room z wt t' lk fw fd fs F F' qt ql a b c Ft' Fl G b1 se (.slice av N cc) false ∧ Kept11 wx F' b5 (rc18 r ru) 37 ∧ Rn12 w.heap.size F' wx ru r.xs)
  case first =>
    refine wp_region_held_drew (S := Sm18 q qt b1 z se (.slice av N cc)) (by kernel_rfl) H1.out.1.sm (fun _ => ?_)
    have H3 : Hid (Cm18 LT LS w w1.drew q room z wt t lk fw fd fs F F qt ql a b c Ft Fl G b1 se (.slice av N cc) false ∧ Pa.Std w1.drew) := ⟨H1.out.1.later H0.out.1 (Below.refl _ _).drew, H1.out.2.below (Below.refl _ _).drew⟩
    clear H1
    generalize w1.drew = w3 at *
    refine' tk (i := 0) (d := 28) rfl rfl (Or.inl ⟨by rfl, ?h0⟩) (H3.out.1.sm) ?_
    case h0 => intro w hSw; obtain ⟨t1, t2, t3, t4⟩ := hSw; go_simp; with_reducible rfl
    simp only [sA, sB, sC]
    refine' tk (i := 1) (d := 29) rfl rfl (Or.inl ⟨by rfl, ?h1⟩) (H3.out.1.sm) ?_
    case h1 => intro w hSw; obtain ⟨t1, t2, t3, t4⟩ := hSw; go_simp; with_reducible rfl
    simp only [sA, sB, sC]
    refine' tk (i := 2) (d := 30) rfl rfl (Or.inl ⟨by rfl, ?h2⟩) (H3.out.1.sm) ?_
    case h2 => intro w hSw; obtain ⟨t1, t2, t3, t4⟩ := hSw; go_simp; with_reducible rfl
    simp only [sA, sB, sC]
    refine' tk (i := 3) (d := 31) rfl rfl (Or.inl ⟨by rfl, ?h3⟩) (H3.out.1.sm) ?_
    case h3 => intro w hSw; obtain ⟨t1, t2, t3, t4⟩ := hSw; go_simp; with_reducible rfl
    simp only [sA, sB, sC]
    refine' tk (i := 4) (d := 32) rfl rfl (Or.inl ⟨by rfl, ?h4⟩) (H3.out.1.sm) ?_
    case h4 => intro w hSw; obtain ⟨t1, t2, t3, t4⟩ := hSw; go_simp; with_reducible rfl
    simp only [sA, sB, sC]
    refine' tk (i := 5) (d := 33) rfl rfl (Or.inl ⟨by rfl, ?h5⟩) (H3.out.1.sm) ?_
    case h5 => intro w hSw; obtain ⟨t1, t2, t3, t4⟩ := hSw; go_simp; with_reducible rfl
    simp only [sA, sB, sC]
    refine' tk (i := 6) (d := 34) rfl rfl (Or.inl ⟨by rfl, ?h6⟩) (H3.out.1.sm) ?_
    case h6 => intro w hSw; obtain ⟨t1, t2, t3, t4⟩ := hSw; go_simp; with_reducible rfl
    simp only [sA, sB, sC]
    refine' tk (i := 7) (d := 35) rfl rfl (Or.inl ⟨by rfl, ?h7⟩) (H3.out.1.sm) ?_
    case h7 => intro w hSw; obtain ⟨t1, t2, t3, t4⟩ := hSw; go_simp; with_reducible rfl
    simp only [sA, sB, sC]
    refine' tk (i := 8) (d := 36) rfl rfl (Or.inl ⟨by rfl, ?h8⟩) (H3.out.1.sm) ?_
    case h8 => intro w hSw; obtain ⟨t1, t2, t3, t4⟩ := hSw; go_simp; with_reducible rfl
    simp only [sA, sB, sC]
    refine' tk (i := 9) (d := 37) rfl rfl (Or.inl ⟨by rfl, ?h9⟩) (H3.out.1.sm) ?_
    case h9 => intro w hSw; obtain ⟨t1, t2, t3, t4⟩ := hSw; go_simp; with_reducible rfl
    simp only [sA, sB, sC]
    refine' tk (i := 10) (d := 38) rfl rfl (Or.inl ⟨by rfl, ?h10⟩) (H3.out.1.sm) ?_
    case h10 => intro w hSw; obtain ⟨t1, t2, t3, t4⟩ := hSw; go_simp; with_reducible rfl
    simp only [sA, sB, sC]
    refine' tk (i := 11) (d := 39) rfl rfl (Or.inl ⟨by rfl, ?h11⟩) (H3.out.1.sm) ?_
    case h11 => intro w hSw; obtain ⟨t1, t2, t3, t4⟩ := hSw; go_simp; with_reducible rfl
    simp only [sA, sB, sC]
    refine wpAnyH_ready (rs := [12, 16]) (by kernel_rfl) (by simp) ?_
    refine AllReadyH.cons (o := _) rfl (fun KQ hKQ => ?_) (AllReadyH.cons (o := _) rfl (fun KQ hKQ => ?_) AllReadyH.nil)
    · go_simp
      refine (many_any12 H0.out.1.t H0.out.1.d qt t Ft se z (.slice av N cc) os 500 w3 H3.out.1.pt.tr H0.out.2.1.fine H0.out.2.1.few (by decide) (fun k hk => by
        obtain ⟨col, hc⟩ := H3.out.1.pt.col
        exact H0.out.2.2.1 k (hc.ft hk)) H3.out.2 (H3.out.1.om H0.out.2.2.2.2.1 H0.out.2.2.2.2.2.1) H0.out.2.2.2.2.2.2.2.2 (by have := H0.out.2.2.2.2.2.2.2.1; omega)).mono ?_
      rw [← HR.out.1, ← HR.out.2.1, ← HR.out.2.2]
      rintro e w4 ⟨Ft4, ru, rfl, hrn, hl4, hmv⟩
      unfold rpv
      have hrn2 := hrn
      obtain ⟨ua, uk, uc, rfl, huk, _⟩ := hrn2
      subst huk
      obtain ⟨F4, g1, g2, g3⟩ := H3.out.1.tree H0.out.1 hl4 hmv
      have H4 : Hid (Cm18 LT LS w w4 q room z wt t' lk fw fd fs F F4 qt ql a b c Ft4 Fl G b1 se (.slice av N cc) false ∧ Rn12 w3.heap.size F4 w4 (.slice ua r.xs.length uc) r.xs ∧ Moved w3 w4 F F4) := ⟨g1, hrn.share g3 (fun k hk => H3.out.1.pt.flt k hk), g2⟩
      clear hrn hl4 hmv g1 g2 g3
      refine hKQ.out _ _ H4.out.1.sm (fun _ => ?_)
      clear hKQ KQ
      refine' tk (i := 13) (d := 27) rfl rfl (Or.inl ⟨by rfl, ?h13⟩) (H4.out.1.sm) ?_
      case h13 => intro w hSw; go_simp; with_reducible rfl
      simp only [sA, sB, sC]
      refine' tk (i := 14) (d := 41) rfl rfl (Or.inl ⟨by rfl, ?h14⟩) (H4.out.1.sm) ?_
      case h14 => intro w hSw; go_simp; with_reducible rfl
      simp only [sA, sB, sC]
      refine' tk (i := 15) (d := 42) rfl rfl (Or.inl ⟨by rfl, ?h15⟩) (H4.out.1.sm) ?_
      case h15 => intro w hSw; go_simp; with_reducible rfl
      simp only [sA, sB, sC]
      refine wpAnyH_ready (rs := [16]) (by kernel_rfl) (by simp) ?_
      refine AllReadyH.cons (o := _) rfl (fun KQ hKQ => ?_) AllReadyH.nil
      go_simp
      have H5 : Hid (Below w4.heap.size w4 (w4.alloc (.cells #[.int .i64 0, .int .i64 0, .int .i64 0, .int .i64 0, .slice none 0 0] 37))) := (Below.refl _ w4).alloc (Nat.le_refl _) _
      refine hKQ.out _ _ (H4.out.1.later H0.out.1 H5.out).sm (fun _ => ?_)
      clear hKQ KQ
      refine wpAnyH_ready (rs := [17]) (by kernel_rfl) (by simp) ?_
      refine AllReadyH.cons (o := _) rfl (fun KQ hKQ => ?_) AllReadyH.nil
      go_simp
      obtain ⟨b5, hb5⟩ : ∃ b, b = w4.heap.size := ⟨_, rfl⟩
      rw [← hb5]
      have H6 : Hid (Cm18 LT LS w (w4.alloc (.cells #[.int .i64 r.num, .int .i64 r.zxid, .int .i64 r.err, .int .i64 r.at_, .slice ua r.xs.length uc] 37)) q room z wt t' lk fw fd fs F F4 qt ql a b c Ft4 Fl G b1 se (.slice av N cc) false ∧ Kept11 (w4.alloc (.cells #[.int .i64 r.num, .int .i64 r.zxid, .int .i64 r.err, .int .i64 r.at_, .slice ua r.xs.length uc] 37)) F4 b5 (rc18 r (.slice ua r.xs.length uc)) 37 ∧ Rn12 w.heap.size F4 (w4.alloc (.cells #[.int .i64 r.num, .int .i64 r.zxid, .int .i64 r.err, .int .i64 r.at_, .slice ua r.xs.length uc] 37)) (.slice ua r.xs.length uc) r.xs) := by
        have hba := (Below.refl w4.heap.size w4).alloc (Nat.le_refl _) (.cells #[.int .i64 r.num, .int .i64 r.zxid, .int .i64 r.err, .int .i64 r.at_, .slice ua r.xs.length uc] 37)
        exact ⟨H4.out.1.later H0.out.1 hba, by rw [hb5]; exact Kept11.made w4 F4 (fun k hk => H4.out.1.pt.flt k hk) (rc18 r (.slice ua r.xs.length uc)) _, (H4.out.2.1.low H3.out.1.mv.size).later hba⟩
      clear hb5 H5 H4 H3
      generalize (w4.alloc (.cells #[.int .i64 r.num, .int .i64 r.zxid, .int .i64 r.err, .int .i64 r.at_, .slice ua r.xs.length uc] 37)) = w6 at *
      refine hKQ.out _ _ H6.out.1.sm (fun _ => ?_)
      clear hKQ KQ
      refine' tk (i := 18) (d := 6) rfl rfl (Or.inl ⟨by rfl, ?h18⟩) (H6.out.1.sm) ?_
      case h18 => intro w hSw; go_simp; with_reducible rfl
      simp only [sA, sB, sC]
      refine wpAnyH_done (by kernel_rfl) ?_ _
      go_wp2
      go_meet
      case rel => exact ⟨b5, _, F4, Ft4, rfl, H6.out.1, H6.out.2.1, H6.out.2.2⟩
    · go_simp
      obtain ⟨b5, hb5⟩ : ∃ b, b = w3.heap.size := ⟨_, rfl⟩
      rw [← hb5]
      have H4 : Hid ((Cm18 LT LS w (w3.alloc (.cells #[.int .i64 0, .int .i64 0, .int .i64 0, .int .i64 0, .slice none 0 0] 37)) q room z wt t lk fw fd fs F F qt ql a b c Ft Fl G b1 se (.slice av N cc) false ∧ Pa.Std (w3.alloc (.cells #[.int .i64 0, .int .i64 0, .int .i64 0, .int .i64 0, .slice none 0 0] 37))) ∧ Kept11 (w3.alloc (.cells #[.int .i64 0, .int .i64 0, .int .i64 0, .int .i64 0, .slice none 0 0] 37)) F b5 [.int .i64 0, .int .i64 0, .int .i64 0, .int .i64 0, .slice none 0 0] 37 ∧ w.heap.size ≤ b5 ∧ b1 < b5) := by
        have hba := (Below.refl w3.heap.size w3).alloc (Nat.le_refl _) (.cells #[.int .i64 0, .int .i64 0, .int .i64 0, .int .i64 0, .slice none 0 0] 37)
        exact ⟨⟨H3.out.1.later H0.out.1 hba, H3.out.2.below hba⟩, by rw [hb5]; exact Kept11.made w3 F (fun k hk => H3.out.1.pt.flt k hk) _ _, by rw [hb5]; exact H3.out.1.mv.size, by rw [hb5]; exact H3.out.1.box.cb.lt⟩
      have H44 : Hid (Cm18 LT LS w (w3.alloc (.cells #[.int .i64 0, .int .i64 0, .int .i64 0, .int .i64 0, .slice none 0 0] 37)) q room z wt t lk fw fd fs F F qt ql a b c Ft Fl G b1 se (.slice av N cc) false ∧ Pa.Std (w3.alloc (.cells #[.int .i64 0, .int .i64 0, .int .i64 0, .int .i64 0, .slice none 0 0] 37))) := H4.out.1
      clear hb5 H3
      generalize (w3.alloc (.cells #[.int .i64 0, .int .i64 0, .int .i64 0, .int .i64 0, .slice none 0 0] 37)) = w4 at *
      refine hKQ.out _ _ H44.out.1.sm (fun _ => ?_)
      clear hKQ KQ
      refine wpAnyH_ready (rs := [12]) (by kernel_rfl) (by simp) ?_
      refine AllReadyH.cons (o := _) rfl (fun KQ hKQ => ?_) AllReadyH.nil
      go_simp
      refine (many_any12 H0.out.1.t H0.out.1.d qt t Ft se z (.slice av N cc) os 500 w4 H44.out.1.pt.tr H0.out.2.1.fine H0.out.2.1.few (by decide) (fun k hk => by
        obtain ⟨col, hc⟩ := H44.out.1.pt.col
        exact H0.out.2.2.1 k (hc.ft hk)) H44.out.2 (H44.out.1.om H0.out.2.2.2.2.1 H0.out.2.2.2.2.2.1) H0.out.2.2.2.2.2.2.2.2 (by have := H0.out.2.2.2.2.2.2.2.1; omega)).mono ?_
      rw [← HR.out.1, ← HR.out.2.1, ← HR.out.2.2]
      rintro e w5 ⟨Ft4, ru, rfl, hrn, hl4, hmv⟩
      unfold rpv
      have hrn2 := hrn
      obtain ⟨ua, uk, uc, rfl, huk, _⟩ := hrn2
      subst huk
      obtain ⟨F4, g1, g2, g3⟩ := H44.out.1.tree H0.out.1 hl4 hmv
      have H5 : Hid (Cm18 LT LS w w5 q room z wt t' lk fw fd fs F F4 qt ql a b c Ft4 Fl G b1 se (.slice av N cc) false ∧ Rn12 w4.heap.size F4 w5 (.slice ua r.xs.length uc) r.xs ∧ Moved w4 w5 F F4) := ⟨g1, hrn.share g3 (fun k hk => H44.out.1.pt.flt k hk), g2⟩
      clear hrn hl4 hmv g1 g2 g3
      refine hKQ.out _ _ H5.out.1.sm (fun _ => ?_)
      clear hKQ KQ
      refine' tk (i := 13) (d := 27) rfl rfl (Or.inl ⟨by rfl, ?h13⟩) (H5.out.1.sm) ?_
      case h13 => intro w hSw; go_simp; with_reducible rfl
      simp only [sA, sB, sC]
      refine' tk (i := 14) (d := 41) rfl rfl (Or.inl ⟨by rfl, ?h14⟩) (H5.out.1.sm) ?_
      case h14 => intro w hSw; go_simp; with_reducible rfl
      simp only [sA, sB, sC]
      refine' tk (i := 15) (d := 42) rfl rfl (Or.inl ⟨by rfl, ?h15⟩) (H5.out.1.sm) ?_
      case h15 => intro w hSw; go_simp; with_reducible rfl
      simp only [sA, sB, sC]
      have H6 : Hid (Kept11 w5 F4 b5 [.int .i64 0, .int .i64 0, .int .i64 0, .int .i64 0, .slice none 0 0] 37) := H4.out.2.1.moved H5.out.2.2
      refine wpAnyH_ready (rs := [17]) (by kernel_rfl) (by simp) ?_
      refine AllReadyH.cons (o := _) rfl (fun KQ hKQ => ?_) AllReadyH.nil
      refine wp_store_row 37 _ _ rfl b5 #[.int .i64 r.num, .int .i64 r.zxid, .int .i64 r.err, .int .i64 r.at_, .slice ua r.xs.length uc] rfl rfl 37 #[.int .i64 0, .int .i64 0, .int .i64 0, .int .i64 0, .slice none 0 0] H6.out.cb (by kernel_rfl) rfl (by kernel_rfl) ?_
      have H7 : Hid (Cm18 LT LS w (w5.setRow b5 #[.int .i64 r.num, .int .i64 r.zxid, .int .i64 r.err, .int .i64 r.at_, .slice ua r.xs.length uc]) q room z wt t' lk fw fd fs F F4 qt ql a b c Ft4 Fl G b1 se (.slice av N cc) false ∧ Kept11 (w5.setRow b5 #[.int .i64 r.num, .int .i64 r.zxid, .int .i64 r.err, .int .i64 r.at_, .slice ua r.xs.length uc]) F4 b5 (rc18 r (.slice ua r.xs.length uc)) 37 ∧ Rn12 w.heap.size F4 (w5.setRow b5 #[.int .i64 r.num, .int .i64 r.zxid, .int .i64 r.err, .int .i64 r.at_, .slice ua r.xs.length uc]) (.slice ua r.xs.length uc) r.xs) := by
        have hg := grown_setRow w5 b5 #[.int .i64 r.num, .int .i64 r.zxid, .int .i64 r.err, .int .i64 r.at_, .slice ua r.xs.length uc]
        refine ⟨H5.out.1.grown H0.out.1 hg H6.out.off H4.out.2.2.1 (by have := H4.out.2.2.2; omega), ⟨setRow_heap _ _ _ _ _ _ H6.out.cb, H6.out.off⟩, (H5.out.2.1.keep fun k hk hn hl => ⟨setRow_other _ _ _ _ (fun e => ?_), hn⟩).low H44.out.1.mv.size⟩
        have h1 := H4.out.2.1.cb.lt
        omega
      clear H6 H5 H4 H44
      generalize (w5.setRow b5 #[.int .i64 r.num, .int .i64 r.zxid, .int .i64 r.err, .int .i64 r.at_, .slice ua r.xs.length uc]) = w6 at *
      refine hKQ.out _ _ H7.out.1.sm (fun _ => ?_)
      clear hKQ KQ
      refine' tk (i := 18) (d := 6) rfl rfl (Or.inl ⟨by rfl, ?h18⟩) (H7.out.1.sm) ?_
      case h18 => intro w hSw; go_simp; with_reducible rfl
      simp only [sA, sB, sC]
      refine wpAnyH_done (by kernel_rfl) ?_ _
      go_wp2
      go_meet
      case rel => exact ⟨b5, _, F4, Ft4, rfl, H7.out.1, H7.out.2.1, H7.out.2.2⟩
  case rest =>
    obtain ⟨b5, ru, F5, Ft5, rfl, g1, g2, g3⟩ := hcut
    have H5 : Hid (Cm18 LT LS w wc q room z wt t' lk fw fd fs F F5 qt ql a b c Ft5 Fl G b1 se (.slice av N cc) false ∧ Rn12 w.heap.size F5 wc ru r.xs) := ⟨g1, g3⟩
    have y4 : wc.cell? ⟨b5, 4, none⟩ = some ru := g2.cb.cell 4
    clear g1 g2 g3
    go_wp2
    go_ret
    exact ⟨ru, F5, Ft5, rfl, H5.out.2, H5.out.1.pt, H5.out.1.mv, H5.out.1.kg⟩
end
end Go.Proofs.YtboejbjobjhajaaGreatDoor
namespace Go.Proofs.YtboejbjobjhajaaGreatDoor
open Go.RowKit
theorem take_ofs18 {lk : Lk.St} {id : Int} {ps : List ByteArray} (hg : ∀ p ∈ ps, Lk.good p = true) :
    ((ps.any (Lk.blocks lk id) = true) → (Lk.take lk id ps).2.1 = false ∧ (Lk.take lk id ps).2.2 = lk) ∧ ((ps.any (Lk.blocks lk id) = false) → (Lk.take lk id ps).2.1 = true ∧ (Lk.take lk id ps).2.2 = Lk.adds id lk ps) := by
  constructor
  · intro h
    cases hf : Lk.faulty lk id ps with
    | some p => rw [Lk.take_no hf]; exact ⟨rfl, rfl⟩
    | none =>
      have h1 := (Lk.faulty_none hf).2
      rw [List.any_eq_true] at h
      obtain ⟨x, hx, hb⟩ := h
      rw [h1 x hx] at hb
      cases hb
  · intro h
    rw [Lk.take_yes (Lk.faulty_ok hg fun p hp => by
      rw [List.any_eq_false] at h
      simpa using h p hp)]
    exact ⟨rfl, rfl⟩
section
variable {LT : Rep11} {LS : Rep17} {w w' w0 : World} {q : Nat} {s : Pt.St} {F F' F0 : Nat → Prop}
theorem LPt18.sess (h : LPt18 LT LS w q s F) (z : Int) (hz : I64 z) : ∃ c, w.cell? ⟨q, 6, none⟩ = some (.map (some c)) ∧ ∀ u : World, Below w.heap.size w u → (Instr.lookup 88 (.map (some c)) (.int .i64 z) false).run Tryz.prog u = .ok (.agg #[.int .i64 (Pt.asks s.ps z : Int), .bool (s.ps.any fun p => p.closes && decide (p.sess = z)), .bool (decide (z ∈ s.cl))]) u := by
  obtain ⟨fw, fd, fs, qt, ql, a, b, c, Ft, Fl, G, V, h, h1, h2, h3⟩ := h
  refine ⟨c, h.c6, fun u hu => ?_⟩
  have e := (h.ms.keep (hu.block c h.ms.lt)).look keyedI Tryz.underlying88 (zeroE18 u) (key_i hz)
  rw [h3.at_, sq_get18] at e
  exact e
theorem LPt18.ofs (S : Base18 LT LS) (h : LPt18 LT LS w q s F) (hf : Fine11 s.t) (z : Int) : ∃ qt, w.cell? ⟨q, 0, none⟩ = some (dptr qt) ∧ ∀ u : World, Below w.heap.size w u → Calls Tryz.prog 59 #[dptr qt, .int .i64 z] u fun e w' => ∃ v, e = .returned v ∧ w'.ownsRow u.heap.size 9 1 v (Tq.ofs s.t z).length (sc (Tq.ofs s.t z)) ∧ Below u.heap.size u w' := by
  obtain ⟨fw, fd, fs, qt, ql, a, b, c, Ft, Fl, G, V, h, h1, h2, h3⟩ := h
  refine ⟨qt, h.c0, fun u hu => ?_⟩
  refine (S.p.ofo qt s.t Ft z u (h.below S.t S.l hu).tr hf).mono ?_
  rintro e w' ⟨v, rfl, g1, _, g3⟩
  exact ⟨v, rfl, g1, g3⟩
set_option maxRecDepth 20000 in
set_option maxHeartbeats 16000000 in
theorem clo_any18 (S : Base18 LT LS) {m : Nat} (h : LPt18 LT LS w q s F) (hf : Pt.Fit m s) (hm : m ≤ 1000) (h6 : ∀ k, F k → 6 ≤ k) (hS : Pa.Std w) (id z : Int) (hid : I64 id) (hz : I64 z) :
    Calls Tryz.prog 17 #[dptr q, .int .i64 id, .int .i64 z] w fun e w' => ∃ F', e = .returned (.tuple #[.int .i64 (Pt.close s id z).1.1, .int .i64 (Pt.close s id z).1.2]) ∧ LPt18 LT LS w' q (Pt.close s id z).2 F' ∧ Moved w w' F F' := by
  obtain ⟨R, hR⟩ : ∃ R, R = Pt.close s id z := ⟨_, rfl⟩
  rw [← hR]
  have HR : Hid (R = Pt.close s id z) := hR
  have H0 : Hid (Base18 LT LS ∧ Pt.Fit m s ∧ m ≤ 1000 ∧ (∀ k, F k → 6 ≤ k) ∧ Pa.Std w ∧ I64 id ∧ I64 z) := ⟨S, hf, hm, h6, hS, hid, hz⟩
  have H1 : Hid (LPt18 LT LS w q s F) := h
  clear S hf hm h6 hS hid hz h hR
  obtain ⟨B, hB⟩ : ∃ B, B = Pt.isNew s id := ⟨_, rfl⟩
  have HB : Hid (B = Pt.isNew s id) := hB
  clear hB
  go_enter Tryz.func17, Tryz.ntmps17
  go_wp2_with fail
  refine (H1.out.isNew id H0.out.2.2.2.2.2.1).mono ?_
  rw [← HB.out]
  rintro e w1 ⟨rfl, hb⟩
  have H2 : Hid (Below w.heap.size w w1) := hb
  clear hb
  cases B with
  | false =>
    have HT : Hid (R = ((1, -1), s)) := (show R = ((1, -1), s) by rw [HR.out]; unfold Pt.close; rw [if_pos (Or.inl HB.out.symm)])
    go_wp2
    go_ret2
    rw [HT.out]
    exact ⟨F, rfl, H1.out.below H0.out.1 H2.out, Moved.of_below F H2.out⟩
  | true =>
  by_cases hz1 : z < 1
  · have HT : Hid (R = ((1, -1), s)) := (show R = ((1, -1), s) by rw [HR.out]; unfold Pt.close; rw [if_pos (Or.inr hz1)])
    go_wp2
    go_ret2
    rw [HT.out]
    exact ⟨F, rfl, H1.out.below H0.out.1 H2.out, Moved.of_below F H2.out⟩
  have HE1 : Hid (R = if Pt.ended s z ≠ 0 then ((Pt.ended s z, -1), s) else if Pt.asks s.ps z ≠ 0 then ((12, -1), s) else if (Tq.ofs s.t z).any (Lk.blocks s.lk id) = true then ((12, -1), s) else ((0, -1), { s with lk := Lk.adds id s.lk (Tq.ofs s.t z), ps := s.ps ++ [⟨id, z, [], true, false⟩] })) := (by
    show R = _
    rw [HR.out]
    unfold Pt.close
    rw [if_neg]
    rintro (e | e)
    · rw [← HB.out] at e; cases e
    · exact hz1 e)
  obtain ⟨E, hE⟩ : ∃ E, E = Pt.ended s z := ⟨_, rfl⟩
  have HM : Hid (E = Pt.ended s z ∧ ¬ z < 1) := ⟨hE, hz1⟩
  clear hE
  go_wp2_with fail
  refine ((H1.out.below H0.out.1 H2.out).ended z H0.out.2.2.2.2.2.2).mono ?_
  rw [← HM.out.1]
  rintro e w2 ⟨rfl, hb⟩
  have H3 : Hid (Below w.heap.size w w2) := H2.out.trans (hb.mono H2.out.size)
  clear hb H2 hz1
  by_cases hE0 : E = 0
  case neg =>
    have HT : Hid (R = ((E, -1), s)) := (show R = ((E, -1), s) by rw [HE1.out, ← HM.out.1, if_pos hE0])
    have hEb : (E != 0) = true := by simp [hE0]
    clear hE0
    go_wp2
    go_ret2
    rw [HT.out]
    exact ⟨F, rfl, H1.out.below H0.out.1 H3.out, Moved.of_below F H3.out⟩
  case pos =>
  subst hE0
  obtain ⟨cm, hc6, hlk⟩ := (H1.out.below H0.out.1 H3.out).sess z H0.out.2.2.2.2.2.2
  obtain ⟨A, hA⟩ : ∃ A, A = Pt.asks s.ps z := ⟨_, rfl⟩
  rw [← hA] at hlk
  have HA : Hid (A = Pt.asks s.ps z) := hA
  clear hA
  have hlk2 := hlk w2 (Below.refl _ _)
  obtain ⟨cg, hcg⟩ : ∃ x, x = (s.ps.any fun p => p.closes && decide (p.sess = z)) := ⟨_, rfl⟩
  obtain ⟨cd, hcd⟩ : ∃ x, x = decide (z ∈ s.cl) := ⟨_, rfl⟩
  rw [← hcg, ← hcd] at hlk2
  have hfl := fun w => (fieldE18 A cg cd w).1
  have hsv : sv18 A cg cd = .agg #[.int .i64 (A : Int), .bool cg, .bool cd] := rfl
  rw [hsv] at hfl
  clear hlk hcg hcd hsv
  by_cases hA0 : A = 0
  case neg =>
    have HT : Hid (R = ((12, -1), s)) := (show R = ((12, -1), s) by rw [HE1.out, ← HM.out.1, if_neg (by simp), ← HA.out, if_pos hA0])
    have hAp : (0 : Int) < (A : Int) := by omega
    clear hA0
    go_wp2
    go_ret2
    rw [HT.out]
    exact ⟨F, rfl, H1.out.below H0.out.1 H3.out, Moved.of_below F H3.out⟩
  case pos =>
  subst hA0
  have hlk3 : (Instr.lookup 88 (.map (some cm)) (.int .i64 z) false).run Tryz.prog w2 = .ok (.agg #[.int .i64 0, .bool cg, .bool cd]) w2 := hlk2
  have hfl3 : ∀ w, (Instr.field 109 (.agg #[.int .i64 0, .bool cg, .bool cd]) 0).run Tryz.prog w = .ok (.int .i64 0) w := hfl
  clear hlk2 hfl
  have H4 : Hid (LPt18 LT LS w2 q s F ∧ Pa.Std w2 ∧ ∀ p ∈ Tq.ofs s.t z, Lk.good p = true) := ⟨H1.out.below H0.out.1 H3.out, H0.out.2.2.2.2.1.below H3.out, fun p hp => Tq.ofs_good H0.out.2.1.well.fine hp⟩
  go_upto_region 8 with fail
  clear hlk3 hfl3 hc6
  obtain ⟨ql, hql, hT⟩ := H4.out.1.take H0.out.1
  obtain ⟨qt, hqt, hO⟩ := H4.out.1.ofs H0.out.1 H0.out.2.1.well.fine z
  have HC : Hid (w2.cell? ⟨q, 3, none⟩ = some (dptr ql) ∧ w2.cell? ⟨q, 0, none⟩ = some (dptr qt)) := ⟨hql, hqt⟩
  clear hql hqt
  refine wp_region_held_drew (S := fun w' => w'.cell? ⟨q, 3, none⟩ = some (dptr ql) ∧ w'.cell? ⟨q, 0, none⟩ = some (dptr qt)) (by kernel_rfl) HC.out (fun _ => ?_)
  have H5 : Hid (Below w2.heap.size w2 w2.drew) := (Below.refl _ w2).drew
  generalize w2.drew = w3 at *
  have HS5 : Hid (w3.cell? ⟨q, 3, none⟩ = some (dptr ql) ∧ w3.cell? ⟨q, 0, none⟩ = some (dptr qt)) := ⟨Below.kept H5.out HC.out.1, Below.kept H5.out HC.out.2⟩
  refine' tk (i := 0) (d := 34) rfl rfl (Or.inl ⟨by rfl, ?h0⟩) (HS5.out) ?_
  case h0 => intro w hSw; obtain ⟨t1, t2⟩ := hSw; go_simp; with_reducible rfl
  simp only [sA, sB, sC]
  refine' tk (i := 1) (d := 35) rfl rfl (Or.inl ⟨by rfl, ?h1⟩) (HS5.out) ?_
  case h1 => intro w hSw; obtain ⟨t1, t2⟩ := hSw; go_simp; with_reducible rfl
  simp only [sA, sB, sC]
  refine' tk (i := 2) (d := 36) rfl rfl (Or.inl ⟨by rfl, ?h2⟩) (HS5.out) ?_
  case h2 => intro w hSw; obtain ⟨t1, t2⟩ := hSw; go_simp; with_reducible rfl
  simp only [sA, sB, sC]
  refine' tk (i := 3) (d := 37) rfl rfl (Or.inl ⟨by rfl, ?h3⟩) (HS5.out) ?_
  case h3 => intro w hSw; obtain ⟨t1, t2⟩ := hSw; go_simp; with_reducible rfl
  simp only [sA, sB, sC]
  refine' tk (i := 4) (d := 38) rfl rfl (Or.inl ⟨by rfl, ?h4⟩) (HS5.out) ?_
  case h4 => intro w hSw; obtain ⟨t1, t2⟩ := hSw; go_simp; with_reducible rfl
  simp only [sA, sB, sC]
  refine' tk (i := 5) (d := 39) rfl rfl (Or.inl ⟨by rfl, ?h5⟩) (HS5.out) ?_
  case h5 => intro w hSw; obtain ⟨t1, t2⟩ := hSw; go_simp; with_reducible rfl
  simp only [sA, sB, sC]
  refine' tk (i := 6) (d := 40) rfl rfl (Or.inl ⟨by rfl, ?h6⟩) (HS5.out) ?_
  case h6 => intro w hSw; obtain ⟨t1, t2⟩ := hSw; go_simp; with_reducible rfl
  simp only [sA, sB, sC]
  refine' tk (i := 7) (d := 41) rfl rfl (Or.inl ⟨by rfl, ?h7⟩) (HS5.out) ?_
  case h7 => intro w hSw; obtain ⟨t1, t2⟩ := hSw; go_simp; with_reducible rfl
  simp only [sA, sB, sC]
  refine' tk (i := 8) (d := 42) rfl rfl (Or.inl ⟨by rfl, ?h8⟩) (HS5.out) ?_
  case h8 => intro w hSw; obtain ⟨t1, t2⟩ := hSw; go_simp; with_reducible rfl
  simp only [sA, sB, sC]
  refine' tk (i := 9) (d := 43) rfl rfl (Or.inl ⟨by rfl, ?h9⟩) (HS5.out) ?_
  case h9 => intro w hSw; obtain ⟨t1, t2⟩ := hSw; go_simp; with_reducible rfl
  simp only [sA, sB, sC]
  refine wpAnyH_ready (rs := [10]) (by kernel_rfl) (by simp) ?_
  refine AllReadyH.cons (o := _) rfl (fun KQ hKQ => ?_) AllReadyH.nil
  go_simp
  refine (hO w3 H5.out).mono ?_
  rintro e w4 ⟨vv, rfl, hrow, hb⟩
  have H6 : Hid (Below w2.heap.size w2 w4 ∧ w4.ownsRow w3.heap.size 9 1 vv (Tq.ofs s.t z).length (sc (Tq.ofs s.t z))) := ⟨H5.out.trans (hb.mono H5.out.size), hrow⟩
  have HS6 : Hid (w4.cell? ⟨q, 3, none⟩ = some (dptr ql) ∧ w4.cell? ⟨q, 0, none⟩ = some (dptr qt)) := ⟨Below.kept H6.out.1 HC.out.1, Below.kept H6.out.1 HC.out.2⟩
  clear hb hrow hO
  refine hKQ.out _ _ HS6.out (fun _ => ?_)
  clear hKQ KQ
  refine wpAnyH_ready (rs := [11]) (by kernel_rfl) (by simp) ?_
  refine AllReadyH.cons (o := _) rfl (fun KQ hKQ => ?_) AllReadyH.nil
  go_simp
  obtain ⟨t1, t2, t3, htk⟩ : ∃ t1 t2 t3, Lk.take s.lk id (Tq.ofs s.t z) = (t1, t2, t3) := ⟨_, _, _, rfl⟩
  have HTK : Hid (Lk.take s.lk id (Tq.ofs s.t z) = (t1, t2, t3)) := htk
  have hT2 := hT w4 id vv (Tq.ofs s.t z) (m * 532) H6.out.1 H0.out.2.1.lk (by have := H0.out.2.2.1; omega) H0.out.2.2.2.1 (H4.out.2.1.below H6.out.1) H0.out.2.2.2.2.2.1 (ss_row18 H6.out.2) (by have := Tq.ofs_len H0.out.2.1.well.fine z; omega) H4.out.2.2 (fun j hj _ e => by
    have h1 := (H6.out.2.lt j hj).1
    have h2 := H4.out.1.lt e
    have h3 := H5.out.size
    omega)
  rw [htk] at hT2
  clear htk hT
  refine hT2.mono ?_
  rintro e w5 ⟨F2, rfl, hl2, hmv, hqq⟩
  have H7 : Hid (LPt18 LT LS w5 q { s with lk := t3 } F2 ∧ Moved w w5 F F2) := ⟨hl2, (Moved.of_below F (H3.out.trans (H6.out.1.mono H3.out.size))).trans hmv⟩
  have HS7 : Hid (w5.cell? ⟨q, 3, none⟩ = some (dptr ql) ∧ w5.cell? ⟨q, 0, none⟩ = some (dptr qt)) := ⟨(World.cell?_of_block hqq).trans HS6.out.1, (World.cell?_of_block hqq).trans HS6.out.2⟩
  clear hl2 hmv hT2 hqq
  refine hKQ.out _ _ HS7.out (fun _ => ?_)
  clear hKQ KQ
  refine' tk (i := 12) (d := 33) rfl rfl (Or.inl ⟨by rfl, ?h12⟩) (HS7.out) ?_
  case h12 => intro w hSw; go_simp; with_reducible rfl
  simp only [sA, sB, sC]
  refine' tk (i := 13) (d := 46) rfl rfl (Or.inl ⟨by rfl, ?h13⟩) (HS7.out) ?_
  case h13 => intro w hSw; go_simp; with_reducible rfl
  simp only [sA, sB, sC]
  refine' tk (i := 14) (d := 47) rfl rfl (Or.inl ⟨by rfl, ?h14⟩) (HS7.out) ?_
  case h14 => intro w hSw; go_simp; with_reducible rfl
  simp only [sA, sB, sC]
  refine' tk (i := 15) (d := 9) rfl rfl (Or.inl ⟨by rfl, ?h15⟩) (HS7.out) ?_
  case h15 => intro w hSw; go_simp; with_reducible rfl
  simp only [sA, sB, sC]
  refine' tk (i := 16) (d := 10) rfl rfl (Or.inl ⟨by rfl, ?h16⟩) (HS7.out) ?_
  case h16 => intro w hSw; go_simp; with_reducible rfl
  simp only [sA, sB, sC]
  refine wpAnyH_done (by kernel_rfl) ?_ _
  clear HS7 HS6 HS5 HC H6 H5 H4
  cases hbl : (Tq.ofs s.t z).any (Lk.blocks s.lk id) with
  | true =>
    have h1 := (take_ofs18 (lk := s.lk) (id := id) (ps := Tq.ofs s.t z) (fun p hp => Tq.ofs_good H0.out.2.1.well.fine hp)).1 hbl
    rw [HTK.out] at h1
    obtain ⟨h1, h2⟩ := h1
    simp only [] at h1 h2
    subst h1 h2
    have HT : Hid (R = ((12, -1), s)) := (show R = ((12, -1), s) by rw [HE1.out, ← HM.out.1, if_neg (by simp), ← HA.out, if_neg (by simp), if_pos hbl])
    clear hbl
    go_wp2
    go_ret2
    rw [HT.out]
    exact ⟨F2, rfl, H7.out.1, H7.out.2⟩
  | false =>
    have h1 := (take_ofs18 (lk := s.lk) (id := id) (ps := Tq.ofs s.t z) (fun p hp => Tq.ofs_good H0.out.2.1.well.fine hp)).2 hbl
    rw [HTK.out] at h1
    obtain ⟨h1, h2⟩ := h1
    simp only [] at h1 h2
    subst h1 h2
    have HT : Hid (R = ((0, -1), { s with lk := Lk.adds id s.lk (Tq.ofs s.t z), ps := s.ps ++ [⟨id, z, [], true, false⟩] })) := (show R = _ by rw [HE1.out, ← HM.out.1, if_neg (by simp), ← HA.out, if_neg (by simp), if_neg (by rw [hbl]; simp)])
    clear hbl
    have HI : Hid ((∀ x ∈ s.ps, x.id ≠ id) ∧ Pt.FitP ⟨id, z, [], true, false⟩) := ⟨(Pt.isNew_ok HB.out.symm).2.1, ⟨⟨(Pt.isNew_ok HB.out.symm).1, H0.out.2.2.2.2.2.1.2⟩, ⟨by have := HM.out.2; show 1 ≤ z; omega, H0.out.2.2.2.2.2.2.2⟩, fun e => (by cases e), fun _ => ⟨rfl, rfl⟩⟩⟩
    go_wp2_with fail
    refine (H7.out.1.prepare H0.out.1 (m := m) (p := ⟨id, z, [], true, false⟩) H0.out.2.1.ps ⟨H0.out.2.1.lens.1, H0.out.2.1.lens.2.2⟩ H0.out.2.2.1 HI.out.2 HI.out.1 none 0 0 ⟨⟨none, 0, 0, rfl, rfl, Nat.le_refl _, fun _ => rfl, fun j o ho => by simp [Pt.own] at ho⟩, fun e => absurd rfl e⟩).mono ?_
    rintro e w9 ⟨rfl, F9, hl9, hm9, hs9, hw9⟩
    have H9 : Hid (LPt18 LT LS w9 q { s with lk := Lk.adds id s.lk (Tq.ofs s.t z), ps := s.ps ++ [⟨id, z, [], true, false⟩] } F9 ∧ Moved w w9 F F9) := ⟨hl9, H7.out.2.wide18 hm9 fun k hk => by
      rcases hs9 k hk with e | e
      · exact Or.inl e
      · exact absurd rfl e.2⟩
    clear hl9 hm9 hs9 hw9
    go_wp2
    go_ret2
    rw [HT.out]
    exact ⟨F9, rfl, H9.out.1, H9.out.2⟩
end
end Go.Proofs.YtboejbjobjhajaaGreatDoor
