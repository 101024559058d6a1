/- The reference's network: what it is made of; node, Cut, Heal. -/
import Derived.Test.YtkldecdjokfajaaRefM9
import Derived.BigQuiet
import Derived.Deep.QuietTactic
import Derived.Laws.CopyRow
namespace Go.Proofs.Ytkldecdjokfajaa
open Go.RowKit

/-- The reference's network at q: its cells; a row of messages that is only read, in blocks G beside its own. -/
structure Rf9 (w : World) (q : Nat) (n : Nq.Nt) (G : Nat → Prop) (v : Value) (ts : List Mt) (C : List Value) : Prop where
  blk : w.heap[q]? = some (.cells C.toArray 42 (0, 0))
  len : C.length = 4099
  c0 : C[0]? = some (.int .i64 (n.nodes : Int))
  c1 : C[1]? = some (.int .i64 (n.room : Int))
  c2 : C[2]? = some v
  ways : ∀ a b, a < 64 → b < 64 → C[3 + a * 64 + b]? = some (.bool (n.cut a b))
  ms : ts.map (·.1) = n.l
  row : (v = .slice none 0 0 ∧ ts = []) ∨ ∃ g c, v = .slice (some ⟨g, 0, none⟩) ts.length c ∧ G g ∧ ts.length ≤ c ∧ ∀ j x, (cs5 ts)[j]? = some x → w.cell? ⟨g, j, none⟩ = some x
  parts : ∀ t ∈ ts, Mp w t.1 t.2.1 t.2.2 G
  gq : ¬ G q
  glt : ∀ k, G k → k < w.heap.size
  fine : FineN n
/-- All its blocks. -/
def Gq (q : Nat) (G : Nat → Prop) : Nat → Prop := fun k => k = q ∨ G k

section
variable {w w' : World} {q : Nat} {n n' : Nq.Nt} {G : Nat → Prop} {v : Value} {ts : List Mt} {C C' : List Value}
theorem Rf9.cell (h : Rf9 w q n G v ts C) (i : Nat) : w.cell? ⟨q, i, none⟩ = C[i]? := by simp [World.cell?, h.blk]
theorem Rf9.free (h : Rf9 w q n G v ts C) (i : Nat) : w.frozen? ⟨q, i, none⟩ = false := by simp only [World.frozen?, h.blk]; rfl
theorem Rf9.qlt (h : Rf9 w q n G v ts C) : q < w.heap.size := (Array.getElem?_eq_some_iff.1 h.blk).1
theorem Rf9.lt (h : Rf9 w q n G v ts C) {k : Nat} (hk : Gq q G k) : k < w.heap.size := by
  rcases hk with rfl | hk
  · exact h.qlt
  · exact h.glt k hk
/-- Its own block may be another, the others are as they were. -/
theorem Rf9.turn (h : Rf9 w q n G v ts C) (hs : w.heap.size ≤ w'.heap.size) (hk : ∀ k, G k → w'.heap[k]? = w.heap[k]?) (hq : w'.heap[q]? = some (.cells C'.toArray 42 (0, 0))) (hl : C'.length = 4099) (h0 : C'[0]? = C[0]?) (h1 : C'[1]? = C[1]?) (h2 : C'[2]? = C[2]?)
    (hn : n'.nodes = n.nodes ∧ n'.room = n.room ∧ n'.l = n.l) (hw : ∀ a b, a < 64 → b < 64 → C'[3 + a * 64 + b]? = some (.bool (n'.cut a b))) : Rf9 w' q n' G v ts C' := by
  refine ⟨hq, hl, by rw [h0, hn.1]; exact h.c0, by rw [h1, hn.2.1]; exact h.c1, h2.trans h.c2, hw, by rw [hn.2.2]; exact h.ms, ?_, fun t ht => (h.parts t ht).keep hk, h.gq, fun k e => Nat.lt_of_lt_of_le (h.glt k e) hs, ⟨by rw [hn.1]; exact h.fine.nodes, by rw [hn.2.1]; exact h.fine.room, by rw [hn.2.1, hn.2.2]; exact h.fine.fits, by rw [hn.2.2]; exact h.fine.lite⟩⟩
  rcases h.row with h1 | ⟨g, c, e, hg, hl, hc⟩
  · exact Or.inl h1
  · exact Or.inr ⟨g, c, e, hg, hl, fun j x hx => (cell_same (hk g hg)).trans (hc j x hx)⟩
theorem Rf9.keep (h : Rf9 w q n G v ts C) (hs : w.heap.size ≤ w'.heap.size) (hk : ∀ k, Gq q G k → w'.heap[k]? = w.heap[k]?) : Rf9 w' q n G v ts C :=
  h.turn hs (fun k e => hk k (Or.inr e)) ((hk q (Or.inl rfl)).trans h.blk) h.len rfl rfl rfl ⟨rfl, rfl, rfl⟩ h.ways
theorem Rf9.below (h : Rf9 w q n G v ts C) (hb : Below w.heap.size w w') : Rf9 w' q n G v ts C := h.keep hb.size fun k hk => hb.block k (h.lt hk)
theorem Rf9.tlen (h : Rf9 w q n G v ts C) : ts.length = n.l.length := by rw [← h.ms, List.length_map]
theorem Rf9.slice (h : Rf9 w q n G v ts C) : ∃ a c, v = .slice a ts.length c ∧ ts.length ≤ c := by
  rcases h.row with ⟨rfl, rfl⟩ | ⟨g, c, rfl, _, hl, _⟩
  · exact ⟨none, 0, rfl, Nat.le_refl _⟩
  · exact ⟨_, c, rfl, hl⟩
theorem Rf9.ok (h : Rf9 w q n G v ts C) : Ok5 ts := fun t ht => by
  obtain ⟨a, k, c, e, _⟩ := (h.parts t ht).ns
  obtain ⟨a2, k2, c2, e2, _⟩ := (h.parts t ht).bs
  exact ⟨⟨a, k, c, e⟩, ⟨a2, k2, c2, e2⟩⟩
theorem moved_own {G : Nat → Prop} (hs : w.heap.size ≤ w'.heap.size) (ho : w'.os = w.os) (ht : w'.tape = w.tape) (hp : w'.output = w.output) (hk : ∀ k, k ≠ q → w'.heap[k]? = w.heap[k]?) : Moved w w' (Gq q G) (Gq q G) :=
  ⟨ho, ht, hp, hs, fun k _ hG => hk k (fun e => hG (Or.inl e)), fun _ h => Or.inl h⟩
/-- One way is written. -/
theorem Rf9.setWay (h : Rf9 w q n G v ts C) {a b : Nat} (ha : a < 64) (hb : b < 64) (t : Bool) : Rf9 (w.setCell ⟨q, 3 + a * 64 + b, none⟩ (.bool t)) q { n with cut := fun x y => if x = a ∧ y = b then t else n.cut x y } G v ts (C.set (3 + a * 64 + b) (.bool t)) ∧ Moved w (w.setCell ⟨q, 3 + a * 64 + b, none⟩ (.bool t)) (Gq q G) (Gq q G) := by
  have hset := grownBy_setCell w ⟨q, 3 + a * 64 + b, none⟩ (.bool t)
  have hne : ∀ k, k ≠ q → (w.setCell ⟨q, 3 + a * 64 + b, none⟩ (.bool t)).heap[k]? = w.heap[k]? := fun k hk => RowKit.Below.heap_setCell _ _ _ _ hk
  have hl := h.len
  refine ⟨h.turn hset.size (fun k e => hne k (fun e2 => h.gq (e2 ▸ e))) ?_ (by rw [List.length_set]; exact hl) (by rw [List.getElem?_set_ne (by omega)]) (by rw [List.getElem?_set_ne (by omega)]) (by rw [List.getElem?_set_ne (by omega)]) ⟨rfl, rfl, rfl⟩ (fun x y hx hy => ?_), moved_own hset.size hset.os hset.tape hset.output hne⟩
  · have hb2 := h.blk
    simp [World.setCell, Array.getElem?_modify, hb2]
  · by_cases e : x = a ∧ y = b
    · obtain ⟨rfl, rfl⟩ := e
      rw [List.getElem?_set_self (by omega)]
      simp
    · rw [List.getElem?_set_ne (by omega), h.ways x y hx hy]
      simp only [if_neg e]
end

set_option maxRecDepth 20000 in
set_option maxHeartbeats 1000000 in
theorem refNode_any (q : Nat) (n : Nq.Nt) (G : Nat → Prop) (v : Value) (ts : List Mt) (C : List Value) (k : Int) (w : World) (h : Rf9 w q n G v ts C) :
    Calls Try.prog 31 #[dptr q, .int .i64 k] w fun e w' => e = .returned (.bool (Nq.node n k)) ∧ w' = w := by
  have l0 : w.cell? ⟨q, 0, none⟩ = some (.int .i64 (n.nodes : Int)) := (h.cell 0).trans h.c0
  obtain ⟨R, hR⟩ : ∃ R, R = Nq.node n k := ⟨_, rfl⟩
  have HR : Hid (R = Nq.node n k) := hR
  rw [← hR]
  obtain ⟨m, hm⟩ : ∃ m, m = n.nodes := ⟨_, rfl⟩
  have HM : Hid (m = n.nodes) := hm
  rw [← hm] at l0
  clear h hR hm
  by_cases h1 : 0 ≤ k
  · have b1 : decide (0 ≤ k) = true := decide_eq_true h1
    by_cases h2 : k < (m : Int)
    · have H3 : Hid (R = true) := by
        have e : R = true := by rw [HR.out]; exact Nq.node_iff.2 ⟨h1, by rw [← HM.out]; exact h2⟩
        exact e
      go_enter Try.func31, Try.ntmps31
      go_wp2
      go_ret
      exact ⟨by rw [H3.out]; rfl, rfl⟩
    · have H3 : Hid (R = false) := by
        have e : R = false := by
          rw [HR.out]
          unfold Nq.node
          rw [← HM.out, decide_eq_false h2, Bool.and_false]
        exact e
      go_enter Try.func31, Try.ntmps31
      go_wp2
      go_ret
      exact ⟨by rw [H3.out]; rfl, rfl⟩
  · have b1 : decide (0 ≤ k) = false := decide_eq_false h1
    have H3 : Hid (R = false) := by
      have e : R = false := by
        rw [HR.out]
        unfold Nq.node
        rw [decide_eq_false h1, Bool.false_and]
      exact e
    go_enter Try.func31, Try.ntmps31
    go_wp2
    go_ret
    exact ⟨by rw [H3.out]; rfl, rfl⟩

set_option maxRecDepth 20000 in
set_option maxHeartbeats 1000000 in
theorem refHeal_any (q : Nat) (n : Nq.Nt) (G : Nat → Prop) (v : Value) (ts : List Mt) (C : List Value) (w : World) (h : Rf9 w q n G v ts C) :
    Calls Try.prog 24 #[dptr q] w fun e w' => ∃ C', e = .returned (.tuple #[]) ∧ Rf9 w' q (Nq.heal n) G v ts C' ∧ Moved w w' (Gq q G) (Gq q G) := by
  have HH : Hid (Rf9 w q n G v ts C) := h
  have hbw := zero_ways
  have hzl := zways_len
  have hza := @zways_at
  have hz1 : ∀ u ∈ zways, u.oneCell' = true := fun u hu => by
    obtain ⟨_, rfl⟩ := List.mem_replicate.1 hu
    rfl
  have hsz := Try.sizeOf40
  have hl := h.len
  have hst : (storeCells ⟨q, 3, none⟩ zways).run Try.prog w = .ok () (w.setRow q (C.take 3 ++ zways).toArray) := by
    have hr := run_storeCells_at (P := Try.prog) q 3 42 zways 0 C.toArray w h.blk (by rw [hzl]; simp [hl]) hz1
    rw [List.drop_eq_nil_iff.2 (by simp [hl, hzl])] at hr
    simpa using hr
  have HZ : Hid ((∀ i, i < 4096 → zways[i]? = some (.bool false)) ∧ zways.length = 4096) := ⟨fun i hi => hza hi, hzl⟩
  generalize zways = Z at *
  clear h hza hz1
  go_enter Try.func24, Try.ntmps24
  go_wp2
  go_end0
  have hl2 : (C.take 3).length = 3 := by rw [List.length_take]; omega
  refine ⟨C.take 3 ++ Z, rfl, HH.out.turn (by simp) (fun k e => setRow_other w q k _ (fun e2 => HH.out.gq (e2 ▸ e))) (setRow_heap w q _ _ _ _ HH.out.blk) (by rw [List.length_append, hl2, HZ.out.2]) ?_ ?_ ?_ ⟨rfl, rfl, rfl⟩ (fun a b ha hb => ?_), moved_own (by simp) rfl rfl rfl (fun k hk => setRow_other w q k _ hk)⟩
  · rw [List.getElem?_append_left (by omega), List.getElem?_take, if_pos (by omega)]
  · rw [List.getElem?_append_left (by omega), List.getElem?_take, if_pos (by omega)]
  · rw [List.getElem?_append_left (by omega), List.getElem?_take, if_pos (by omega)]
  · rw [List.getElem?_append_right (by omega), hl2, show 3 + a * 64 + b - 3 = a * 64 + b by omega]
    exact HZ.out.1 _ (by omega)

theorem cut_cut (n : Nq.Nt) (a b : Nat) (t : Bool) : ({ ({ n with cut := fun x y => if x = a ∧ y = b then t else n.cut x y } : Nq.Nt) with cut := fun x y => if x = b ∧ y = a then t else if x = a ∧ y = b then t else n.cut x y } : Nq.Nt) = { n with cut := fun x y => if (x = a ∧ y = b) ∨ (x = b ∧ y = a) then t else n.cut x y } := by
  have e : (fun x y => if x = b ∧ y = a then t else if x = a ∧ y = b then t else n.cut x y) = fun x y => if (x = a ∧ y = b) ∨ (x = b ∧ y = a) then t else n.cut x y := by
    funext x y
    by_cases h1 : x = b ∧ y = a
    · rw [if_pos h1, if_pos (Or.inr h1)]
    · rw [if_neg h1]
      by_cases h2 : x = a ∧ y = b
      · rw [if_pos h2, if_pos (Or.inl h2)]
      · rw [if_neg h2, if_neg (fun e => e.elim h2 h1)]
  rw [e]

set_option maxRecDepth 20000 in
set_option maxHeartbeats 4000000 in
theorem refCut_any (q : Nat) (n : Nq.Nt) (G : Nat → Prop) (v : Value) (ts : List Mt) (C : List Value) (a b : Int) (t : Bool) (w : World) (h : Rf9 w q n G v ts C) :
    Calls Try.prog 22 #[dptr q, .int .i64 a, .int .i64 b, .bool t] w fun e w' => ∃ C', e = .returned (.tuple #[]) ∧ Rf9 w' q (Nq.cutW n a b t) G v ts C' ∧ Moved w w' (Gq q G) (Gq q G) := by
  have HH : Hid (Rf9 w q n G v ts C) := h
  have HN1 : Hid (Calls Try.prog 31 #[dptr q, .int .i64 a] w fun e w' => e = .returned (.bool (Nq.node n a)) ∧ w' = w) := refNode_any q n G v ts C a w h
  have HN2 : Hid (Calls Try.prog 31 #[dptr q, .int .i64 b] w fun e w' => e = .returned (.bool (Nq.node n b)) ∧ w' = w) := refNode_any q n G v ts C b w h
  clear h
  cases ea : Nq.node n a with
  | false =>
    have HX : Hid (Nq.cutW n a b t = n) := by
      have e : Nq.cutW n a b t = n := by unfold Nq.cutW; rw [ea]; rfl
      exact e
    rw [HX.out]
    rw [ea] at HN1
    clear ea
    go_enter Try.func22, Try.ntmps22
    go_wp2_with fail
    refine HN1.out.mono ?_
    rintro e w1 ⟨rfl, hw1⟩
    rw [hw1]
    clear hw1 w1
    go_wp2
    go_end0
    exact ⟨C, rfl, HH.out, Moved.refl _ _⟩
  | true =>
    rw [ea] at HN1
    cases eb : Nq.node n b with
    | false =>
      have HX : Hid (Nq.cutW n a b t = n) := by
        have e : Nq.cutW n a b t = n := by unfold Nq.cutW; rw [ea, eb]; rfl
        exact e
      rw [HX.out]
      rw [eb] at HN2
      clear ea eb
      go_enter Try.func22, Try.ntmps22
      go_wp2_with fail
      refine HN1.out.mono ?_
      rintro e w1 ⟨rfl, hw1⟩
      rw [hw1]
      clear hw1 w1
      go_wp2_with fail
      refine HN2.out.mono ?_
      rintro e w1 ⟨rfl, hw1⟩
      rw [hw1]
      clear hw1 w1
      go_wp2
      go_end0
      exact ⟨C, rfl, HH.out, Moved.refl _ _⟩
    | true =>
      rw [eb] at HN2
      have ha := Nq.node_iff.1 ea
      have hb := Nq.node_iff.1 eb
      have hn := HH.out.fine.nodes
      obtain ⟨x, hx⟩ : ∃ x : Nat, a = (x : Int) := ⟨a.toNat, by omega⟩
      obtain ⟨y, hy⟩ : ∃ y : Nat, b = (y : Int) := ⟨b.toNat, by omega⟩
      subst hx hy
      have HXY : Hid (x < 64 ∧ y < 64) := by
        have e : x < 64 ∧ y < 64 := by omega
        exact e
      have HX : Hid (Nq.cutW n (x : Int) (y : Int) t = { n with cut := fun i j => if (i = x ∧ j = y) ∨ (i = y ∧ j = x) then t else n.cut i j }) := by
        have e : Nq.cutW n (x : Int) (y : Int) t = { n with cut := fun i j => if (i = x ∧ j = y) ∨ (i = y ∧ j = x) then t else n.cut i j } := by
          unfold Nq.cutW
          rw [ea, eb]
          simp only [Bool.and_self, if_true, Int.toNat_natCast]
        exact e
      rw [HX.out, ← cut_cut]
      have hx0 : (0 : Int) ≤ (x : Int) := by omega
      have hy0 : (0 : Int) ≤ (y : Int) := by omega
      have hx64 : (x : Int) < 64 := by omega
      have hy64 : (y : Int) < 64 := by omega
      clear ea eb ha hb hn
      go_enter Try.func22, Try.ntmps22
      go_wp2_with fail
      refine HN1.out.mono ?_
      rintro e w1 ⟨rfl, hw1⟩
      rw [hw1]
      clear hw1 w1
      go_wp2_with fail
      refine HN2.out.mono ?_
      rintro e w1 ⟨rfl, hw1⟩
      rw [hw1]
      clear hw1 w1
      go_wp2_with fail
      refine wp_region_U (fun _ => True) [12, 17] (by kernel_rfl) ?_
      have HD : Hid (Rf9 w.drew q n G v ts C) := HH.out.below (Below.refl _ _).drew
      have HMV : Hid (Moved w w.drew (Gq q G) (Gq q G)) := Moved.of_below _ (Below.refl _ _).drew
      generalize w.drew = wD at *
      refine' take_P (i := 0) (d := 16) (v := _) rfl rfl (by kernel_rfl) (by kernel_rfl) (by kernel_rfl) (by kernel_rfl) (by kernel_rfl) (fun _ _ _ h => h) (Or.inl ⟨by rfl, ?h0⟩) (fun _ => trivial) ?_
      case h0 => intro w hSw; go_simp; with_reducible rfl
      simp only [List.setIfInBounds_toArray, List.set_cons_zero, List.set_cons_succ]
      refine' take_P (i := 1) (d := 17) (v := _) rfl rfl (by kernel_rfl) (by kernel_rfl) (by kernel_rfl) (by kernel_rfl) (by kernel_rfl) (fun _ _ _ h => h) (Or.inl ⟨by rfl, ?h1⟩) (fun _ => trivial) ?_
      case h1 => intro w hSw; go_simp; with_reducible rfl
      simp only [List.setIfInBounds_toArray, List.set_cons_zero, List.set_cons_succ]
      refine' take_P (i := 2) (d := 18) (v := _) rfl rfl (by kernel_rfl) (by kernel_rfl) (by kernel_rfl) (by kernel_rfl) (by kernel_rfl) (fun _ _ _ h => h) (Or.inl ⟨by rfl, ?h2⟩) (fun _ => trivial) ?_
      case h2 => intro w hSw; go_simp; with_reducible rfl
      simp only [List.setIfInBounds_toArray, List.set_cons_zero, List.set_cons_succ]
      refine' take_P (i := 3) (d := 19) (v := _) rfl rfl (by kernel_rfl) (by kernel_rfl) (by kernel_rfl) (by kernel_rfl) (by kernel_rfl) (fun _ _ _ h => h) (Or.inl ⟨by rfl, ?h3⟩) (fun _ => trivial) ?_
      case h3 => intro w hSw; go_simp; with_reducible rfl
      simp only [List.setIfInBounds_toArray, List.set_cons_zero, List.set_cons_succ]
      refine' take_P (i := 4) (d := 20) (v := _) rfl rfl (by kernel_rfl) (by kernel_rfl) (by kernel_rfl) (by kernel_rfl) (by kernel_rfl) (fun _ _ _ h => h) (Or.inl ⟨by rfl, ?h4⟩) (fun _ => trivial) ?_
      case h4 => intro w hSw; go_simp; with_reducible rfl
      simp only [List.setIfInBounds_toArray, List.set_cons_zero, List.set_cons_succ]
      refine' take_P (i := 5) (d := 21) (v := _) rfl rfl (by kernel_rfl) (by kernel_rfl) (by kernel_rfl) (by kernel_rfl) (by kernel_rfl) (fun _ _ _ h => h) (Or.inl ⟨by rfl, ?h5⟩) (fun _ => trivial) ?_
      case h5 => intro w hSw; go_simp; with_reducible rfl
      simp only [List.setIfInBounds_toArray, List.set_cons_zero, List.set_cons_succ]
      refine' take_P (i := 6) (d := 22) (v := _) rfl rfl (by kernel_rfl) (by kernel_rfl) (by kernel_rfl) (by kernel_rfl) (by kernel_rfl) (fun _ _ _ h => h) (Or.inl ⟨by rfl, ?h6⟩) (fun _ => trivial) ?_
      case h6 => intro w hSw; go_simp; with_reducible rfl
      simp only [List.setIfInBounds_toArray, List.set_cons_zero, List.set_cons_succ]
      refine' take_P (i := 7) (d := 23) (v := _) rfl rfl (by kernel_rfl) (by kernel_rfl) (by kernel_rfl) (by kernel_rfl) (by kernel_rfl) (fun _ _ _ h => h) (Or.inl ⟨by rfl, ?h7⟩) (fun _ => trivial) ?_
      case h7 => intro w hSw; go_simp; with_reducible rfl
      simp only [List.setIfInBounds_toArray, List.set_cons_zero, List.set_cons_succ]
      refine' take_P (i := 8) (d := 24) (v := _) rfl rfl (by kernel_rfl) (by kernel_rfl) (by kernel_rfl) (by kernel_rfl) (by kernel_rfl) (fun _ _ _ h => h) (Or.inl ⟨by rfl, ?h8⟩) (fun _ => trivial) ?_
      case h8 => intro w hSw; go_simp; with_reducible rfl
      simp only [List.setIfInBounds_toArray, List.set_cons_zero, List.set_cons_succ]
      refine' take_P (i := 9) (d := 25) (v := _) rfl rfl (by kernel_rfl) (by kernel_rfl) (by kernel_rfl) (by kernel_rfl) (by kernel_rfl) (fun _ _ _ h => h) (Or.inl ⟨by rfl, ?h9⟩) (fun _ => trivial) ?_
      case h9 => intro w hSw; go_simp; with_reducible rfl
      simp only [List.setIfInBounds_toArray, List.set_cons_zero, List.set_cons_succ]
      refine' take_P (i := 10) (d := 26) (v := _) rfl rfl (by kernel_rfl) (by kernel_rfl) (by kernel_rfl) (by kernel_rfl) (by kernel_rfl) (fun _ _ _ h => h) (Or.inl ⟨by rfl, ?h10⟩) (fun _ => trivial) ?_
      case h10 => intro w hSw; go_simp; with_reducible rfl
      simp only [List.setIfInBounds_toArray, List.set_cons_zero, List.set_cons_succ]
      refine' take_P (i := 11) (d := 27) (v := _) rfl rfl (by kernel_rfl) (by kernel_rfl) (by kernel_rfl) (by kernel_rfl) (by kernel_rfl) (fun _ _ _ h => h) (Or.inl ⟨by rfl, ?h11⟩) (fun _ => trivial) ?_
      case h11 => intro w hSw; go_simp; with_reducible rfl
      simp only [List.setIfInBounds_toArray, List.set_cons_zero, List.set_cons_succ]
      refine' take_P (i := 13) (d := 28) (v := _) rfl rfl (by kernel_rfl) (by kernel_rfl) (by kernel_rfl) (by kernel_rfl) (by kernel_rfl) (fun _ _ _ h => h) (Or.inl ⟨by rfl, ?h13⟩) (fun _ => trivial) ?_
      case h13 => intro w hSw; go_simp; with_reducible rfl
      simp only [List.setIfInBounds_toArray, List.set_cons_zero, List.set_cons_succ]
      refine' take_P (i := 14) (d := 29) (v := _) rfl rfl (by kernel_rfl) (by kernel_rfl) (by kernel_rfl) (by kernel_rfl) (by kernel_rfl) (fun _ _ _ h => h) (Or.inl ⟨by rfl, ?h14⟩) (fun _ => trivial) ?_
      case h14 => intro w hSw; go_simp; with_reducible rfl
      simp only [List.setIfInBounds_toArray, List.set_cons_zero, List.set_cons_succ]
      refine' take_P (i := 15) (d := 30) (v := _) rfl rfl (by kernel_rfl) (by kernel_rfl) (by kernel_rfl) (by kernel_rfl) (by kernel_rfl) (fun _ _ _ h => h) (Or.inl ⟨by rfl, ?h15⟩) (fun _ => trivial) ?_
      case h15 => intro w hSw; go_simp; with_reducible rfl
      simp only [List.setIfInBounds_toArray, List.set_cons_zero, List.set_cons_succ]
      refine wpAnyU_ready (rs := [12]) (by kernel_rfl) (by simp) ?_
      refine AllReadyU.cons (o := _) rfl (fun K hK => ?_) AllReadyU.nil
      have hc := (HD.out.cell (3 + x * 64 + y)).trans (HD.out.ways x y HXY.out.1 HXY.out.2)
      have hf := HD.out.free (3 + x * 64 + y)
      go_simp
      clear hc hf
      refine hK.out _ _ (fun h => absurd (by decide) h) ?_
      clear hK K
      have hsw := HD.out.setWay HXY.out.1 HXY.out.2 t
      have HD2 : Hid (Rf9 (wD.setCell ⟨q, 3 + x * 64 + y, none⟩ (.bool t)) q { n with cut := fun i j => if i = x ∧ j = y then t else n.cut i j } G v ts (C.set (3 + x * 64 + y) (.bool t)) ∧ Moved w (wD.setCell ⟨q, 3 + x * 64 + y, none⟩ (.bool t)) (Gq q G) (Gq q G)) := ⟨hsw.1, HMV.out.trans hsw.2⟩
      clear hsw
      generalize wD.setCell ⟨q, 3 + x * 64 + y, none⟩ (.bool t) = wE at *
      refine' take_P (i := 16) (d := 31) (v := _) rfl rfl (by kernel_rfl) (by kernel_rfl) (by kernel_rfl) (by kernel_rfl) (by kernel_rfl) (fun _ _ _ h => h) (Or.inl ⟨by rfl, ?h16⟩) (fun _ => trivial) ?_
      case h16 => intro w hSw; go_simp; with_reducible rfl
      simp only [List.setIfInBounds_toArray, List.set_cons_zero, List.set_cons_succ]
      refine wpAnyU_ready (rs := [17]) (by kernel_rfl) (by simp) ?_
      refine AllReadyU.cons (o := _) rfl (fun K hK => ?_) AllReadyU.nil
      have hc := (HD2.out.1.cell (3 + y * 64 + x)).trans (HD2.out.1.ways y x HXY.out.2 HXY.out.1)
      have hf := HD2.out.1.free (3 + y * 64 + x)
      go_simp
      clear hc hf
      refine hK.out _ _ (fun h => absurd (by decide) h) ?_
      clear hK K
      refine wpAnyU_done (by kernel_rfl) ?_ _
      go_wp2
      go_end0
      have hsw := HD2.out.1.setWay HXY.out.2 HXY.out.1 t
      exact ⟨_, rfl, hsw.1, HD2.out.2.trans hsw.2⟩
end Go.Proofs.Ytkldecdjokfajaa
