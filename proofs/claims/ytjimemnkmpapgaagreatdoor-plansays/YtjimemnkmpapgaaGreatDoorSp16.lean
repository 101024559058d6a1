/- Rows of rows of numbers that a call makes: each in a row of its own; what grows, and what stays. -/
import Derived.Test.YtjimemnkmpapgaaGreatDoorBii16
import Derived.Lib.OwnBridge
import Derived.Deep.AppendSrc
namespace Go.Proofs.YtjimemnkmpapgaaGreatDoor
open Go.RowKit

/-! Numbers. -/
def ic (zs : List Int) : List Value := zs.map fun z => .int .i64 z
theorem ic_len (zs : List Int) : (ic zs).length = zs.length := by simp [ic]
theorem ic_app (a b : List Int) : ic (a ++ b) = ic a ++ ic b := by simp [ic]
theorem ic_one (zs : List Int) : ∀ u ∈ ic zs, u.oneCell' = true := by
  intro u hu
  obtain ⟨_, _, rfl⟩ := List.mem_map.1 hu
  rfl
theorem infoInt : (Tryz.prog.info? 3).map (fun i => (i.zero, i.size, i.bytes)) = some (some (.int .i64 0), 1, 8) := by kernel_rfl
theorem infoInts : (Tryz.prog.info? 27).map (fun i => (i.zero, i.size, i.bytes)) = some (some (.slice none 0 0), 1, 24) := by kernel_rfl
theorem Bi.own16 {w : World} {B : Nat} {v : Value} {zs : List Int} (h : w.ownsRow B 3 1 v zs.length (ic zs)) : Bi w v zs := by
  obtain ⟨a, c, rfl, hc, ha⟩ := row_form h
  refine ⟨a, zs.length, c, rfl, rfl, fun j z hz => ?_⟩
  have hj := (List.getElem?_eq_some_iff.1 hz).1
  obtain ⟨g, rfl⟩ := ha (by omega)
  refine ⟨g, 0, rfl, ?_⟩
  rw [Nat.zero_add, h.cellAt _ (by omega)]
  simp [ic, hz]
/-- Numbers onto an owned row. -/
theorem wpList_ic16 {ops : Array Oper} {rest : List Oper} {o : Oper} {a : Act} {Q : Exit → Act → World → Prop} (hgd : o.guard = none) (s x : Operand)
    (ho : o.op = .call { callee := .builtin .append, args := #[s, x], argTypes := #[27, 27] })
    (B : Nat) (v : Value) (l ms : List Int) (sb c : Nat) (t : TypeId) (w : World) (hs : a.eval s = v) (hx : a.eval x = .slice (some ⟨sb, 0, none⟩) ms.length c) (hown : w.ownsRow B 3 1 v l.length (ic l)) (hB : B ≤ w.heap.size) (hc : Cb w sb (ic ms) t) (hN : l.length + ms.length ≤ 3000)
    (h : ∀ v' w', w'.ownsRow B 3 1 v' (l ++ ms).length (ic (l ++ ms)) → Below B w w' → w.grownBy w' v.ownBlock → (v'.ownBlock = v.ownBlock ∨ v'.ownBlock = some w.heap.size) → wpList Tryz.prog ops Q rest (a.put o.dst v') w') : wpList Tryz.prog ops Q (o :: rest) a w := by
  refine wpList_plain hgd fun K hK => ?_
  obtain ⟨i0, hi, hz0, hz1, hz2⟩ := info_parts infoInt
  have hcell : ∀ j u, (ic ms)[j]? = some u → w.cell? ((⟨sb, 0, none⟩ : Addr).add j) = some u := fun j u hu => by
    rw [Addr.add_lit, Nat.zero_add, hc.cell j]
    exact hu
  obtain ⟨v', w', hr, h2, h3, h4, h5⟩ := run_append_own_at (P := Tryz.prog) w B 27 o.type 3 i0 _ 1 8 Tryz.underlying27 hi hz0 hz1 hz2 rfl (by decide) v l.length (ic l) hown ⟨sb, 0, none⟩ ms.length c (ic ms) (by rw [ic_len]; omega) hcell (ic_one ms) (by unfold maxLen; omega) (by omega) hB
  unfold Oper.wp execOp
  simp only [ho, resolve, invoke, builtin, Sem.run_bind, Sem.run_pure, Result.andThen_ok, List.map_toArray, List.map_cons, List.map_nil, hs, hx, hr]
  exact hK _ _ (h v' w' (by rw [ic_app, List.length_append]; exact h2) ((Below.refl _ w).grown h3 hB (fun k hk => (hown.lt k hk).1)) h3 h5)
/-- 'make([][]int, n)'. -/
theorem make_ints16 {ops : Array Oper} {rest : List Oper} {o : Oper} {a : Act} {Q : Exit → Act → World → Prop} (hgd : o.guard = none) (l c : Operand) (ho : o.op = .makeSlice 31 l c)
    (n : Nat) (w : World) (hl : a.eval l = .int .i64 (n : Int)) (hc : a.eval c = .int .i64 (n : Int)) (hN : n ≤ 1000000)
    (h : ∀ w', Cb w' w.heap.size (List.replicate n (.slice none 0 0)) 27 → Below w.heap.size w w' → wpList Tryz.prog ops Q rest (a.put o.dst (.slice (some ⟨w.heap.size, 0, none⟩) n n)) w') : wpList Tryz.prog ops Q (o :: rest) a w := by
  obtain ⟨i0, hi, hz0, hz1, hz2⟩ := info_parts infoInts
  refine wpList_make_full w hgd l c 31 ho w.heap.size 27 i0 (.slice none 0 0) 1 Tryz.underlying31 hi hz0 hz1 .i64 .i64 n n n hl hc rfl rfl (by rw [hz2]; omega) (by unfold maxLen; omega) (Nat.le_refl _) ?_
  intro w' hown hg
  refine h w' ?_ ((Below.refl _ w).grown hg (Nat.le_refl _) (fun k hk => by cases hk))
  have e : (madeCells (Value.slice none 0 0).cells (n * 1)).toList = List.replicate n (.slice none 0 0) := by
    rw [Nat.mul_one]
    apply List.ext_getElem
    · simp [madeCells]
    · intro i h1 h2
      simp [madeCells, Value.cells]
      have : i % 1 = 0 := Nat.mod_one i
      simp [this]
  rw [e] at hown
  rcases hown.2 with ⟨e1, _⟩ | ⟨g, cap, cur, e1, _, hh, _, _, h5, h6⟩
  · cases e1
  · simp only [Value.slice.injEq, Option.some.injEq, Addr.mk.injEq, and_true] at e1
    obtain ⟨rfl, _, rfl⟩ := e1
    unfold Cb
    have h7 : cur.toList.length = n * 1 := by simpa using h5
    rw [List.take_of_length_le (by omega)] at h6
    have e9 : cur = (List.replicate n (Value.slice none 0 0)).toArray := by
      apply Array.ext'
      rw [h6, List.toList_toArray]
    rw [hh, e9]

/-- A block of rows of numbers, each owned from block B on, no two in one block. -/
structure Sp16 (B : Nat) (w : World) (g : Nat) (us : List Value) (ls : List (List Int)) : Prop where
  blk : Cb w g us 27
  lo : B ≤ g
  len : us.length = ls.length
  own : ∀ (j : Nat) l u, ls[j]? = some l → us[j]? = some u → w.ownsRow B 3 1 u l.length (ic l)
  apart : ∀ (i j : Nat) u v b, i ≠ j → us[i]? = some u → us[j]? = some v → u.ownBlock = some b → v.ownBlock ≠ some b
theorem Sp16.made {B : Nat} {w : World} {g n : Nat} (h : Cb w g (List.replicate n (.slice none 0 0)) 27) (hB : B ≤ g) : Sp16 B w g (List.replicate n (.slice none 0 0)) (List.replicate n []) := by
  refine ⟨h, hB, by simp, fun j l u hl hu => ?_, fun i j u v b _ hu hv hb => ?_⟩
  · obtain ⟨_, e1⟩ := List.getElem?_eq_some_iff.1 hl
    obtain ⟨_, e2⟩ := List.getElem?_eq_some_iff.1 hu
    simp at e1 e2
    subst e1 e2
    exact World.ownsRow_nil _ _ _ _
  · obtain ⟨_, e2⟩ := List.getElem?_eq_some_iff.1 hu
    simp at e2
    subst e2
    cases hb
theorem Sp16.off {B : Nat} {w : World} {g : Nat} {us : List Value} {ls : List (List Int)} (h : Sp16 B w g us ls) {j : Nat} {u : Value} (hu : us[j]? = some u) : u.ownBlock ≠ some g := by
  have hj := (List.getElem?_eq_some_iff.1 hu).1
  rw [h.len] at hj
  exact h.blk.apart (h.own j _ u (List.getElem?_eq_getElem hj) hu) (by decide)
theorem Sp16.below {B : Nat} {w w' : World} {g : Nat} {us : List Value} {ls : List (List Int)} (h : Sp16 B w g us ls) (hb : Below w.heap.size w w') : Sp16 B w' g us ls :=
  ⟨h.blk.below hb, h.lo, h.len, fun j l u hl hu => row_stays (h.own j l u hl hu) fun k hk => hb.block k ((h.own j l u hl hu).lt k hk).2, h.apart⟩
theorem Sp16.bii {B : Nat} {w : World} {g c : Nat} {us : List Value} {ls : List (List Int)} (h : Sp16 B w g us ls) {n : Nat} (hn : n = ls.length) : Bii w (.slice (some ⟨g, 0, none⟩) n c) ls := by
  refine ⟨_, _, _, rfl, hn, fun j l hl => ?_⟩
  have hj := (List.getElem?_eq_some_iff.1 hl).1
  rw [← h.len] at hj
  exact ⟨g, 0, us[j], rfl, by rw [Nat.zero_add, h.blk.cell j, List.getElem?_eq_getElem hj], Bi.own16 (h.own j l _ hl (List.getElem?_eq_getElem hj))⟩
/-- One of the rows has grown, and is laid in its place. -/
theorem Sp16.grows {B : Nat} {w w' : World} {g k : Nat} {us : List Value} {ls : List (List Int)} {u v' : Value} {l' : List Int} (h : Sp16 B w g us ls) (hu : us[k]? = some u)
    (hr : w'.ownsRow B 3 1 v' l'.length (ic l')) (hg : w.grownBy w' u.ownBlock) (ho : v'.ownBlock = u.ownBlock ∨ v'.ownBlock = some w.heap.size) :
    Cb w' g us 27 ∧ Sp16 B (w'.setCell ⟨g, k, none⟩ v') g (us.set k v') (ls.set k l') := by
  have hq : Cb w' g us 27 := h.blk.keep (hg.block g h.blk.lt (fun e => h.off hu e.symm))
  have hg2 := grownBy_setCell w' ⟨g, k, none⟩ v'
  have hap := hq.apart hr (by decide)
  have key : ∀ (j : Nat) x, k ≠ j → us[j]? = some x → (∀ b, x.ownBlock = some b → v'.ownBlock ≠ some b) ∧ (∀ b, v'.ownBlock = some b → x.ownBlock ≠ some b) := fun j x hkj hx => by
    have hj := (List.getElem?_eq_some_iff.1 hx).1
    rw [h.len] at hj
    have hrow := h.own j _ x (List.getElem?_eq_getElem hj) hx
    have one : ∀ b, x.ownBlock = some b → v'.ownBlock ≠ some b := fun b hb e => by
      rcases ho with e2 | e2
      · exact h.apart j k x u b (fun e => hkj e.symm) hx hu hb (by rw [← e2]; exact e)
      · have := (hrow.lt b hb).2
        rw [e2] at e
        simp only [Option.some.injEq] at e
        omega
    exact ⟨one, fun b hb e => one b e hb⟩
  refine ⟨hq, hq.set k v', h.lo, by simp [h.len], fun j l x hl hx => ?_, fun i j x y b hij hx hy hb => ?_⟩
  · by_cases hj : k = j
    · subst hj
      have hk := (List.getElem?_eq_some_iff.1 hu).1
      rw [List.getElem?_set_self hk] at hx
      rw [List.getElem?_set_self (by rw [← h.len]; exact hk)] at hl
      obtain rfl := Option.some.inj hx
      obtain rfl := Option.some.inj hl
      exact row_stays hr fun b hb => hg2.block b (hr.lt b hb).2 (fun e => hap (by rw [hb]; simpa using e))
    · rw [List.getElem?_set_ne hj] at hx hl
      have hrow := h.own j l x hl hx
      have hrow2 : w'.ownsRow B 3 1 x l.length (ic l) := row_stays hrow fun b hb => hg.block b (hrow.lt b hb).2 (fun e => h.apart k j u x b hj hu hx e.symm hb)
      have hap2 := hq.apart hrow2 (by decide)
      exact row_stays hrow2 fun b hb => hg2.block b (hrow2.lt b hb).2 (fun e => hap2 (by rw [hb]; simpa using e))
  · by_cases hi : k = i
    · subst hi
      have hk := (List.getElem?_eq_some_iff.1 hu).1
      rw [List.getElem?_set_self hk] at hx
      rw [List.getElem?_set_ne hij] at hy
      obtain rfl := Option.some.inj hx
      exact (key j y hij hy).2 b hb
    · rw [List.getElem?_set_ne hi] at hx
      by_cases hj : k = j
      · subst hj
        have hk := (List.getElem?_eq_some_iff.1 hu).1
        rw [List.getElem?_set_self hk] at hy
        obtain rfl := Option.some.inj hy
        exact (key i x hi hx).1 b hb
      · rw [List.getElem?_set_ne hj] at hy
        exact h.apart i j x y b hij hx hy hb
/-! What one more Op changes. -/
theorem Tb.split_nil (s : Tb.St) : Tb.split s [] = List.replicate s.shards.toNat [] := by
  unfold Tb.split
  apply List.ext_getElem
  · simp
  · intro i h1 h2
    simp [Tb.places, Tb.placesA]
theorem Tb.split_no {s : Tb.St} {p : ByteArray} (ps : List ByteArray) (h : Tb.of s p = -1) : Tb.split s (ps ++ [p]) = Tb.split s ps := by
  unfold Tb.split
  refine List.map_congr_left fun k _ => ?_
  rw [Tb.places_snoc, h, if_neg (by omega), List.append_nil]
theorem Tb.split_on {s : Tb.St} {p : ByteArray} (ps : List ByteArray) {k : Nat} (h : Tb.of s p = (k : Int)) : Tb.split s (ps ++ [p]) = (Tb.split s ps).set k (Tb.places (Tb.of s) ps (k : Int) ++ [(ps.length : Int)]) := by
  apply List.ext_getElem?
  intro j
  by_cases hj : j < s.shards.toNat
  · have e1 : ∀ qs, (Tb.split s qs)[j]? = some (Tb.places (Tb.of s) qs (j : Int)) := fun qs => by
      unfold Tb.split
      rw [List.getElem?_map, List.getElem?_range hj]
      rfl
    rw [e1, Tb.places_snoc, h]
    by_cases hkj : k = j
    · subst hkj
      rw [List.getElem?_set_self (by rw [Tb.split_len]; exact hj), if_pos rfl]
    · rw [List.getElem?_set_ne hkj, e1, if_neg (by omega), List.append_nil]
  · rw [List.getElem?_eq_none (by rw [Tb.split_len]; omega), List.getElem?_eq_none (by rw [List.length_set, Tb.split_len]; omega)]
theorem Tb.split_get (s : Tb.St) (ps : List ByteArray) {k : Nat} (hk : (k : Int) < s.shards) : (Tb.split s ps)[k]? = some (Tb.places (Tb.of s) ps (k : Int)) := by
  unfold Tb.split
  rw [List.getElem?_map, List.getElem?_range (by omega)]
  rfl
end Go.Proofs.YtjimemnkmpapgaaGreatDoor
