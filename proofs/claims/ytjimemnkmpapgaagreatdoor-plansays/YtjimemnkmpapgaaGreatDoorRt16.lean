/- The landed Table: a block of three cells and a row; New, Version, Shards; the order; sum. -/
import Derived.Test.YtjimemnkmpapgaaGreatDoorSpecs16
import Derived.Test.YtjimemnkmpapgaaGreatDoorLibJ
import Derived.Test.YtjimemnkmpapgaaGreatDoorTakeAt
import Derived.Test.YtjimemnkmpapgaaGreatDoorBs19
import Derived.Test.YtjimemnkmpapgaaGreatDoorHl19
import Derived.BigQuiet
import Derived.Deep.DeepCutAuto
namespace Go.Proofs.YtjimemnkmpapgaaGreatDoor
open Go.RowKit

/-- The two cells. -/
def mc (x : Tb.Mv) : List Value := [.string x.top, .int .i64 x.shard]
def mv (x : Tb.Mv) : Value := .agg #[.string x.top, .int .i64 x.shard]
def mcs (l : List Tb.Mv) : List Value := l.flatMap mc
theorem mcs_len (l : List Tb.Mv) : (mcs l).length = l.length * 2 := by
  unfold mcs
  induction l with
  | nil => rfl
  | cons x l ih => rw [List.flatMap_cons, List.length_append, ih, List.length_cons]; simp only [mc, List.length_cons, List.length_nil]; omega
theorem mcs_app (a b : List Tb.Mv) : mcs (a ++ b) = mcs a ++ mcs b := by unfold mcs; rw [List.flatMap_append]
theorem mcs_one (l : List Tb.Mv) : ∀ u ∈ mcs l, u.oneCell' = true := by
  intro u hu
  obtain ⟨x, _, hx⟩ := List.mem_flatMap.1 hu
  simp only [mc, List.mem_cons, List.not_mem_nil, or_false] at hx
  rcases hx with rfl | rfl <;> rfl
theorem mcs_cell : ∀ (l : List Tb.Mv) (j : Nat) (x : Tb.Mv) (i : Nat) (u : Value), l[j]? = some x → (mc x)[i]? = some u → (mcs l)[j * 2 + i]? = some u
  | [], j, x, i, u, h, _ => by simp at h
  | y :: l, 0, x, i, u, h, hu => by
    simp at h
    subst h
    have hi : i < 2 := (List.getElem?_eq_some_iff.1 hu).1
    show (mc y ++ mcs l)[0 * 2 + i]? = some u
    rw [List.getElem?_append_left (by simp [mc]; omega)]
    simpa using hu
  | y :: l, j + 1, x, i, u, h, hu => by
    have h3 : (mc y).length = 2 := rfl
    show (mc y ++ mcs l)[(j + 1) * 2 + i]? = some u
    rw [List.getElem?_append_right (by rw [h3]; omega), h3, show (j + 1) * 2 + i - 2 = j * 2 + i by omega]
    exact mcs_cell l j x i u (by simpa using h) hu
theorem mcs_take (l : List Tb.Mv) (k : Nat) : (mcs l).take (k * 2) = mcs (l.take k) := by
  induction l generalizing k with
  | nil => simp [mcs]
  | cons x l ih =>
    cases k with
    | zero => simp [mcs]
    | succ k =>
      show (mc x ++ mcs l).take ((k + 1) * 2) = mc x ++ mcs (l.take k)
      rw [← ih k, List.take_append, List.take_of_length_le (by show 2 ≤ _; omega), show (k + 1) * 2 - (mc x).length = k * 2 by show (k + 1) * 2 - 2 = _; omega]
theorem mcs_drop (l : List Tb.Mv) (k : Nat) : (mcs l).drop (k * 2) = mcs (l.drop k) := by
  induction l generalizing k with
  | nil => simp [mcs]
  | cons x l ih =>
    cases k with
    | zero => simp [mcs]
    | succ k =>
      show (mc x ++ mcs l).drop ((k + 1) * 2) = mcs (l.drop k)
      rw [← ih k, List.drop_append, List.drop_of_length_le (by show 2 ≤ _; omega), List.nil_append, show (k + 1) * 2 - (mc x).length = k * 2 by show (k + 1) * 2 - 2 = _; omega]
/-- One of the row is set anew. -/
theorem mcs_set (l : List Tb.Mv) (j : Nat) (x : Tb.Mv) (h : l[j]? = some x) (n : Int) : (mcs l).set (j * 2 + 1) (.int .i64 n) = mcs (l.set j ⟨x.top, n⟩) := by
  induction l generalizing j with
  | nil => simp at h
  | cons y l ih =>
    cases j with
    | zero =>
      simp at h
      subst h
      rfl
    | succ j =>
      have e : (j + 1) * 2 + 1 = (j * 2 + 1) + 1 + 1 := by omega
      rw [List.set_cons_succ, e]
      show (Value.string y.top :: Value.int .i64 y.shard :: mcs l).set ((j * 2 + 1) + 1 + 1) _ = Value.string y.top :: Value.int .i64 y.shard :: mcs (l.set j _)
      rw [List.set_cons_succ, List.set_cons_succ, ih j (by simpa using h)]
theorem infoMv : (Tryz.prog.info? 98).map (fun i => (i.zero, i.size, i.bytes)) = some (some (.agg #[.string ⟨#[]⟩, .int .i64 0]), 2, 24) := by kernel_rfl

structure Lt16 (w : World) (q : Nat) (s : Tb.St) (v : Value) : Prop where
  blk : Cb w q [.int .i64 s.shards, .int .i64 s.version, v] 101
  row : w.ownsRow 0 98 2 v s.l.length (mcs s.l)
/-- The blocks. -/
def Ft16 (v : Value) (q : Nat) : Nat → Prop := fun k => v.ownBlock = some k ∨ k = q
def LTb : Rep16 := fun w q s F => ∃ v, Lt16 w q s v ∧ F = Ft16 v q
theorem LTb.lt {w : World} {q : Nat} {s : Tb.St} {F : Nat → Prop} {k : Nat} (h : LTb w q s F) (hk : F k) : k < w.heap.size := by
  obtain ⟨v, h, rfl⟩ := h
  rcases hk with hk | rfl
  · exact (h.row.lt k hk).2
  · exact h.blk.lt
theorem LTb.keep {w w' : World} {q : Nat} {s : Tb.St} {F : Nat → Prop} (h : LTb w q s F) (hk : ∀ k, F k → w'.heap[k]? = w.heap[k]?) : LTb w' q s F := by
  obtain ⟨v, h, rfl⟩ := h
  exact ⟨v, ⟨h.blk.keep (hk q (Or.inr rfl)), row_stays h.row fun k e => hk k (Or.inl e)⟩, rfl⟩
theorem Lt16.later {w w' : World} {q : Nat} {s : Tb.St} {v : Value} (h : Lt16 w q s v) (hb : Below w.heap.size w w') : Lt16 w' q s v := ⟨h.blk.below hb, row_stays h.row fun k hk => hb.block k (h.row.lt k hk).2⟩
/-- The cells of one in a row. -/
theorem row_at16 {w : World} {T B g N c : Nat} {l : List Tb.Mv} (h : w.ownsRow B T 2 (.slice (some ⟨g, 0, none⟩) N c) N (mcs l)) {j : Nat} {x : Tb.Mv} (hx : l[j]? = some x) : w.cell? ⟨g, j * 2, none⟩ = some (.string x.top) ∧ w.cell? ⟨g, j * 2 + 1, none⟩ = some (.int .i64 x.shard) := by
  have hj := (List.getElem?_eq_some_iff.1 hx).1
  have hN : l.length * 2 = N * 2 := by rw [← mcs_len]; exact h.1
  have key : ∀ i u, i < 2 → (mc x)[i]? = some u → w.cell? ⟨g, j * 2 + i, none⟩ = some u := fun i u hi hu => by
    rw [h.cellAt _ (by omega)]
    exact mcs_cell l j x i u hx hu
  exact ⟨key 0 _ (by decide) rfl, key 1 _ (by decide) rfl⟩

set_option maxRecDepth 20000 in
set_option maxHeartbeats 1000000 in
theorem new_no16 (n : Int) (w : World) (h : n < 1 ∨ 4 < n) : Calls Tryz.prog 28 #[.int .i64 n] w fun e w' => e = .returned (.tuple #[.pointer none, .int .i64 1]) ∧ Below w.heap.size w w' := by
  go_enter Tryz.func28, Tryz.ntmps28
  by_cases h1 : n < 1
  · clear h
    go_wp2
    go_ret2
    exact ⟨rfl, Below.refl _ _⟩
  · have h2 : 4 < n := h.resolve_left h1
    clear h
    go_wp2
    go_ret2
    exact ⟨rfl, Below.refl _ _⟩
set_option maxRecDepth 20000 in
set_option maxHeartbeats 1000000 in
theorem new_yes16 (n : Int) (w : World) (h1 : ¬ n < 1) (h2 : ¬ 4 < n) : Calls Tryz.prog 28 #[.int .i64 n] w fun e w' => e = .returned (.tuple #[dptr w.heap.size, .int .i64 0]) ∧ w' = w.alloc (.cells #[.int .i64 n, .int .i64 1, .slice none 0 0] 101) := by
  go_enter Tryz.func28, Tryz.ntmps28
  go_wp2
  go_ret2
  exact ⟨rfl, rfl⟩
theorem new_any16 (n : Int) (w : World) : Calls Tryz.prog 28 #[.int .i64 n] w fun e w' => Below w.heap.size w w' ∧
    if n < 1 ∨ 4 < n then e = .returned (.tuple #[.pointer none, .int .i64 1]) else ∃ q F, e = .returned (.tuple #[dptr q, .int .i64 0]) ∧ LTb w' q (Tb.new n) F ∧ ∀ k, F k → w.heap.size ≤ k := by
  by_cases h : n < 1 ∨ 4 < n
  · refine (new_no16 n w h).mono ?_
    rintro e w' ⟨he, hb⟩
    rw [if_pos h]
    exact ⟨hb, he⟩
  · refine (new_yes16 n w (by omega) (by omega)).mono ?_
    rintro e w' ⟨he, rfl⟩
    rw [if_neg h]
    refine ⟨(Below.refl _ w).alloc (Nat.le_refl _) _, w.heap.size, Ft16 (.slice none 0 0) w.heap.size, he, ⟨.slice none 0 0, ⟨Cb.made w [.int .i64 n, .int .i64 1, .slice none 0 0] _, World.ownsRow_nil _ _ _ _⟩, rfl⟩, fun k hk => ?_⟩
    rcases hk with hk | rfl
    · cases hk
    · exact Nat.le_refl _

/-- What cmp.Compare tells of two texts. -/
def cmpT (a b : ByteArray) : Int := if Kq.lt a b then -1 else if Kq.lt b a then 1 else 0
theorem cmpT_zero {a b : ByteArray} : cmpT a b = 0 ↔ a = b := by
  unfold cmpT
  split
  · rename_i h
    exact ⟨fun h => absurd h (by decide), fun e => by rw [e, Kq.lt_irrefl] at h; cases h⟩
  · rename_i h
    split
    · rename_i k
      exact ⟨fun h => absurd h (by decide), fun e => by rw [e, Kq.lt_irrefl] at k; cases k⟩
    · rename_i k
      exact ⟨fun _ => Kq.lt_total (by simpa using h) (by simpa using k), fun h => rfl⟩
theorem cmpT_neg {a b : ByteArray} : cmpT a b < 0 ↔ Kq.lt a b = true := by
  unfold cmpT
  split
  · rename_i h
    exact ⟨fun _ => h, fun _ => by decide⟩
  · rename_i h
    split
    · exact ⟨fun h => absurd h (by decide), fun k => absurd k h⟩
    · exact ⟨fun h => absurd h (by decide), fun k => absurd k h⟩
set_option maxRecDepth 20000 in
set_option maxHeartbeats 1000000 in
theorem nanT_any16 (a : ByteArray) (w : World) : Calls Tryz.prog 86 #[.string a] w fun e w' => e = .returned (.bool false) ∧ w' = w := by
  have hne : (a.toList != a.toList) = false := by simp
  go_enter Tryz.func86, Tryz.ntmps86
  go_wp2
  go_ret
  exact ⟨rfl, rfl⟩
set_option maxRecDepth 20000 in
set_option maxHeartbeats 1000000 in
theorem cmpT_any16 (a b : ByteArray) (w : World) : Calls Tryz.prog 67 #[.string a, .string b] w fun e w' => e = .returned (.int .i64 (cmpT a b)) ∧ w' = w := by
  go_enter Tryz.func67, Tryz.ntmps67
  go_wp2_with fail
  refine (nanT_any16 a w).mono ?_
  rintro e w' ⟨rfl, hw⟩
  rw [hw]
  clear hw w'
  go_wp2_with fail
  refine (nanT_any16 b w).mono ?_
  rintro e w' ⟨rfl, hw⟩
  rw [hw]
  clear hw w'
  cases h1 : Kq.lt a b with
  | true =>
    have HA : Hid (cmpT a b = -1) := (show cmpT a b = -1 by unfold cmpT; rw [if_pos h1])
    unfold Kq.lt at h1
    go_wp2
    go_ret
    exact ⟨by rw [HA.out]; rfl, rfl⟩
  | false =>
    cases h2 : Kq.lt b a with
    | true =>
      have HA : Hid (cmpT a b = 1) := (show cmpT a b = 1 by unfold cmpT; rw [h1, if_neg (by simp), if_pos h2])
      have h3 : (a.toList == b.toList) = false := by
        cases e : (a.toList == b.toList) with
        | false => rfl
        | true => rw [bytes_eq e, Kq.lt_irrefl] at h2; cases h2
      unfold Kq.lt at h1 h2
      go_wp2
      go_ret
      exact ⟨by rw [HA.out]; rfl, rfl⟩
    | false =>
      have HA : Hid (cmpT a b = 0) := (show cmpT a b = 0 by unfold cmpT; rw [h1, h2, if_neg (by simp), if_neg (by simp)])
      have h3 : (a.toList == b.toList) = true := by rw [Kq.lt_total h1 h2]; simp
      unfold Kq.lt at h1 h2
      go_wp2
      go_ret
      exact ⟨by rw [HA.out]; rfl, rfl⟩
set_option maxRecDepth 20000 in
set_option maxHeartbeats 2000000 in
theorem cmpMv_any16 (x : Tb.Mv) (t : ByteArray) (w : World) : Calls Tryz.prog 66 #[mv x, .string t] w fun e w' => e = .returned (.int .i64 (cmpT x.top t)) ∧ Below w.heap.size w w' := by
  have HB : Hid (Below w.heap.size w (w.alloc (.cells #[.string x.top, .int .i64 x.shard] 98))) := (Below.refl _ w).alloc (Nat.le_refl _) _
  unfold mv
  go_enter Tryz.func66, Tryz.ntmps66
  go_wp2_with fail
  refine (cmpT_any16 _ _ _).mono ?_
  rintro e w' ⟨rfl, hw⟩
  rw [hw]
  clear hw w'
  go_wp2
  go_ret
  exact ⟨rfl, HB.out⟩
theorem Tb.sum_snoc (xs : List UInt8) (x : UInt8) : Tb.sum (xs ++ [x]) = Tb.sum xs + x.toNat := by unfold Tb.sum; rw [List.foldl_append]; rfl
theorem Tb.sum_le : ∀ (xs : List UInt8), Tb.sum xs ≤ 255 * xs.length := fun xs => by
  have key : ∀ (l : List UInt8) (a : Nat), l.foldl (fun n c => n + c.toNat) a ≤ a + 255 * l.length := fun l => by
    induction l with
    | nil => intro a; simp
    | cons x l ih =>
      intro a
      have h1 := ih (a + x.toNat)
      have h2 := x.toNat_lt
      rw [List.foldl_cons, List.length_cons]
      omega
  have := key xs 0
  simpa [Tb.sum] using this
set_option maxRecDepth 20000 in
set_option maxHeartbeats 2000000 in
theorem sum_any16 (t : ByteArray) (w : World) (ht : t.size ≤ 1000) : Calls Tryz.prog 47 #[.string t] w fun e w' => e = .returned (.int .i64 (Tb.sum t.data.toList : Int)) ∧ w' = w := by
  have ht2 : (t.size : Int) ≤ 1000 := by omega
  go_enter Tryz.func47, Tryz.ntmps47
  go_wp2
  go_loop [3, 7] (fun n i => ∃ k : Nat, k ≤ t.size ∧ i = .int .i64 (k : Int) ∧ n = .int .i64 (Tb.sum (t.data.toList.take k) : Int)) (fun _ i => t.size - (intOf i).toNat)
  case atStart => exact ⟨0, Nat.zero_le _, rfl, rfl⟩
  case round =>
    obtain ⟨k, hk, rfl, rfl⟩ := hrel
    by_cases hlt : k < t.size
    · have hlt' : (k : Int) < t.size := by omega
      have HS : Hid (Tb.sum (t.data.toList.take (k + 1)) = Tb.sum (t.data.toList.take k) + (t[k]).toNat ∧ Tb.sum (t.data.toList.take k) ≤ 255 * 1000) := by
        refine ⟨by rw [Pa.take_snoc t k hlt, Tb.sum_snoc], ?_⟩
        have := Tb.sum_le (t.data.toList.take k)
        rw [List.length_take] at this
        omega
      obtain ⟨z, hz⟩ : ∃ z : Nat, z = Tb.sum (t.data.toList.take k) := ⟨_, rfl⟩
      have HZ : Hid (z = Tb.sum (t.data.toList.take k)) := hz
      rw [← hz]
      clear hz
      go_wp2
      go_round
      case rel =>
        refine ⟨k + 1, by omega, by go_num, ?_⟩
        rw [HS.out.1, ← HZ.out]
        have h1 := (t[k]).toNat_lt
        have h2 := HS.out.2
        rw [← HZ.out] at h2
        have e1 : wrap64 ((t[k]).toNat : Int) = ((t[k]).toNat : Int) := by unfold wrap64; omega
        have e2 : wrap64 ((z : Int) + ((t[k]).toNat : Int)) = (z : Int) + ((t[k]).toNat : Int) := by unfold wrap64; omega
        rw [e1, e2]
        simp
      case measure => simp [intOf]; omega
    · have HE : Hid (Tb.sum (t.data.toList.take k) = Tb.sum t.data.toList) := (show Tb.sum (t.data.toList.take k) = Tb.sum t.data.toList by rw [List.take_of_length_le (by rw [Pa.sz_list]; omega)])
      go_wp2
      go_ret
      exact ⟨by rw [HE.out]; rfl, rfl⟩
set_option maxRecDepth 20000 in
set_option maxHeartbeats 2000000 in
theorem isName_any16 (t : ByteArray) (w : World) (hS : Pa.Std w) (ht : t.size ≤ maxLen) : Calls Tryz.prog 50 #[.string t] w fun e w' => e = .returned (.bool (Tb.isName t)) ∧ Below w.heap.size w w' := by
  obtain ⟨g, hg⟩ : ∃ g, g = w.heap.size := ⟨_, rfl⟩
  have H1 : Hid (Below w.heap.size w (w.alloc (.cells #[.string t] 9)) ∧ Cb (w.alloc (.cells #[.string t] 9)) g [.string t] 9 ∧ Pa.Std (w.alloc (.cells #[.string t] 9))) := by
    have hb := (Below.refl _ w).alloc (Nat.le_refl _) (.cells #[.string t] 9)
    rw [hg]
    exact ⟨hb, Cb.made w [.string t] _, hS.below hb⟩
  have HT : Hid (t.size ≤ maxLen) := ht
  clear hS ht
  go_enter Tryz.func50, Tryz.ntmps50
  go_wp2_with fail
  rw [← hg]
  clear hg
  generalize (w.alloc (.cells #[.string t] 9)) = w1 at *
  refine (Pa.join_any [t] g 0 1 w1 H1.out.2.2 (by simp) H1.out.2.1.lt (by simp) (fun j x hx => ?_) (fun x hx => ?_)).mono ?_
  · match j, hx with
    | 0, hx => simp at hx; subst hx; exact H1.out.2.1.cell 0
    | (j + 1), hx => simp at hx
  · simp at hx
    subst hx
    exact HT.out
  · rintro e w2 (⟨x, rfl, _, hj, hb⟩ | ⟨rfl, hj, hb⟩)
    · have H2 : Hid (Below w.heap.size w w2 ∧ Tb.isName t = true) := ⟨H1.out.1.trans (hb.mono H1.out.1.size), by rw [← hj]; exact (Tb.join_one t.data.toList).symm⟩
      clear hj hb
      go_wp2
      go_ret
      exact ⟨by rw [H2.out.2]; rfl, H2.out.1⟩
    · have H2 : Hid (Below w.heap.size w w2 ∧ Tb.isName t = false) := ⟨H1.out.1.trans (hb.mono H1.out.1.size), by rw [← hj]; exact (Tb.join_one t.data.toList).symm⟩
      clear hj hb
      go_wp2
      go_ret
      exact ⟨by rw [H2.out.2]; rfl, H2.out.1⟩
end Go.Proofs.YtjimemnkmpapgaaGreatDoor
