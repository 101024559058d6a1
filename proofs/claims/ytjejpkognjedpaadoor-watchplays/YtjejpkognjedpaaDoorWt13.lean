/- The landed watches: a block of two cells and a row of watches; New, Len, hears, and the order. -/
import Derived.Test.YtjejpkognjedpaaDoorSpecs13
import Derived.Test.YtjejpkognjedpaaDoorShelf
import Derived.Test.YtjejpkognjedpaaDoorTakeAt
import Derived.Test.YtjejpkognjedpaaDoorRowOps
import Derived.BigQuiet
import Derived.Deep.DeepCutAuto
namespace Go.Proofs.YtjejpkognjedpaaDoor
open Go.RowKit

/-- A watch's three cells. -/
def wc (x : Hq.Wt) : List Value := [.int .i64 x.sess, .int .i64 x.kind, .string x.path]
def wv (x : Hq.Wt) : Value := .agg #[.int .i64 x.sess, .int .i64 x.kind, .string x.path]
def wcs (l : List Hq.Wt) : List Value := l.flatMap wc
theorem wcs_len (l : List Hq.Wt) : (wcs l).length = l.length * 3 := by
  unfold wcs
  induction l with
  | nil => rfl
  | cons x l ih => rw [List.flatMap_cons, List.length_append, ih, List.length_cons]; simp only [wc, List.length_cons, List.length_nil]; omega
theorem wcs_app (a b : List Hq.Wt) : wcs (a ++ b) = wcs a ++ wcs b := by unfold wcs; rw [List.flatMap_append]
theorem wcs_one (l : List Hq.Wt) : ∀ u ∈ wcs l, u.oneCell' = true := by
  intro u hu
  obtain ⟨x, _, hx⟩ := List.mem_flatMap.1 hu
  simp only [wc, List.mem_cons, List.not_mem_nil, or_false] at hx
  rcases hx with rfl | rfl | rfl <;> rfl
theorem wcs_cell : ∀ (l : List Hq.Wt) (j : Nat) (x : Hq.Wt) (i : Nat) (u : Value), l[j]? = some x → (wc x)[i]? = some u → (wcs l)[j * 3 + i]? = some u
  | [], j, x, i, u, h, _ => by simp at h
  | y :: l, 0, x, i, u, h, hu => by
    simp at h
    subst h
    have hi : i < 3 := (List.getElem?_eq_some_iff.1 hu).1
    show (wc y ++ wcs l)[0 * 3 + i]? = some u
    rw [List.getElem?_append_left (by simp [wc]; omega)]
    simpa using hu
  | y :: l, j + 1, x, i, u, h, hu => by
    have h3 : (wc y).length = 3 := rfl
    show (wc y ++ wcs l)[(j + 1) * 3 + i]? = some u
    rw [List.getElem?_append_right (by rw [h3]; omega), h3, show (j + 1) * 3 + i - 3 = j * 3 + i by omega]
    exact wcs_cell l j x i u (by simpa using h) hu
theorem infoWt : (Tryd.prog.info? 54).map (fun i => (i.zero, i.size, i.bytes)) = some (some (.agg #[.int .i64 0, .int .i64 0, .string ⟨#[]⟩]), 3, 32) := by kernel_rfl

structure Lw13 (w : World) (q : Nat) (s : Hq.St) (v : Value) : Prop where
  blk : Cb w q [.int .i64 s.room, v] 49
  row : w.ownsRow 0 54 3 v s.l.length (wcs s.l)
/-- The blocks. -/
def Fw13 (v : Value) (q : Nat) : Nat → Prop := fun k => v.ownBlock = some k ∨ k = q
def LWt : Rep13 := fun w q s F => ∃ v, Lw13 w q s v ∧ F = Fw13 v q
theorem LWt.lt {w : World} {q : Nat} {s : Hq.St} {F : Nat → Prop} {k : Nat} (h : LWt w q s F) (hk : F k) : k < w.heap.size := by
  obtain ⟨v, h, rfl⟩ := h
  rcases hk with hk | rfl
  · exact (h.row.lt k hk).2
  · exact h.blk.lt
theorem LWt.keep {w w' : World} {q : Nat} {s : Hq.St} {F : Nat → Prop} (h : LWt w q s F) (hk : ∀ k, F k → w'.heap[k]? = w.heap[k]?) : LWt w' q s F := by
  obtain ⟨v, h, rfl⟩ := h
  exact ⟨v, ⟨h.blk.keep (hk q (Or.inr rfl)), row_stays h.row fun k e => hk k (Or.inl e)⟩, rfl⟩

set_option maxRecDepth 20000 in
set_option maxHeartbeats 1000000 in
theorem new_no13 (n : Int) (w : World) (h : n < 1 ∨ 1000 < n) : Calls Tryd.prog 9 #[.int .i64 n] w fun e w' => e = .returned (.tuple #[.pointer none, .int .i64 1]) ∧ Below w.heap.size w w' := by
  go_enter Tryd.func9, Tryd.ntmps9
  by_cases h1 : n < 1
  · clear h
    go_wp2
    go_ret2
    exact ⟨rfl, Below.refl _ _⟩
  · have h2 : 1000 < n := h.resolve_left h1
    clear h
    go_wp2
    go_ret2
    exact ⟨rfl, Below.refl _ _⟩
set_option maxRecDepth 20000 in
set_option maxHeartbeats 1000000 in
theorem new_yes13 (n : Int) (w : World) (h1 : ¬ n < 1) (h2 : ¬ 1000 < n) : Calls Tryd.prog 9 #[.int .i64 n] w fun e w' => e = .returned (.tuple #[dptr w.heap.size, .int .i64 0]) ∧ w' = w.alloc (.cells #[.int .i64 n, .slice none 0 0] 49) := by
  go_enter Tryd.func9, Tryd.ntmps9
  go_wp2
  go_ret2
  exact ⟨rfl, rfl⟩
theorem new_any13 (n : Int) (w : World) : Calls Tryd.prog 9 #[.int .i64 n] w fun e w' => Below w.heap.size w w' ∧
    if n < 1 ∨ 1000 < n then e = .returned (.tuple #[.pointer none, .int .i64 1]) else ∃ q F, e = .returned (.tuple #[dptr q, .int .i64 0]) ∧ LWt w' q ⟨n, []⟩ F ∧ ∀ k, F k → w.heap.size ≤ k := by
  by_cases h : n < 1 ∨ 1000 < n
  · refine (new_no13 n w h).mono ?_
    rintro e w' ⟨he, hb⟩
    rw [if_pos h]
    exact ⟨hb, he⟩
  · refine (new_yes13 n w (by omega) (by omega)).mono ?_
    rintro e w' ⟨he, rfl⟩
    rw [if_neg h]
    refine ⟨(Below.refl _ w).alloc (Nat.le_refl _) _, w.heap.size, Fw13 (.slice none 0 0) w.heap.size, he, ⟨.slice none 0 0, ⟨Cb.made w [.int .i64 n, .slice none 0 0] _, World.ownsRow_nil _ _ _ _⟩, rfl⟩, fun k hk => ?_⟩
    rcases hk with hk | rfl
    · cases hk
    · exact Nat.le_refl _

set_option maxRecDepth 20000 in
set_option maxHeartbeats 1000000 in
theorem len_any13 (q : Nat) (s : Hq.St) (F : Nat → Prop) (w : World) (h : LWt w q s F) (hf : Hq.Fine s) : Calls Tryd.prog 13 #[dptr q] w fun e w' => e = .returned (.int .i64 (s.l.length : Int)) ∧ Below w.heap.size w w' := by
  obtain ⟨v, h, rfl⟩ := h
  have hl := hf.len
  obtain ⟨N, hN⟩ : ∃ N, N = s.l.length := ⟨_, rfl⟩
  have hr := h.row
  have hb := h.blk
  rw [← hN] at hl hr ⊢
  obtain ⟨a, c, rfl, _, _⟩ := row_form hr
  have c1 : w.cell? ⟨q, 1, none⟩ = some (.slice a N c) := hb.cell 1
  clear h hf hr hb hN
  unfold dptr
  go_enter Tryd.func13, Tryd.ntmps13
  go_wp2
  go_ret
  exact ⟨rfl, Below.refl _ _⟩

set_option maxRecDepth 20000 in
set_option maxHeartbeats 1000000 in
/-- strings.Clone. -/
theorem clone_any13 (s : ByteArray) (w : World) (hs : s.size ≤ 281474976710656) :
    Calls Tryd.prog 22 #[.string s] w fun e w' => e = .returned (.string s) ∧ Below w.heap.size w w' := by
  go_enter Tryd.func22, Tryd.ntmps22
  go_wp2_with fail
  refine (Tryd.stringslite_Clone s w hs).mono ?_
  rintro e w' ⟨rfl, hb⟩
  have HB : Hid (Below w.heap.size w w') := hb
  clear hb
  go_wp2
  go_ret
  exact ⟨rfl, HB.out⟩

set_option maxRecDepth 20000 in
set_option maxHeartbeats 2000000 in
theorem hears_any13 (x : Hq.Wt) (p : ByteArray) (c : Int) (w : World) :
    Calls Tryd.prog 24 #[wv x, .string p, .string (Hq.up p), .int .i64 c] w fun e w' => e = .returned (.tuple #[.int .i64 (Hq.told p c x).kind, .bool (Hq.hears p c x)]) ∧ Below w.heap.size w w' := by
  obtain ⟨u, hu⟩ : ∃ u, u = Hq.up p := ⟨_, rfl⟩
  rw [← hu]
  have HU : Hid (u = Hq.up p) := hu
  clear hu
  have HB : Hid (Below w.heap.size w (w.alloc (.cells #[.int .i64 x.sess, .int .i64 x.kind, .string x.path] 54))) := (Below.refl _ w).alloc (Nat.le_refl _) _
  unfold wv
  go_enter Tryd.func24, Tryd.ntmps24
  by_cases h1 : x.kind = 1
  · have h1b : (x.kind == 1) = true := by simp [h1]
    have HR : Hid ((Hq.told p c x).kind = c ∧ Hq.hears p c x = decide (x.path = p)) := (show (Hq.told p c x).kind = c ∧ Hq.hears p c x = decide (x.path = p) by unfold Hq.told Hq.hears; simp [h1])
    clear h1
    by_cases hp : x.path = p
    · have hpb : (x.path.toList == p.toList) = true := by rw [hp]; simp
      have HP : Hid (decide (x.path = p) = true) := (show decide (x.path = p) = true by simp [hp])
      clear hp
      go_upto_region 2 with fail
      generalize hX : (w.alloc (.cells #[.int .i64 x.sess, .int .i64 x.kind, .string x.path] 54)) = w1 at *
      have c2 : w1.cell? ⟨w.heap.size, 2, none⟩ = some (.string x.path) := by rw [← hX]; exact (Cb.made w (wc x) _).cell 2
      clear hX
      go_quiet (fail)
      have HB2 : Hid (Below w.heap.size w (w1.drewN nq)) := below_drewN HB.out _
      clear c2
      go_wp2
      go_ret2
      exact ⟨by rw [HR.out.1, HR.out.2, HP.out]; rfl, HB2.out⟩
    · have hpb : (x.path.toList == p.toList) = false := by
        cases e : (x.path.toList == p.toList) with
        | false => rfl
        | true => exact absurd (bytes_eq e) hp
      have HP : Hid (decide (x.path = p) = false) := (show decide (x.path = p) = false by simp [hp])
      clear hp
      go_upto_region 2 with fail
      generalize hX : (w.alloc (.cells #[.int .i64 x.sess, .int .i64 x.kind, .string x.path] 54)) = w1 at *
      have c2 : w1.cell? ⟨w.heap.size, 2, none⟩ = some (.string x.path) := by rw [← hX]; exact (Cb.made w (wc x) _).cell 2
      clear hX
      go_quiet (fail)
      have HB2 : Hid (Below w.heap.size w (w1.drewN nq)) := below_drewN HB.out _
      clear c2
      go_wp2
      go_ret2
      exact ⟨by rw [HR.out.1, HR.out.2, HP.out]; rfl, HB2.out⟩
  · have h1b : (x.kind == 1) = false := by simp [h1]
    by_cases hp : x.path = p
    · have hpb : (x.path.toList == p.toList) = true := by rw [hp]; simp
      have HR : Hid ((Hq.told p c x).kind = c ∧ Hq.hears p c x = decide (c = 2)) := (show (Hq.told p c x).kind = c ∧ Hq.hears p c x = decide (c = 2) by unfold Hq.told Hq.hears; simp [h1, hp])
      clear h1 hp
      by_cases hc : c = 2
      · have hcb : (c == 2) = true := by simp [hc]
        have HP : Hid (decide (c = 2) = true) := (show decide (c = 2) = true by simp [hc])
        clear hc
        go_wp2
        go_ret2
        exact ⟨by rw [HR.out.1, HR.out.2, HP.out]; rfl, HB.out⟩
      · have hcb : (c == 2) = false := by simp [hc]
        have HP : Hid (decide (c = 2) = false) := (show decide (c = 2) = false by simp [hc])
        clear hc
        go_wp2
        go_ret2
        exact ⟨by rw [HR.out.1, HR.out.2, HP.out]; rfl, HB.out⟩
    · have hpb : (x.path.toList == p.toList) = false := by
        cases e : (x.path.toList == p.toList) with
        | false => rfl
        | true => exact absurd (bytes_eq e) hp
      have HR : Hid ((Hq.told p c x).kind = 4 ∧ Hq.hears p c x = (decide (x.path = u) && decide (c ≠ 3))) := (show (Hq.told p c x).kind = 4 ∧ Hq.hears p c x = (decide (x.path = u) && decide (c ≠ 3)) by unfold Hq.told Hq.hears; rw [HU.out]; simp [h1, hp])
      clear h1 hp
      by_cases hu : x.path = u
      · have hub : (x.path.toList == u.toList) = true := by rw [hu]; simp
        have HP : Hid (decide (x.path = u) = true) := (show decide (x.path = u) = true by simp [hu])
        clear hu
        by_cases hc : c = 3
        · have hcb : (c != 3) = false := by simp [hc]
          have HC : Hid (decide (c ≠ 3) = false) := (show decide (c ≠ 3) = false by simp [hc])
          clear hc
          go_wp2
          go_ret2
          exact ⟨by rw [HR.out.1, HR.out.2, HP.out, HC.out]; rfl, HB.out⟩
        · have hcb : (c != 3) = true := by simp [hc]
          have HC : Hid (decide (c ≠ 3) = true) := (show decide (c ≠ 3) = true by simp [hc])
          clear hc
          go_wp2
          go_ret2
          exact ⟨by rw [HR.out.1, HR.out.2, HP.out, HC.out]; rfl, HB.out⟩
      · have hub : (x.path.toList == u.toList) = false := by
          cases e : (x.path.toList == u.toList) with
          | false => rfl
          | true => exact absurd (bytes_eq e) hu
        have HP : Hid (decide (x.path = u) = false) := (show decide (x.path = u) = false by simp [hu])
        clear hu
        go_wp2
        go_ret2
        exact ⟨by rw [HR.out.1, HR.out.2, HP.out]; rfl, HB.out⟩

/-- What cmp.Compare tells of two numbers. -/
def cmpZ (a b : Int) : Int := if a < b then -1 else if b < a then 1 else 0
set_option maxRecDepth 20000 in
set_option maxHeartbeats 1000000 in
theorem nanL_any13 (a : Int) (w : World) : Calls Tryd.prog 45 #[.int .i64 a] w fun e w' => e = .returned (.bool false) ∧ w' = w := by
  have hne : (a != a) = false := by simp
  go_enter Tryd.func45, Tryd.ntmps45
  go_wp2
  go_ret
  exact ⟨rfl, rfl⟩
set_option maxRecDepth 20000 in
set_option maxHeartbeats 1000000 in
theorem cmpL_any13 (a b : Int) (w : World) : Calls Tryd.prog 32 #[.int .i64 a, .int .i64 b] w fun e w' => e = .returned (.int .i64 (cmpZ a b)) ∧ w' = w := by
  go_enter Tryd.func32, Tryd.ntmps32
  go_wp2_with fail
  refine (nanL_any13 a w).mono ?_
  rintro e w' ⟨rfl, hw⟩
  rw [hw]
  clear hw w'
  go_wp2_with fail
  refine (nanL_any13 b w).mono ?_
  rintro e w' ⟨rfl, hw⟩
  rw [hw]
  clear hw w'
  by_cases h1 : a < b
  · have HA : Hid (cmpZ a b = -1) := (show cmpZ a b = -1 by unfold cmpZ; rw [if_pos h1])
    go_wp2
    go_ret
    exact ⟨by rw [HA.out]; rfl, rfl⟩
  · by_cases h2 : b < a
    · have HA : Hid (cmpZ a b = 1) := (show cmpZ a b = 1 by unfold cmpZ; rw [if_neg (by omega), if_pos h2])
      go_wp2
      go_ret
      exact ⟨by rw [HA.out]; rfl, rfl⟩
    · have HA : Hid (cmpZ a b = 0) := (show cmpZ a b = 0 by unfold cmpZ; rw [if_neg (by omega), if_neg (by omega)])
      go_wp2
      go_ret
      exact ⟨by rw [HA.out]; rfl, rfl⟩
set_option maxRecDepth 20000 in
set_option maxHeartbeats 1000000 in
theorem nanI_any13 (a : Int) (w : World) : Calls Tryd.prog 46 #[.int .i64 a] w fun e w' => e = .returned (.bool false) ∧ w' = w := by
  have hne : (a != a) = false := by simp
  go_enter Tryd.func46, Tryd.ntmps46
  go_wp2
  go_ret
  exact ⟨rfl, rfl⟩
set_option maxRecDepth 20000 in
set_option maxHeartbeats 1000000 in
theorem cmpI_any13 (a b : Int) (w : World) : Calls Tryd.prog 33 #[.int .i64 a, .int .i64 b] w fun e w' => e = .returned (.int .i64 (cmpZ a b)) ∧ w' = w := by
  go_enter Tryd.func33, Tryd.ntmps33
  go_wp2_with fail
  refine (nanI_any13 a w).mono ?_
  rintro e w' ⟨rfl, hw⟩
  rw [hw]
  clear hw w'
  go_wp2_with fail
  refine (nanI_any13 b w).mono ?_
  rintro e w' ⟨rfl, hw⟩
  rw [hw]
  clear hw w'
  by_cases h1 : a < b
  · have HA : Hid (cmpZ a b = -1) := (show cmpZ a b = -1 by unfold cmpZ; rw [if_pos h1])
    go_wp2
    go_ret
    exact ⟨by rw [HA.out]; rfl, rfl⟩
  · by_cases h2 : b < a
    · have HA : Hid (cmpZ a b = 1) := (show cmpZ a b = 1 by unfold cmpZ; rw [if_neg (by omega), if_pos h2])
      go_wp2
      go_ret
      exact ⟨by rw [HA.out]; rfl, rfl⟩
    · have HA : Hid (cmpZ a b = 0) := (show cmpZ a b = 0 by unfold cmpZ; rw [if_neg (by omega), if_neg (by omega)])
      go_wp2
      go_ret
      exact ⟨by rw [HA.out]; rfl, rfl⟩

/-- The first that is not nought. -/
def or3 (a b c : Int) : Int := if a ≠ 0 then a else if b ≠ 0 then b else c
set_option maxRecDepth 20000 in
set_option maxHeartbeats 2000000 in
theorem or_any13 (a b c : Int) (g : Nat) (w : World) (h0 : w.cell? ⟨g, 0, none⟩ = some (.int .i64 a)) (h1 : w.cell? ⟨g, 1, none⟩ = some (.int .i64 b)) (h2 : w.cell? ⟨g, 2, none⟩ = some (.int .i64 c)) :
    Calls Tryd.prog 31 #[.slice (some ⟨g, 0, none⟩) 3 3] w fun e w' => e = .returned (.int .i64 (or3 a b c)) ∧ w' = w := by
  have HR : Hid ((a ≠ 0 → or3 a b c = a) ∧ (a = 0 → b ≠ 0 → or3 a b c = b) ∧ (a = 0 → b = 0 → or3 a b c = c)) := by
    unfold or3
    exact ⟨fun h => by rw [if_pos h], fun h k => by rw [if_neg (by simpa using h), if_pos k], fun h k => by rw [if_neg (by simpa using h), if_neg (by simpa using k)]⟩
  go_enter Tryd.func31, Tryd.ntmps31
  go_wp2
  go_loopw [8] (fun i wx => ∃ k : Nat, k ≤ 3 ∧ i = .int .i64 (k : Int) ∧ wx = w ∧ (1 ≤ k → a = 0) ∧ (2 ≤ k → b = 0) ∧ (3 ≤ k → c = 0)) (fun i _ => 3 - (intOf i).toNat)
  case atStart => exact ⟨0, by omega, rfl, rfl, fun h => by omega, fun h => by omega, fun h => by omega⟩
  case round =>
    obtain ⟨k, hk, rfl, rfl, k1, k2, k3⟩ := hrel
    match k, hk with
    | 0, _ =>
      clear k1 k2 k3
      by_cases ha : a = 0
      · subst ha
        go_wp2
        go_roundw
        case rel => refine ⟨1, by omega, rfl, ?_, ?_, ?_, ?_⟩ <;> first | trivial | (intros; first | trivial | omega)
        case measure => simp [intOf]
      · have hab : (a != 0) = true := by simp [ha]
        have HA : Hid (or3 a b c = a) := HR.out.1 ha
        clear ha
        go_wp2
        go_ret
        exact ⟨by rw [HA.out]; rfl, rfl⟩
    | 1, _ =>
      have ha := k1 (by omega)
      clear k1 k2 k3
      subst ha
      by_cases hb : b = 0
      · subst hb
        go_wp2
        go_roundw
        case rel => refine ⟨2, by omega, rfl, ?_, ?_, ?_, ?_⟩ <;> first | trivial | (intros; first | trivial | omega)
        case measure => simp [intOf]
      · have hab : (b != 0) = true := by simp [hb]
        have HA : Hid (or3 0 b c = b) := HR.out.2.1 rfl hb
        clear hb
        go_wp2
        go_ret
        exact ⟨by rw [HA.out]; rfl, rfl⟩
    | 2, _ =>
      have ha := k1 (by omega)
      have hb := k2 (by omega)
      clear k1 k2 k3
      subst ha hb
      by_cases hc : c = 0
      · subst hc
        go_wp2
        go_roundw
        case rel => refine ⟨3, by omega, rfl, ?_, ?_, ?_, ?_⟩ <;> first | trivial | (intros; first | trivial | omega)
        case measure => simp [intOf]
      · have hab : (c != 0) = true := by simp [hc]
        have HA : Hid (or3 0 0 c = c) := HR.out.2.2 rfl rfl
        clear hc
        go_wp2
        go_ret
        exact ⟨by rw [HA.out]; rfl, rfl⟩
    | 3, _ =>
      have ha := k1 (by omega)
      have hb := k2 (by omega)
      have hc := k3 (by omega)
      clear k1 k2 k3
      subst ha hb hc
      have HA : Hid (or3 0 0 0 = 0) := HR.out.2.2 rfl rfl
      clear HR
      go_wp2
      go_ret
      exact ⟨by rw [HA.out]; rfl, rfl⟩
end Go.Proofs.YtjejpkognjedpaaDoor
