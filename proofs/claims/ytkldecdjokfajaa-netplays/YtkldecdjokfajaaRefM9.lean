/- Rows of messages, five cells each: what 'append' makes of them; the reference's zero ways. -/
import Derived.Test.YtkldecdjokfajaaSpecs9
import Derived.Test.YtkldecdjokfajaaTakeAt
import Derived.Test.YtkldecdjokfajaaHeld2
import Derived.Maps.AppendAt
import Derived.Laws.AppendOwnNone
namespace Go.Proofs.Ytkldecdjokfajaa
open Go.RowKit

/-- A message and where its numbers and rows lie, as five cells. -/
abbrev Mt := Nq.Ms × Value × Value
def c5 (t : Mt) : List Value := [.int .i64 t.1.fr, .int .i64 t.1.to, .int .i64 t.1.kind, t.2.1, t.2.2]
def cs5 (ts : List Mt) : List Value := ts.flatMap c5
theorem cs5_len : ∀ ts : List Mt, (cs5 ts).length = ts.length * 5
  | [] => rfl
  | t :: ts => by
    have h := cs5_len ts
    unfold cs5 at h ⊢
    rw [List.flatMap_cons, List.length_append, h, List.length_cons]
    show 5 + ts.length * 5 = _
    omega
theorem cs5_app (a b : List Mt) : cs5 (a ++ b) = cs5 a ++ cs5 b := by unfold cs5; rw [List.flatMap_append]
theorem cs5_at : ∀ (ts : List Mt) (j : Nat) (t : Mt) (i : Nat) (u : Value), ts[j]? = some t → (c5 t)[i]? = some u → (cs5 ts)[j * 5 + i]? = some u
  | [], j, t, i, u, h, _ => by simp at h
  | x :: ts, 0, t, i, u, h, hu => by
    simp at h
    subst h
    have hi : i < 5 := (List.getElem?_eq_some_iff.1 hu).1
    unfold cs5
    rw [List.flatMap_cons, List.getElem?_append_left (by show 0 * 5 + i < 5; omega)]
    simpa using hu
  | x :: ts, j + 1, t, i, u, h, hu => by
    have h5 : (c5 x).length = 5 := rfl
    have ih := cs5_at ts j t i u (by simpa using h) hu
    unfold cs5 at ih ⊢
    rw [List.flatMap_cons, List.getElem?_append_right (by rw [h5]; omega), h5, show (j + 1) * 5 + i - 5 = j * 5 + i by omega]
    exact ih
theorem cs5_drop (ts : List Mt) (k : Nat) : (cs5 ts).drop (k * 5) = cs5 (ts.drop k) := by
  by_cases hk : k ≤ ts.length
  · have e : ts = ts.take k ++ ts.drop k := (List.take_append_drop k ts).symm
    have hl : (cs5 (ts.take k)).length = k * 5 := by rw [cs5_len, List.length_take]; congr 1; omega
    conv => lhs; rw [e, cs5_app, ← hl, List.drop_left]
  · rw [List.drop_eq_nil_iff.2 (by rw [cs5_len]; omega), List.drop_eq_nil_iff.2 (by omega)]
    rfl
theorem cs5_take (ts : List Mt) (k : Nat) : (cs5 ts).take (k * 5) = cs5 (ts.take k) := by
  by_cases hk : k ≤ ts.length
  · have e : ts = ts.take k ++ ts.drop k := (List.take_append_drop k ts).symm
    have hl : (cs5 (ts.take k)).length = k * 5 := by rw [cs5_len, List.length_take]; congr 1; omega
    conv => lhs; rw [e, cs5_app, ← hl, List.take_left]
  · rw [List.take_of_length_le (by rw [cs5_len]; omega), List.take_of_length_le (by omega)]
/-- Slices' values. -/
def Sv (v : Value) : Prop := ∃ a n c, v = .slice a n c
def Ok5 (ts : List Mt) : Prop := ∀ t ∈ ts, Sv t.2.1 ∧ Sv t.2.2
theorem one5 {ts : List Mt} (h : Ok5 ts) : ∀ u ∈ cs5 ts, u.oneCell' = true := fun u hu => by
  obtain ⟨t, ht, hc⟩ := List.mem_flatMap.1 hu
  obtain ⟨⟨a1, n1, k1, e1⟩, ⟨a2, n2, k2, e2⟩⟩ := h t ht
  unfold c5 at hc
  rw [e1, e2] at hc
  simp only [List.mem_cons, List.not_mem_nil, or_false] at hc
  rcases hc with rfl | rfl | rfl | rfl | rfl <;> rfl

/-- A slice of messages that is read. -/
def Ms5 (w : World) (u : Value) (ys : List Mt) : Prop := (u = .slice none 0 0 ∧ ys = []) ∨ ∃ ad c, u = .slice (some ad) ys.length c ∧ ∀ j x, (cs5 ys)[j]? = some x → w.cell? (ad.add j) = some x

/-- 'append(l, x...)' of messages, within a drawn region. -/
theorem wp_msgs {o : Oper} {a : Act} {K : Act → World → Prop} {Q : Exit → Act → World → Prop} (e ts : TypeId) (hts : Try.prog.underlying ts = some (.slice e)) (z : Value) (hzc : z.cells.size = 5) (hinfo : (Try.prog.info? e).map (fun i => (i.zero, i.size, i.bytes)) = some (some z, 5, 72)) (s x : Operand)
    (ho : o.op = .call { callee := .builtin .append, args := #[s, x], argTypes := #[ts, ts] })
    (B : Nat) (v u : Value) (n : Nat) (xs ys : List Mt) (w : World) (hs : a.eval s = v) (hx : a.eval x = u) (hown : w.ownsRow B e 5 v n (cs5 xs)) (hB : B ≤ w.heap.size) (hu : Ms5 w u ys) (hy : Ok5 ys) (hN : n + ys.length ≤ 100000)
    (h : ∀ v' w', w'.ownsRow B e 5 v' (n + ys.length) (cs5 (xs ++ ys)) → w.grownBy w' v.ownBlock → (v'.ownBlock = v.ownBlock ∨ v'.ownBlock = some w.heap.size) → K (a.put o.dst v') w') : o.wp Try.prog a w K Q := by
  obtain ⟨i0, hi, hz0, hz1, hz2⟩ := info_parts hinfo
  rcases hu with ⟨rfl, rfl⟩ | ⟨ad, c, rfl, hc⟩
  · have hr := run_append_owned_none (P := Try.prog) (w := w) B ts o.type e i0 5 hts hi v n (cs5 xs) hown
    unfold Oper.wp execOp
    simp only [ho, resolve, invoke, builtin, Sem.run_bind, Sem.run_pure, Result.andThen_ok, List.map_toArray, List.map_cons, List.map_nil, hs, hx, hr]
    exact h v w (by simpa using hown) ⟨rfl, rfl, rfl, Nat.le_refl _, fun _ _ _ => rfl⟩ (Or.inl rfl)
  · obtain ⟨v', w', hr, h2, h3, h4, h5⟩ := run_append_own_at (P := Try.prog) w B ts o.type e i0 z 5 72 hts hi hz0 hz1 hz2 hzc (by decide) v n (cs5 xs) hown ad ys.length c (cs5 ys) (cs5_len ys) hc (one5 hy) (by unfold maxLen; omega) (by omega) hB
    unfold Oper.wp execOp
    simp only [ho, resolve, invoke, builtin, Sem.run_bind, Sem.run_pure, Result.andThen_ok, List.map_toArray, List.map_cons, List.map_nil, hs, hx, hr]
    exact h v' w' (by rw [cs5_app]; exact h2) h3 h5

/-- Are these so many noughts? -/
def okB : List Value → Nat → Bool
  | [], n => n == 0
  | (.bool false) :: l, n + 1 => okB l n
  | _, _ => false
theorem okB_spec : ∀ (l : List Value) (n : Nat), okB l n = true → l = List.replicate n (.bool false)
  | [], n, h => by
    unfold okB at h
    simp at h
    subst h
    rfl
  | v :: l, n, h => by
    cases v with
    | bool b =>
      cases b with
      | false =>
        cases n with
        | zero => simp [okB] at h
        | succ n =>
          have h1 : okB l n = true := by simpa [okB] using h
          rw [List.replicate_succ, ← okB_spec l n h1]
      | true => simp [okB] at h
    | _ => simp [okB] at h
/-- A type's zero value, as cells. -/
def zOf (i : Option TypeInfo) : Array Value := match i with
  | some i => (match i.zero with
    | some (.agg c) => c
    | _ => #[])
  | none => #[]
def isAggZ (i : Option TypeInfo) : Bool := match i with
  | some i => (match i.zero with
    | some (.agg _) => true
    | _ => false)
  | none => false
theorem zero_of {t : TypeId} (h : isAggZ (Try.prog.info? t) = true) (w : World) : (zeroValue t).run Try.prog w = .ok (.agg (zOf (Try.prog.info? t))) w := by
  cases hi : Try.prog.info? t with
  | none => rw [hi] at h; cases h
  | some i =>
    rw [hi] at h
    cases hz : i.zero with
    | none => simp [isAggZ, hz] at h
    | some z =>
      cases z with
      | agg c =>
        simp only [zeroValue, typeInfo]
        simp [go_sem, hi, hz, zOf]
      | _ => simp [isAggZ, hz] at h
/-- All ways whole. -/
def zways : List Value := List.replicate 4096 (.bool false)
theorem zways_at {i : Nat} (h : i < 4096) : zways[i]? = some (.bool false) := by unfold zways; rw [List.getElem?_replicate, if_pos h]
theorem zways_len : zways.length = 4096 := List.length_replicate
def okNet : List Value → Bool
  | (.int .i64 0) :: (.int .i64 0) :: (.slice none 0 0) :: l => okB l 4096
  | _ => false
theorem cells_ways : zOf (Try.prog.info? 40) = zways.toArray := by
  have h : okB (zOf (Try.prog.info? 40)).toList 4096 = true := by kernel_rfl
  have h2 := okB_spec _ _ h
  rw [← Array.toArray_toList (xs := zOf (Try.prog.info? 40)), h2]
  rfl
theorem zero_ways (w : World) : (zeroValue 40).run Try.prog w = .ok (.agg zways.toArray) w := by
  rw [← cells_ways]
  exact zero_of (by kernel_rfl) w
/-- The zero network's cells, from the third on. -/
theorem cells_net : ∃ l, (zOf (Try.prog.info? 42)).toList = (.int .i64 0) :: (.int .i64 0) :: (.slice none 0 0) :: l ∧ l = zways := by
  have h : okNet (zOf (Try.prog.info? 42)).toList = true := by kernel_rfl
  generalize (zOf (Try.prog.info? 42)).toList = L at *
  unfold okNet at h
  split at h
  · rename_i l
    exact ⟨l, rfl, okB_spec _ _ h⟩
  · cases h
theorem zero_net (w : World) : (zeroValue 42).run Try.prog w = .ok (.agg ((.int .i64 0) :: (.int .i64 0) :: (.slice none 0 0) :: zways).toArray) w := by
  obtain ⟨l, h1, h2⟩ := cells_net
  subst h2
  have h := zero_of (t := 42) (by kernel_rfl) w
  rw [← Array.toArray_toList (xs := zOf (Try.prog.info? 42)), h1] at h
  exact h
theorem build_ways (w : World) : (Instr.build 40 #[]).run Try.prog w = .ok (.agg zways.toArray) w := by
  have hz := zero_ways
  generalize zways = Z at *
  unfold Instr.build
  go_simp
theorem build_net (a b : Int) (w : World) : (Instr.build 42 #[(0, .int .i64 a), (1, .int .i64 b)]).run Try.prog w = .ok (.agg ((.int .i64 a) :: (.int .i64 b) :: (.slice none 0 0) :: zways).toArray) w := by
  have hz := zero_net
  have hl := zways_len
  generalize zways = Z at *
  unfold Instr.build
  go_simp
end Go.Proofs.Ytkldecdjokfajaa
