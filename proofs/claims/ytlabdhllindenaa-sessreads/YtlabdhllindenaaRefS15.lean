/- The reference's Sessions: a block of four cells and a row; at, Live, All, Open, Touch, Close, Tick. -/
import Derived.Test.YtlabdhllindenaaApp15
import Derived.Test.YtlabdhllindenaaWTouch15
namespace Go.Proofs.Ytlabdhllindenaa
open Go.RowKit

theorem infoOn : (Try.prog.info? 67).map (fun i => (i.zero, i.size, i.bytes)) = some (some (.agg #[.int .i64 0, .int .i64 0, .int .i64 0]), 3, 24) := by kernel_rfl
structure Rs15 (w : World) (q : Nat) (s : Sq.St) (v : Value) : Prop where
  blk : Cb w q [.int .i64 s.room, .int .i64 s.now, .int .i64 s.next, v] 38
  row : w.ownsRow 0 67 3 v s.l.length (ocs s.l)
def LRe : Rep15 := fun w q s F => ∃ v, Rs15 w q s v ∧ F = Fs15 v q
theorem LRe.lt {w : World} {q : Nat} {s : Sq.St} {F : Nat → Prop} {k : Nat} (h : LRe w q s F) (hk : F k) : k < w.heap.size := by
  obtain ⟨v, h, rfl⟩ := h
  rcases hk with hk | rfl
  · exact (h.row.lt k hk).2
  · exact h.blk.lt
theorem LRe.keep {w w' : World} {q : Nat} {s : Sq.St} {F : Nat → Prop} (h : LRe w q s F) (hk : ∀ k, F k → w'.heap[k]? = w.heap[k]?) : LRe w' q s F := by
  obtain ⟨v, h, rfl⟩ := h
  exact ⟨v, ⟨h.blk.keep (hk q (Or.inr rfl)), row_stays h.row fun k e => hk k (Or.inl e)⟩, rfl⟩
theorem Rs15.later {w w' : World} {q : Nat} {s : Sq.St} {v : Value} (h : Rs15 w q s v) (hb : Below w.heap.size w w') : Rs15 w' q s v := ⟨h.blk.below hb, row_stays h.row fun k hk => hb.block k (h.row.lt k hk).2⟩
/-- Another row in the old one's place. -/
theorem Rs15.put {w w3 : World} {q : Nat} {s : Sq.St} {v v' : Value} {l' : List Sq.One} (h : Rs15 w q s v) (hb : Below w.heap.size w w3) (hr : w3.ownsRow w.heap.size 67 3 v' l'.length (ocs l')) :
    LRe (w3.setCell ⟨q, 3, none⟩ v') q ⟨s.room, s.now, s.next, l'⟩ (Fs15 v' q) ∧ Moved w (w3.setCell ⟨q, 3, none⟩ v') (Fs15 v q) (Fs15 v' q) := by
  have hg := grownBy_setCell w3 ⟨q, 3, none⟩ v'
  have hq := h.blk.lt
  have hne : ∀ k, v'.ownBlock = some k → k ≠ q := fun k hk => by have := (hr.lt k hk).1; omega
  refine ⟨⟨v', ⟨(h.blk.below hb).set 3 v', ?_⟩, rfl⟩, hg.os.trans hb.os, hg.tape.trans hb.tape, hg.output.trans hb.output, Nat.le_trans hb.size hg.size, fun k hk hF => ?_, fun k hk => ?_⟩
  · have hr2 : w3.ownsRow 0 67 3 v' l'.length (ocs l') := hr.mono (Nat.zero_le _)
    exact row_stays hr2 (fun k hk => RowKit.Below.heap_setCell _ _ _ _ (hne k hk))
  · have e3 := hb.size
    rw [hg.block k (by omega) (fun e => hF (Or.inr (by simpa using e))), hb.block k hk]
  · rcases hk with hk | rfl
    · exact Or.inr (hr.lt k hk).1
    · exact Or.inl (Or.inr rfl)
/-- A cell of the block is set. -/
theorem Rs15.set {w : World} {q : Nat} {s s' : Sq.St} {v : Value} (h : Rs15 w q s v) (i : Nat) (u : Value) (hl : Cb (w.setCell ⟨q, i, none⟩ u) q [.int .i64 s'.room, .int .i64 s'.now, .int .i64 s'.next, v] 38) (hs : s'.l = s.l) : Rs15 (w.setCell ⟨q, i, none⟩ u) q s' v ∧ Moved w (w.setCell ⟨q, i, none⟩ u) (Fs15 v q) (Fs15 v q) := by
  have hg := grownBy_setCell w ⟨q, i, none⟩ u
  have hap := h.blk.apart h.row (by decide)
  refine ⟨⟨hl, ?_⟩, hg.os, hg.tape, hg.output, hg.size, fun k hk hF => hg.block k hk (fun e => hF (Or.inr (by simpa using e))), fun k hk => Or.inl hk⟩
  rw [hs]
  exact row_stays h.row fun k hk => hg.block k (h.row.lt k hk).2 (fun e => hap (by rw [hk]; simpa using e))

/-- What at tells: a place, or none. -/
def AtR (l : List Sq.One) (id r : Int) : Prop := (r = -1 ∧ Sq.has l id = false) ∨ ∃ (p : Nat) (x : Sq.One), r = (p : Int) ∧ l[p]? = some x ∧ x.id = id
set_option maxRecDepth 20000 in
set_option maxHeartbeats 4000000 in
theorem refAt_any15 (q : Nat) (s : Sq.St) (v : Value) (m id : Int) (w : World) (h : Rs15 w q s v) (hf : Sq.Fine m s) :
    Calls Try.prog 37 #[dptr q, .int .i64 id] w fun e w' => ∃ r, e = .returned (.int .i64 r) ∧ AtR s.l id r ∧ Below w.heap.size w w' := by
  obtain ⟨N, hN⟩ : ∃ N, N = s.l.length := ⟨_, rfl⟩
  have hr := h.row
  rw [← hN] at hr
  obtain ⟨a, c, rfl, _, ha⟩ := row_form hr
  have hN64 : N ≤ 64 := by rw [hN]; exact hf.len64
  have H0 : Hid (Rs15 w q s (.slice a N c) ∧ N = s.l.length ∧ (0 < N → ∃ g, a = some ⟨g, 0, none⟩)) := ⟨h, hN, ha⟩
  clear h hf hr hN ha
  unfold dptr
  go_enter Try.func37, Try.ntmps37
  go_wp2
  go_loopw [5] (fun i wx => ∃ k : Nat, k ≤ N ∧ i = .int .i64 (k : Int) ∧ Below w.heap.size w wx ∧ ∀ x ∈ s.l.take k, x.id ≠ id) (fun i _ => N - (intOf i).toNat)
  case atStart => exact ⟨0, Nat.zero_le _, rfl, Below.refl _ _, fun x hx => by simp at hx⟩
  case round =>
    obtain ⟨k, hk, rfl, hb, hno⟩ := hrel
    have HW : Hid (Below w.heap.size w wr ∧ ∀ x ∈ s.l.take k, x.id ≠ id) := ⟨hb, hno⟩
    clear hb hno
    have c3 : wr.cell? ⟨q, 3, none⟩ = some (.slice a N c) := (H0.out.1.later HW.out.1).blk.cell 3
    by_cases hlt : k < N
    · have hlt' : (k : Int) < (N : Int) := by omega
      have hk0 : (0 : Int) ≤ (k : Int) := by omega
      have hwk : IntKind.wrap .i64 ((k : Int) + 1) = (k : Int) + 1 := by rw [IntKind.wrap_i64]; omega
      obtain ⟨g, hg⟩ := H0.out.2.2 (by omega)
      subst hg
      obtain ⟨x, hx⟩ : ∃ x, s.l[k]? = some x := ⟨s.l[k]'(by rw [← H0.out.2.1]; exact hlt), List.getElem?_eq_getElem _⟩
      have HX : Hid (s.l[k]? = some x) := hx
      have hr := (H0.out.1.later HW.out.1).row
      rw [← H0.out.2.1] at hr
      obtain ⟨r0, r1, r2⟩ := row_at15 hr hx
      clear hx hr
      by_cases hid : x.id = id
      · have hidb : (x.id == id) = true := by simp [hid]
        have HA : Hid (AtR s.l id (k : Int)) := Or.inr ⟨k, x, rfl, HX.out, hid⟩
        clear hid
        have HB : Hid (Below w.heap.size w wr) := HW.out.1
        go_wp2
        go_ret
        first | exact ⟨_, rfl, HA.out, HB.out⟩ | exact ⟨HA.out, HB.out⟩
      · have hidb : (x.id == id) = false := by simp [hid]
        have HA : Hid (∀ y ∈ s.l.take (k + 1), y.id ≠ id) := (show ∀ y ∈ s.l.take (k + 1), y.id ≠ id by
          intro y hy
          rw [List.take_add_one, HX.out] at hy
          rcases List.mem_append.1 hy with hy | hy
          · exact HW.out.2 y hy
          · simp at hy
            rw [hy]
            exact hid)
        clear hid
        have HB : Hid (Below w.heap.size w wr) := HW.out.1
        go_wp2
        go_roundw
        case rel => exact ⟨k + 1, by omega, by go_num, HB.out, HA.out⟩
        case measure => simp [intOf]; omega
    · have hlt' : ¬ (k : Int) < (N : Int) := by omega
      obtain rfl : k = N := by omega
      have HA : Hid (AtR s.l id (-1)) := Or.inl ⟨rfl, by
        have h := HW.out.2
        rw [List.take_of_length_le (by rw [← H0.out.2.1]; exact Nat.le_refl _)] at h
        cases e : Sq.has s.l id with
        | false => rfl
        | true =>
          obtain ⟨x, hx, he⟩ := Sq.has_iff.1 e
          exact absurd he (h x hx)⟩
      go_wp2
      go_ret
      first | exact ⟨_, rfl, HA.out, HW.out.1⟩ | exact ⟨HA.out, HW.out.1⟩
set_option maxRecDepth 20000 in
set_option maxHeartbeats 4000000 in
theorem refLive_any15 (q : Nat) (s : Sq.St) (F : Nat → Prop) (m id : Int) (w : World) (hL : LRe w q s F) (hf : Sq.Fine m s) :
    Calls Try.prog 27 #[dptr q, .int .i64 id] w fun e w' => e = .returned (.bool (Sq.has s.l id)) ∧ Below w.heap.size w w' := by
  obtain ⟨v, h, rfl⟩ := hL
  have HS : Hid (Calls Try.prog 37 #[dptr q, .int .i64 id] w fun e w' => ∃ r, e = .returned (.int .i64 r) ∧ AtR s.l id r ∧ Below w.heap.size w w') := refAt_any15 q s v m id w h hf
  clear h hf
  unfold dptr at *
  go_enter Try.func27, Try.ntmps27
  go_wp2_with fail
  refine HS.out.mono ?_
  rintro e w' ⟨r, rfl, hA, hb⟩
  have HB : Hid (Below w.heap.size w w') := hb
  clear hb HS
  rcases hA with ⟨rfl, hno⟩ | ⟨p, x, rfl, hx, hid⟩
  · have HN : Hid (Sq.has s.l id = false) := hno
    clear hno
    go_wp2
    go_ret
    exact ⟨by rw [HN.out]; rfl, HB.out⟩
  · have HN : Hid (Sq.has s.l id = true) := Sq.has_iff.2 ⟨x, List.mem_of_getElem? hx, hid⟩
    clear hx hid
    have hp0 : (0 : Int) ≤ (p : Int) := by omega
    go_wp2
    go_ret
    exact ⟨by rw [HN.out]; rfl, HB.out⟩
end Go.Proofs.Ytlabdhllindenaa
