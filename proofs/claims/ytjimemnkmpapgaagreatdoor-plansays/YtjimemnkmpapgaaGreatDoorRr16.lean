/- The reference's Table: a block of three cells and a row; NewTable, Of. -/
import Derived.Test.YtjimemnkmpapgaaGreatDoorRs16
import Derived.Test.YtjimemnkmpapgaaGreatDoorBo19
import Derived.Test.YtjimemnkmpapgaaGreatDoorLibQ
namespace Go.Proofs.YtjimemnkmpapgaaGreatDoor
open Go.RowKit

theorem infoMr : (Tryz.prog.info? 109).map (fun i => (i.zero, i.size, i.bytes)) = some (some (.agg #[.string ⟨#[]⟩, .int .i64 0]), 2, 24) := by kernel_rfl
structure Lr16 (w : World) (q : Nat) (s : Tb.St) (v : Value) : Prop where
  blk : Cb w q [.int .i64 s.shards, .int .i64 s.version, v] 105
  row : w.ownsRow 0 109 2 v s.l.length (mcs s.l)
def LRb : Rep16 := fun w q s F => ∃ v, Lr16 w q s v ∧ F = Ft16 v q
theorem LRb.lt {w : World} {q : Nat} {s : Tb.St} {F : Nat → Prop} {k : Nat} (h : LRb w q s F) (hk : F k) : k < w.heap.size := by
  obtain ⟨v, h, rfl⟩ := h
  rcases hk with hk | rfl
  · exact (h.row.lt k hk).2
  · exact h.blk.lt
theorem LRb.keep {w w' : World} {q : Nat} {s : Tb.St} {F : Nat → Prop} (h : LRb w q s F) (hk : ∀ k, F k → w'.heap[k]? = w.heap[k]?) : LRb w' q s F := by
  obtain ⟨v, h, rfl⟩ := h
  exact ⟨v, ⟨h.blk.keep (hk q (Or.inr rfl)), row_stays h.row fun k e => hk k (Or.inl e)⟩, rfl⟩
theorem Lr16.later {w w' : World} {q : Nat} {s : Tb.St} {v : Value} (h : Lr16 w q s v) (hb : Below w.heap.size w w') : Lr16 w' q s v := ⟨h.blk.below hb, row_stays h.row fun k hk => hb.block k (h.row.lt k hk).2⟩
/-- Another row in the old one's place. -/
theorem Lr16.put {w w3 : World} {q : Nat} {s : Tb.St} {v v' : Value} {l' : List Tb.Mv} (h : Lr16 w q s v) (hb : Below w.heap.size w w3) (hr : w3.ownsRow w.heap.size 109 2 v' l'.length (mcs l')) :
    Lr16 (w3.setCell ⟨q, 2, none⟩ v') q ⟨s.shards, s.version, l'⟩ v' ∧ Moved w (w3.setCell ⟨q, 2, none⟩ v') (Ft16 v q) (Ft16 v' q) := by
  have hg := grownBy_setCell w3 ⟨q, 2, none⟩ v'
  have hq := h.blk.lt
  have hne : ∀ k, v'.ownBlock = some k → k ≠ q := fun k hk => by have := (hr.lt k hk).1; omega
  refine ⟨⟨(h.blk.below hb).set 2 v', ?_⟩, hg.os.trans hb.os, hg.tape.trans hb.tape, hg.output.trans hb.output, Nat.le_trans hb.size hg.size, fun k hk hF => ?_, fun k hk => ?_⟩
  · have hr2 : w3.ownsRow 0 109 2 v' l'.length (mcs l') := hr.mono (Nat.zero_le _)
    exact row_stays hr2 (fun k hk => RowKit.Below.heap_setCell _ _ _ _ (hne k hk))
  · have e3 := hb.size
    rw [hg.block k (by omega) (fun e => hF (Or.inr (by simpa using e))), hb.block k hk]
  · rcases hk with hk | rfl
    · exact Or.inr (hr.lt k hk).1
    · exact Or.inl (Or.inr rfl)
theorem Lr16.given {w : World} {q g N c p : Nat} {s : Tb.St} {x : Tb.Mv} (h : Lr16 w q s (.slice (some ⟨g, 0, none⟩) N c)) (hN : N = s.l.length) (hx : s.l[p]? = some x) (n : Int) :
    Lr16 (w.setCell ⟨g, p * 2 + 1, none⟩ (.int .i64 n)) q ⟨s.shards, s.version, s.l.set p ⟨x.top, n⟩⟩ (.slice (some ⟨g, 0, none⟩) N c) ∧ Moved w (w.setCell ⟨g, p * 2 + 1, none⟩ (.int .i64 n)) (Ft16 (.slice (some ⟨g, 0, none⟩) N c) q) (Ft16 (.slice (some ⟨g, 0, none⟩) N c) q) := by
  have hg := grownBy_setCell w ⟨g, p * 2 + 1, none⟩ (.int .i64 n)
  have hap := h.blk.apart h.row (by decide)
  refine ⟨⟨h.blk.keep (hg.block q h.blk.lt (fun e => hap e.symm)), ?_⟩, hg.os, hg.tape, hg.output, hg.size, fun k hk hF => hg.block k hk (fun e => hF (Or.inl e.symm)), fun k hk => Or.inl hk⟩
  have hr := h.row
  rw [← hN] at hr
  have h2 := (hr.stored (p * 2 + 1) (.int .i64 n)).1
  rw [mcs_set _ _ _ hx] at h2
  simp only [List.length_set]
  rw [← hN]
  exact h2
theorem Lr16.vers {w : World} {q : Nat} {s : Tb.St} {v : Value} (h : Lr16 w q s v) (z : Int) :
    Lr16 (w.setCell ⟨q, 1, none⟩ (.int .i64 z)) q ⟨s.shards, z, s.l⟩ v ∧ Moved w (w.setCell ⟨q, 1, none⟩ (.int .i64 z)) (Ft16 v q) (Ft16 v q) := by
  have hg := grownBy_setCell w ⟨q, 1, none⟩ (.int .i64 z)
  have hap := h.blk.apart h.row (by decide)
  refine ⟨⟨h.blk.set 1 _, row_stays h.row fun k hk => hg.block k (h.row.lt k hk).2 (fun e => hap (by rw [hk]; simpa using e))⟩, hg.os, hg.tape, hg.output, hg.size, fun k hk hF => hg.block k hk (fun e => hF (Or.inr (by simpa using e))), fun k hk => Or.inl hk⟩
set_option maxRecDepth 20000 in
set_option maxHeartbeats 1000000 in
theorem refNew_any16 (n : Int) (w : World) : Calls Tryz.prog 29 #[.int .i64 n] w fun e w' => ∃ q F, e = .returned (dptr q) ∧ LRb w' q (Tb.new n) F ∧ (∀ k, F k → w.heap.size ≤ k) ∧ Below w.heap.size w w' := by
  have key : Calls Tryz.prog 29 #[.int .i64 n] w fun e w' => e = .returned (dptr w.heap.size) ∧ w' = w.alloc (.cells #[.int .i64 n, .int .i64 1, .slice none 0 0] 105) := by
    go_enter Tryz.func29, Tryz.ntmps29
    go_wp2
    go_ret
    exact ⟨rfl, rfl⟩
  refine key.mono ?_
  rintro e w' ⟨rfl, rfl⟩
  refine ⟨w.heap.size, Ft16 (.slice none 0 0) w.heap.size, rfl, ⟨.slice none 0 0, ⟨Cb.made w [.int .i64 n, .int .i64 1, .slice none 0 0] _, World.ownsRow_nil _ _ _ _⟩, rfl⟩, fun k hk => ?_, (Below.refl _ w).alloc (Nat.le_refl _) _⟩
  rcases hk with hk | rfl
  · cases hk
  · exact Nat.le_refl _
theorem Tb.find_snoc {l : List Tb.Mv} {t : ByteArray} {k : Nat} (h : ∀ x ∈ l.take k, x.top ≠ t) {x : Tb.Mv} (hx : l[k]? = some x) (e : x.top = t) : Tb.own l t = some x.shard := by
  unfold Tb.own
  have h1 : l = l.take k ++ x :: l.drop (k + 1) := (Tb.set_split x hx).2
  rw [h1, List.find?_append]
  have h2 : (l.take k).find? (fun y => decide (y.top = t)) = none := List.find?_eq_none.2 fun y hy => by simpa using h y hy
  rw [h2]
  simp [e]
set_option maxRecDepth 20000 in
set_option maxHeartbeats 4000000 in
theorem refOf_any16 (q : Nat) (s : Tb.St) (F : Nat → Prop) (m : Int) (p : ByteArray) (w : World) (hL : LRb w q s F) (hf : Tb.Fine m s) (hp : p.size ≤ maxLen) :
    Calls Tryz.prog 62 #[dptr q, .string p] w fun e w' => e = .returned (.int .i64 (Tb.of s p)) ∧ Below w.heap.size w w' := by
  obtain ⟨v, h, rfl⟩ := hL
  have H0 : Hid (Lr16 w q s v ∧ Tb.Fine m s) := ⟨h, hf⟩
  cases hg : Pl.goodB p.data.toList with
  | false =>
    have HT : Hid (Calls Tryz.prog 82 #[.string p] w fun e w' => e = .returned (.string ⟨#[]⟩) ∧ Below w.heap.size w w') := Pa.refTop_bad p w hp hg
    have HO : Hid (Tb.of s p = -1) := Tb.of_bad hg
    clear h hf hp hg
    unfold dptr
    go_enter Tryz.func62, Tryz.ntmps62
    go_wp2_with fail
    refine HT.out.mono ?_
    rintro e w1 ⟨rfl, hb⟩
    have HB : Hid (Below w.heap.size w w1) := hb
    clear hb HT
    go_wp2
    go_ret
    exact ⟨by rw [HO.out]; rfl, HB.out⟩
  | true =>
    obtain ⟨t, ht⟩ : ∃ t, t = Tb.topT p := ⟨_, rfl⟩
    have HT : Hid (Calls Tryz.prog 82 #[.string p] w fun e w' => e = .returned (.string t) ∧ Below w.heap.size w w') := by
      refine (Pa.refTop_any p w hg).mono ?_
      rintro e w' ⟨x, rfl, hx, hb⟩
      have e1 : x = Tb.topT p := ByteArray.ext (Array.toList_inj.1 hx)
      rw [ht, e1]
      exact ⟨rfl, hb⟩
    have hsz : 1 ≤ t.size ∧ t.size ≤ 40 := by
      have h1 := Tb.name_len (Tb.top_name hg).1
      rw [ht, ← Pa.sz_list]
      exact h1
    have HO : Hid (Tb.of s p = Tb.whose s t ∧ t.size ≤ 40) := ⟨by unfold Tb.of; rw [if_pos hg, ht], hsz.2⟩
    have hne : t.toList.isEmpty = false := by
      cases e : t.toList.isEmpty with
      | false => rfl
      | true =>
        have h1 := hsz.1
        rw [← Pa.sz_list, ← Lib.toList_data] at h1
        rw [List.isEmpty_iff.1 e] at h1
        simp at h1
    have hts : t.size ≤ 40 := hsz.2
    obtain ⟨N, hN⟩ : ∃ N, N = s.l.length := ⟨_, rfl⟩
    have hN50 : N ≤ 50 := by rw [hN]; exact hf.len
    have hr := h.row
    rw [← hN] at hr
    obtain ⟨a, c, rfl, _, ha⟩ := row_form hr
    have HN : Hid (N = s.l.length ∧ (0 < N → ∃ g, a = some ⟨g, 0, none⟩)) := ⟨hN, ha⟩
    clear h hf hp hg ht hsz hN hr ha
    unfold dptr
    go_enter Tryz.func62, Tryz.ntmps62
    go_wp2_with fail
    refine HT.out.mono ?_
    rintro e w1 ⟨rfl, hb⟩
    have H1 : Hid (Below w.heap.size w w1) := hb
    clear hb HT
    go_wp2
    go_loopw [6] (fun i wx => ∃ k : Nat, k ≤ N ∧ i = .int .i64 (k : Int) ∧ Below w.heap.size w wx ∧ ∀ x ∈ s.l.take k, x.top ≠ t) (fun i _ => N - (intOf i).toNat)
    case atStart => exact ⟨0, Nat.zero_le _, rfl, H1.out, fun x hx => by simp at hx⟩
    case round =>
      obtain ⟨k, hk, rfl, hb, hno⟩ := hrel
      have HW : Hid (Below w.heap.size w wr ∧ ∀ x ∈ s.l.take k, x.top ≠ t) := ⟨hb, hno⟩
      clear hb hno H1
      have c2 : wr.cell? ⟨q, 2, none⟩ = some (.slice a N c) := (H0.out.1.later HW.out.1).blk.cell 2
      by_cases hlt : k < N
      · have hlt' : (k : Int) < (N : Int) := by omega
        have hk0 : (0 : Int) ≤ (k : Int) := by omega
        have hwk : IntKind.wrap .i64 ((k : Int) + 1) = (k : Int) + 1 := by rw [IntKind.wrap_i64]; omega
        obtain ⟨g, hg⟩ := HN.out.2 (by omega)
        subst hg
        obtain ⟨x, hx⟩ : ∃ x, s.l[k]? = some x := ⟨s.l[k]'(by rw [← HN.out.1]; exact hlt), List.getElem?_eq_getElem _⟩
        have HX : Hid (s.l[k]? = some x) := hx
        have hr := (H0.out.1.later HW.out.1).row
        rw [← HN.out.1] at hr
        obtain ⟨r0, r1⟩ := row_at16 hr hx
        clear hx hr
        by_cases hid : x.top = t
        · have hidb : (x.top.toList == t.toList) = true := by rw [hid]; simp
          have HA : Hid (Tb.of s p = x.shard) := (show Tb.of s p = x.shard by
            rw [HO.out.1]
            unfold Tb.whose
            rw [Tb.find_snoc HW.out.2 HX.out hid]
            rfl)
          clear hid
          go_wp2
          go_ret
          exact ⟨by rw [HA.out]; rfl, HW.out.1⟩
        · have hidb : (x.top.toList == t.toList) = false := by
            cases e : (x.top.toList == t.toList) with
            | false => rfl
            | true => exact absurd (bytes_eq e) hid
          have HA : Hid (∀ y ∈ s.l.take (k + 1), y.top ≠ t) := (show ∀ y ∈ s.l.take (k + 1), y.top ≠ t by
            intro y hy
            rw [List.take_add_one, HX.out] at hy
            rcases List.mem_append.1 hy with hy | hy
            · exact HW.out.2 y hy
            · simp at hy
              rw [hy]
              exact hid)
          clear hid
          have HB : Hid (Below w.heap.size w wr) := HW.out.1
          go_wp2
          go_roundw
          case rel => exact ⟨k + 1, by omega, by go_num, HB.out, HA.out⟩
          case measure => simp [intOf]; omega
      · have hlt' : ¬ (k : Int) < (N : Int) := by omega
        have HA : Hid (Tb.of s p = (Tb.sum t.data.toList : Int) % s.shards) := (show Tb.of s p = (Tb.sum t.data.toList : Int) % s.shards by
          rw [HO.out.1]
          unfold Tb.whose
          rw [Tb.own_no (by
            have h := HW.out.2
            rw [List.take_of_length_le (by rw [← HN.out.1]; omega)] at h
            cases e : Tb.has s.l t with
            | false => rfl
            | true =>
              obtain ⟨x, hx, he⟩ := Tb.has_iff.1 e
              exact absurd he (h x hx))]
          rfl)
        have HB : Hid (Below w.heap.size w wr) := HW.out.1
        go_wp2
        clear c2 hlt'
        go_loopw [7, 8] (fun n i wx => ∃ k : Nat, k ≤ t.size ∧ i = .int .i64 (k : Int) ∧ n = .int .i64 (Tb.sum (t.data.toList.take k) : Int) ∧ Below w.heap.size w wx) (fun _ i _ => t.size - (intOf i).toNat)
        case atStart => exact ⟨0, Nat.zero_le _, rfl, rfl, HB.out⟩
        case round =>
          obtain ⟨j, hj, rfl, rfl, hb⟩ := hrel
          have HB2 : Hid (Below w.heap.size w wr) := hb
          clear hb HB
          by_cases hjl : j < t.size
          · have hjl' : (j : Int) < t.size := by omega
            have HS : Hid (Tb.sum (t.data.toList.take (j + 1)) = Tb.sum (t.data.toList.take j) + (t[j]).toNat ∧ Tb.sum (t.data.toList.take j) ≤ 255 * 1000) := by
              refine ⟨by rw [Pa.take_snoc t j hjl, Tb.sum_snoc], ?_⟩
              have := Tb.sum_le (t.data.toList.take j)
              rw [List.length_take] at this
              omega
            obtain ⟨z, hz⟩ : ∃ z : Nat, z = Tb.sum (t.data.toList.take j) := ⟨_, rfl⟩
            have HZ : Hid (z = Tb.sum (t.data.toList.take j)) := hz
            rw [← hz]
            clear hz
            go_wp2
            go_roundw
            case rel =>
              refine ⟨j + 1, by omega, by go_num, ?_, HB2.out⟩
              rw [HS.out.1, ← HZ.out]
              have h1 := (t[j]).toNat_lt
              have h2 := HS.out.2
              rw [← HZ.out] at h2
              have e1 : wrap64 ((t[j]).toNat : Int) = ((t[j]).toNat : Int) := by unfold wrap64; omega
              have e2 : wrap64 ((z : Int) + ((t[j]).toNat : Int)) = (z : Int) + ((t[j]).toNat : Int) := by unfold wrap64; omega
              rw [e1, e2]
              simp
            case measure => simp [intOf]; omega
          · obtain ⟨z, hz⟩ : ∃ z : Nat, z = Tb.sum (t.data.toList.take j) := ⟨_, rfl⟩
            have HZ : Hid (Tb.of s p = (z : Int) % s.shards ∧ 1 ≤ s.shards ∧ s.shards ≤ 4) := ⟨by rw [HA.out, hz, List.take_of_length_le (by rw [Pa.sz_list]; omega)], H0.out.2.sh1, H0.out.2.sh2⟩
            rw [← hz]
            have c0 : wr.cell? ⟨q, 0, none⟩ = some (.int .i64 s.shards) := (H0.out.1.later HB2.out).blk.cell 0
            obtain ⟨n, hn⟩ : ∃ n, n = s.shards := ⟨_, rfl⟩
            rw [← hn] at c0 HZ
            have hn0 : ¬ n = 0 := by have := HZ.out.2.1; omega
            have hn1 : (n == 0) = false := by simp [hn0]
            clear hz hn
            go_wp2
            go_ret
            refine ⟨?_, HB2.out⟩
            rw [HZ.out.1]
            rfl
end Go.Proofs.YtjimemnkmpapgaaGreatDoor
