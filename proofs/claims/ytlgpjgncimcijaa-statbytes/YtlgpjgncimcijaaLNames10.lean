/- What StatNames answers. -/
import Derived.Test.YtlgpjgncimcijaaLAwake10
import Derived.Test.YtlgpjgncimcijaaRise10
namespace Go.Proofs.Ytlgpjgncimcijaa.Kq
/-- Names were added, m of them. -/
structure Nm (n : Kn) (m : Nat) (seen : List ByteArray) : Prop where
  kids : n.kids = (m : Int)
  cnt : n.cnt = (m : Int)
  next : n.next = (m : Int)
  len : n.names.length = m
  ver : n.ver = 0
  rises : Rises n.names
  mem : ∀ x, x ∈ n.names ↔ x ∈ seen
theorem more_nat {m : Nat} (h : m ≤ 1000) : more (m : Int) = ((m + 1 : Nat) : Int) := by unfold more; rw [if_neg (by omega)]; omega
theorem Nm.start : Nm (new 1 0 ⟨#[]⟩) 0 [] := ⟨rfl, rfl, rfl, rfl, rfl, List.Pairwise.nil, fun _ => Iff.rfl⟩
theorem Nm.yes {n : Kn} {m : Nat} {seen : List ByteArray} (h : Nm n m seen) {s : ByteArray} (hs : has n.names s = false) (hm : m ≤ 1000) : Nm (add n s) (m + 1) (seen ++ [s]) := by
  have hn : s ∉ n.names := fun e => by rw [has_iff.2 e] at hs; cases hs
  rw [add_yes hs]
  refine ⟨by show more n.kids = _; rw [h.kids, more_nat hm], by show ((n.names.length + 1 : Nat) : Int) = _; rw [h.len], by show more n.next = _; rw [h.next, more_nat hm], by show (ins n.names s).length = _; rw [len_ins, h.len], h.ver, rises_ins h.rises hn, fun x => ?_⟩
  show x ∈ ins n.names s ↔ _
  rw [mem_ins, h.mem, List.mem_append, List.mem_singleton]
  exact or_comm
theorem Nm.no {n : Kn} {m : Nat} {seen : List ByteArray} (h : Nm n m seen) {s : ByteArray} (hs : has n.names s = true) : Nm n m (seen ++ [s]) :=
  ⟨h.kids, h.cnt, h.next, h.len, h.ver, h.rises, fun x => by
    rw [List.mem_append, List.mem_singleton, h.mem]
    constructor
    · exact Or.inl
    · rintro (e | e)
      · exact e
      · rw [e]
        exact (h.mem s).1 (has_iff.1 hs)⟩
theorem has_add {n : Kn} {s : ByteArray} : has (add n s).names s = true := by
  cases h : has n.names s with
  | true => rw [add_no h]; exact h
  | false =>
    rw [add_yes h]
    exact has_iff.2 (mem_ins.2 (Or.inl rfl))
/-- r of m names are gone again. -/
structure Nr (n : Kn) (m r : Nat) (l gone : List ByteArray) : Prop where
  kids : n.kids = ((m + r : Nat) : Int)
  cnt : n.cnt = (n.names.length : Int)
  next : n.next = (m : Int)
  len : n.names.length + r = m
  ver : n.ver = 0
  rises : Rises n.names
  mem : ∀ x, x ∈ n.names ↔ x ∈ l ∧ x ∉ gone
theorem Nm.turn {n : Kn} {m : Nat} {l : List ByteArray} (h : Nm n m l) : Nr n m 0 l [] := ⟨h.kids, by rw [h.cnt, h.len], h.next, h.len, h.ver, h.rises, fun x => by rw [h.mem]; simp⟩
theorem Nr.step {n : Kn} {m r : Nat} {l gone : List ByteArray} (h : Nr n m r l gone) (s : ByteArray) (hm : m ≤ 400) : ∃ r', Nr (remove n s) m r' l (gone ++ [s]) := by
  cases hs : has n.names s with
  | false =>
    have hn : s ∉ n.names := fun e => by rw [has_iff.2 e] at hs; cases hs
    rw [remove_no hs]
    refine ⟨r, h.kids, h.cnt, h.next, h.len, h.ver, h.rises, fun x => ?_⟩
    rw [h.mem, List.mem_append, List.mem_singleton]
    constructor
    · rintro ⟨h1, h2⟩
      refine ⟨h1, fun e => ?_⟩
      rcases e with e | e
      · exact h2 e
      · exact hn ((h.mem s).2 (by rw [← e]; exact ⟨h1, h2⟩))
    · rintro ⟨h1, h2⟩
      exact ⟨h1, fun e => h2 (Or.inl e)⟩
  | true =>
    have hn := has_iff.1 hs
    have hl := len_del h.rises hn
    have h4 := h.len
    rw [remove_yes hs]
    refine ⟨r + 1, by show more n.kids = _; rw [h.kids, more_nat (by omega)]; rfl, by show ((n.names.length - 1 : Nat) : Int) = ((del n.names s).length : Int); rw [hl.1], h.next, by show (del n.names s).length + (r + 1) = m; rw [hl.1]; omega, h.ver, rises_del s h.rises, fun x => ?_⟩
    show x ∈ del n.names s ↔ _
    rw [mem_del, h.mem, List.mem_append, List.mem_singleton]
    constructor
    · rintro ⟨⟨h1, h2⟩, h3⟩
      exact ⟨h1, fun e => e.elim h2 h3⟩
    · rintro ⟨h1, h2⟩
      exact ⟨⟨h1, fun e => h2 (Or.inl e)⟩, fun e => h2 (Or.inr e)⟩
theorem Nr.last {n : Kn} {m r : Nat} {l : List ByteArray} (h : Nr n m r l l) : n.names = [] ∧ r = m := by
  have h1 : n.names = [] := by
    cases hn : n.names with
    | nil => rfl
    | cons a t =>
      have := (h.mem a).1 (by rw [hn]; simp)
      exact absurd this.1 this.2
  have h2 := h.len
  rw [h1] at h2
  simp at h2
  exact ⟨h1, h2⟩
end Go.Proofs.Ytlgpjgncimcijaa.Kq
namespace Go.Proofs.Ytlgpjgncimcijaa
open Go.RowKit

theorem ss_own {w : World} {B : Nat} {v : Value} {ss : List ByteArray} (h : w.ownsRow B 9 1 v ss.length (sc ss)) : Ss w v ss := by
  rcases h.2 with ⟨rfl, h0⟩ | ⟨g, cap, cur, rfl, hb, _⟩
  · obtain rfl : ss = [] := List.length_eq_zero_iff.1 h0
    exact ⟨_, _, _, rfl, rfl, fun j z h => by simp at h⟩
  · refine ⟨_, _, _, rfl, rfl, fun j z hz => ⟨g, 0, rfl, ?_⟩⟩
    have hj := (List.getElem?_eq_some_iff.1 hz).1
    rw [Nat.zero_add, h.cellAt j (by omega), sc, List.getElem?_map, hz]
    rfl

set_option maxRecDepth 20000 in
set_option maxHeartbeats 8000000 in
theorem names_any10 (S : Specs10) (u : Value) (l : List ByteArray) (W : World) (hu : Ss W u l) (hl : l.length ≤ maxLen) (hs : ∀ s ∈ l, s.size ≤ maxLen) :
    Calls Try.prog 7 #[u] W fun e w' => e = .returned (.bool true) ∧ Below W.heap.size W w' := by
  have HS : Hid Specs10 := S
  obtain ⟨av, N, c, rfl, hk, hc⟩ := hu
  have HC : Hid ((∀ (j : Nat) s, l[j]? = some s → ∃ g o, av = some ⟨g, o, none⟩ ∧ W.cell? ⟨g, o + j, none⟩ = some (.string s)) ∧ N = l.length ∧ ∀ s ∈ l, s.size ≤ maxLen) := ⟨hc, hk, hs⟩
  have hN1 : N ≤ 9223372036854775807 := by unfold maxLen at hl; omega
  clear S hc hk hl hs
  go_enter Try.func7, Try.ntmps7
  go_wp2_with fail
  refine (awake_any10 HS.out W).mono ?_
  rintro e w0 ⟨rfl, hb⟩
  have B0 : Hid (Below W.heap.size W w0) := hb
  clear hb
  by_cases h40 : 40 < N
  · have h40' : (40 : Int) < (N : Int) := by omega
    go_wp2
    go_ret
    exact ⟨rfl, B0.out⟩
  have h40' : ¬ (40 : Int) < (N : Int) := by omega
  go_wp2_with fail
  refine (HS.out.new 1 0 ⟨#[]⟩ w0 (by decide)).mono ?_
  rintro e x1 ⟨a1, c1, rfl, hr, hb⟩
  obtain ⟨n1, hn⟩ : ∃ n, n = Kq.new 1 0 ⟨#[]⟩ := ⟨_, rfl⟩
  have HN1 : Hid (n1 = Kq.new 1 0 ⟨#[]⟩) := hn
  rw [← hn]
  have hM := mine10_made (n := n1) B0.out hb hr (by rw [hn]; rfl) (by rw [hn]; exact fine_new (by decide))
  obtain ⟨q1, hq1⟩ : ∃ z, z = x1.heap.size := ⟨_, rfl⟩
  rw [← hq1] at hM
  have M1 : Hid (Mine10 W (x1.alloc (.cells [.int .i64 n1.made, .int .i64 n1.changed, .int .i64 n1.ver, .int .i64 n1.kids, .int .i64 n1.owner, .int .i64 n1.len, .int .i64 n1.cnt, .string n1.data, .int .i64 n1.next, .slice a1 0 c1].toArray 27)) q1 n1 (.slice a1 0 c1)) := hM
  clear hM hr hb hn
  unfold kv
  go_upto_region 6 with fail
  rw [← hq1]
  clear hq1
  generalize x1.alloc (.cells [.int .i64 n1.made, .int .i64 n1.changed, .int .i64 n1.ver, .int .i64 n1.kids, .int .i64 n1.owner, .int .i64 n1.len, .int .i64 n1.cnt, .string n1.data, .int .i64 n1.next, .slice a1 0 c1].toArray 27) = w1 at *
  have HM1 : Hid (Kq.Nm n1 0 []) := by
    rw [HN1.out]
    exact Kq.Nm.start
  clear HN1
  go_wp2
  go_loopw [4, 5] (fun s i wr => ∃ (k m : Nat) (n : Kq.Kn) (v : Value), k ≤ N ∧ m ≤ k ∧ s = .int .i64 (m : Int) ∧ i = .int .i64 (k : Int) ∧ Mine10 W wr q1 n v ∧ Kq.Nm n m (l.take k) ∧ ∀ s ∈ l.take k, s.size ≤ 100) (fun _ i _ => N - (intOf i).toNat)
  case atStart => exact ⟨0, 0, n1, _, Nat.zero_le _, Nat.le_refl _, rfl, rfl, M1.out, HM1.out, fun s hs => by simp at hs⟩
  case round =>
    obtain ⟨k, m, n, v, hk, hm, rfl, rfl, hM, hNm, hsz⟩ := hrel
    have HR : Hid (Mine10 W wr q1 n v ∧ Kq.Nm n m (l.take k) ∧ ∀ s ∈ l.take k, s.size ≤ 100) := ⟨hM, hNm, hsz⟩
    clear hM hNm hsz M1 HM1
    by_cases hlt : k < N
    · have hlt' : (k : Int) < (N : Int) := by omega
      have hk0 : (0 : Int) ≤ (k : Int) := by omega
      have hwk : IntKind.wrap .i64 ((k : Int) + 1) = (k : Int) + 1 := by rw [IntKind.wrap_i64]; omega
      have hwm : IntKind.wrap .i64 ((m : Int) + 1) = (m : Int) + 1 := by rw [IntKind.wrap_i64]; omega
      obtain ⟨s, hs⟩ : ∃ s, l[k]? = some s := ⟨_, List.getElem?_eq_getElem (by have := HC.out.2.1; omega)⟩
      have HX : Hid (l.take (k + 1) = l.take k ++ [s] ∧ s ∈ l) := ⟨by rw [List.take_add_one, hs]; rfl, List.mem_of_getElem? hs⟩
      obtain ⟨g, o, hav, lx⟩ := HC.out.1 k s hs
      subst hav
      have lx' : wr.cell? ⟨g, o + k, none⟩ = some (.string s) := Below.kept HR.out.1.below lx
      have HLX : Hid (W.cell? ⟨g, o + k, none⟩ = some (.string s)) := lx
      have hsm : s.size ≤ 9223372036854775807 := by have := HC.out.2.2 s HX.out.2; unfold maxLen at this; omega
      clear hs lx
      by_cases h100 : 100 < s.size
      · have h100' : (100 : Int) < (s.size : Int) := by omega
        go_wp2
        go_ret
        exact ⟨rfl, HR.out.1.below⟩
      have h100' : ¬ (100 : Int) < (s.size : Int) := by omega
      have HSZ : Hid (∀ x ∈ l.take (k + 1), x.size ≤ 100) := fun x hx => by
        rw [HX.out.1] at hx
        rcases List.mem_append.1 hx with hx | hx
        · exact HR.out.2.2 x hx
        · simp at hx
          rw [hx]
          omega
      cases hh : Kq.has n.names s with
      | true =>
        have HH : Hid (Kq.has n.names s = true) := hh
        clear hh
        go_wp2_with fail
        refine (HR.out.1.add HS.out s (by omega) (by rw [HR.out.2.1.len]; omega) false n (by rw [HH.out]; rfl) (Kq.add_no HH.out)).mono ?_
        rintro e w5 ⟨v5, rfl, hM, hmv⟩
        have M5 : Hid (Mine10 W w5 q1 n v5) := hM
        clear hM hmv lx'
        have lx' : w5.cell? ⟨g, o + k, none⟩ = some (.string s) := Below.kept M5.out.below HLX.out
        go_wp2_with fail
        refine (M5.out.add HS.out s (by omega) (by rw [HR.out.2.1.len]; omega) false n (by rw [HH.out]; rfl) (Kq.add_no HH.out)).mono ?_
        rintro e w6 ⟨v6, rfl, hM, hmv⟩
        have M6 : Hid (Mine10 W w6 q1 n v6) := hM
        clear hM hmv lx'
        go_wp2
        go_roundw
        case rel => exact ⟨k + 1, m, n, v6, by omega, by omega, rfl, by go_num, M6.out, by rw [HX.out.1]; exact HR.out.2.1.no HH.out, HSZ.out⟩
        case measure => simp [intOf]; omega
      | false =>
        have HH : Hid (Kq.has n.names s = false) := hh
        clear hh
        obtain ⟨n5, hn5⟩ : ∃ z, z = Kq.add n s := ⟨_, rfl⟩
        have HN5 : Hid (Kq.Nm n5 (m + 1) (l.take (k + 1)) ∧ Kq.has n5.names s = true) := by
          rw [hn5]
          exact ⟨by rw [HX.out.1]; exact HR.out.2.1.yes HH.out (by omega), Kq.has_add⟩
        go_wp2_with fail
        refine (HR.out.1.add HS.out s (by omega) (by rw [HR.out.2.1.len]; omega) true n5 (by rw [HH.out]; rfl) hn5.symm).mono ?_
        rintro e w5 ⟨v5, rfl, hM, hmv⟩
        have M5 : Hid (Mine10 W w5 q1 n5 v5) := hM
        clear hM hmv lx' hn5
        have lx' : w5.cell? ⟨g, o + k, none⟩ = some (.string s) := Below.kept M5.out.below HLX.out
        go_wp2_with fail
        refine (M5.out.add HS.out s (by omega) (by rw [HN5.out.1.len]; omega) false n5 (by rw [HN5.out.2]; rfl) (Kq.add_no HN5.out.2)).mono ?_
        rintro e w6 ⟨v6, rfl, hM, hmv⟩
        have M6 : Hid (Mine10 W w6 q1 n5 v6) := hM
        clear hM hmv lx'
        go_wp2
        go_roundw
        case rel => exact ⟨k + 1, m + 1, n5, v6, by omega, by omega, by go_num, by go_num, M6.out, HN5.out.1, HSZ.out⟩
        case measure => simp [intOf]; omega
    · have hlt' : ¬ (k : Int) < (N : Int) := by omega
      have HE : Hid (Kq.Nm n m l ∧ ∀ s ∈ l, s.size ≤ 100) := by
        have h := HR.out.2
        rw [List.take_of_length_le (by have := HC.out.2.1; omega)] at h
        exact h
      have hmN : m ≤ N := by omega
      obtain ⟨va, vc, ev, hvc, _⟩ := row_form HR.out.1.own.row
      rename_i hjj
      rw [HE.out.1.len] at ev
      subst ev
      have HM : Hid (Mine10 W wr q1 n (.slice va m vc)) := HR.out.1
      clear HR hk hm hlt hvc hjj
      have l9 : wr.cell? ⟨q1, 9, none⟩ = some (.slice va m vc) := HM.out.own.blk.cell 9
      go_wp2_with fail
      refine (rising_any (.slice va m vc) n.names wr (ss_own HM.out.own.row) (by rw [HE.out.1.len]; omega)).mono ?_
      rintro e w5 ⟨R, rfl, hR, hb⟩
      have hRt := hR.2 HM.out.own.rises
      subst hRt
      have M5 : Hid (Mine10 W w5 q1 n (.slice va m vc)) := HM.out.later hb
      clear hb hR l9 HM
      have l3 : w5.cell? ⟨q1, 3, none⟩ = some (.int .i64 (m : Int)) := by rw [M5.out.own.blk.cell 3, ← HE.out.1.kids]; rfl
      have l6 : w5.cell? ⟨q1, 6, none⟩ = some (.int .i64 (m : Int)) := by rw [M5.out.own.blk.cell 6, ← HE.out.1.cnt]; rfl
      have l8 : w5.cell? ⟨q1, 8, none⟩ = some (.int .i64 (m : Int)) := by rw [M5.out.own.blk.cell 8, ← HE.out.1.next]; rfl
      have bm : ((m : Int) != (m : Int)) = false := by simp
      go_wp2
      clear l3 l6 l8
      go_loopw [6] (fun i wr => ∃ (k r : Nat) (n : Kq.Kn) (v : Value), k ≤ N ∧ i = .int .i64 (k : Int) ∧ Mine10 W wr q1 n v ∧ Kq.Nr n m r l (l.take k)) (fun i _ => N - (intOf i).toNat)
      case atStart => exact ⟨0, 0, n, _, Nat.zero_le _, rfl, M5.out, HE.out.1.turn⟩
      case round =>
        obtain ⟨j, r, n6, v6, hj, rfl, hM, hNr⟩ := hrel
        have HR : Hid (Mine10 W wr q1 n6 v6 ∧ Kq.Nr n6 m r l (l.take j)) := ⟨hM, hNr⟩
        clear hM hNr M5
        by_cases hjN : j < N
        · have hjN' : (j : Int) < (N : Int) := by omega
          have hj0 : (0 : Int) ≤ (j : Int) := by omega
          have hwj : IntKind.wrap .i64 ((j : Int) + 1) = (j : Int) + 1 := by rw [IntKind.wrap_i64]; omega
          obtain ⟨s, hs⟩ : ∃ s, l[j]? = some s := ⟨_, List.getElem?_eq_getElem (by have := HC.out.2.1; omega)⟩
          have HX : Hid (l.take (j + 1) = l.take j ++ [s] ∧ s.size ≤ 100) := ⟨by rw [List.take_add_one, hs]; rfl, HE.out.2 s (List.mem_of_getElem? hs)⟩
          obtain ⟨g, o, hav, lx⟩ := HC.out.1 j s hs
          subst hav
          have lx' : wr.cell? ⟨g, o + j, none⟩ = some (.string s) := Below.kept HR.out.1.below lx
          clear hs lx
          go_wp2_with fail
          refine (HR.out.1.remove HS.out s (by have := HX.out.2; omega) (Kq.has n6.names s) (Kq.remove n6 s) rfl rfl).mono ?_
          rintro e w7 ⟨v7, rfl, hM, hmv⟩
          have M7 : Hid (Mine10 W w7 q1 (Kq.remove n6 s) v7) := hM
          obtain ⟨r', hr'⟩ := HR.out.2.step s (by omega)
          have HR' : Hid (Kq.Nr (Kq.remove n6 s) m r' l (l.take (j + 1))) := by
            have h : Kq.Nr (Kq.remove n6 s) m r' l (l.take (j + 1)) := by rw [HX.out.1]; exact hr'
            exact h
          clear hM hmv lx' hr'
          go_wp2
          go_roundw
          case rel => exact ⟨j + 1, r', _, v7, by omega, by go_num, M7.out, HR'.out⟩
          case measure => simp [intOf]; omega
        · have hjN' : ¬ (j : Int) < (N : Int) := by omega
          have HF : Hid (Kq.Nr n6 m r l l ∧ n6.names = [] ∧ r = m) := by
            have h := HR.out.2
            rw [List.take_of_length_le (by have := HC.out.2.1; omega)] at h
            exact ⟨h, h.last⟩
          obtain ⟨va, vc, ev, _, _⟩ := row_form HR.out.1.own.row
          rename_i hj1 hj2
          rw [HF.out.2.1] at ev
          simp only [List.length_nil] at ev
          subst ev
          clear hj1 hj2
          have l9 : wr.cell? ⟨q1, 9, none⟩ = some (.slice va 0 vc) := HR.out.1.own.blk.cell 9
          have l6 : wr.cell? ⟨q1, 6, none⟩ = some (.int .i64 0) := by
            have h1 : n6.cnt = 0 := by rw [HF.out.1.cnt, HF.out.2.1]; rfl
            rw [HR.out.1.own.blk.cell 6, ← h1]
            rfl
          have l3 : wr.cell? ⟨q1, 3, none⟩ = some (.int .i64 (2 * (m : Int))) := by
            have h1 : n6.kids = 2 * (m : Int) := by rw [HF.out.1.kids, HF.out.2.2]; omega
            rw [HR.out.1.own.blk.cell 3, ← h1]
            rfl
          have l8 : wr.cell? ⟨q1, 8, none⟩ = some (.int .i64 (m : Int)) := by rw [HR.out.1.own.blk.cell 8, ← HF.out.1.next]; rfl
          have l2 : wr.cell? ⟨q1, 2, none⟩ = some (.int .i64 0) := by rw [HR.out.1.own.blk.cell 2, ← HF.out.1.ver]; rfl
          have hw2 : IntKind.wrap .i64 (2 * (m : Int)) = 2 * (m : Int) := by rw [IntKind.wrap_i64]; omega
          go_wp2
          go_ret
          exact ⟨rfl, HR.out.1.below⟩
end Go.Proofs.Ytlgpjgncimcijaa
