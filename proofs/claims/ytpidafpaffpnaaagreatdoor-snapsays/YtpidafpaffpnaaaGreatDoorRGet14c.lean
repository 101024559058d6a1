/- The reference's GetTree: of bytes: the tree, or its error. -/
import Derived.Test.YtpidafpaffpnaaaGreatDoorRfC14
import Derived.Test.YtpidafpaffpnaaaGreatDoorRfB14
import Derived.Test.YtpidafpaffpnaaaGreatDoorRfA14
import Derived.Test.YtpidafpaffpnaaaGreatDoorRPut14c
import Derived.Test.YtpidafpaffpnaaaGreatDoorTwo14
import Derived.Test.YtpidafpaffpnaaaGreatDoorWRead14
import Derived.Test.YtpidafpaffpnaaaGreatDoorWJoin14
namespace Go.Proofs.YtpidafpaffpnaaaGreatDoor.Tq
open Kq
theorem len_load14 {t : Tr} {p : ByteArray} {n : Kn} : (load t p n).2.l.length ≤ t.l.length + 1 := by
  unfold load
  split
  · exact Nat.le_succ _
  · split
    · exact Nat.le_succ _
    · split
      · exact Nat.le_succ _
      · show (ins t.l p (Tq.laid n)).length ≤ _
        rw [len_ins]
        exact Nat.le_refl _
/-- An entry that hangs together with the others. -/
def OkE (l : List En) (e : En) : Prop := (∀ u, up e.1 = some u → ∃ m, find l u = some m ∧ m.owner = 0 ∧ nm e.1 ∈ m.names) ∧ ∀ s ∈ e.2.names, ∃ m, find l (sub e.1 s) = some m
theorem jn_ok {t : Tr} (hf : Fine11 t) : Jn t.l ↔ ∀ e ∈ t.l, OkE t.l e :=
  ⟨fun h e he => ⟨fun u hu => h.par e.1 e.2 u (find_of hf.rise he) hu, fun s hs => h.kid e.1 e.2 s (find_of hf.rise he) hs⟩, fun h => ⟨fun _ _ u hp hu => (h _ (find_some hp)).1 u hu, fun _ _ s hp hs => (h _ (find_some hp)).2 s hs⟩⟩
theorem find_has {l : List En} {p : ByteArray} (_hr : Rises (keys l)) : has (keys l) p = true ↔ ∃ m, find l p = some m := by
  rw [has_iff]
  exact ⟨fun h => find_mem h, fun ⟨m, hm⟩ => find_key hm⟩
/-- Each that is read is one more. -/
theorem load_len14 {t : Tr} {p : ByteArray} {n : Kn} (h : (load t p n).1 = 0) : (load t p n).2.l.length = t.l.length + 1 := by
  unfold load at h ⊢
  split
  · rename_i hl
    rw [if_pos hl] at h
    cases h
  · rename_i hl
    rw [if_neg hl] at h
    split
    · rename_i m hm
      rw [hm] at h
      cases h
    · rename_i hm
      rw [hm] at h
      simp only [] at h
      split
      · rename_i hr
        rw [if_pos hr] at h
        cases h
      · exact len_ins _ _ _
theorem rdE_len (k : Nat) : ∀ (ys : List UInt8) (bad : Bool) (last : ByteArray) (t : Tr) (x : Tr × List UInt8 × Bool), rdE k ys bad last t = some x → x.1.l.length = t.l.length + k := by
  induction k with
  | zero =>
    intro ys bad last t x h
    rw [rdE_zero] at h
    obtain rfl := Option.some.inj h
    rfl
  | succ k ih =>
    intro ys bad last t x h
    rw [rdE_succ] at h
    obtain ⟨y, hy, hx⟩ := Option.bind_eq_some_iff.1 h
    have h1 := ih _ _ _ _ x hx
    unfold step1 at hy
    split at hy
    · rename_i hc
      rw [Bool.and_eq_true, decide_eq_true_eq] at hc
      obtain rfl := Option.some.inj hy
      rw [h1, load_len14 hc.2]
      omega
    · cases hy
/-- What is left to be read makes up the whole. -/
structure EqE (N : Nat) (y0 : List UInt8) (b0 : Bool) (k : Nat) (y : List UInt8) (b : Bool) (last : ByteArray) (t : Tr) : Prop where
  eq : rdE N y0 b0 ⟨#[]⟩ ⟨500, []⟩ = rdE k y b last t
theorem EqE.step {N k : Nat} {y0 y z : List UInt8} {b0 b : Bool} {last p : ByteArray} {t t8 : Tr} (h : EqE N y0 b0 k y b last t) (hk : 0 < k) (hs : step1 y b last t = some (p, t8, z)) : EqE N y0 b0 (k - 1) z false p t8 := ⟨by rw [h.eq, rdE_yes hk hs]⟩
/-- A path's place. -/
theorem at_low {l : List En} {p : ByteArray} {n : Kn} (hr : Rises (keys l)) (h : find l p = some n) : l[(Kq.low (keys l) p).length]? = some (p, n) := by
  obtain ⟨m, h1, h2⟩ := at_there hr ((find_has hr).2 ⟨n, h⟩)
  rw [h] at h2
  rw [h1, Option.some.inj h2]
end Go.Proofs.YtpidafpaffpnaaaGreatDoor.Tq
namespace Go.Proofs.YtpidafpaffpnaaaGreatDoor
open Go.RowKit
theorem Re12.room14 {B : Nat} {w : World} {q : Nat} {room : Int} {v : Value} {es : List (Tq.En × Value)} (h : Re12 B w q room v es) (r2 : Int) : Re12 B (w.setCell ⟨q, 0, none⟩ (.int .i64 r2)) q r2 v es := by
  have hm : Moved w (w.setCell ⟨q, 0, none⟩ (.int .i64 r2)) (Fo11 v q) (Fo11 v q) := ⟨rfl, rfl, rfl, by simp [World.setCell], fun k _ hF => RowKit.Below.heap_setCell _ _ _ _ (fun e => hF (Or.inr e)), fun k hk => Or.inl hk⟩
  exact ⟨h.blk.set 0 _, h.hi, row_stays h.row (fun k e => RowKit.Below.heap_setCell _ _ _ _ (fun e2 => h.apart (by rw [e]; exact congrArg some e2))), h.apart, fun x hx => ⟨(h.names x hx).1, (h.names x hx).2.moved hm⟩, h.few⟩
/-- What GetTree leaves. -/
def RGetP14 (w : World) (r : Int × Option Tq.Tr) (e : Ending) (w' : World) : Prop :=
  (r.2 = none → e = .returned (.tuple #[.pointer none, .int .i64 r.1])) ∧
  (∀ t, r.2 = some t → ∃ q, e = .returned (.tuple #[dptr q, .int .i64 r.1]) ∧ Rt11 w' q t.room t.l) ∧ Below w.heap.size w w'
theorem rf_start14 {w : World} {v : Value} {b : List UInt8} (hb : Bs w v b) (hN : b.length ≤ 200000) (t : TypeId) : Pw.Rf (w.alloc (.cells #[v, .int .i64 0, .bool false] t)) w.heap.size v b b false := by
  have hal := (Below.refl w.heap.size w).alloc (Nat.le_refl _) (.cells #[v, .int .i64 0, .bool false] t)
  refine ⟨⟨0, cell?_alloc_at _ _ _ _ _ _ rfl, Nat.zero_le _, fun _ => rfl⟩, cell?_alloc_at _ _ _ _ _ _ rfl, cell?_alloc_at _ _ _ _ _ _ rfl, by simp, by simp, hb.below hal, fun h e => ?_, fun e => (by cases e), by omega⟩
  obtain ⟨g, o, n, c, rfl, _, _, hc⟩ := hb.plain h
  have hlt := World.block_lt_of_cell? w _ (hc 0 b[0] (List.getElem?_eq_getElem h))
  simp only [Value.ownBlock, Option.some.injEq] at e
  simp only [] at hlt
  omega
theorem Bs.keep14 {w w' : World} {v : Value} {xs : List UInt8} (h : Bs w v xs) (hk : 0 < xs.length → ∀ k, v.ownBlock = some k → w'.heap[k]? = w.heap[k]?) : Bs w' v xs := by
  obtain ⟨ao, n, c, rfl, hn, hs⟩ := h
  refine ⟨ao, n, c, rfl, hn, hs.cap, hs.nil, fun ad had j u hu => ?_⟩
  have h0 : 0 < xs.length := by
    have := (List.getElem?_eq_some_iff.1 hu).1
    rw [bc_len] at this
    omega
  have h1 := hs.cells ad had j u hu
  have hb : (ad.add j).block = ad.block := by simp only [Addr.add]; split <;> rfl
  have h2 : w'.heap[(ad.add j).block]? = w.heap[(ad.add j).block]? := by rw [hb]; exact hk h0 ad.block (by rw [had]; rfl)
  rw [World.cell?_of_block h2]
  exact h1
theorem Bs.lt14 {w : World} {v : Value} {xs : List UInt8} (h : Bs w v xs) (h0 : 0 < xs.length) {k : Nat} (hk : v.ownBlock = some k) : k < w.heap.size := by
  obtain ⟨g, o, n, c, rfl, _, _, hc⟩ := h.plain h0
  have hlt := World.block_lt_of_cell? w _ (hc 0 xs[0] (List.getElem?_eq_getElem h0))
  have e : g = k := Option.some.inj hk
  rw [← e]
  exact hlt
theorem rf_lt14 {w : World} {q : Nat} {v : Value} {xs ys : List UInt8} {bad : Bool} (h : Pw.Rf w q v xs ys bad) : q < w.heap.size := World.block_lt_of_cell? w ⟨q, 2, none⟩ h.c2
/-- The reference's Reader beside its tree. -/
structure Rr14 (W w : World) (B qt : Nat) (tv : Value) (es : List (Tq.En × Value)) (qr : Nat) (v : Value) (xs ys : List UInt8) (bad : Bool) : Prop where
  re : Re12 B w qt 500 tv es
  rf : Pw.Rf w qr v xs ys bad
  off : ∀ k, Fo11 tv qt k → k ≠ qr ∧ (0 < xs.length → v.ownBlock ≠ some k)
  nms : ∀ x ∈ es, x.1.2.names ≠ [] → x.2.ownBlock ≠ some qr
  below : Below W.heap.size W w
  hB : W.heap.size ≤ B
  hq : W.heap.size ≤ qr
section
variable {W w w' : World} {B qt qr : Nat} {tv tv' v : Value} {es es' : List (Tq.En × Value)} {xs ys ys' : List UInt8} {bad bad' : Bool}
theorem Rr14.later (h : Rr14 W w B qt tv es qr v xs ys bad) (hb : Below w.heap.size w w') : Rr14 W w' B qt tv es qr v xs ys bad := by
  have hs := h.below.size
  have hrl := rf_lt14 h.rf
  refine ⟨h.re.later hb, ?_, h.off, h.nms, h.below.trans (hb.mono hs), h.hB, h.hq⟩
  refine h.rf.grown (r := w'.heap.size + w.heap.size + 1) ⟨hb.os, hb.tape, hb.output, hb.size, fun k hk _ => hb.block k hk⟩ (by omega) (fun h0 e => ?_)
  have := h.rf.bs.lt14 h0 e
  omega
theorem Rr14.read (h : Rr14 W w B qt tv es qr v xs ys bad) (hr : Pw.Rf w' qr v xs ys' bad') (hg : w.grownBy w' (some qr)) : Rr14 W w' B qt tv es qr v xs ys' bad' := by
  have hm : Moved w w' (fun k => k = qr) (fun k => k = qr) := ⟨hg.os, hg.tape, hg.output, hg.size, fun k hk hF => hg.block k hk (fun e => hF (Option.some.inj e)), fun k hk => Or.inl hk⟩
  refine ⟨h.re.stays hm (fun k hk e => (h.off k hk).1 e) (fun x hx => ⟨(h.re.names x hx).2.nm, fun hne k hk e => h.nms x hx hne (by rw [hk, e])⟩), hr, h.off, h.nms, ?_, h.hB, h.hq⟩
  exact Below.reader h.below hg (Nat.le_refl _) h.hq
theorem Rr14.loaded (h : Rr14 W w B qt tv es qr v xs ys bad) (hre : Re12 B w' qt 500 tv' es') (hm : Moved w w' (Fo11 tv qt) (Fo11 tv' qt)) (hn : ∀ x ∈ es', x ∈ es ∨ ∀ k, x.2.ownBlock = some k → w.heap.size ≤ k) : Rr14 W w' B qt tv' es' qr v xs ys bad := by
  have hrl := rf_lt14 h.rf
  have hblk := hm.block qr hrl (fun e => (h.off qr e).1 rfl)
  have hBW := h.hB
  obtain ⟨t0, g1, g2, g3⟩ := h.rf.pos
  refine ⟨hre, ⟨⟨t0, (World.cell?_of_block hblk).trans g1, g2, g3⟩, (World.cell?_of_block hblk).trans h.rf.c0, (World.cell?_of_block hblk).trans h.rf.c2, (World.frozen?_of_block hblk).trans h.rf.f1, (World.frozen?_of_block hblk).trans h.rf.f2, h.rf.bs.keep14 (fun h0 k hk => hm.block k (h.rf.bs.lt14 h0 hk) (fun e => (h.off k e).2 h0 hk)), h.rf.blk, h.rf.sad, h.rf.few⟩, fun k hk => ?_, fun x hx hne e => ?_, h.below.trans (hm.below h.below.size (fun k hk => Nat.le_trans hBW (h.re.lt hk).1)), hBW, h.hq⟩
  · rcases hm.sub k hk with h1 | h1
    · exact h.off k h1
    · exact ⟨by omega, fun h0 e => by have := h.rf.bs.lt14 h0 e; omega⟩
  · rcases hn x hx with h1 | h1
    · exact h.nms x h1 hne e
    · have := h1 qr e
      omega
end
set_option maxRecDepth 20000 in
set_option maxHeartbeats 16000000 in
theorem refGetT_any14 (v : Value) (ys : List UInt8) (room : Int) (w : World) (hv : Bs w v ys) (hl : ys.length ≤ 200000) :
    Calls Tryz.prog 48 #[v, .int .i64 room] w (RGetP14 w (Tq.getT ys room)) := by
  have HS : Hid (Bs w v ys ∧ ys.length ≤ 200000) := ⟨hv, hl⟩
  obtain ⟨ao, vn, vc, rfl, hx1, hx2⟩ := hv
  clear hl hx1 hx2
  obtain ⟨R, hR⟩ : ∃ R, R = Tq.getT ys room := ⟨_, rfl⟩
  rw [← hR]
  have HR : Hid (R = Tq.getT ys room) := hR
  clear hR
  go_enter Tryz.func48, Tryz.ntmps48
  by_cases hr1 : room < 1
  · have HE : Hid (R = (1, none)) := by
      have h : R = (1, none) := by rw [HR.out]; exact Tq.get_one (Or.inl hr1) ys
      exact h
    go_wp2
    go_ret2
    rw [HE.out]
    exact ⟨fun _ => rfl, fun t ht => (by cases ht), Below.refl _ _⟩
  by_cases hr2 : 500 < room
  · have HE : Hid (R = (1, none)) := by
      have h : R = (1, none) := by rw [HR.out]; exact Tq.get_one (Or.inr hr2) ys
      exact h
    go_wp2
    go_ret2
    rw [HE.out]
    exact ⟨fun _ => rfl, fun t ht => (by cases ht), Below.refl _ _⟩
  have HRM : Hid (1 ≤ room ∧ room ≤ 500) := ⟨by omega, by omega⟩
  obtain ⟨qr, hqr⟩ : ∃ z, z = w.heap.size := ⟨_, rfl⟩
  have H1 : Hid (Pw.Rf (w.alloc (.cells #[.slice ao vn vc, .int .i64 0, .bool false] 143)) qr (.slice ao vn vc) ys ys false ∧ Below w.heap.size w (w.alloc (.cells #[.slice ao vn vc, .int .i64 0, .bool false] 143)) ∧ w.heap.size ≤ qr) := ⟨by rw [hqr]; exact rf_start14 HS.out.1 HS.out.2 _, (Below.refl _ w).alloc (Nat.le_refl _) _, by omega⟩
  go_upto_region 4 with fail
  rw [← hqr]
  clear hqr
  generalize w.alloc (.cells #[.slice ao vn vc, .int .i64 0, .bool false] 143) = w1 at *
  go_wp2_with fail
  refine (Pw.fCount_any qr 500 (.slice ao vn vc) ys ys false w1 H1.out.1).mono ?_
  rintro e w2 ⟨rfl, hrf, hg⟩
  obtain ⟨c0, hc0⟩ : ∃ z, z = (Pk.rC 500 ys false).1 := ⟨_, rfl⟩
  obtain ⟨y0, hy0⟩ : ∃ z, z = (Pk.rC 500 ys false).2.1 := ⟨_, rfl⟩
  obtain ⟨b0, hb0⟩ : ∃ z, z = (Pk.rC 500 ys false).2.2 := ⟨_, rfl⟩
  have hci := rC_in10 500 ys false (by decide)
  obtain ⟨N, hN⟩ : ∃ N : Nat, N = c0.toNat := ⟨_, rfl⟩
  have hcN : c0 = (N : Int) := by rw [hN]; omega
  have HN : Hid (Tq.rdT ys = (Tq.rdE N y0 b0 ⟨#[]⟩ ⟨500, []⟩).bind fun x => if (!x.2.2 && x.2.1.isEmpty) = true then some x.1 else none) := by
    have h : Tq.rdT ys = (Tq.rdE N y0 b0 ⟨#[]⟩ ⟨500, []⟩).bind fun x => if (!x.2.2 && x.2.1.isEmpty) = true then some x.1 else none := by
      rw [hN, hc0, hy0, hb0]
      rfl
    exact h
  have hN5 : N ≤ 500 := by omega
  rw [← hc0, hcN]
  rw [← hy0, ← hb0] at hrf
  have H2 : Hid (Pw.Rf w2 qr (.slice ao vn vc) ys y0 b0 ∧ Below w.heap.size w w2 ∧ w.heap.size ≤ qr) := ⟨hrf, Below.reader H1.out.2.1 hg (Nat.le_refl _) H1.out.2.2, H1.out.2.2⟩
  clear hrf hg hc0 hy0 hb0 hci hN hcN H1
  obtain ⟨qt, hqt⟩ : ∃ z, z = w2.heap.size := ⟨_, rfl⟩
  have H3 : Hid (Rr14 w (w2.alloc (.cells #[.int .i64 500, .slice none 0 0] 31)) w2.heap.size qt (.slice none 0 0) [] qr (.slice ao vn vc) ys y0 b0) := by
    have hba := (Below.refl _ w2).alloc (Nat.le_refl _) (.cells #[.int .i64 500, .slice none 0 0] 31)
    have hrl := rf_lt14 H2.out.1
    refine ⟨⟨by rw [hqt]; exact Cb.made w2 _ _, by omega, World.ownsRow_nil _ _ _ _, by simp [Value.ownBlock], fun x hx => (by cases hx), fun x hx => (by cases hx)⟩, ?_, fun k hk => ?_, fun x hx => (by cases hx), H2.out.2.1.trans (hba.mono H2.out.2.1.size), H2.out.2.1.size, H2.out.2.2⟩
    · refine H2.out.1.grown (r := w2.heap.size + 1 + qr) ⟨hba.os, hba.tape, hba.output, hba.size, fun k hk _ => hba.block k hk⟩ (by omega) (fun h0 e => ?_)
      have := H2.out.1.bs.lt14 h0 e
      omega
    · rcases hk with hk | hk
      · cases hk
      · exact ⟨by omega, fun h0 e => by have := H2.out.1.bs.lt14 h0 e; omega⟩
  obtain ⟨B, hB⟩ : ∃ z, z = w2.heap.size := ⟨_, rfl⟩
  rw [← hB] at H3
  go_upto_region 6 with fail
  rw [← hqt]
  clear hqt hB H2
  generalize w2.alloc (.cells #[.int .i64 500, .slice none 0 0] 31) = w3 at *
  go_wp2
  go_loopw [9, 10] (fun ls i wr => ∃ (k : Nat) (last : ByteArray) (y : List UInt8) (b : Bool) (tv : Value) (es : List (Tq.En × Value)), k ≤ N ∧ i = .int .i64 (k : Int) ∧ ls = .string last ∧ Rr14 w wr B qt tv es qr (.slice ao vn vc) ys y b ∧ Fine11 ⟨500, es.map (·.1)⟩ ∧ es.length ≤ k ∧ Tq.EqE N y0 b0 (N - k) y b last ⟨500, es.map (·.1)⟩) (fun _ i _ => N - (intOf i).toNat)
  case atStart => exact ⟨0, ⟨#[]⟩, y0, b0, .slice none 0 0, [], Nat.zero_le _, rfl, rfl, H3.out, fine11_new (by decide), Nat.le_refl _, ⟨rfl⟩⟩
  case round =>
  obtain ⟨k, last, y, b, tv, es, hk, rfl, rfl, hRr, hfi, hel, hE⟩ := hrel
  have H4 : Hid (Rr14 w wr B qt tv es qr (.slice ao vn vc) ys y b ∧ Fine11 ⟨500, es.map (·.1)⟩ ∧ es.length ≤ k ∧ Tq.EqE N y0 b0 (N - k) y b last ⟨500, es.map (·.1)⟩) := ⟨hRr, hfi, hel, hE⟩
  clear hRr hfi hel hE H3
  by_cases hlt : k < N
  · as_aux_lemma =>
      have hlt' : (k : Int) < (N : Int) := by omega
      have hk0 : (0 : Int) ≤ (k : Int) := by omega
      have hwk : IntKind.wrap .i64 ((k : Int) + 1) = (k : Int) + 1 := by rw [IntKind.wrap_i64]; omega
      have HNO : Hid (Tq.step1 y b last ⟨500, es.map (·.1)⟩ = none → R = (3, none)) := fun hs => by
        rw [HR.out]
        refine Tq.get_form (by have := HRM.out; omega) ?_
        rw [HN.out, H4.out.2.2.2.eq, Tq.rdE_no (by omega) hs]
        rfl
      go_wp2_with fail
      refine (Pw.fText_any qr 200 (.slice ao vn vc) ys y b wr H4.out.1.rf).mono ?_
      rintro e w5 ⟨rfl, hrf, hg⟩
      obtain ⟨p, hp⟩ : ∃ p, p = Tq.tb (Pk.rT 200 y b).1 := ⟨_, rfl⟩
      have hp' : (⟨(Pk.rT 200 y b).1.toArray⟩ : ByteArray) = p := hp.symm
      rw [hp']
      have HP : Hid (p = Tq.tb (Pk.rT 200 y b).1 ∧ p.size ≤ maxLen) := by
        refine ⟨hp, ?_⟩
        have h1 := Tq.rT_in 200 y b (by decide)
        rw [hp]
        show (Pk.rT 200 y b).1.toArray.size ≤ maxLen
        simp only [List.size_toArray]
        unfold maxLen
        omega
      have H5 : Hid (Rr14 w w5 B qt tv es qr (.slice ao vn vc) ys (Pk.rT 200 y b).2.1 (Pk.rT 200 y b).2.2) := H4.out.1.read hrf hg
      clear hrf hg hp hp'
      go_wp2_with fail
      refine (refGet_any10 qr (.slice ao vn vc) ys (Pk.rT 200 y b).2.1 (Pk.rT 200 y b).2.2 w5 H5.out.rf).mono ?_
      rintro e w6 ⟨hyes, hno, hg⟩
      by_cases hgood : Kq.Good (Pk.rT 200 y b).2.1 (Pk.rT 200 y b).2.2
      · obtain ⟨ma, mL, mc, rfl, hnm, hrf⟩ := hyes hgood
        obtain ⟨n, hn⟩ : ∃ n, n = (Kq.raw (Pk.rT 200 y b).2.1 (Pk.rT 200 y b).2.2).1 := ⟨_, rfl⟩
        rw [← hn] at hnm ⊢
        have HRw : Hid (Tq.Rw n) := by
          have h := Tq.raw_in (Pk.rT 200 y b).2.1 (Pk.rT 200 y b).2.2
          rw [← hn] at h
          exact h
        obtain ⟨qn, hqn⟩ : ∃ z, z = w6.heap.size := ⟨_, rfl⟩
        have H6 : Hid (Rr14 w (w6.alloc (.cells #[.int .i64 n.made, .int .i64 n.changed, .int .i64 n.ver, .int .i64 n.kids, .int .i64 n.owner, .int .i64 n.len, .int .i64 n.cnt, .string n.data, .int .i64 n.next, .slice ma mL mc] 50)) B qt tv es qr (.slice ao vn vc) ys (Kq.raw (Pk.rT 200 y b).2.1 (Pk.rT 200 y b).2.2).2.1 false ∧ Cb (w6.alloc (.cells #[.int .i64 n.made, .int .i64 n.changed, .int .i64 n.ver, .int .i64 n.kids, .int .i64 n.owner, .int .i64 n.len, .int .i64 n.cnt, .string n.data, .int .i64 n.next, .slice ma mL mc] 50)) qn (k10 n (.slice ma mL mc)) 50 ∧ Nm (w6.alloc (.cells #[.int .i64 n.made, .int .i64 n.changed, .int .i64 n.ver, .int .i64 n.kids, .int .i64 n.owner, .int .i64 n.len, .int .i64 n.cnt, .string n.data, .int .i64 n.next, .slice ma mL mc] 50)) (.slice ma mL mc) n.names) := by
          have hba := (Below.refl _ w6).alloc (Nat.le_refl _) (.cells #[.int .i64 n.made, .int .i64 n.changed, .int .i64 n.ver, .int .i64 n.kids, .int .i64 n.owner, .int .i64 n.len, .int .i64 n.cnt, .string n.data, .int .i64 n.next, .slice ma mL mc] 50)
          exact ⟨(H5.out.read hrf hg).later hba, by rw [hqn]; exact Cb.made w6 (k10 n (.slice ma mL mc)) _, hnm.below hba⟩
        have HG : Hid (Kq.Good (Pk.rT 200 y b).2.1 (Pk.rT 200 y b).2.2 ∧ n = (Kq.raw (Pk.rT 200 y b).2.1 (Pk.rT 200 y b).2.2).1) := ⟨hgood, hn⟩
        clear hyes hno hg hgood hrf hnm hn H5
        unfold kv
        go_upto_region 12 with fail
        rw [← hqn]
        clear hqn
        generalize w6.alloc (.cells #[.int .i64 n.made, .int .i64 n.changed, .int .i64 n.ver, .int .i64 n.kids, .int .i64 n.owner, .int .i64 n.len, .int .i64 n.cnt, .string n.data, .int .i64 n.next, .slice ma mL mc] 50) = w7 at *
        by_cases hle : Kq.lt last p = true
        · have HLE : Hid (Kq.lt last p = true) := hle
          have hle' := leq_no14 hle
          clear hle
          obtain ⟨x, t8, hx⟩ : ∃ x t8, Tq.load ⟨500, es.map (·.1)⟩ p n = (x, t8) := ⟨_, _, rfl⟩
          have HX : Hid (Tq.load ⟨500, es.map (·.1)⟩ p n = (x, t8) ∧ Fine11 t8 ∧ t8.room = 500 ∧ t8.l.length ≤ es.length + 1) := by
            have h := Tq.fine_load14 (p := p) H4.out.2.1 HRw.out
            have h2 := Tq.room_load14 (t := ⟨500, es.map (·.1)⟩) (p := p) (n := n)
            have h3 := Tq.len_load14 (t := ⟨500, es.map (·.1)⟩) (p := p) (n := n)
            rw [hx] at h h2 h3
            exact ⟨hx, h, h2, by simpa using h3⟩
          clear hx
          obtain ⟨d0, d1, d2, d3, d4, d5, d6, d7, d8, d9⟩ := k14_all H6.out.2.1
          go_wp2_with fail
          clear d0 d1 d2 d3 d4 d5 d6 d7 d8 d9
          refine (refLoad_any12 B qt tv 500 es p n ma mL mc w7 H6.out.1.re (by have := H4.out.2.2.1; omega) H4.out.2.1.rise H6.out.2.2 (by have := HRw.out.many; omega) (fun s hs => by have := HRw.out.long s hs; unfold maxLen; omega) HP.out.2).mono ?_
          rintro e w8 ⟨rfl, tv8, es8, hre, hes, hmv, hnew⟩
          rw [HX.out.1] at hes ⊢
          simp only [] at hes ⊢
          have H8 : Hid (Rr14 w w8 B qt tv8 es8 qr (.slice ao vn vc) ys (Kq.raw (Pk.rT 200 y b).2.1 (Pk.rT 200 y b).2.2).2.1 false ∧ es8.map (·.1) = t8.l) := ⟨H6.out.1.loaded hre hmv hnew, hes⟩
          clear hre hes hmv hnew H6
          by_cases hx0 : x = 0
          · have HE : Hid (Tq.EqE N y0 b0 (N - (k + 1)) (Kq.raw (Pk.rT 200 y b).2.1 (Pk.rT 200 y b).2.2).2.1 false p ⟨500, es8.map (·.1)⟩ ∧ Fine11 ⟨500, es8.map (·.1)⟩ ∧ es8.length ≤ k + 1) := by
              have h1 := HP.out.1
              have et : t8 = ⟨500, es8.map (·.1)⟩ := by
                have h9 := HX.out.2.2.1
                rw [H8.out.2]
                cases t8
                simp only [] at h9
                rw [h9]
              have h2 : (Tq.load ⟨500, es.map (·.1)⟩ (Tq.tb (Pk.rT 200 y b).1) (Kq.raw (Pk.rT 200 y b).2.1 (Pk.rT 200 y b).2.2).1) = (x, t8) := by rw [← h1, ← HG.out.2]; exact HX.out.1
              have h3 := Tq.step1_yes (t := ⟨500, es.map (·.1)⟩) (last := last) HG.out.1 (by rw [← h1]; exact HLE.out) (by rw [h2]; exact hx0)
              rw [h2, ← h1] at h3
              generalize (Kq.raw (Pk.rT 200 y b).2.1 (Pk.rT 200 y b).2.2).2.1 = z at h3 ⊢
              have f1 := H4.out.2.2.2.step (by omega) h3
              rw [Nat.sub_sub, et] at f1
              have f2 := HX.out.2.1
              rw [et] at f2
              have f3 : es8.length ≤ k + 1 := by
                have h5 := congrArg List.length H8.out.2
                rw [List.length_map] at h5
                have h6 := HX.out.2.2.2
                have h7 := H4.out.2.2.1
                omega
              exact ⟨f1, f2, f3⟩
            subst hx0
            go_wp2
            go_roundw
            case rel => exact ⟨k + 1, p, _, _, tv8, es8, by omega, by go_num, rfl, H8.out.1, HE.out.2.1, HE.out.2.2, HE.out.1⟩
            case measure => simp [intOf]; omega
          · have HE : Hid (R = (3, none)) := by
              have h1 := HP.out.1
              have h2 : (Tq.load ⟨500, es.map (·.1)⟩ (Tq.tb (Pk.rT 200 y b).1) (Kq.raw (Pk.rT 200 y b).2.1 (Pk.rT 200 y b).2.2).1) = (x, t8) := by rw [← h1, ← HG.out.2]; exact HX.out.1
              have h3 : Tq.step1 y b last ⟨500, es.map (·.1)⟩ = none := Tq.step1_err (by rw [h2]; exact hx0)
              exact HNO.out h3
            have hx0' : (x == 0) = false := by simp [hx0]
            clear hx0
            go_wp2
            go_ret2
            rw [HE.out]
            exact ⟨fun _ => rfl, fun t ht => (by cases ht), H8.out.1.below⟩
        · have HE : Hid (R = (3, none)) := by
            have h0 : Kq.lt last p = false := by simpa using hle
            have h3 : Tq.step1 y b last ⟨500, es.map (·.1)⟩ = none := Tq.step1_low (by rw [← HP.out.1]; exact h0)
            exact HNO.out h3
          have hle' := leq_yes14 (by simpa using hle : Kq.lt last p = false)
          clear hle
          go_wp2
          go_ret2
          rw [HE.out]
          exact ⟨fun _ => rfl, fun t ht => (by cases ht), H6.out.1.below⟩
      · obtain rfl := hno hgood
        have h3 : Tq.step1 y b last ⟨500, es.map (·.1)⟩ = none := Tq.step1_no hgood
        have HE : Hid (R = (3, none)) := HNO.out h3
        clear h3
        have HB6 : Hid (Below w.heap.size w (w6.alloc (.cells #[.int .i64 0, .int .i64 0, .int .i64 0, .int .i64 0, .int .i64 0, .int .i64 0, .int .i64 0, .string ⟨#[]⟩, .int .i64 0, .slice none 0 0] 50))) := by
          have h := Below.reader H5.out.below hg (Nat.le_refl _) H5.out.hq
          exact h.alloc h.size _
        clear hyes hno hg hgood H5
        unfold kv Kq.zero
        go_wp2
        go_ret2
        rw [HE.out]
        exact ⟨fun _ => rfl, fun t ht => (by cases ht), HB6.out⟩
  have hlt' : ¬ (k : Int) < (N : Int) := by omega
  have HE : Hid (Tq.rdT ys = if (!b && y.isEmpty) = true then some ⟨500, es.map (·.1)⟩ else none) := by
    have h : Tq.rdT ys = if (!b && y.isEmpty) = true then some ⟨500, es.map (·.1)⟩ else none := by
      rw [HN.out, H4.out.2.2.2.eq, show N - k = 0 by omega, Tq.rdE_zero, Option.bind_some]
    exact h
  go_wp2_with fail
  refine (Pw.fEnd_any qr (.slice ao vn vc) ys y b wr H4.out.1.rf).mono ?_
  rintro e w5 ⟨rfl, hw⟩
  have hb5 : Below wr.heap.size wr w5 := by
    obtain ⟨nd, rfl⟩ := hw
    exact below_drewN (Below.refl _ _) nd
  have H5 : Hid (Below w.heap.size w w5 ∧ Rt11 w5 qt 500 (es.map (·.1)) ∧ Fine11 ⟨500, es.map (·.1)⟩ ∧ Re12 B w5 qt 500 tv es) := ⟨H4.out.1.below.trans (hb5.mono H4.out.1.below.size), (H4.out.1.re.later hb5).rt, H4.out.2.1, H4.out.1.re.later hb5⟩
  clear hw hb5
  cases hZ : (!b && y.isEmpty) with
  | false =>
    have HY : Hid (R = (3, none)) := by
      have h : R = (3, none) := by
        rw [HR.out]
        refine Tq.get_form (by have := HRM.out; omega) ?_
        rw [HE.out, hZ]
        rfl
      exact h
    clear hZ HE
    go_wp2
    go_ret2
    rw [HY.out]
    exact ⟨fun _ => rfl, fun t ht => (by cases ht), H5.out.1⟩
  | true =>
  have HY : Hid (Tq.rdT ys = some ⟨500, es.map (·.1)⟩) := by
    have h : Tq.rdT ys = some ⟨500, es.map (·.1)⟩ := by rw [HE.out, if_pos hZ]
    exact h
  have HLR : Hid (es.length = N) := by
    have h1 := Tq.rdE_len N y0 b0 ⟨#[]⟩ ⟨500, []⟩ (⟨500, es.map (·.1)⟩, y, b) (by rw [H4.out.2.2.2.eq, show N - k = 0 by omega, Tq.rdE_zero])
    simp only [List.length_nil, Nat.zero_add] at h1
    have h2 : es.length = N := by simpa using h1
    exact h2
  obtain ⟨l, hl⟩ : ∃ l, l = es.map (·.1) := ⟨_, rfl⟩
  have HRE : Hid (Re12 B w5 qt 500 tv es ∧ l = es.map (·.1)) := ⟨H5.out.2.2.2, hl⟩
  have H6 : Hid (Below w.heap.size w w5 ∧ Rt11 w5 qt 500 l ∧ Fine11 ⟨500, l⟩ ∧ Tq.rdT ys = some ⟨500, l⟩) := by rw [hl]; exact ⟨H5.out.1, H5.out.2.1, H5.out.2.2.1, HY.out⟩
  have HBW : Hid (w.heap.size ≤ B) := H4.out.1.hB
  clear hZ HE HY H5 H4 hl hk hlt hlt' HN
  obtain ⟨a, L, c, hcb, hL, hes⟩ := H6.out.2.1
  have HC : Hid (L = l.length ∧ (∀ w', Below w5.heap.size w5 w' → w'.cell? ⟨qt, 1, none⟩ = some (.slice a L c)) ∧ ∀ (j : Nat) e, l[j]? = some e → ∃ g o na nL nc, a = some ⟨g, o, none⟩ ∧ ∀ w', Below w5.heap.size w5 w' → Ss w' (.slice na nL nc) e.2.names ∧ ∀ (i : Nat) u, (e11 e (.slice na nL nc))[i]? = some u → w'.cell? ⟨g, o + j * 11 + i, none⟩ = some u) := ⟨hL, fun w' hb => Below.kept hb ((hcb.cell 1).trans rfl), fun j e he => by
    obtain ⟨g, o, na, nL, nc, h1, h2, _, h4⟩ := hes j e he
    exact ⟨g, o, na, nL, nc, h1, fun w' hb => ⟨h2.below hb, fun i u hu => Below.kept hb (h4 i u hu)⟩⟩⟩
  have hL5 : L ≤ 500 := by have h1 := H6.out.2.2.1.len; have h2 := HC.out.1; simp only [] at h1; omega
  have HAT : Hid (∀ u w', Below w5.heap.size w5 w' → Calls Tryz.prog 54 #[.pointer (some ⟨qt, 0, none⟩), .string u] w' fun e w1 => e = .returned (.tuple #[.int .i64 ((Kq.low (Tq.keys l) u).length : Int), .bool (Kq.has (Tq.keys l) u)]) ∧ Below w'.heap.size w' w1) := fun u w' hb => refAt_any12 qt 500 l u w' (H6.out.2.1.later hb) (by have := HC.out.1; omega) H6.out.2.2.1.rise
  have HNO : Hid (∀ e ∈ l, ¬ Tq.OkE l e → R = (3, none)) := fun e he hne => by
    rw [HR.out]
    refine Tq.get_apart (by have := HRM.out; omega) H6.out.2.2.2 (fun h => hne ?_)
    have h1 := (Tq.join_iff H6.out.2.2.1).1 h
    exact (Tq.jn_ok H6.out.2.2.1).1 h1 e he
  clear hcb hL hes
  go_wp2
  go_loopw [14] (fun i wr => ∃ k : Nat, k ≤ L ∧ i = .int .i64 (k : Int) ∧ (∀ e ∈ l.take k, Tq.OkE l e) ∧ Below w5.heap.size w5 wr) (fun i _ => L - (intOf i).toNat)
  case atStart => exact ⟨0, Nat.zero_le _, rfl, fun e he => (by simp at he), Below.refl _ _⟩
  case round =>
  obtain ⟨k, hk, rfl, hok, hb⟩ := hrel
  have H7 : Hid ((∀ e ∈ l.take k, Tq.OkE l e) ∧ Below w5.heap.size w5 wr) := ⟨hok, hb⟩
  clear hok hb
  have c1 := HC.out.2.1 wr H7.out.2
  by_cases hlt : k < L
  · as_aux_lemma =>
      have hlt' : (k : Int) < (L : Int) := by omega
      have hk0 : (0 : Int) ≤ (k : Int) := by omega
      have hwk : IntKind.wrap .i64 ((k : Int) + 1) = (k : Int) + 1 := by rw [IntKind.wrap_i64]; omega
      obtain ⟨e, he⟩ : ∃ e, l[k]? = some e := ⟨_, List.getElem?_eq_getElem (by have := HC.out.1; omega)⟩
      obtain ⟨p, n⟩ := e
      obtain ⟨g, o, na, nL, nc, hag, hcell⟩ := HC.out.2.2 k (p, n) he
      subst hag
      have hN := H6.out.2.2.1.nodes _ (List.mem_of_getElem? he)
      have HE : Hid (l[k]? = some (p, n) ∧ (p, n) ∈ l ∧ Pl.goodB p.data.toList = true ∧ Node11 n ∧ p.size ≤ 200 ∧ ∀ w', Below w5.heap.size w5 w' → Ss w' (.slice na nL nc) n.names ∧ ∀ (i : Nat) u, (e11 (p, n) (.slice na nL nc))[i]? = some u → w'.cell? ⟨g, o + k * 11 + i, none⟩ = some u) := ⟨he, List.mem_of_getElem? he, hN.1, hN.2, Tq.len_good hN.1, hcell⟩
      have HnL : Hid (nL = n.names.length) := by
        obtain ⟨_, _, _, e2, h1, _⟩ := (hcell w5 (Below.refl _ _)).1
        simp only [Value.slice.injEq] at e2
        have h2 : nL = n.names.length := by rw [e2.2.1, h1]
        exact h2
      have hnL9 : nL ≤ 900 := by have h1 := HnL.out; have h2 := hN.2.many; simp only [] at h2; omega
      clear he hcell hN
      obtain ⟨i0, i1, i2, i3, i4, i5, i6, i7, i8, i9, i10⟩ := e14_all (HE.out.2.2.2.2.2 wr H7.out.2).2
      go_wp2_with fail
      clear i0 i1 i2 i3 i4 i5 i6 i7 i8 i9 i10 c1
      refine (refUp11 p wr HE.out.2.2.1).mono ?_
      rintro e w6 ⟨hb, hy, hno⟩
      have H8 : Hid (Below w5.heap.size w5 w6) := H7.out.2.trans (hb.mono H7.out.2.size)
      clear hb
      cases hu : Tq.up p with
      | none =>
        as_aux_lemma =>
          obtain rfl := hno hu
          have HPAR : Hid (∀ u, Tq.up p = some u → ∃ m, Tq.find l u = some m ∧ m.owner = 0 ∧ Tq.nm p ∈ m.names) := fun u h => by rw [hu] at h; cases h
          have HIN : Hid (Below w5.heap.size w5 w6) := H8.out
          clear hy hno hu H8
          go_wp2
          go_loopw [21] (fun i wr => ∃ j : Nat, j ≤ nL ∧ i = .int .i64 (j : Int) ∧ (∀ s ∈ n.names.take j, ∃ m, Tq.find l (Tq.sub p s) = some m) ∧ Below w5.heap.size w5 wr) (fun i _ => nL - (intOf i).toNat)
          case atStart => exact ⟨0, Nat.zero_le _, rfl, fun s hs => (by simp at hs), HIN.out⟩
          case round =>
          obtain ⟨j, hj, rfl, hall, hb⟩ := hrel
          have H9 : Hid ((∀ s ∈ n.names.take j, ∃ m, Tq.find l (Tq.sub p s) = some m) ∧ Below w5.heap.size w5 wr) := ⟨hall, hb⟩
          clear hall hb
          have c1 := HC.out.2.1 wr H9.out.2
          obtain ⟨i0, i1, i2, i3, i4, i5, i6, i7, i8, i9, i10⟩ := e14_all (HE.out.2.2.2.2.2 wr H9.out.2).2
          by_cases hjl : j < nL
          · as_aux_lemma =>
              have hjl' : (j : Int) < (nL : Int) := by omega
              have hj0 : (0 : Int) ≤ (j : Int) := by omega
              have hwj : IntKind.wrap .i64 ((j : Int) + 1) = (j : Int) + 1 := by rw [IntKind.wrap_i64]; omega
              obtain ⟨s, hs⟩ : ∃ s, n.names[j]? = some s := ⟨_, List.getElem?_eq_getElem (by have := HnL.out; omega)⟩
              have HSS : Hid (n.names[j]? = some s ∧ s.size ≤ 40) := ⟨hs, Tq.name_in (HE.out.2.2.2.1.long s (List.mem_of_getElem? hs))⟩
              obtain ⟨ng, no, hng⟩ : ∃ ng no, na = some ⟨ng, no, none⟩ := by
                obtain ⟨av, _, _, e2, _, hcs⟩ := (HE.out.2.2.2.2.2 wr H9.out.2).1
                obtain ⟨ng, no, h1, _⟩ := hcs j s hs
                simp only [Value.slice.injEq] at e2
                exact ⟨ng, no, by rw [e2.1, h1]⟩
              subst hng
              have HNC : Hid (∀ w', Below w5.heap.size w5 w' → w'.cell? ⟨ng, no + j, none⟩ = some (.string s)) := fun w' hb => by
                obtain ⟨av, _, _, e2, _, hcs⟩ := (HE.out.2.2.2.2.2 w' hb).1
                obtain ⟨g2, o2, h1, h2⟩ := hcs j s HSS.out.1
                simp only [Value.slice.injEq] at e2
                rw [← e2.1] at h1
                simp only [Option.some.injEq, Addr.mk.injEq, and_true] at h1
                rw [h1.1, h1.2]
                exact h2
              have hz3 : ¬ 9223372036854775807 < p.size + 1 := by have := HE.out.2.2.2.2.1; omega
              have hz4 : ¬ 9223372036854775807 < p.size + 1 + s.size := by have := HE.out.2.2.2.2.1; have := HSS.out.2; omega
              have hz5 : (p ++ ⟨#[47]⟩).size = p.size + 1 := by rw [ByteArray.size_append]; rfl
              clear hs
              go_upto_region 31 with fail
              clear c1 i0 i1 i2 i3 i4 i5 i6 i7 i8 i9 i10
              refine wp_region_held_drew (S := fun w' => Below w5.heap.size w5 w') (by kernel_rfl) H9.out.2.drew (fun _ => ?_)
              have HX : Hid (Below w5.heap.size w5 wr.drew) := H9.out.2.drew
              generalize wr.drew = s0 at *
              refine' take_at (i := 0) (d := 149) (v := _) rfl rfl (by kernel_rfl) (by kernel_rfl) (by kernel_rfl) (fun _ _ _ h => h) (Or.inl ⟨by rfl, ?h0⟩) (HX.out) ?_
              case h0 =>
                intro w hSw
                go_simp
                with_reducible rfl
              simp only [List.setIfInBounds_toArray, List.set_cons_zero, List.set_cons_succ]
              refine' take_at (i := 1) (d := 150) (v := _) rfl rfl (by kernel_rfl) (by kernel_rfl) (by kernel_rfl) (fun _ _ _ h => h) (Or.inl ⟨by rfl, ?h1⟩) (HX.out) ?_
              case h1 =>
                intro w hSw
                go_simp
                with_reducible rfl
              simp only [List.setIfInBounds_toArray, List.set_cons_zero, List.set_cons_succ]
              refine' take_at (i := 2) (d := 151) (v := _) rfl rfl (by kernel_rfl) (by kernel_rfl) (by kernel_rfl) (fun _ _ _ h => h) (Or.inl ⟨by rfl, ?h2⟩) (HX.out) ?_
              case h2 =>
                intro w hSw
                have c1 := HC.out.2.1 w hSw
                go_simp
                with_reducible rfl
              simp only [List.setIfInBounds_toArray, List.set_cons_zero, List.set_cons_succ]
              refine' take_at (i := 3) (d := 152) (v := _) rfl rfl (by kernel_rfl) (by kernel_rfl) (by kernel_rfl) (fun _ _ _ h => h) (Or.inl ⟨by rfl, ?h3⟩) (HX.out) ?_
              case h3 =>
                intro w hSw
                have c1 := HC.out.2.1 w hSw
                go_simp
                with_reducible rfl
              simp only [List.setIfInBounds_toArray, List.set_cons_zero, List.set_cons_succ]
              refine' take_at (i := 4) (d := 153) (v := _) rfl rfl (by kernel_rfl) (by kernel_rfl) (by kernel_rfl) (fun _ _ _ h => h) (Or.inl ⟨by rfl, ?h4⟩) (HX.out) ?_
              case h4 =>
                intro w hSw
                have c1 := HC.out.2.1 w hSw
                go_simp
                with_reducible rfl
              simp only [List.setIfInBounds_toArray, List.set_cons_zero, List.set_cons_succ]
              refine' take_at (i := 5) (d := 154) (v := _) rfl rfl (by kernel_rfl) (by kernel_rfl) (by kernel_rfl) (fun _ _ _ h => h) (Or.inl ⟨by rfl, ?h5⟩) (HX.out) ?_
              case h5 =>
                intro w hSw
                have c1 := HC.out.2.1 w hSw
                go_simp
                with_reducible rfl
              simp only [List.setIfInBounds_toArray, List.set_cons_zero, List.set_cons_succ]
              refine' take_at (i := 6) (d := 155) (v := _) rfl rfl (by kernel_rfl) (by kernel_rfl) (by kernel_rfl) (fun _ _ _ h => h) (Or.inl ⟨by rfl, ?h6⟩) (HX.out) ?_
              case h6 =>
                intro w hSw
                have c1 := HC.out.2.1 w hSw
                go_simp
                with_reducible rfl
              simp only [List.setIfInBounds_toArray, List.set_cons_zero, List.set_cons_succ]
              refine' take_at (i := 7) (d := 156) (v := _) rfl rfl (by kernel_rfl) (by kernel_rfl) (by kernel_rfl) (fun _ _ _ h => h) (Or.inl ⟨by rfl, ?h7⟩) (HX.out) ?_
              case h7 =>
                intro w hSw
                obtain ⟨i0, i1, i2, i3, i4, i5, i6, i7, i8, i9, i10⟩ := e14_all (HE.out.2.2.2.2.2 w hSw).2
                go_simp
                with_reducible rfl
              simp only [List.setIfInBounds_toArray, List.set_cons_zero, List.set_cons_succ]
              refine' take_at (i := 8) (d := 157) (v := _) rfl rfl (by kernel_rfl) (by kernel_rfl) (by kernel_rfl) (fun _ _ _ h => h) (Or.inl ⟨by rfl, ?h8⟩) (HX.out) ?_
              case h8 =>
                intro w hSw
                obtain ⟨i0, i1, i2, i3, i4, i5, i6, i7, i8, i9, i10⟩ := e14_all (HE.out.2.2.2.2.2 w hSw).2
                go_simp
                with_reducible rfl
              simp only [List.setIfInBounds_toArray, List.set_cons_zero, List.set_cons_succ]
              refine' take_at (i := 9) (d := 158) (v := _) rfl rfl (by kernel_rfl) (by kernel_rfl) (by kernel_rfl) (fun _ _ _ h => h) (Or.inl ⟨by rfl, ?h9⟩) (HX.out) ?_
              case h9 =>
                intro w hSw
                go_simp
                with_reducible rfl
              simp only [List.setIfInBounds_toArray, List.set_cons_zero, List.set_cons_succ]
              refine' take_at (i := 10) (d := 159) (v := _) rfl rfl (by kernel_rfl) (by kernel_rfl) (by kernel_rfl) (fun _ _ _ h => h) (Or.inl ⟨by rfl, ?h10⟩) (HX.out) ?_
              case h10 =>
                intro w hSw
                go_simp
                with_reducible rfl
              simp only [List.setIfInBounds_toArray, List.set_cons_zero, List.set_cons_succ]
              refine' take_at (i := 11) (d := 160) (v := _) rfl rfl (by kernel_rfl) (by kernel_rfl) (by kernel_rfl) (fun _ _ _ h => h) (Or.inl ⟨by rfl, ?h11⟩) (HX.out) ?_
              case h11 =>
                intro w hSw
                have c1 := HC.out.2.1 w hSw
                go_simp
                with_reducible rfl
              simp only [List.setIfInBounds_toArray, List.set_cons_zero, List.set_cons_succ]
              refine' take_at (i := 12) (d := 161) (v := _) rfl rfl (by kernel_rfl) (by kernel_rfl) (by kernel_rfl) (fun _ _ _ h => h) (Or.inl ⟨by rfl, ?h12⟩) (HX.out) ?_
              case h12 =>
                intro w hSw
                have c1 := HC.out.2.1 w hSw
                go_simp
                with_reducible rfl
              simp only [List.setIfInBounds_toArray, List.set_cons_zero, List.set_cons_succ]
              refine' take_at (i := 13) (d := 162) (v := _) rfl rfl (by kernel_rfl) (by kernel_rfl) (by kernel_rfl) (fun _ _ _ h => h) (Or.inl ⟨by rfl, ?h13⟩) (HX.out) ?_
              case h13 =>
                intro w hSw
                have c1 := HC.out.2.1 w hSw
                go_simp
                with_reducible rfl
              simp only [List.setIfInBounds_toArray, List.set_cons_zero, List.set_cons_succ]
              refine' take_at (i := 14) (d := 163) (v := _) rfl rfl (by kernel_rfl) (by kernel_rfl) (by kernel_rfl) (fun _ _ _ h => h) (Or.inl ⟨by rfl, ?h14⟩) (HX.out) ?_
              case h14 =>
                intro w hSw
                have c1 := HC.out.2.1 w hSw
                go_simp
                with_reducible rfl
              simp only [List.setIfInBounds_toArray, List.set_cons_zero, List.set_cons_succ]
              refine' take_at (i := 15) (d := 164) (v := _) rfl rfl (by kernel_rfl) (by kernel_rfl) (by kernel_rfl) (fun _ _ _ h => h) (Or.inl ⟨by rfl, ?h15⟩) (HX.out) ?_
              case h15 =>
                intro w hSw
                have c1 := HC.out.2.1 w hSw
                go_simp
                with_reducible rfl
              simp only [List.setIfInBounds_toArray, List.set_cons_zero, List.set_cons_succ]
              refine' take_at (i := 16) (d := 165) (v := _) rfl rfl (by kernel_rfl) (by kernel_rfl) (by kernel_rfl) (fun _ _ _ h => h) (Or.inl ⟨by rfl, ?h16⟩) (HX.out) ?_
              case h16 =>
                intro w hSw
                obtain ⟨i0, i1, i2, i3, i4, i5, i6, i7, i8, i9, i10⟩ := e14_all (HE.out.2.2.2.2.2 w hSw).2
                go_simp
                with_reducible rfl
              simp only [List.setIfInBounds_toArray, List.set_cons_zero, List.set_cons_succ]
              refine' take_at (i := 17) (d := 166) (v := _) rfl rfl (by kernel_rfl) (by kernel_rfl) (by kernel_rfl) (fun _ _ _ h => h) (Or.inl ⟨by rfl, ?h17⟩) (HX.out) ?_
              case h17 =>
                intro w hSw
                obtain ⟨i0, i1, i2, i3, i4, i5, i6, i7, i8, i9, i10⟩ := e14_all (HE.out.2.2.2.2.2 w hSw).2
                go_simp
                with_reducible rfl
              simp only [List.setIfInBounds_toArray, List.set_cons_zero, List.set_cons_succ]
              refine' take_at (i := 18) (d := 167) (v := _) rfl rfl (by kernel_rfl) (by kernel_rfl) (by kernel_rfl) (fun _ _ _ h => h) (Or.inl ⟨by rfl, ?h18⟩) (HX.out) ?_
              case h18 =>
                intro w hSw
                obtain ⟨i0, i1, i2, i3, i4, i5, i6, i7, i8, i9, i10⟩ := e14_all (HE.out.2.2.2.2.2 w hSw).2
                go_simp
                with_reducible rfl
              simp only [List.setIfInBounds_toArray, List.set_cons_zero, List.set_cons_succ]
              refine' take_at (i := 19) (d := 168) (v := _) rfl rfl (by kernel_rfl) (by kernel_rfl) (by kernel_rfl) (fun _ _ _ h => h) (Or.inl ⟨by rfl, ?h19⟩) (HX.out) ?_
              case h19 =>
                intro w hSw
                obtain ⟨i0, i1, i2, i3, i4, i5, i6, i7, i8, i9, i10⟩ := e14_all (HE.out.2.2.2.2.2 w hSw).2
                go_simp
                with_reducible rfl
              simp only [List.setIfInBounds_toArray, List.set_cons_zero, List.set_cons_succ]
              refine' take_at (i := 20) (d := 169) (v := _) rfl rfl (by kernel_rfl) (by kernel_rfl) (by kernel_rfl) (fun _ _ _ h => h) (Or.inl ⟨by rfl, ?h20⟩) (HX.out) ?_
              case h20 =>
                intro w hSw
                have cx := HNC.out w hSw
                go_simp
                with_reducible rfl
              simp only [List.setIfInBounds_toArray, List.set_cons_zero, List.set_cons_succ]
              refine' take_at (i := 21) (d := 170) (v := _) rfl rfl (by kernel_rfl) (by kernel_rfl) (by kernel_rfl) (fun _ _ _ h => h) (Or.inl ⟨by rfl, ?h21⟩) (HX.out) ?_
              case h21 =>
                intro w hSw
                have cx := HNC.out w hSw
                go_simp
                with_reducible rfl
              simp only [List.setIfInBounds_toArray, List.set_cons_zero, List.set_cons_succ]
              refine' take_at (i := 22) (d := 171) (v := _) rfl rfl (by kernel_rfl) (by kernel_rfl) (by kernel_rfl) (fun _ _ _ h => h) (Or.inl ⟨by rfl, ?h22⟩) (HX.out) ?_
              case h22 =>
                intro w hSw
                go_simp
                with_reducible rfl
              simp only [List.setIfInBounds_toArray, List.set_cons_zero, List.set_cons_succ]
              refine wpAnyH_ready (rs := [23]) (by kernel_rfl) (by simp) ?_
              refine AllReadyH.cons (o := _) rfl (fun KQ hKQ => ?_) AllReadyH.nil
              go_simp
              rw [Tq.sub_app14]
              refine (HAT.out (Tq.sub p s) s0 HX.out).mono ?_
              rintro e s1 ⟨rfl, hb⟩
              have H10 : Hid (Below w5.heap.size w5 s1) := HX.out.trans (hb.mono HX.out.size)
              clear hb
              obtain ⟨k2, hk2⟩ : ∃ z, z = (Kq.low (Tq.keys l) (Tq.sub p s)).length := ⟨_, rfl⟩
              rw [← hk2]
              clear hk2
              obtain ⟨T, hT⟩ : ∃ T : Bool, T = Kq.has (Tq.keys l) (Tq.sub p s) := ⟨_, rfl⟩
              rw [← hT]
              have HT : Hid (T = true ↔ ∃ m, Tq.find l (Tq.sub p s) = some m) := by
                have h : T = true ↔ ∃ m, Tq.find l (Tq.sub p s) = some m := by rw [hT]; exact Tq.find_has H6.out.2.2.1.rise
                exact h
              clear hT
              simp only []
              refine hKQ.out _ _ H10.out (fun _ => ?_)
              clear hKQ KQ
              refine' take_at (i := 24) (d := 148) (v := _) rfl rfl (by kernel_rfl) (by kernel_rfl) (by kernel_rfl) (fun _ _ _ h => h) (Or.inl ⟨by rfl, ?h24⟩) (H10.out) ?_
              case h24 =>
                intro w hSw
                go_simp
                with_reducible rfl
              simp only [List.setIfInBounds_toArray, List.set_cons_zero, List.set_cons_succ]
              refine' take_at (i := 25) (d := 173) (v := _) rfl rfl (by kernel_rfl) (by kernel_rfl) (by kernel_rfl) (fun _ _ _ h => h) (Or.inl ⟨by rfl, ?h25⟩) (H10.out) ?_
              case h25 =>
                intro w hSw
                go_simp
                with_reducible rfl
              simp only [List.setIfInBounds_toArray, List.set_cons_zero, List.set_cons_succ]
              refine' take_at (i := 26) (d := 174) (v := _) rfl rfl (by kernel_rfl) (by kernel_rfl) (by kernel_rfl) (fun _ _ _ h => h) (Or.inl ⟨by rfl, ?h26⟩) (H10.out) ?_
              case h26 =>
                intro w hSw
                go_simp
                with_reducible rfl
              simp only [List.setIfInBounds_toArray, List.set_cons_zero, List.set_cons_succ]
              refine' take_at (i := 27) (d := 22) (v := _) rfl rfl (by kernel_rfl) (by kernel_rfl) (by kernel_rfl) (fun _ _ _ h => h) (Or.inl ⟨by rfl, ?h27⟩) (H10.out) ?_
              case h27 =>
                intro w hSw
                go_simp
                with_reducible rfl
              simp only [List.setIfInBounds_toArray, List.set_cons_zero, List.set_cons_succ]
              refine' take_at (i := 28) (d := 23) (v := _) rfl rfl (by kernel_rfl) (by kernel_rfl) (by kernel_rfl) (fun _ _ _ h => h) (Or.inl ⟨by rfl, ?h28⟩) (H10.out) ?_
              case h28 =>
                intro w hSw
                go_simp
                with_reducible rfl
              simp only [List.setIfInBounds_toArray, List.set_cons_zero, List.set_cons_succ]
              refine wpAnyH_done (by kernel_rfl) ?_ _
              cases T with
              | false =>
                have HY : Hid (R = (3, none)) := HNO.out (p, n) HE.out.2.1 (fun h => by
                  have h2 := HT.out.2 (h.2 s (List.mem_of_getElem? HSS.out.1))
                  cases h2)
                go_wp2
                go_ret2
                rw [HY.out]
                exact ⟨fun _ => rfl, fun t ht => (by cases ht), H6.out.1.trans (H10.out.mono H6.out.1.size)⟩
              | true =>
                have HJ : Hid (∀ x ∈ n.names.take (j + 1), ∃ m, Tq.find l (Tq.sub p x) = some m) := fun x hx => by
                  rw [List.take_add_one, HSS.out.1] at hx
                  rcases List.mem_append.1 hx with hx | hx
                  · exact H9.out.1 x hx
                  · simp at hx
                    rw [hx]
                    exact HT.out.1 rfl
                go_wp2
                go_roundw
                case rel => exact ⟨j + 1, by omega, by go_num, HJ.out, H10.out⟩
                case measure => simp [intOf]; omega
          · have hjl' : ¬ (j : Int) < (nL : Int) := by omega
            have HJ : Hid (∀ e ∈ l.take (k + 1), Tq.OkE l e) := fun e he => by
              rw [List.take_add_one, HE.out.1] at he
              rcases List.mem_append.1 he with he | he
              · exact H7.out.1 e he
              · simp at he
                rw [he]
                refine ⟨HPAR.out, fun s hs => H9.out.1 s ?_⟩
                rw [List.take_of_length_le (by have := HnL.out; omega)]
                exact hs
            go_wp2
            go_roundw
            case rel => exact ⟨k + 1, by omega, by go_num, HJ.out, H9.out.2⟩
            case measure => simp [intOf]; omega
      | some u =>
        as_aux_lemma =>
          obtain rfl := hy u hu
          have HU : Hid (Tq.up p = some u) := hu
          clear hy hno hu
          go_wp2_with fail
          refine (HAT.out u w6 H8.out).mono ?_
          rintro e w7 ⟨rfl, hb⟩
          have HA : Hid (Below w5.heap.size w5 w7) := H8.out.trans (hb.mono H8.out.size)
          clear hb H8
          cases hh : Kq.has (Tq.keys l) u with
          | false =>
            have HY : Hid (R = (3, none)) := HNO.out (p, n) HE.out.2.1 (fun h => by
              obtain ⟨m, hm, _⟩ := h.1 u HU.out
              have h2 := (Tq.find_has H6.out.2.2.1.rise).2 ⟨m, hm⟩
              simp only [] at h2
              rw [hh] at h2
              cases h2)
            clear hh
            generalize (Kq.low (Tq.keys l) u).length = k2
            go_wp2
            go_ret2
            rw [HY.out]
            exact ⟨fun _ => rfl, fun t ht => (by cases ht), H6.out.1.trans (HA.out.mono H6.out.1.size)⟩
          | true =>
          obtain ⟨m, hm⟩ := (Tq.find_has H6.out.2.2.1.rise).1 hh
          simp only [] at hm
          have hkm := Tq.at_low H6.out.2.2.1.rise hm
          obtain ⟨k2, hk2⟩ : ∃ z, z = (Kq.low (Tq.keys l) u).length := ⟨_, rfl⟩
          simp only [] at hkm
          rw [← hk2] at hkm ⊢
          have hk2L : k2 < L := by have := (List.getElem?_eq_some_iff.1 hkm).1; have := HC.out.1; omega
          have hk2' : (k2 : Int) < (L : Int) := by omega
          have hk20 : (0 : Int) ≤ (k2 : Int) := by omega
          obtain ⟨g2, o2, mb, mM, md, hag, hcell⟩ := HC.out.2.2 k2 (u, m) hkm
          simp only [Option.some.injEq, Addr.mk.injEq, and_true] at hag
          obtain ⟨rfl, rfl⟩ := hag
          have HM : Hid (Tq.find l u = some m ∧ Node11 m ∧ ∀ w', Below w5.heap.size w5 w' → Ss w' (.slice mb mM md) m.names ∧ ∀ (i : Nat) x, (e11 (u, m) (.slice mb mM md))[i]? = some x → w'.cell? ⟨g, o + k2 * 11 + i, none⟩ = some x) := ⟨hm, (H6.out.2.2.1.nodes _ (List.mem_of_getElem? hkm)).2, hcell⟩
          clear hh hm hkm hk2 hcell
          have c1 := HC.out.2.1 w7 HA.out
          obtain ⟨m0, m1, m2, m3, m4, m5, m6, m7, m8, m9, m10⟩ := e14_all (HM.out.2.2 w7 HA.out).2
          by_cases ho : m.owner = 0
          · have ho' : (m.owner == 0) = true := by rw [ho]; rfl
            have HOW : Hid (m.owner = 0) := ho
            clear ho
            go_upto_region 25 with fail
            clear c1 m0 m1 m2 m3 m4 m5 m6 m7 m8 m9 m10
            refine wp_region_held_drew (S := fun w' => Below w5.heap.size w5 w') (by kernel_rfl) HA.out.drew (fun _ => ?_)
            have HX : Hid (Below w5.heap.size w5 w7.drew) := HA.out.drew
            clear HA
            generalize w7.drew = s0 at *
            refine' take_at (i := 0) (d := 111) (v := _) rfl rfl (by kernel_rfl) (by kernel_rfl) (by kernel_rfl) (fun _ _ _ h => h) (Or.inl ⟨by rfl, ?h0⟩) (HX.out) ?_
            case h0 =>
              intro w hSw
              go_simp
              with_reducible rfl
            simp only [List.setIfInBounds_toArray, List.set_cons_zero, List.set_cons_succ]
            refine' take_at (i := 1) (d := 112) (v := _) rfl rfl (by kernel_rfl) (by kernel_rfl) (by kernel_rfl) (fun _ _ _ h => h) (Or.inl ⟨by rfl, ?h1⟩) (HX.out) ?_
            case h1 =>
              intro w hSw
              have c1 := HC.out.2.1 w hSw
              go_simp
              with_reducible rfl
            simp only [List.setIfInBounds_toArray, List.set_cons_zero, List.set_cons_succ]
            refine' take_at (i := 2) (d := 113) (v := _) rfl rfl (by kernel_rfl) (by kernel_rfl) (by kernel_rfl) (fun _ _ _ h => h) (Or.inl ⟨by rfl, ?h2⟩) (HX.out) ?_
            case h2 =>
              intro w hSw
              have c1 := HC.out.2.1 w hSw
              go_simp
              with_reducible rfl
            simp only [List.setIfInBounds_toArray, List.set_cons_zero, List.set_cons_succ]
            refine' take_at (i := 3) (d := 114) (v := _) rfl rfl (by kernel_rfl) (by kernel_rfl) (by kernel_rfl) (fun _ _ _ h => h) (Or.inl ⟨by rfl, ?h3⟩) (HX.out) ?_
            case h3 =>
              intro w hSw
              have c1 := HC.out.2.1 w hSw
              go_simp
              with_reducible rfl
            simp only [List.setIfInBounds_toArray, List.set_cons_zero, List.set_cons_succ]
            refine' take_at (i := 4) (d := 115) (v := _) rfl rfl (by kernel_rfl) (by kernel_rfl) (by kernel_rfl) (fun _ _ _ h => h) (Or.inl ⟨by rfl, ?h4⟩) (HX.out) ?_
            case h4 =>
              intro w hSw
              have c1 := HC.out.2.1 w hSw
              go_simp
              with_reducible rfl
            simp only [List.setIfInBounds_toArray, List.set_cons_zero, List.set_cons_succ]
            refine' take_at (i := 5) (d := 116) (v := _) rfl rfl (by kernel_rfl) (by kernel_rfl) (by kernel_rfl) (fun _ _ _ h => h) (Or.inl ⟨by rfl, ?h5⟩) (HX.out) ?_
            case h5 =>
              intro w hSw
              have c1 := HC.out.2.1 w hSw
              go_simp
              with_reducible rfl
            simp only [List.setIfInBounds_toArray, List.set_cons_zero, List.set_cons_succ]
            refine' take_at (i := 6) (d := 117) (v := _) rfl rfl (by kernel_rfl) (by kernel_rfl) (by kernel_rfl) (fun _ _ _ h => h) (Or.inl ⟨by rfl, ?h6⟩) (HX.out) ?_
            case h6 =>
              intro w hSw
              obtain ⟨m0, m1, m2, m3, m4, m5, m6, m7, m8, m9, m10⟩ := e14_all (HM.out.2.2 w hSw).2
              go_simp
              with_reducible rfl
            simp only [List.setIfInBounds_toArray, List.set_cons_zero, List.set_cons_succ]
            refine' take_at (i := 7) (d := 118) (v := _) rfl rfl (by kernel_rfl) (by kernel_rfl) (by kernel_rfl) (fun _ _ _ h => h) (Or.inl ⟨by rfl, ?h7⟩) (HX.out) ?_
            case h7 =>
              intro w hSw
              obtain ⟨m0, m1, m2, m3, m4, m5, m6, m7, m8, m9, m10⟩ := e14_all (HM.out.2.2 w hSw).2
              go_simp
              with_reducible rfl
            simp only [List.setIfInBounds_toArray, List.set_cons_zero, List.set_cons_succ]
            refine' take_at (i := 8) (d := 119) (v := _) rfl rfl (by kernel_rfl) (by kernel_rfl) (by kernel_rfl) (fun _ _ _ h => h) (Or.inl ⟨by rfl, ?h8⟩) (HX.out) ?_
            case h8 =>
              intro w hSw
              obtain ⟨m0, m1, m2, m3, m4, m5, m6, m7, m8, m9, m10⟩ := e14_all (HM.out.2.2 w hSw).2
              go_simp
              with_reducible rfl
            simp only [List.setIfInBounds_toArray, List.set_cons_zero, List.set_cons_succ]
            refine' take_at (i := 9) (d := 120) (v := _) rfl rfl (by kernel_rfl) (by kernel_rfl) (by kernel_rfl) (fun _ _ _ h => h) (Or.inl ⟨by rfl, ?h9⟩) (HX.out) ?_
            case h9 =>
              intro w hSw
              go_simp
              with_reducible rfl
            simp only [List.setIfInBounds_toArray, List.set_cons_zero, List.set_cons_succ]
            refine' take_at (i := 10) (d := 121) (v := _) rfl rfl (by kernel_rfl) (by kernel_rfl) (by kernel_rfl) (fun _ _ _ h => h) (Or.inl ⟨by rfl, ?h10⟩) (HX.out) ?_
            case h10 =>
              intro w hSw
              have c1 := HC.out.2.1 w hSw
              go_simp
              with_reducible rfl
            simp only [List.setIfInBounds_toArray, List.set_cons_zero, List.set_cons_succ]
            refine' take_at (i := 11) (d := 122) (v := _) rfl rfl (by kernel_rfl) (by kernel_rfl) (by kernel_rfl) (fun _ _ _ h => h) (Or.inl ⟨by rfl, ?h11⟩) (HX.out) ?_
            case h11 =>
              intro w hSw
              have c1 := HC.out.2.1 w hSw
              go_simp
              with_reducible rfl
            simp only [List.setIfInBounds_toArray, List.set_cons_zero, List.set_cons_succ]
            refine' take_at (i := 12) (d := 123) (v := _) rfl rfl (by kernel_rfl) (by kernel_rfl) (by kernel_rfl) (fun _ _ _ h => h) (Or.inl ⟨by rfl, ?h12⟩) (HX.out) ?_
            case h12 =>
              intro w hSw
              have c1 := HC.out.2.1 w hSw
              go_simp
              with_reducible rfl
            simp only [List.setIfInBounds_toArray, List.set_cons_zero, List.set_cons_succ]
            refine' take_at (i := 13) (d := 124) (v := _) rfl rfl (by kernel_rfl) (by kernel_rfl) (by kernel_rfl) (fun _ _ _ h => h) (Or.inl ⟨by rfl, ?h13⟩) (HX.out) ?_
            case h13 =>
              intro w hSw
              have c1 := HC.out.2.1 w hSw
              go_simp
              with_reducible rfl
            simp only [List.setIfInBounds_toArray, List.set_cons_zero, List.set_cons_succ]
            refine' take_at (i := 14) (d := 125) (v := _) rfl rfl (by kernel_rfl) (by kernel_rfl) (by kernel_rfl) (fun _ _ _ h => h) (Or.inl ⟨by rfl, ?h14⟩) (HX.out) ?_
            case h14 =>
              intro w hSw
              have c1 := HC.out.2.1 w hSw
              go_simp
              with_reducible rfl
            simp only [List.setIfInBounds_toArray, List.set_cons_zero, List.set_cons_succ]
            refine' take_at (i := 15) (d := 126) (v := _) rfl rfl (by kernel_rfl) (by kernel_rfl) (by kernel_rfl) (fun _ _ _ h => h) (Or.inl ⟨by rfl, ?h15⟩) (HX.out) ?_
            case h15 =>
              intro w hSw
              obtain ⟨i0, i1, i2, i3, i4, i5, i6, i7, i8, i9, i10⟩ := e14_all (HE.out.2.2.2.2.2 w hSw).2
              go_simp
              with_reducible rfl
            simp only [List.setIfInBounds_toArray, List.set_cons_zero, List.set_cons_succ]
            refine' take_at (i := 16) (d := 127) (v := _) rfl rfl (by kernel_rfl) (by kernel_rfl) (by kernel_rfl) (fun _ _ _ h => h) (Or.inl ⟨by rfl, ?h16⟩) (HX.out) ?_
            case h16 =>
              intro w hSw
              obtain ⟨i0, i1, i2, i3, i4, i5, i6, i7, i8, i9, i10⟩ := e14_all (HE.out.2.2.2.2.2 w hSw).2
              go_simp
              with_reducible rfl
            simp only [List.setIfInBounds_toArray, List.set_cons_zero, List.set_cons_succ]
            refine wpAnyH_ready (rs := [17]) (by kernel_rfl) (by simp) ?_
            refine AllReadyH.cons (o := _) rfl (fun KQ hKQ => ?_) AllReadyH.nil
            go_simp
            refine (Pa.refName_any p s0 HE.out.2.2.1).mono ?_
            rintro e s1 ⟨x, rfl, hxn, hb⟩
            obtain rfl : x = Tq.nm p := by unfold Tq.nm; rw [← hxn, Tq.tb_back]
            have HX1 : Hid (Below w5.heap.size w5 s1) := HX.out.trans (hb.mono HX.out.size)
            clear hxn hb HX
            simp only []
            refine hKQ.out _ _ HX1.out (fun _ => ?_)
            clear hKQ KQ
            refine wpAnyH_ready (rs := [18]) (by kernel_rfl) (by simp) ?_
            refine AllReadyH.cons (o := _) rfl (fun KQ hKQ => ?_) AllReadyH.nil
            go_simp
            refine (refPlace_any (.slice mb mM md) m.names (Tq.nm p) s1 (HM.out.2.2 s1 HX1.out).1 (by have := HM.out.2.1.many; omega) HM.out.2.1.rises).mono ?_
            rintro e s2 ⟨rfl, hb⟩
            have HX2 : Hid (Below w5.heap.size w5 s2) := HX1.out.trans (hb.mono HX1.out.size)
            clear hb HX1
            obtain ⟨k3, hk3⟩ : ∃ z, z = (Kq.low m.names (Tq.nm p)).length := ⟨_, rfl⟩
            rw [← hk3]
            clear hk3
            obtain ⟨T, hT⟩ : ∃ T : Bool, T = Kq.has m.names (Tq.nm p) := ⟨_, rfl⟩
            rw [← hT]
            have HT : Hid (T = true ↔ Tq.nm p ∈ m.names) := by
              have h : T = true ↔ Tq.nm p ∈ m.names := by rw [hT]; exact Kq.has_iff
              exact h
            clear hT
            simp only []
            refine hKQ.out _ _ HX2.out (fun _ => ?_)
            clear hKQ KQ
            refine' take_at (i := 19) (d := 110) (v := _) rfl rfl (by kernel_rfl) (by kernel_rfl) (by kernel_rfl) (fun _ _ _ h => h) (Or.inl ⟨by rfl, ?h19⟩) (HX2.out) ?_
            case h19 =>
              intro w hSw
              go_simp
              with_reducible rfl
            simp only [List.setIfInBounds_toArray, List.set_cons_zero, List.set_cons_succ]
            refine' take_at (i := 20) (d := 130) (v := _) rfl rfl (by kernel_rfl) (by kernel_rfl) (by kernel_rfl) (fun _ _ _ h => h) (Or.inl ⟨by rfl, ?h20⟩) (HX2.out) ?_
            case h20 =>
              intro w hSw
              go_simp
              with_reducible rfl
            simp only [List.setIfInBounds_toArray, List.set_cons_zero, List.set_cons_succ]
            refine' take_at (i := 21) (d := 131) (v := _) rfl rfl (by kernel_rfl) (by kernel_rfl) (by kernel_rfl) (fun _ _ _ h => h) (Or.inl ⟨by rfl, ?h21⟩) (HX2.out) ?_
            case h21 =>
              intro w hSw
              go_simp
              with_reducible rfl
            simp only [List.setIfInBounds_toArray, List.set_cons_zero, List.set_cons_succ]
            refine' take_at (i := 22) (d := 19) (v := _) rfl rfl (by kernel_rfl) (by kernel_rfl) (by kernel_rfl) (fun _ _ _ h => h) (Or.inl ⟨by rfl, ?h22⟩) (HX2.out) ?_
            case h22 =>
              intro w hSw
              go_simp
              with_reducible rfl
            simp only [List.setIfInBounds_toArray, List.set_cons_zero, List.set_cons_succ]
            refine' take_at (i := 23) (d := 20) (v := _) rfl rfl (by kernel_rfl) (by kernel_rfl) (by kernel_rfl) (fun _ _ _ h => h) (Or.inl ⟨by rfl, ?h23⟩) (HX2.out) ?_
            case h23 =>
              intro w hSw
              go_simp
              with_reducible rfl
            simp only [List.setIfInBounds_toArray, List.set_cons_zero, List.set_cons_succ]
            refine wpAnyH_done (by kernel_rfl) ?_ _
            cases T with
            | false =>
              have HY : Hid (R = (3, none)) := HNO.out (p, n) HE.out.2.1 (fun h => by
                obtain ⟨m', hm', _, hmem⟩ := h.1 u HU.out
                rw [HM.out.1] at hm'
                rw [← Option.some.inj hm'] at hmem
                have h2 := HT.out.2 hmem
                cases h2)
              go_wp2
              go_ret2
              rw [HY.out]
              exact ⟨fun _ => rfl, fun t ht => (by cases ht), H6.out.1.trans (HX2.out.mono H6.out.1.size)⟩
            | true =>
              have HPAR : Hid (∀ u, Tq.up p = some u → ∃ m, Tq.find l u = some m ∧ m.owner = 0 ∧ Tq.nm p ∈ m.names) := fun u' h => by
                rw [HU.out] at h
                rw [← Option.some.inj h]
                exact ⟨m, HM.out.1, HOW.out, HT.out.1 rfl⟩
              have HIN : Hid (Below w5.heap.size w5 s2) := HX2.out
              clear HX2
              go_wp2
              go_loopw [21] (fun i wr => ∃ j : Nat, j ≤ nL ∧ i = .int .i64 (j : Int) ∧ (∀ s ∈ n.names.take j, ∃ m, Tq.find l (Tq.sub p s) = some m) ∧ Below w5.heap.size w5 wr) (fun i _ => nL - (intOf i).toNat)
              case atStart => exact ⟨0, Nat.zero_le _, rfl, fun s hs => (by simp at hs), HIN.out⟩
              case round =>
              obtain ⟨j, hj, rfl, hall, hb⟩ := hrel
              have H9 : Hid ((∀ s ∈ n.names.take j, ∃ m, Tq.find l (Tq.sub p s) = some m) ∧ Below w5.heap.size w5 wr) := ⟨hall, hb⟩
              clear hall hb
              have c1 := HC.out.2.1 wr H9.out.2
              obtain ⟨i0, i1, i2, i3, i4, i5, i6, i7, i8, i9, i10⟩ := e14_all (HE.out.2.2.2.2.2 wr H9.out.2).2
              by_cases hjl : j < nL
              · as_aux_lemma =>
                  have hjl' : (j : Int) < (nL : Int) := by omega
                  have hj0 : (0 : Int) ≤ (j : Int) := by omega
                  have hwj : IntKind.wrap .i64 ((j : Int) + 1) = (j : Int) + 1 := by rw [IntKind.wrap_i64]; omega
                  obtain ⟨s, hs⟩ : ∃ s, n.names[j]? = some s := ⟨_, List.getElem?_eq_getElem (by have := HnL.out; omega)⟩
                  have HSS : Hid (n.names[j]? = some s ∧ s.size ≤ 40) := ⟨hs, Tq.name_in (HE.out.2.2.2.1.long s (List.mem_of_getElem? hs))⟩
                  obtain ⟨ng, no, hng⟩ : ∃ ng no, na = some ⟨ng, no, none⟩ := by
                    obtain ⟨av, _, _, e2, _, hcs⟩ := (HE.out.2.2.2.2.2 wr H9.out.2).1
                    obtain ⟨ng, no, h1, _⟩ := hcs j s hs
                    simp only [Value.slice.injEq] at e2
                    exact ⟨ng, no, by rw [e2.1, h1]⟩
                  subst hng
                  have HNC : Hid (∀ w', Below w5.heap.size w5 w' → w'.cell? ⟨ng, no + j, none⟩ = some (.string s)) := fun w' hb => by
                    obtain ⟨av, _, _, e2, _, hcs⟩ := (HE.out.2.2.2.2.2 w' hb).1
                    obtain ⟨g2, o2, h1, h2⟩ := hcs j s HSS.out.1
                    simp only [Value.slice.injEq] at e2
                    rw [← e2.1] at h1
                    simp only [Option.some.injEq, Addr.mk.injEq, and_true] at h1
                    rw [h1.1, h1.2]
                    exact h2
                  have hz3 : ¬ 9223372036854775807 < p.size + 1 := by have := HE.out.2.2.2.2.1; omega
                  have hz4 : ¬ 9223372036854775807 < p.size + 1 + s.size := by have := HE.out.2.2.2.2.1; have := HSS.out.2; omega
                  have hz5 : (p ++ ⟨#[47]⟩).size = p.size + 1 := by rw [ByteArray.size_append]; rfl
                  clear hs
                  go_upto_region 31 with fail
                  clear c1 i0 i1 i2 i3 i4 i5 i6 i7 i8 i9 i10
                  refine wp_region_held_drew (S := fun w' => Below w5.heap.size w5 w') (by kernel_rfl) H9.out.2.drew (fun _ => ?_)
                  have HX : Hid (Below w5.heap.size w5 wr.drew) := H9.out.2.drew
                  generalize wr.drew = s0 at *
                  refine' take_at (i := 0) (d := 149) (v := _) rfl rfl (by kernel_rfl) (by kernel_rfl) (by kernel_rfl) (fun _ _ _ h => h) (Or.inl ⟨by rfl, ?h0⟩) (HX.out) ?_
                  case h0 =>
                    intro w hSw
                    go_simp
                    with_reducible rfl
                  simp only [List.setIfInBounds_toArray, List.set_cons_zero, List.set_cons_succ]
                  refine' take_at (i := 1) (d := 150) (v := _) rfl rfl (by kernel_rfl) (by kernel_rfl) (by kernel_rfl) (fun _ _ _ h => h) (Or.inl ⟨by rfl, ?h1⟩) (HX.out) ?_
                  case h1 =>
                    intro w hSw
                    go_simp
                    with_reducible rfl
                  simp only [List.setIfInBounds_toArray, List.set_cons_zero, List.set_cons_succ]
                  refine' take_at (i := 2) (d := 151) (v := _) rfl rfl (by kernel_rfl) (by kernel_rfl) (by kernel_rfl) (fun _ _ _ h => h) (Or.inl ⟨by rfl, ?h2⟩) (HX.out) ?_
                  case h2 =>
                    intro w hSw
                    have c1 := HC.out.2.1 w hSw
                    go_simp
                    with_reducible rfl
                  simp only [List.setIfInBounds_toArray, List.set_cons_zero, List.set_cons_succ]
                  refine' take_at (i := 3) (d := 152) (v := _) rfl rfl (by kernel_rfl) (by kernel_rfl) (by kernel_rfl) (fun _ _ _ h => h) (Or.inl ⟨by rfl, ?h3⟩) (HX.out) ?_
                  case h3 =>
                    intro w hSw
                    have c1 := HC.out.2.1 w hSw
                    go_simp
                    with_reducible rfl
                  simp only [List.setIfInBounds_toArray, List.set_cons_zero, List.set_cons_succ]
                  refine' take_at (i := 4) (d := 153) (v := _) rfl rfl (by kernel_rfl) (by kernel_rfl) (by kernel_rfl) (fun _ _ _ h => h) (Or.inl ⟨by rfl, ?h4⟩) (HX.out) ?_
                  case h4 =>
                    intro w hSw
                    have c1 := HC.out.2.1 w hSw
                    go_simp
                    with_reducible rfl
                  simp only [List.setIfInBounds_toArray, List.set_cons_zero, List.set_cons_succ]
                  refine' take_at (i := 5) (d := 154) (v := _) rfl rfl (by kernel_rfl) (by kernel_rfl) (by kernel_rfl) (fun _ _ _ h => h) (Or.inl ⟨by rfl, ?h5⟩) (HX.out) ?_
                  case h5 =>
                    intro w hSw
                    have c1 := HC.out.2.1 w hSw
                    go_simp
                    with_reducible rfl
                  simp only [List.setIfInBounds_toArray, List.set_cons_zero, List.set_cons_succ]
                  refine' take_at (i := 6) (d := 155) (v := _) rfl rfl (by kernel_rfl) (by kernel_rfl) (by kernel_rfl) (fun _ _ _ h => h) (Or.inl ⟨by rfl, ?h6⟩) (HX.out) ?_
                  case h6 =>
                    intro w hSw
                    have c1 := HC.out.2.1 w hSw
                    go_simp
                    with_reducible rfl
                  simp only [List.setIfInBounds_toArray, List.set_cons_zero, List.set_cons_succ]
                  refine' take_at (i := 7) (d := 156) (v := _) rfl rfl (by kernel_rfl) (by kernel_rfl) (by kernel_rfl) (fun _ _ _ h => h) (Or.inl ⟨by rfl, ?h7⟩) (HX.out) ?_
                  case h7 =>
                    intro w hSw
                    obtain ⟨i0, i1, i2, i3, i4, i5, i6, i7, i8, i9, i10⟩ := e14_all (HE.out.2.2.2.2.2 w hSw).2
                    go_simp
                    with_reducible rfl
                  simp only [List.setIfInBounds_toArray, List.set_cons_zero, List.set_cons_succ]
                  refine' take_at (i := 8) (d := 157) (v := _) rfl rfl (by kernel_rfl) (by kernel_rfl) (by kernel_rfl) (fun _ _ _ h => h) (Or.inl ⟨by rfl, ?h8⟩) (HX.out) ?_
                  case h8 =>
                    intro w hSw
                    obtain ⟨i0, i1, i2, i3, i4, i5, i6, i7, i8, i9, i10⟩ := e14_all (HE.out.2.2.2.2.2 w hSw).2
                    go_simp
                    with_reducible rfl
                  simp only [List.setIfInBounds_toArray, List.set_cons_zero, List.set_cons_succ]
                  refine' take_at (i := 9) (d := 158) (v := _) rfl rfl (by kernel_rfl) (by kernel_rfl) (by kernel_rfl) (fun _ _ _ h => h) (Or.inl ⟨by rfl, ?h9⟩) (HX.out) ?_
                  case h9 =>
                    intro w hSw
                    go_simp
                    with_reducible rfl
                  simp only [List.setIfInBounds_toArray, List.set_cons_zero, List.set_cons_succ]
                  refine' take_at (i := 10) (d := 159) (v := _) rfl rfl (by kernel_rfl) (by kernel_rfl) (by kernel_rfl) (fun _ _ _ h => h) (Or.inl ⟨by rfl, ?h10⟩) (HX.out) ?_
                  case h10 =>
                    intro w hSw
                    go_simp
                    with_reducible rfl
                  simp only [List.setIfInBounds_toArray, List.set_cons_zero, List.set_cons_succ]
                  refine' take_at (i := 11) (d := 160) (v := _) rfl rfl (by kernel_rfl) (by kernel_rfl) (by kernel_rfl) (fun _ _ _ h => h) (Or.inl ⟨by rfl, ?h11⟩) (HX.out) ?_
                  case h11 =>
                    intro w hSw
                    have c1 := HC.out.2.1 w hSw
                    go_simp
                    with_reducible rfl
                  simp only [List.setIfInBounds_toArray, List.set_cons_zero, List.set_cons_succ]
                  refine' take_at (i := 12) (d := 161) (v := _) rfl rfl (by kernel_rfl) (by kernel_rfl) (by kernel_rfl) (fun _ _ _ h => h) (Or.inl ⟨by rfl, ?h12⟩) (HX.out) ?_
                  case h12 =>
                    intro w hSw
                    have c1 := HC.out.2.1 w hSw
                    go_simp
                    with_reducible rfl
                  simp only [List.setIfInBounds_toArray, List.set_cons_zero, List.set_cons_succ]
                  refine' take_at (i := 13) (d := 162) (v := _) rfl rfl (by kernel_rfl) (by kernel_rfl) (by kernel_rfl) (fun _ _ _ h => h) (Or.inl ⟨by rfl, ?h13⟩) (HX.out) ?_
                  case h13 =>
                    intro w hSw
                    have c1 := HC.out.2.1 w hSw
                    go_simp
                    with_reducible rfl
                  simp only [List.setIfInBounds_toArray, List.set_cons_zero, List.set_cons_succ]
                  refine' take_at (i := 14) (d := 163) (v := _) rfl rfl (by kernel_rfl) (by kernel_rfl) (by kernel_rfl) (fun _ _ _ h => h) (Or.inl ⟨by rfl, ?h14⟩) (HX.out) ?_
                  case h14 =>
                    intro w hSw
                    have c1 := HC.out.2.1 w hSw
                    go_simp
                    with_reducible rfl
                  simp only [List.setIfInBounds_toArray, List.set_cons_zero, List.set_cons_succ]
                  refine' take_at (i := 15) (d := 164) (v := _) rfl rfl (by kernel_rfl) (by kernel_rfl) (by kernel_rfl) (fun _ _ _ h => h) (Or.inl ⟨by rfl, ?h15⟩) (HX.out) ?_
                  case h15 =>
                    intro w hSw
                    have c1 := HC.out.2.1 w hSw
                    go_simp
                    with_reducible rfl
                  simp only [List.setIfInBounds_toArray, List.set_cons_zero, List.set_cons_succ]
                  refine' take_at (i := 16) (d := 165) (v := _) rfl rfl (by kernel_rfl) (by kernel_rfl) (by kernel_rfl) (fun _ _ _ h => h) (Or.inl ⟨by rfl, ?h16⟩) (HX.out) ?_
                  case h16 =>
                    intro w hSw
                    obtain ⟨i0, i1, i2, i3, i4, i5, i6, i7, i8, i9, i10⟩ := e14_all (HE.out.2.2.2.2.2 w hSw).2
                    go_simp
                    with_reducible rfl
                  simp only [List.setIfInBounds_toArray, List.set_cons_zero, List.set_cons_succ]
                  refine' take_at (i := 17) (d := 166) (v := _) rfl rfl (by kernel_rfl) (by kernel_rfl) (by kernel_rfl) (fun _ _ _ h => h) (Or.inl ⟨by rfl, ?h17⟩) (HX.out) ?_
                  case h17 =>
                    intro w hSw
                    obtain ⟨i0, i1, i2, i3, i4, i5, i6, i7, i8, i9, i10⟩ := e14_all (HE.out.2.2.2.2.2 w hSw).2
                    go_simp
                    with_reducible rfl
                  simp only [List.setIfInBounds_toArray, List.set_cons_zero, List.set_cons_succ]
                  refine' take_at (i := 18) (d := 167) (v := _) rfl rfl (by kernel_rfl) (by kernel_rfl) (by kernel_rfl) (fun _ _ _ h => h) (Or.inl ⟨by rfl, ?h18⟩) (HX.out) ?_
                  case h18 =>
                    intro w hSw
                    obtain ⟨i0, i1, i2, i3, i4, i5, i6, i7, i8, i9, i10⟩ := e14_all (HE.out.2.2.2.2.2 w hSw).2
                    go_simp
                    with_reducible rfl
                  simp only [List.setIfInBounds_toArray, List.set_cons_zero, List.set_cons_succ]
                  refine' take_at (i := 19) (d := 168) (v := _) rfl rfl (by kernel_rfl) (by kernel_rfl) (by kernel_rfl) (fun _ _ _ h => h) (Or.inl ⟨by rfl, ?h19⟩) (HX.out) ?_
                  case h19 =>
                    intro w hSw
                    obtain ⟨i0, i1, i2, i3, i4, i5, i6, i7, i8, i9, i10⟩ := e14_all (HE.out.2.2.2.2.2 w hSw).2
                    go_simp
                    with_reducible rfl
                  simp only [List.setIfInBounds_toArray, List.set_cons_zero, List.set_cons_succ]
                  refine' take_at (i := 20) (d := 169) (v := _) rfl rfl (by kernel_rfl) (by kernel_rfl) (by kernel_rfl) (fun _ _ _ h => h) (Or.inl ⟨by rfl, ?h20⟩) (HX.out) ?_
                  case h20 =>
                    intro w hSw
                    have cx := HNC.out w hSw
                    go_simp
                    with_reducible rfl
                  simp only [List.setIfInBounds_toArray, List.set_cons_zero, List.set_cons_succ]
                  refine' take_at (i := 21) (d := 170) (v := _) rfl rfl (by kernel_rfl) (by kernel_rfl) (by kernel_rfl) (fun _ _ _ h => h) (Or.inl ⟨by rfl, ?h21⟩) (HX.out) ?_
                  case h21 =>
                    intro w hSw
                    have cx := HNC.out w hSw
                    go_simp
                    with_reducible rfl
                  simp only [List.setIfInBounds_toArray, List.set_cons_zero, List.set_cons_succ]
                  refine' take_at (i := 22) (d := 171) (v := _) rfl rfl (by kernel_rfl) (by kernel_rfl) (by kernel_rfl) (fun _ _ _ h => h) (Or.inl ⟨by rfl, ?h22⟩) (HX.out) ?_
                  case h22 =>
                    intro w hSw
                    go_simp
                    with_reducible rfl
                  simp only [List.setIfInBounds_toArray, List.set_cons_zero, List.set_cons_succ]
                  refine wpAnyH_ready (rs := [23]) (by kernel_rfl) (by simp) ?_
                  refine AllReadyH.cons (o := _) rfl (fun KQ hKQ => ?_) AllReadyH.nil
                  go_simp
                  rw [Tq.sub_app14]
                  refine (HAT.out (Tq.sub p s) s0 HX.out).mono ?_
                  rintro e s1 ⟨rfl, hb⟩
                  have H10 : Hid (Below w5.heap.size w5 s1) := HX.out.trans (hb.mono HX.out.size)
                  clear hb
                  obtain ⟨k2, hk2⟩ : ∃ z, z = (Kq.low (Tq.keys l) (Tq.sub p s)).length := ⟨_, rfl⟩
                  rw [← hk2]
                  clear hk2
                  obtain ⟨T, hT⟩ : ∃ T : Bool, T = Kq.has (Tq.keys l) (Tq.sub p s) := ⟨_, rfl⟩
                  rw [← hT]
                  have HT : Hid (T = true ↔ ∃ m, Tq.find l (Tq.sub p s) = some m) := by
                    have h : T = true ↔ ∃ m, Tq.find l (Tq.sub p s) = some m := by rw [hT]; exact Tq.find_has H6.out.2.2.1.rise
                    exact h
                  clear hT
                  simp only []
                  refine hKQ.out _ _ H10.out (fun _ => ?_)
                  clear hKQ KQ
                  refine' take_at (i := 24) (d := 148) (v := _) rfl rfl (by kernel_rfl) (by kernel_rfl) (by kernel_rfl) (fun _ _ _ h => h) (Or.inl ⟨by rfl, ?h24⟩) (H10.out) ?_
                  case h24 =>
                    intro w hSw
                    go_simp
                    with_reducible rfl
                  simp only [List.setIfInBounds_toArray, List.set_cons_zero, List.set_cons_succ]
                  refine' take_at (i := 25) (d := 173) (v := _) rfl rfl (by kernel_rfl) (by kernel_rfl) (by kernel_rfl) (fun _ _ _ h => h) (Or.inl ⟨by rfl, ?h25⟩) (H10.out) ?_
                  case h25 =>
                    intro w hSw
                    go_simp
                    with_reducible rfl
                  simp only [List.setIfInBounds_toArray, List.set_cons_zero, List.set_cons_succ]
                  refine' take_at (i := 26) (d := 174) (v := _) rfl rfl (by kernel_rfl) (by kernel_rfl) (by kernel_rfl) (fun _ _ _ h => h) (Or.inl ⟨by rfl, ?h26⟩) (H10.out) ?_
                  case h26 =>
                    intro w hSw
                    go_simp
                    with_reducible rfl
                  simp only [List.setIfInBounds_toArray, List.set_cons_zero, List.set_cons_succ]
                  refine' take_at (i := 27) (d := 22) (v := _) rfl rfl (by kernel_rfl) (by kernel_rfl) (by kernel_rfl) (fun _ _ _ h => h) (Or.inl ⟨by rfl, ?h27⟩) (H10.out) ?_
                  case h27 =>
                    intro w hSw
                    go_simp
                    with_reducible rfl
                  simp only [List.setIfInBounds_toArray, List.set_cons_zero, List.set_cons_succ]
                  refine' take_at (i := 28) (d := 23) (v := _) rfl rfl (by kernel_rfl) (by kernel_rfl) (by kernel_rfl) (fun _ _ _ h => h) (Or.inl ⟨by rfl, ?h28⟩) (H10.out) ?_
                  case h28 =>
                    intro w hSw
                    go_simp
                    with_reducible rfl
                  simp only [List.setIfInBounds_toArray, List.set_cons_zero, List.set_cons_succ]
                  refine wpAnyH_done (by kernel_rfl) ?_ _
                  cases T with
                  | false =>
                    have HY : Hid (R = (3, none)) := HNO.out (p, n) HE.out.2.1 (fun h => by
                      have h2 := HT.out.2 (h.2 s (List.mem_of_getElem? HSS.out.1))
                      cases h2)
                    go_wp2
                    go_ret2
                    rw [HY.out]
                    exact ⟨fun _ => rfl, fun t ht => (by cases ht), H6.out.1.trans (H10.out.mono H6.out.1.size)⟩
                  | true =>
                    have HJ : Hid (∀ x ∈ n.names.take (j + 1), ∃ m, Tq.find l (Tq.sub p x) = some m) := fun x hx => by
                      rw [List.take_add_one, HSS.out.1] at hx
                      rcases List.mem_append.1 hx with hx | hx
                      · exact H9.out.1 x hx
                      · simp at hx
                        rw [hx]
                        exact HT.out.1 rfl
                    go_wp2
                    go_roundw
                    case rel => exact ⟨j + 1, by omega, by go_num, HJ.out, H10.out⟩
                    case measure => simp [intOf]; omega
              · have hjl' : ¬ (j : Int) < (nL : Int) := by omega
                have HJ : Hid (∀ e ∈ l.take (k + 1), Tq.OkE l e) := fun e he => by
                  rw [List.take_add_one, HE.out.1] at he
                  rcases List.mem_append.1 he with he | he
                  · exact H7.out.1 e he
                  · simp at he
                    rw [he]
                    refine ⟨HPAR.out, fun s hs => H9.out.1 s ?_⟩
                    rw [List.take_of_length_le (by have := HnL.out; omega)]
                    exact hs
                go_wp2
                go_roundw
                case rel => exact ⟨k + 1, by omega, by go_num, HJ.out, H9.out.2⟩
                case measure => simp [intOf]; omega
          · have ho' : (m.owner == 0) = false := by simp [ho]
            have HY : Hid (R = (3, none)) := HNO.out (p, n) HE.out.2.1 (fun h => by
              obtain ⟨m', hm', h0, _⟩ := h.1 u HU.out
              rw [HM.out.1] at hm'
              rw [← Option.some.inj hm'] at h0
              exact ho h0)
            clear ho
            go_wp2
            go_ret2
            rw [HY.out]
            exact ⟨fun _ => rfl, fun t ht => (by cases ht), H6.out.1.trans (HA.out.mono H6.out.1.size)⟩
  have hlt' : ¬ (k : Int) < (L : Int) := by omega
  have HJ : Hid (Tq.joinB l = true ∧ l.length = N) := by
    have h := H7.out.1
    rw [List.take_of_length_le (by have := HC.out.1; omega)] at h
    have h2 : Tq.joinB l = true := (Tq.join_iff (t := ⟨500, l⟩) H6.out.2.2.1).2 ((Tq.jn_ok (t := ⟨500, l⟩) H6.out.2.2.1).2 h)
    exact ⟨h2, by rw [HRE.out.2, List.length_map]; exact HLR.out⟩
  by_cases hmany : room < (N : Int)
  · have HY : Hid (R = (2, none)) := by
      have h : R = (2, none) := by rw [HR.out]; exact Tq.get_many (by have := HRM.out; omega) H6.out.2.2.2 HJ.out.1 (by show room < (l.length : Int); rw [HJ.out.2]; exact hmany)
      exact h
    go_wp2
    go_ret2
    rw [HY.out]
    exact ⟨fun _ => rfl, fun t ht => (by cases ht), H6.out.1.trans (H7.out.2.mono H6.out.1.size)⟩
  have HY : Hid (R = (0, some ⟨room, l⟩)) := by
    have h : R = (0, some ⟨room, l⟩) := by rw [HR.out]; exact Tq.get_yes (by have := HRM.out; omega) H6.out.2.2.2 HJ.out.1 (by show ¬ room < (l.length : Int); rw [HJ.out.2]; exact hmany)
    exact h
  have HF : Hid (Rt11 (wr.setCell ⟨qt, 0, none⟩ (.int .i64 room)) qt room l ∧ Below w.heap.size w (wr.setCell ⟨qt, 0, none⟩ (.int .i64 room))) := by
    have h1 := ((HRE.out.1.later H7.out.2).room14 room).rt
    rw [← HRE.out.2] at h1
    have h2 := H6.out.1.trans (H7.out.2.mono H6.out.1.size)
    refine ⟨h1, h2.grown (grownBy_setCell wr ⟨qt, 0, none⟩ _) h2.size (fun k hk => ?_)⟩
    have h3 := HRE.out.1.hi
    have h4 := HBW.out
    simp only [Option.some.injEq] at hk
    omega
  have d0 : wr.cell? ⟨qt, 0, none⟩ = some (.int .i64 500) := ((HRE.out.1.later H7.out.2).blk.cell 0).trans rfl
  have f0 := (HRE.out.1.later H7.out.2).blk.free 0
  go_wp2
  go_ret2
  rw [HY.out]
  exact ⟨fun h => (by cases h), fun t ht => by
    obtain rfl := Option.some.inj ht
    exact ⟨qt, rfl, HF.out.1⟩, HF.out.2⟩
end Go.Proofs.YtpidafpaffpnaaaGreatDoor
