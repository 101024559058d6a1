/- Steps of the reference's Get: what is read, what is owned, what is left at its end. -/
import Derived.Test.YtcpajjjkhikipaaGreatDoorGetState
import Derived.Test.YtcpajjjkhikipaaGreatDoorSpecs5
namespace Go.Proofs.YtcpajjjkhikipaaGreatDoor
open Go.RowKit

theorem Rf.start {w : World} {v : Value} {b : List UInt8} (hb : Bs w v b) (hN : b.length ≤ 100000) (t : TypeId) : Pw.Rf (w.alloc (.cells #[v, .int .i64 0, .bool false] t)) w.heap.size v b b false := by
  have hal := (Below.refl w.heap.size w).alloc (Nat.le_refl _) (.cells #[v, .int .i64 0, .bool false] t)
  refine ⟨⟨0, cell?_alloc_at _ _ _ _ _ _ rfl, Nat.zero_le _, fun _ => rfl⟩, cell?_alloc_at _ _ _ _ _ _ rfl, cell?_alloc_at _ _ _ _ _ _ rfl, by simp, by simp, hb.below hal, fun h e => ?_, fun e => (by cases e), hN⟩
  obtain ⟨g, o, n, c, rfl, _, _, hc⟩ := hb.plain h
  have hlt := World.block_lt_of_cell? w _ (hc 0 b[0] (List.getElem?_eq_getElem h))
  simp only [Value.ownBlock, Option.some.injEq] at e
  simp only [] at hlt
  omega

/-- What the call owns grew: which block that was. -/
theorem GetS.where_ {w wr wx w' : World} {q0 qr qq : Nat} {v : Value} {b ys : List UInt8} {bad : Bool} {s n : Int} {u : Value} {os : List O} (h : GetS w wr q0 qr qq v b ys bad s n u os) (hal : wr.grownBy wx none) (hg : wx.grownBy w' u.ownBlock) :
    ∃ r, wr.grownBy w' (some r) ∧ (w.heap.size ≤ r ∧ r ≠ qr ∧ r ≠ qq ∧ r ≠ q0) := by
  have hgg : wr.grownBy w' u.ownBlock := grownBy_trans ⟨hal.os, hal.tape, hal.output, hal.size, fun k hk _ => hal.block k hk (by simp)⟩ hg
  cases e : u.ownBlock with
  | none =>
    have l1 := World.block_lt_of_cell? wr _ h.rf.c0
    have l2 := h.req.lt
    have l3 := h.ans.lt
    have l4 := h.below.size
    simp only [] at l1
    exact ⟨wr.heap.size, grown_any hgg _ (fun k hk => by rw [e] at hk; cases hk), ⟨by omega, by omega, by omega, by omega⟩⟩
  | some k =>
    have hk := h.own.lt k e
    exact ⟨k, grown_any hgg _ (fun k' hk' => by rw [e] at hk'; exact (Option.some.inj hk').symm), ⟨hk.1, fun e2 => h.ur (by rw [e, e2]), fun e2 => h.uq (by rw [e, e2]), fun e2 => h.u0 (by rw [e, e2])⟩⟩

theorem GetS.reqAt {w wr wx w' : World} {q0 qr qq : Nat} {v : Value} {b ys : List UInt8} {bad : Bool} {s n : Int} {u : Value} {os : List O} (h : GetS w wr q0 qr qq v b ys bad s n u os) (hal : wr.grownBy wx none) (hg : wx.grownBy w' u.ownBlock) : ReqV w' qq s n u := by
  obtain ⟨r, h1, h2⟩ := h.where_ hal hg
  exact h.req.grown h1 h2.2.2.1.symm

/-- An Op more was read, and stands behind the others. -/
theorem GetS.push {w wr wx w' : World} {q0 qr qq : Nat} {v : Value} {b ys : List UInt8} {bad : Bool} {s n : Int} {u u' : Value} {os : List O} {o : O} (h : GetS w wr q0 qr qq v b ys bad s n u os) (hv : ∃ a m c, v = .slice a m c) (hal : wr.grownBy wx none) (hown : w'.ownsRow w.heap.size 24 5 u' (os ++ [o]).length ((os ++ [o]).flatMap oc)) (hg : wx.grownBy w' u.ownBlock) :
    GetS w (w'.setCell ⟨qq, 2, none⟩ u') q0 qr qq v b ys bad s n u' (os ++ [o]) := by
  obtain ⟨r, hr1, hr2⟩ := h.where_ hal hg
  have rf' := h.rf.grown hr1 hr2.2.1.symm (fun hb e => by have := h.vb hb r e; omega)
  have req' := h.req.grown hr1 hr2.2.2.1.symm
  have ans' := h.ans.grown hr1 hr2.2.2.2.symm
  obtain ⟨g, K, p, hgb, hc0, hc1⟩ := own_block hown (by simp)
  have n1 : u'.ownBlock ≠ some qr := fun e => by
    rw [hgb] at e
    obtain rfl := Option.some.inj e
    obtain ⟨a, m, c, rfl⟩ := hv
    have := rf'.c0
    rw [hc0] at this
    cases this
  have n2 : u'.ownBlock ≠ some qq := fun e => by
    rw [hgb] at e
    obtain rfl := Option.some.inj e
    have := req'.box.c1
    rw [hc1] at this
    cases this
  have n3 : u'.ownBlock ≠ some q0 := fun e => by
    rw [hgb] at e
    obtain rfl := Option.some.inj e
    have := ans'.box.c1
    rw [hc1] at this
    cases this
  have hset := grownBy_setCell w' ⟨qq, 2, none⟩ u'
  exact ⟨rf'.grown hset h.rq (fun hb e => by have := h.vb hb qq e; have := h.hq; omega), req'.set2 u', ans'.grown hset h.q00.symm, hown.kept hset (Or.inr n2), n1, n2, n3, h.hr, h.hq, h.h0, h.rq, h.r0, h.q00, h.vb, Below.reader (Below.reader h.below hr1 (Nat.le_refl _) hr2.1) hset (Nat.le_refl _) h.hq⟩


theorem rdO_fine (ys : List UInt8) (bad : Bool) : Oq.Fine (Oq.rdO ys bad).1 ∧ (Oq.rdO ys bad).1.path.size ≤ 200 ∧ (Oq.rdO ys bad).1.data.size ≤ 1000 := by
  unfold Oq.rdO
  simp only []
  have h1 := rT_max 200 (Pk.rI ys bad).2.1 (Pk.rI ys bad).2.2 (by decide)
  have h2 := rT_max 1000 (Pk.rT 200 (Pk.rI ys bad).2.1 (Pk.rI ys bad).2.2).2.1 (Pk.rT 200 (Pk.rI ys bad).2.1 (Pk.rI ys bad).2.2).2.2 (by decide)
  have e1 : ∀ l : List UInt8, (ByteArray.mk l.toArray).size = l.length := fun l => by simp [ByteArray.size]
  refine ⟨⟨rI_rng _ _, rI_rng _ _, rI_rng _ _, ?_, ?_⟩, ?_, ?_⟩ <;> simp only [e1] <;> omega

theorem rdL_fine : ∀ (k : Nat) (ys : List UInt8) (bad : Bool) (o : O), o ∈ (Oq.rdL k ys bad).1 → Oq.Fine o ∧ o.path.size ≤ 200 ∧ o.data.size ≤ 1000
  | 0, _, _, o, h => by simp [Oq.rdL] at h
  | k + 1, ys, bad, o, h => by
    rw [Oq.rdL] at h
    split at h
    · simp at h
    · rcases List.mem_cons.1 h with rfl | h
      · exact rdO_fine _ _
      · exact rdL_fine k _ _ o h

/-- What the reading of a request's bytes comes to. -/
theorem is_read {b y2 y3 y4 : List UInt8} {b2 b3 b4 : Bool} {s n s' n' : Int} {c : Nat} {os' : List O} (h : Is b s' n' os')
    (he : (s = (Pk.rI b false).1 ∧ y2 = (Pk.rI b false).2.1 ∧ b2 = (Pk.rI b false).2.2) ∧ (n = (Pk.rI y2 b2).1 ∧ y3 = (Pk.rI y2 b2).2.1 ∧ b3 = (Pk.rI y2 b2).2.2) ∧ ((c : Int) = (Pk.rC 16 y3 b3).1 ∧ y4 = (Pk.rC 16 y3 b3).2.1 ∧ b4 = (Pk.rC 16 y3 b3).2.2)) :
    s = s' ∧ n = n' ∧ Oq.rdL c y4 b4 = (os', [], false) := by
  obtain ⟨hm, hb, hs, hn, hf⟩ := h
  have hz := may_sizes hm
  obtain ⟨⟨e1, e2, e3⟩, ⟨e4, e5, e6⟩, ⟨e7, e8, e9⟩⟩ := he
  rw [← hb] at e1 e2 e3
  unfold Oq.bytes at e1 e2 e3
  simp only [List.append_assoc] at e1 e2 e3
  rw [Pk.rI_be8 s' _ false hs.1 hs.2] at e1 e2 e3
  simp only [] at e1 e2 e3
  rw [e2, e3, Pk.rI_be8 n' _ false hn.1 hn.2] at e4 e5 e6
  simp only [] at e4 e5 e6
  have hc : Pk.rC 16 y3 b3 = ((os'.length : Int), os'.flatMap Oq.obytes, false) := by
    unfold Pk.rC
    rw [e5, e6, Pk.rI_be8 _ _ false (by omega) (by omega)]
    simp only []
    rw [if_neg (by omega)]
  rw [hc] at e7 e8 e9
  simp only [] at e7 e8 e9
  have hcl : c = os'.length := by omega
  have hr := Oq.rdL_flat os' [] (fun o ho => ⟨hf o ho, hz.2.2.2.2 o ho⟩)
  rw [List.append_nil] at hr
  exact ⟨e1, e4, by rw [hcl, e8, e9]; exact hr⟩

theorem GetS.fin {w wr : World} {q0 qr qq : Nat} {v : Value} {b ys : List UInt8} {bad : Bool} {s n : Int} {u : Value} {os : List O} (h : GetS w wr q0 qr qq v b ys bad s n u os) : FinS w wr q0 qq v b s n u os :=
  ⟨h.req.box, h.ans, Ol.own h.own, h.rf.bs, h.below, h.h0, h.q00, h.u0⟩

theorem Rf.drew {w : World} {q : Nat} {v : Value} {xs ys : List UInt8} {bad : Bool} (h : Pw.Rf w q v xs ys bad) : Pw.Rf w.drew q v xs ys bad :=
  ⟨h.pos, h.c0, h.c2, h.f1, h.f2, h.bs.below (Below.refl _ w).drew, h.blk, h.sad, h.few⟩
end Go.Proofs.YtcpajjjkhikipaaGreatDoor
