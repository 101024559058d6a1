/- What op.Get answers, of every bytes. -/
import Derived.Test.YtcpajjjkhikipaaGreatDoorWPut5
import Derived.Test.YtcpajjjkhikipaaGreatDoorPlainG5
namespace Go.Proofs.YtcpajjjkhikipaaGreatDoor
open Go.RowKit

/-- What Get has under way: the Reader at qr, the request at qq, the answer's place at q0. -/
structure GetL (w wr : World) (q0 qr qq : Nat) (ys : List UInt8) (bad : Bool) (s n : Int) (u : Value) (os : List O) : Prop where
  rd : Pw.Rd wr qr ys bad
  req : ReqV wr qq s n u
  ans : ReqV wr q0 0 0 (.slice none 0 0)
  own : wr.ownsRow (qr + 1) 24 5 u os.length (os.flatMap oc)
  uq : u.ownBlock ≠ some qq
  h0 : w.heap.size ≤ q0
  r0 : q0 < qr
  rq : qr < qq
  below : Below w.heap.size w wr

/-- The Reader has read. -/
theorem GetL.read {w wr w' : World} {q0 qr qq : Nat} {ys ys' : List UInt8} {bad bad' : Bool} {s n : Int} {u : Value} {os : List O} (h : GetL w wr q0 qr qq ys bad s n u os) (hr : Pw.Rd w' qr ys' bad') (hg : wr.grownBy w' (some qr)) : GetL w w' q0 qr qq ys' bad' s n u os :=
  ⟨hr, h.req.grown hg (by have := h.rq; omega), h.ans.grown hg (by have := h.r0; omega), h.own.kept hg (Or.inr fun e => by have := (h.own.lt qr e).1; omega), h.uq, h.h0, h.r0, h.rq, Below.reader h.below hg (Nat.le_refl _) (by have := h.h0; have := h.r0; omega)⟩

theorem GetL.drew {w wr : World} {q0 qr qq : Nat} {ys : List UInt8} {bad : Bool} {s n : Int} {u : Value} {os : List O} (h : GetL w wr q0 qr qq ys bad s n u os) : GetL w wr.drew q0 qr qq ys bad s n u os :=
  ⟨h.rd.below (Below.refl _ _).drew, h.req.below (Below.refl _ _).drew, h.ans.below (Below.refl _ _).drew, h.own.kept (grownBy_drew wr none) (Classical.em _), h.uq, h.h0, h.r0, h.rq, h.below.drew⟩

/-- What the call owns grew: which block that was. -/
theorem GetL.where_ {w wr wx w' : World} {q0 qr qq : Nat} {ys : List UInt8} {bad : Bool} {s n : Int} {u : Value} {os : List O} (h : GetL w wr q0 qr qq ys bad s n u os) (hal : wr.grownBy wx none) (hg : wx.grownBy w' u.ownBlock) :
    ∃ r, wr.grownBy w' (some r) ∧ (qr < r ∧ r ≠ qq) := by
  have hgg : wr.grownBy w' u.ownBlock := grownBy_trans ⟨hal.os, hal.tape, hal.output, hal.size, fun k hk _ => hal.block k hk (by simp)⟩ hg
  cases e : u.ownBlock with
  | none =>
    have l1 := h.rd.lt
    have l2 := h.req.lt
    exact ⟨wr.heap.size, grown_any hgg _ (fun k hk => by rw [e] at hk; cases hk), ⟨by omega, by omega⟩⟩
  | some k =>
    have hk := h.own.lt k e
    exact ⟨k, grown_any hgg _ (fun k' hk' => by rw [e] at hk'; exact (Option.some.inj hk').symm), ⟨by omega, fun e2 => h.uq (by rw [e, e2])⟩⟩

theorem GetL.reqAt {w wr wx w' : World} {q0 qr qq : Nat} {ys : List UInt8} {bad : Bool} {s n : Int} {u : Value} {os : List O} (h : GetL w wr q0 qr qq ys bad s n u os) (hal : wr.grownBy wx none) (hg : wx.grownBy w' u.ownBlock) : ReqV w' qq s n u := by
  obtain ⟨r, h1, h2⟩ := h.where_ hal hg
  exact h.req.grown h1 h2.2.symm

/-- An Op more was read, and stands behind the others. -/
theorem GetL.push {w wr wx w' : World} {q0 qr qq : Nat} {ys : List UInt8} {bad : Bool} {s n : Int} {u u' : Value} {os : List O} {o : O} (h : GetL w wr q0 qr qq ys bad s n u os) (hal : wr.grownBy wx none) (hown : w'.ownsRow (qr + 1) 24 5 u' (os ++ [o]).length ((os ++ [o]).flatMap oc)) (hg : wx.grownBy w' u.ownBlock) :
    GetL w (w'.setCell ⟨qq, 2, none⟩ u') q0 qr qq ys bad s n u' (os ++ [o]) := by
  obtain ⟨r, hr1, hr2⟩ := h.where_ hal hg
  have rd' := h.rd.grown hr1 hr2.1
  have req' := h.req.grown hr1 hr2.2.symm
  have hr0 := h.r0
  have ans' := h.ans.grown hr1 (by omega)
  obtain ⟨g, K, p, hgb, hc0, hc1⟩ := own_block hown (by simp)
  have n2 : u'.ownBlock ≠ some qq := fun e => by
    rw [hgb] at e
    obtain rfl := Option.some.inj e
    have := req'.box.c1
    rw [hc1] at this
    cases this
  have hset := grownBy_setCell w' ⟨qq, 2, none⟩ u'
  have hrq := h.rq
  have h0 := h.h0
  exact ⟨rd'.grown hset hrq, req'.set2 u', ans'.grown hset (by show q0 ≠ qq; omega), hown.kept hset (Or.inr n2), n2, h.h0, h.r0, h.rq, Below.reader (Below.reader h.below hr1 (Nat.le_refl _) (by omega)) hset (Nat.le_refl _) (by show w.heap.size ≤ qq; omega)⟩

theorem Ol.none (w : World) : Ol w (.slice none 0 0) [] := ⟨_, _, _, rfl, rfl, Nat.le_refl _, fun _ => rfl, fun j o h => by simp at h⟩

set_option maxRecDepth 20000 in
set_option maxHeartbeats 1000000 in
theorem bytesEqual_any (v v' : Value) (xs ys : List UInt8) (w : World) (h : Bs w v xs) (h' : Bs w v' ys) :
    Calls Tryz.prog 45 #[v, v'] w (BoolP (xs = ys) w) := by
  have h1 : ∀ q, (convert 27 9 v).run Tryz.prog (w.drewN q) = .ok (.string ⟨xs.toArray⟩) (w.drewN q) := fun q => (h.below (below_drewN (Below.refl _ _) q)).conv
  have h2 : ∀ q, (convert 27 9 v').run Tryz.prog (w.drewN q) = .ok (.string ⟨ys.toArray⟩) (w.drewN q) := fun q => (h'.below (below_drewN (Below.refl _ _) q)).conv
  have k1 := h1 0
  have k2 := h2 0
  obtain ⟨X, hX⟩ : ∃ X : ByteArray, X = ⟨xs.toArray⟩ := ⟨_, rfl⟩
  obtain ⟨Y, hY⟩ : ∃ Y : ByteArray, Y = ⟨ys.toArray⟩ := ⟨_, rfl⟩
  have k1 : (convert 27 9 v).run Tryz.prog w = .ok (.string X) w := by rw [hX]; exact h.conv
  have k2 : (convert 27 9 v').run Tryz.prog w = .ok (.string Y) w := by rw [hY]; exact h'.conv
  have HXY : Hid ((X.toList == Y.toList) = true ↔ xs = ys) := by
    have e : ∀ l : List UInt8, (ByteArray.mk l.toArray).toList = l := fun l => by rw [ByteArray.toList_eq]
    rw [hX, hY, e, e]
    exact beq_iff_eq
  clear h1 h2 h h' hX hY
  go_enter Tryz.func45, Tryz.ntmps45
  go_wp2
  go_ret
  exact ⟨_, rfl, HXY.out, Below.refl _ _⟩

/-- 'append(l, o)' in a drawn region. -/
theorem wp_op1 {o : Oper} {a : Act} {K : Act → World → Prop} {Q : Exit → Act → World → Prop} (s x : Operand)
    (ho : o.op = .call { callee := .builtin .append, args := #[s, x], argTypes := #[29, 29] })
    (B : Nat) (v : Value) (ls : List O) (y : O) (w0 : World) (q : Nat) (hq : q = w0.heap.size) (hs : a.eval s = v) (hx : a.eval x = .slice (some ⟨q, 0, none⟩) 1 1) (hown : w0.ownsRow B 24 5 v ls.length (ls.flatMap oc)) (hB : B ≤ w0.heap.size) (hN : ls.length ≤ 1000)
    (h : ∀ v' w', w'.ownsRow B 24 5 v' (ls ++ [y]).length ((ls ++ [y]).flatMap oc) → (w0.alloc (.cells (oc y).toArray 24)).grownBy w' v.ownBlock → K (a.put o.dst v') w') : o.wp Tryz.prog a (w0.alloc (.cells (oc y).toArray 24)) K Q := by
  subst hq
  obtain ⟨i0, hi, hz0, hz1, hz2⟩ := info_parts infoOp
  refine wp_append_own _ s x 29 ho B 24 i0 (.agg #[.int .i64 0, .string ⟨#[]⟩, .string ⟨#[]⟩, .int .i64 0, .int .i64 0]) 5 56 Tryz.underlying29 hi hz0 hz1 hz2 rfl (by decide) v ls.length (ls.flatMap oc) hs (hown.alloc _) ⟨w0.heap.size, 0, none⟩ 1 1 (oc y) hx rfl ?_ (fun u hu => flat_one [y] u (by simpa using hu)) (by unfold maxLen; omega) (by omega) (by simp; omega) ?_
  · intro j u hu
    rw [Addr.add_lit, Nat.zero_add]
    exact cell?_alloc_at _ _ _ _ _ _ (by simpa using hu)
  · intro v' w' ho' hg _
    exact h v' w' (by rw [List.length_append, List.flatMap_append]; simpa using ho') hg

theorem FinS.ofGetL {w wr : World} {q0 qr qq : Nat} {ys : List UInt8} {bad : Bool} {s n : Int} {u v : Value} {b : List UInt8} {os : List O} (h : GetL w wr q0 qr qq ys bad s n u os) (hb : Bs w v b) : FinS w wr q0 qq v b s n u os :=
  ⟨h.req.box, h.ans, Ol.own h.own, hb.below h.below, h.below, h.h0, by have := h.r0; have := h.rq; omega, fun e => by have := (h.own.lt q0 e).1; have := h.r0; omega⟩

set_option maxRecDepth 20000 in
set_option maxHeartbeats 4000000 in
theorem get_spec : GetSpec := by
  intro v b w hS hb hN
  have HV : Hid (Bs w v b ∧ b.length ≤ 50000 ∧ Pa.Std w) := ⟨hb, hN, hS⟩
  obtain ⟨av, nv, cv, rfl, hnv, hX⟩ := hb
  have HNV : Hid (nv = b.length) := hnv
  clear hnv hN hX hS
  obtain ⟨q0, hq0⟩ : ∃ q, q = w.heap.size := ⟨_, rfl⟩
  have HA0 : Hid (ReqV (w.alloc (.cells #[.int .i64 0, .int .i64 0, .slice none 0 0] 31)) q0 0 0 (.slice none 0 0)) := by
    rw [hq0]
    exact ReqV.made w 0 0 _ _
  have HB0 : Hid (Below w.heap.size w (w.alloc (.cells #[.int .i64 0, .int .i64 0, .slice none 0 0] 31))) := (Below.refl _ w).alloc (Nat.le_refl _) _
  go_enter Tryz.func21, Tryz.ntmps21
  go_wp2_with fail
  rw [← hq0]
  have HQ0 : Hid (w.heap.size ≤ q0) := by rw [hq0]; exact Nat.le_refl _
  clear hq0
  generalize w.alloc (.cells #[.int .i64 0, .int .i64 0, .slice none 0 0] 31) = w0 at *
  refine (Pw.read_bs _ b _ (HV.out.1.below HB0.out) (by have := HV.out.2.1; omega)).mono ?_
  rintro e w1 ⟨qr, rfl, hqr, hrd, hb1⟩
  have HR1 : Hid (Pw.Rd w1 qr b false) := hrd
  have HA1 : Hid (ReqV w1 q0 0 0 (.slice none 0 0)) := HA0.out.below hb1
  have HB1 : Hid (Below w.heap.size w w1) := HB0.out.trans (hb1.mono HB0.out.size)
  have HQ1 : Hid (q0 < qr) := Nat.lt_of_lt_of_le HA0.out.lt hqr
  clear hqr hrd hb1
  obtain ⟨s, hs⟩ : ∃ s, s = (Pk.rI b false).1 := ⟨_, rfl⟩
  obtain ⟨y2, hy2⟩ : ∃ y, y = (Pk.rI b false).2.1 := ⟨_, rfl⟩
  obtain ⟨b2, hb2⟩ : ∃ y, y = (Pk.rI b false).2.2 := ⟨_, rfl⟩
  obtain ⟨n, hn⟩ : ∃ s, s = (Pk.rI y2 b2).1 := ⟨_, rfl⟩
  obtain ⟨y3, hy3⟩ : ∃ y, y = (Pk.rI y2 b2).2.1 := ⟨_, rfl⟩
  obtain ⟨b3, hb3⟩ : ∃ y, y = (Pk.rI y2 b2).2.2 := ⟨_, rfl⟩
  obtain ⟨c, hc⟩ : ∃ c : Nat, (c : Int) = (Pk.rC 16 y3 b3).1 ∧ c ≤ 16 := ⟨(Pk.rC 16 y3 b3).1.toNat, by have := rC_most y3 b3; omega, by have := rC_most y3 b3; omega⟩
  obtain ⟨y4, hy4⟩ : ∃ y, y = (Pk.rC 16 y3 b3).2.1 := ⟨_, rfl⟩
  obtain ⟨b4, hb4⟩ : ∃ y, y = (Pk.rC 16 y3 b3).2.2 := ⟨_, rfl⟩
  have HEQ : Hid ((s = (Pk.rI b false).1 ∧ y2 = (Pk.rI b false).2.1 ∧ b2 = (Pk.rI b false).2.2) ∧ (n = (Pk.rI y2 b2).1 ∧ y3 = (Pk.rI y2 b2).2.1 ∧ b3 = (Pk.rI y2 b2).2.2) ∧ ((c : Int) = (Pk.rC 16 y3 b3).1 ∧ y4 = (Pk.rC 16 y3 b3).2.1 ∧ b4 = (Pk.rC 16 y3 b3).2.2)) := ⟨⟨hs, hy2, hb2⟩, ⟨hn, hy3, hb3⟩, ⟨hc.1, hy4, hb4⟩⟩
  have hc16 : c ≤ 16 := hc.2
  clear hs hy2 hb2 hn hy3 hb3 hc hy4 hb4
  go_wp2_with fail
  refine (Pw.rI64_any qr b false _ HR1.out).mono ?_
  rintro e w2 ⟨rfl, hr, hg⟩
  rw [← HEQ.out.1.1]
  rw [← HEQ.out.1.2.1, ← HEQ.out.1.2.2] at hr
  have HR2 : Hid (Pw.Rd w2 qr y2 b2) := hr
  have HA2 : Hid (ReqV w2 q0 0 0 (.slice none 0 0)) := HA1.out.grown hg (by have := HQ1.out; omega)
  have HB2 : Hid (Below w.heap.size w w2) := Below.reader HB1.out hg (Nat.le_refl _) (by have := HQ0.out; have := HQ1.out; omega)
  clear hr hg
  go_wp2_with fail
  refine (Pw.rI64_any qr y2 b2 _ HR2.out).mono ?_
  rintro e w3 ⟨rfl, hr, hg⟩
  rw [← HEQ.out.2.1.1]
  rw [← HEQ.out.2.1.2.1, ← HEQ.out.2.1.2.2] at hr
  have HR3 : Hid (Pw.Rd w3 qr y3 b3) := hr
  have HA3 : Hid (ReqV w3 q0 0 0 (.slice none 0 0)) := HA2.out.grown hg (by have := HQ1.out; omega)
  have HB3 : Hid (Below w.heap.size w w3) := Below.reader HB2.out hg (Nat.le_refl _) (by have := HQ0.out; have := HQ1.out; omega)
  clear hr hg
  obtain ⟨qq, hqq⟩ : ∃ q, q = w3.heap.size := ⟨_, rfl⟩
  have HLT : Hid (qr < qq) := by rw [hqq]; exact HR3.out.lt
  have HG4 : Hid (GetL w (w3.alloc (.cells #[.int .i64 s, .int .i64 n, .slice none 0 0] 31)) q0 qr qq y3 b3 s n (.slice none 0 0) []) := by
    have hg : w3.grownBy (w3.alloc (.cells #[.int .i64 s, .int .i64 n, .slice none 0 0] 31)) (some qq) := World.grownBy_alloc _ _ _
    exact ⟨HR3.out.grown hg HLT.out, by rw [hqq]; exact ReqV.made w3 s n _ _, HA3.out.grown hg (by have := HQ1.out; have := HLT.out; omega), World.ownsRow_nil _ _ _ _, by simp [Value.ownBlock], HQ0.out, HQ1.out, HLT.out, Below.reader HB3.out hg (Nat.le_refl _) (by have := HQ0.out; have := HQ1.out; have := HLT.out; omega)⟩
  go_wp2_with fail
  rw [← hqq]
  clear hqq
  generalize w3.alloc (.cells #[.int .i64 s, .int .i64 n, .slice none 0 0] 31) = w4 at *
  refine (Pw.rCount_any qr 16 y3 b3 _ HG4.out.rd).mono ?_
  rintro e w5 ⟨rfl, hr, hg⟩
  rw [← HEQ.out.2.2.1]
  rw [← HEQ.out.2.2.2.1, ← HEQ.out.2.2.2.2] at hr
  have HG5 : Hid (GetL w w5 q0 qr qq y4 b4 s n (.slice none 0 0) []) := HG4.out.read hr hg
  clear hr hg
  go_wp2
  go_loopw [15] (fun i wr => ∃ (k : Nat) (ys : List UInt8) (bad : Bool) (u : Value) (os : List O), k ≤ c ∧ i = .int .i64 (k : Int) ∧ os.length = k ∧ GetL w wr q0 qr qq ys bad s n u os ∧ Oq.rdL2 c y4 b4 = (os ++ (Oq.rdL2 (c - k) ys bad).1, (Oq.rdL2 (c - k) ys bad).2)) (fun i _ => ((c : Int) - intOf i).toNat)
  case atStart => exact ⟨0, y4, b4, .slice none 0 0, [], Nat.zero_le _, rfl, rfl, HG5.out, by simp⟩
  case round =>
    obtain ⟨k, ys, bad, u, os, hk, rfl, hol, hgs, hrd⟩ := hrel
    obtain ⟨au, mu, cu, rfl⟩ := own_slice hgs.own
    have HGS : Hid (GetL w wr q0 qr qq ys bad s n (.slice au mu cu) os) := hgs
    have HRD : Hid (os.length = k ∧ Oq.rdL2 c y4 b4 = (os ++ (Oq.rdL2 (c - k) ys bad).1, (Oq.rdL2 (c - k) ys bad).2)) := ⟨hol, hrd⟩
    clear hgs hol hrd
    by_cases hlt : k < c
    · have hlt' : (k : Int) < (c : Int) := by omega
      have HOL : Hid (os.length = k ∧ k < 16) := ⟨HRD.out.1, by omega⟩
      obtain ⟨o, ho⟩ : ∃ o, o = (Oq.rdO2 ys bad).1 := ⟨_, rfl⟩
      obtain ⟨yE, hyE⟩ : ∃ y, y = (Oq.rdO2 ys bad).2.1 := ⟨_, rfl⟩
      obtain ⟨bE, hbE⟩ : ∃ y, y = (Oq.rdO2 ys bad).2.2 := ⟨_, rfl⟩
      have HRD2 : Hid (Oq.rdL2 c y4 b4 = ((os ++ [o]) ++ (Oq.rdL2 (c - (k + 1)) yE bE).1, (Oq.rdL2 (c - (k + 1)) yE bE).2)) := by
        rw [ho, hyE, hbE]
        exact rdL2_step hlt HRD.out.2
      have HRO : Hid ((Oq.rdO2 ys bad).1 = o ∧ (Oq.rdO2 ys bad).2.1 = yE ∧ (Oq.rdO2 ys bad).2.2 = bE) := ⟨ho.symm, hyE.symm, hbE.symm⟩
      clear ho hyE hbE
      have HGX : Hid (GetL w wr.drew q0 qr qq ys bad s n (.slice au mu cu) os) := HGS.out.drew
      go_wp2_with fail
      refine wp_region_held_drew (S := fun _ => True) (by kernel_rfl) trivial (fun _ => ?_)
      generalize wr.drew = wX at *
      refine' take_at (i := 0) (d := 17) (v := _) rfl rfl (by kernel_rfl) (by kernel_rfl) (by kernel_rfl) (fun _ _ _ h => h) (Or.inl ⟨by rfl, ?h0⟩) trivial ?_
      case h0 => intro w hSw; go_simp; with_reducible rfl
      simp only [List.setIfInBounds_toArray, List.set_cons_zero, List.set_cons_succ]
      refine' take_at (i := 2) (d := 19) (v := _) rfl rfl (by kernel_rfl) (by kernel_rfl) (by kernel_rfl) (fun _ _ _ h => h) (Or.inl ⟨by rfl, ?h2⟩) trivial ?_
      case h2 => intro w hSw; go_simp; with_reducible rfl
      simp only [List.setIfInBounds_toArray, List.set_cons_zero, List.set_cons_succ]
      refine wpAnyH_ready (rs := [1, 3]) (by kernel_rfl) (by simp) ?_
      refine AllReadyH.cons (o := _) rfl (fun K hK => ?_) (AllReadyH.cons (o := _) rfl (fun K hK => ?_) AllReadyH.nil)
      · have hc2 := HGX.out.req.box.c2
        go_simp
        clear hc2
        refine hK.out _ _ trivial (fun _ => ?_)
        clear hK K
        refine wpAnyH_ready (rs := [3]) (by kernel_rfl) (by simp) ?_
        refine AllReadyH.cons (o := _) rfl (fun K hK => ?_) AllReadyH.nil
        go_simp
        refine (next_any qr ys bad _ HGX.out.rd).mono ?_
        rintro e wA ⟨rfl, hr, hg⟩
        rw [HRO.out.1, HRO.out.2.1, HRO.out.2.2] at *
        have HGA : Hid (GetL w wA q0 qr qq yE bE s n (.slice au mu cu) os) := HGX.out.read hr hg
        clear hr hg
        unfold ov
        simp only []
        refine hK.out _ _ trivial (fun _ => ?_)
        clear hK K
        refine wpAnyH_ready (rs := [4]) (by kernel_rfl) (by simp) ?_
        refine AllReadyH.cons (o := _) rfl (fun K hK => ?_) AllReadyH.nil
        go_simp
        refine hK.out _ _ trivial (fun _ => ?_)
        clear hK K
        obtain ⟨qa, hqa⟩ : ∃ q, q = wA.heap.size := ⟨_, rfl⟩
        rw [← hqa]
        refine wpAnyH_ready (rs := [5]) (by kernel_rfl) (by simp) ?_
        refine AllReadyH.cons (o := _) rfl (fun K hK => ?_) AllReadyH.nil
        refine wp_op1 _ _ rfl (qr + 1) (.slice au mu cu) os o wA qa hqa rfl rfl HGA.out.own HGA.out.rd.lt (by have := HOL.out; omega) ?_
        intro u2 wB ho2 hg2
        have HRB : Hid (ReqV wB qq s n (.slice au mu cu)) := HGA.out.reqAt (World.grownBy_alloc _ _ none) hg2
        obtain ⟨a2, m2, cc2, rfl⟩ := own_slice ho2
        have HGB : Hid (GetL w (wB.setCell ⟨qq, 2, none⟩ (.slice a2 m2 cc2)) q0 qr qq yE bE s n (.slice a2 m2 cc2) (os ++ [o])) := HGA.out.push (World.grownBy_alloc _ _ none) ho2 hg2
        clear ho2 hg2 hqa
        go_simp
        refine hK.out _ _ trivial (fun _ => ?_)
        clear hK K
        refine' take_at (i := 6) (d := 23) (v := _) rfl rfl (by kernel_rfl) (by kernel_rfl) (by kernel_rfl) (fun _ _ _ h => h) (Or.inl ⟨by rfl, ?h6⟩) trivial ?_
        case h6 => intro w hSw; go_simp; with_reducible rfl
        simp only [List.setIfInBounds_toArray, List.set_cons_zero, List.set_cons_succ]
        refine wpAnyH_ready (rs := [7]) (by kernel_rfl) (by simp) ?_
        refine AllReadyH.cons (o := _) rfl (fun K hK => ?_) AllReadyH.nil
        have hc2 := HRB.out.box.c2
        have hf2 := HRB.out.free 2
        go_simp
        clear hc2 hf2
        refine hK.out _ _ trivial (fun _ => ?_)
        clear hK K
        refine wpAnyH_done (by kernel_rfl) ?_ _
        generalize wB.setCell ⟨qq, 2, none⟩ (.slice a2 m2 cc2) = wZ at *
        go_wp2
        go_roundw
        case rel => exact ⟨k + 1, yE, bE, .slice a2 m2 cc2, os ++ [o], by omega, by go_num, by simp [HOL.out.1], HGB.out, HRD2.out⟩
        case measure => simp [intOf]; omega
      · go_simp
        refine (next_any qr ys bad _ HGX.out.rd).mono ?_
        rintro e wA ⟨rfl, hr, hg⟩
        rw [HRO.out.1, HRO.out.2.1, HRO.out.2.2] at *
        have HGA : Hid (GetL w wA q0 qr qq yE bE s n (.slice au mu cu) os) := HGX.out.read hr hg
        clear hr hg
        unfold ov
        simp only []
        refine hK.out _ _ trivial (fun _ => ?_)
        clear hK K
        refine wpAnyH_ready (rs := [1, 4]) (by kernel_rfl) (by simp) ?_
        refine AllReadyH.cons (o := _) rfl (fun K hK => ?_) (AllReadyH.cons (o := _) rfl (fun K hK => ?_) AllReadyH.nil)
        · have hc2 := HGA.out.req.box.c2
          go_simp
          clear hc2
          refine hK.out _ _ trivial (fun _ => ?_)
          clear hK K
          refine wpAnyH_ready (rs := [4]) (by kernel_rfl) (by simp) ?_
          refine AllReadyH.cons (o := _) rfl (fun K hK => ?_) AllReadyH.nil
          go_simp
          refine hK.out _ _ trivial (fun _ => ?_)
          clear hK K
          obtain ⟨qa, hqa⟩ : ∃ q, q = wA.heap.size := ⟨_, rfl⟩
          rw [← hqa]
          refine wpAnyH_ready (rs := [5]) (by kernel_rfl) (by simp) ?_
          refine AllReadyH.cons (o := _) rfl (fun K hK => ?_) AllReadyH.nil
          refine wp_op1 _ _ rfl (qr + 1) (.slice au mu cu) os o wA qa hqa rfl rfl HGA.out.own HGA.out.rd.lt (by have := HOL.out; omega) ?_
          intro u2 wB ho2 hg2
          have HRB : Hid (ReqV wB qq s n (.slice au mu cu)) := HGA.out.reqAt (World.grownBy_alloc _ _ none) hg2
          obtain ⟨a2, m2, cc2, rfl⟩ := own_slice ho2
          have HGB : Hid (GetL w (wB.setCell ⟨qq, 2, none⟩ (.slice a2 m2 cc2)) q0 qr qq yE bE s n (.slice a2 m2 cc2) (os ++ [o])) := HGA.out.push (World.grownBy_alloc _ _ none) ho2 hg2
          clear ho2 hg2 hqa
          go_simp
          refine hK.out _ _ trivial (fun _ => ?_)
          clear hK K
          refine' take_at (i := 6) (d := 23) (v := _) rfl rfl (by kernel_rfl) (by kernel_rfl) (by kernel_rfl) (fun _ _ _ h => h) (Or.inl ⟨by rfl, ?h6⟩) trivial ?_
          case h6 => intro w hSw; go_simp; with_reducible rfl
          simp only [List.setIfInBounds_toArray, List.set_cons_zero, List.set_cons_succ]
          refine wpAnyH_ready (rs := [7]) (by kernel_rfl) (by simp) ?_
          refine AllReadyH.cons (o := _) rfl (fun K hK => ?_) AllReadyH.nil
          have hc2 := HRB.out.box.c2
          have hf2 := HRB.out.free 2
          go_simp
          clear hc2 hf2
          refine hK.out _ _ trivial (fun _ => ?_)
          clear hK K
          refine wpAnyH_done (by kernel_rfl) ?_ _
          generalize wB.setCell ⟨qq, 2, none⟩ (.slice a2 m2 cc2) = wZ at *
          go_wp2
          go_roundw
          case rel => exact ⟨k + 1, yE, bE, .slice a2 m2 cc2, os ++ [o], by omega, by go_num, by simp [HOL.out.1], HGB.out, HRD2.out⟩
          case measure => simp [intOf]; omega
        · go_simp
          refine hK.out _ _ trivial (fun _ => ?_)
          clear hK K
          refine wpAnyH_ready (rs := [1]) (by kernel_rfl) (by simp) ?_
          refine AllReadyH.cons (o := _) rfl (fun K hK => ?_) AllReadyH.nil
          have hc2 : (wA.alloc (.cells #[.int .i64 o.kind, .string o.path, .string o.data, .int .i64 o.ver, .int .i64 o.flags] 24)).cell? ⟨qq, 2, none⟩ = some (.slice au mu cu) := Below.kept ((Below.refl _ wA).alloc (Nat.le_refl _) _) HGA.out.req.box.c2
          go_simp
          clear hc2
          refine hK.out _ _ trivial (fun _ => ?_)
          clear hK K
          obtain ⟨qa, hqa⟩ : ∃ q, q = wA.heap.size := ⟨_, rfl⟩
          rw [← hqa]
          refine wpAnyH_ready (rs := [5]) (by kernel_rfl) (by simp) ?_
          refine AllReadyH.cons (o := _) rfl (fun K hK => ?_) AllReadyH.nil
          refine wp_op1 _ _ rfl (qr + 1) (.slice au mu cu) os o wA qa hqa rfl rfl HGA.out.own HGA.out.rd.lt (by have := HOL.out; omega) ?_
          intro u2 wB ho2 hg2
          have HRB : Hid (ReqV wB qq s n (.slice au mu cu)) := HGA.out.reqAt (World.grownBy_alloc _ _ none) hg2
          obtain ⟨a2, m2, cc2, rfl⟩ := own_slice ho2
          have HGB : Hid (GetL w (wB.setCell ⟨qq, 2, none⟩ (.slice a2 m2 cc2)) q0 qr qq yE bE s n (.slice a2 m2 cc2) (os ++ [o])) := HGA.out.push (World.grownBy_alloc _ _ none) ho2 hg2
          clear ho2 hg2 hqa
          go_simp
          refine hK.out _ _ trivial (fun _ => ?_)
          clear hK K
          refine' take_at (i := 6) (d := 23) (v := _) rfl rfl (by kernel_rfl) (by kernel_rfl) (by kernel_rfl) (fun _ _ _ h => h) (Or.inl ⟨by rfl, ?h6⟩) trivial ?_
          case h6 => intro w hSw; go_simp; with_reducible rfl
          simp only [List.setIfInBounds_toArray, List.set_cons_zero, List.set_cons_succ]
          refine wpAnyH_ready (rs := [7]) (by kernel_rfl) (by simp) ?_
          refine AllReadyH.cons (o := _) rfl (fun K hK => ?_) AllReadyH.nil
          have hc2 := HRB.out.box.c2
          have hf2 := HRB.out.free 2
          go_simp
          clear hc2 hf2
          refine hK.out _ _ trivial (fun _ => ?_)
          clear hK K
          refine wpAnyH_done (by kernel_rfl) ?_ _
          generalize wB.setCell ⟨qq, 2, none⟩ (.slice a2 m2 cc2) = wZ at *
          go_wp2
          go_roundw
          case rel => exact ⟨k + 1, yE, bE, .slice a2 m2 cc2, os ++ [o], by omega, by go_num, by simp [HOL.out.1], HGB.out, HRD2.out⟩
          case measure => simp [intOf]; omega
    · have hlt' : ¬ (k : Int) < (c : Int) := by omega
      have hkc : k = c := by omega
      have HRX : Hid (Oq.rdL2 c y4 b4 = (os, ys, bad)) := by
        have h : Oq.rdL2 c y4 b4 = (os, ys, bad) := by
          have h := HRD.out.2
          rw [hkc, Nat.sub_self] at h
          rw [h]
          simp [Oq.rdL2]
        exact h
      have HFT : Hid (∀ o ∈ os, Fit o) := fun o ho => fit_of (rdL2_fine c y4 b4 o (by rw [HRX.out]; exact ho))
      have HO16 : Hid (os.length ≤ 16) := by
        have h : os.length ≤ 16 := by rw [HRD.out.1]; omega
        exact h
      have HF0 : Hid (FinS w wr q0 qq (.slice av nv cv) b s n (.slice au mu cu) os) := FinS.ofGetL HGS.out HV.out.1
      clear hkc
      go_wp2_with fail
      refine (Pw.rEnd_any qr ys bad _ HGS.out.rd).mono ?_
      rintro e wa ⟨rfl, hwa⟩
      rw [hwa]
      clear hwa
      obtain ⟨E, hE⟩ : ∃ E : Bool, E = (!bad && ys.isEmpty) := ⟨_, rfl⟩
      have HE : Hid (E = (!bad && ys.isEmpty)) := hE
      rw [← hE]
      clear hE
      cases E with
      | false =>
        have HNO : Hid (∀ s' n' os', ¬ Is b s' n' os') := by
          have h : ∀ s' n' os', ¬ Is b s' n' os' := fun s' n' os' hi => by
            obtain ⟨_, _, e3⟩ := is_read2 hi HEQ.out
            rw [HRX.out] at e3
            simp only [Prod.mk.injEq] at e3
            have h2 := HE.out
            rw [e3.2.1, e3.2.2] at h2
            cases h2
          exact h
        have hc0 := HF0.out.ans.box.c0
        have hc1 := HF0.out.ans.box.c1
        have hc2 := HF0.out.ans.box.c2
        have hf0 := HF0.out.ans.free 0
        have hf1 := HF0.out.ans.free 1
        have hf2 := HF0.out.ans.free 2
        go_wp2
        clear hc0 hc1 hc2 hf0 hf1 hf2
        have htold := HF0.out.told 0 0 (.slice none 0 0)
        generalize ((wr.setCell ⟨q0, 0, none⟩ (.int .i64 0)).setCell ⟨q0, 1, none⟩ (.int .i64 0)).setCell ⟨q0, 2, none⟩ (.slice none 0 0) = wz at *
        obtain ⟨hzb, ⟨hz0, hz1, hz2⟩, _⟩ := htold
        (try simp only [Exit.inBlock, Exit.then])
        refine bodyPost_ret (v := .tuple #[.agg #[.int .i64 0, .int .i64 0, .slice none 0 0], .int .i64 3]) ?_ rfl ⟨hzb, Or.inr ⟨_, rfl, Ol.none wz, HNO.out⟩⟩
        rw [results_cell_tmp rfl]
        go_simp
      | true =>
        have HEND : Hid (ys = [] ∧ bad = false) := by
          have h : ys = [] ∧ bad = false := by
            have h2 := HE.out
            simp only [Bool.true_eq, Bool.and_eq_true, Bool.not_eq_true', List.isEmpty_iff] at h2
            exact ⟨h2.2, h2.1⟩
          exact h
        have hr0 := HF0.out.req.c0
        have hr1 := HF0.out.req.c1
        have hr2 := HF0.out.req.c2
        go_wp2_with fail
        refine (put_spec s n _ os _ (HV.out.2.2.below HF0.out.below) HF0.out.ol (by unfold maxLen; have := HO16.out; omega) HFT.out).mono ?_
        rintro e wb ⟨vb, rfl, hbs, hbb⟩
        have HSB : Hid (Bs wb vb (Oq.put s n os)) := hbs
        have HFB : Hid (FinS w wb q0 qq (.slice av nv cv) b s n (.slice au mu cu) os) := HF0.out.later hbb
        clear hbs hbb hr0 hr1 hr2
        go_wp2_with fail
        refine (bytesEqual_any vb _ (Oq.put s n os) b _ HSB.out HFB.out.bs).mono ?_
        rintro e wc ⟨C, rfl, hC, hbc⟩
        have HC : Hid (C = true ↔ Oq.put s n os = b) := hC
        have HFC : Hid (FinS w wc q0 qq (.slice av nv cv) b s n (.slice au mu cu) os) := HFB.out.later hbc
        clear hC hbc
        have hc0 := HFC.out.ans.box.c0
        have hc1 := HFC.out.ans.box.c1
        have hc2 := HFC.out.ans.box.c2
        have hf0 := HFC.out.ans.free 0
        have hf1 := HFC.out.ans.free 1
        have hf2 := HFC.out.ans.free 2
        cases C with
        | false =>
          have HNO : Hid (∀ s' n' os', ¬ Is b s' n' os') := by
            have h : ∀ s' n' os', ¬ Is b s' n' os' := fun s' n' os' hi => by
              obtain ⟨e1, e2, e3⟩ := is_read2 hi HEQ.out
              rw [HRX.out] at e3
              simp only [Prod.mk.injEq] at e3
              have h2 : Oq.put s n os = b := by
                rw [e1, e2, e3.1]
                unfold Oq.put
                rw [if_pos hi.1]
                exact hi.2.1
              have := HC.out.2 h2
              cases this
            exact h
          go_wp2
          clear hc0 hc1 hc2 hf0 hf1 hf2
          have htold := HFC.out.told 0 0 (.slice none 0 0)
          generalize ((wc.setCell ⟨q0, 0, none⟩ (.int .i64 0)).setCell ⟨q0, 1, none⟩ (.int .i64 0)).setCell ⟨q0, 2, none⟩ (.slice none 0 0) = wz at *
          obtain ⟨hzb, ⟨hz0, hz1, hz2⟩, _⟩ := htold
          (try simp only [Exit.inBlock, Exit.then])
          refine bodyPost_ret (v := .tuple #[.agg #[.int .i64 0, .int .i64 0, .slice none 0 0], .int .i64 3]) ?_ rfl ⟨hzb, Or.inr ⟨_, rfl, Ol.none wz, HNO.out⟩⟩
          rw [results_cell_tmp rfl]
          go_simp
        | true =>
          have HIS : Hid (Is b s n os) := read_is HEQ.out (by rw [HRX.out, HEND.out.1, HEND.out.2]) (HC.out.1 rfl)
          have hr0 := HFC.out.req.c0
          have hr1 := HFC.out.req.c1
          have hr2 := HFC.out.req.c2
          go_wp2
          clear hc0 hc1 hc2 hf0 hf1 hf2 hr0 hr1 hr2
          have htold := HFC.out.told s n (.slice au mu cu)
          generalize ((wc.setCell ⟨q0, 0, none⟩ (.int .i64 s)).setCell ⟨q0, 1, none⟩ (.int .i64 n)).setCell ⟨q0, 2, none⟩ (.slice au mu cu) = wz at *
          obtain ⟨hzb, ⟨hz0, hz1, hz2⟩, hol⟩ := htold
          (try simp only [Exit.inBlock, Exit.then])
          refine bodyPost_ret (v := .tuple #[.agg #[.int .i64 s, .int .i64 n, .slice au mu cu], .int .i64 0]) ?_ rfl ⟨hzb, Or.inl ⟨s, n, _, os, rfl, hol, HIS.out⟩⟩
          rw [results_cell_tmp rfl]
          go_simp
end Go.Proofs.YtcpajjjkhikipaaGreatDoor
