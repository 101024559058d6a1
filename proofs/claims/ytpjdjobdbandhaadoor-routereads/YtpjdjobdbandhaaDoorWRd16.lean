/- What mayVersion and readMoved do. -/
import Derived.Test.YtpjdjobdbandhaaDoorWMove16
import Derived.Test.YtpjdjobdbandhaaDoorApp16
import Derived.Test.YtpjdjobdbandhaaDoorLibW
namespace Go.Proofs.YtpjdjobdbandhaaDoor
open Go.RowKit

/-- A Table that is read: a Reader, and what was read, in blocks above the Reader's. -/
structure Gs16 (w0 w : World) (r : Nat) (xs : List UInt8) (bad : Bool) (q : Nat) (s : Tb.St) (v : Value) : Prop where
  rd : Pw.Rd w0.heap.size w r xs bad
  lo : w0.heap.size ≤ r
  se : Lt16 w q s v
  hi : ∀ k, Ft16 v q k → r < k
  below : Below w0.heap.size w0 w
section
variable {w0 w w' : World} {r q : Nat} {xs ys : List UInt8} {bad bad' : Bool} {s : Tb.St} {v : Value}
theorem Gs16.later (h : Gs16 w0 w r xs bad q s v) (hb : Below w.heap.size w w') : Gs16 w0 w' r xs bad q s v :=
  ⟨h.rd.below hb, h.lo, h.se.later hb, h.hi, h.below.trans (hb.mono h.below.size)⟩
theorem Gs16.read (h : Gs16 w0 w r xs bad q s v) (hr : Pw.Rd w0.heap.size w' r ys bad') (hg : w.grownBy w' (some r)) : Gs16 w0 w' r ys bad' q s v := by
  have hk : ∀ k, Ft16 v q k → k < w.heap.size → w'.heap[k]? = w.heap[k]? := fun k hk hl => hg.block k hl (fun e => by have := h.hi k hk; simp at e; omega)
  exact ⟨hr, h.lo, ⟨h.se.blk.keep (hk q (Or.inr rfl) h.se.blk.lt), row_stays h.se.row fun k e => hk k (Or.inl e) (h.se.row.lt k e).2⟩, h.hi, Below.reader h.below hg (Nat.le_refl _) h.lo⟩
/-- The version is set. -/
theorem Gs16.vers (h : Gs16 w0 w r xs bad q s v) (z : Int) : Gs16 w0 (w.setCell ⟨q, 1, none⟩ (.int .i64 z)) r xs bad q ⟨s.shards, z, s.l⟩ v := by
  have hg := grownBy_setCell w ⟨q, 1, none⟩ (.int .i64 z)
  have hq := h.hi q (Or.inr rfl)
  exact ⟨h.rd.grown hg hq, h.lo, (h.se.vers z).1, h.hi, h.below.grown hg h.below.size (fun k hk => by have := h.lo; simp at hk; omega)⟩
end
theorem Tb.rI_rng (xs : List UInt8) (bad : Bool) : -9223372036854775808 ≤ (Pk.rI xs bad).1 ∧ (Pk.rI xs bad).1 ≤ 9223372036854775807 := Rq.rI_rng xs bad
theorem Tb.rC_up4 {n : Int} {xs : List UInt8} {bad : Bool} (h0 : 0 ≤ n) : (Pk.rC n xs bad).1 ≤ n := by
  unfold Pk.rC
  split
  · exact h0
  · omega
set_option maxRecDepth 20000 in
set_option maxHeartbeats 4000000 in
theorem may_any16 (q : Nat) (s : Tb.St) (v : Value) (w : World) (h : Lt16 w q s v) (hl : s.l.length ≤ 64) :
    Calls Tryd.prog 36 #[dptr q] w fun e w' => e = .returned (.bool (Tb.verB s.version s.l.length)) ∧ Below w.heap.size w w' := by
  obtain ⟨N, hN⟩ : ∃ N, N = s.l.length := ⟨_, rfl⟩
  have hr := h.row
  rw [← hN] at hr hl ⊢
  obtain ⟨a, c, rfl, _, _⟩ := row_form hr
  have c1 : w.cell? ⟨q, 1, none⟩ = some (.int .i64 s.version) := h.blk.cell 1
  have c2 : w.cell? ⟨q, 2, none⟩ = some (.slice a N c) := h.blk.cell 2
  obtain ⟨z, hz⟩ : ∃ z, z = s.version := ⟨_, rfl⟩
  rw [← hz] at c1 ⊢
  clear h hr hN hz
  have HB : Hid (Below w.heap.size w w) := Below.refl _ _
  unfold dptr
  go_enter Tryd.func36, Tryd.ntmps36
  by_cases h0 : N = 0
  · have h0b : ((N : Int) == 0) = true := by simp [h0]
    have HV : Hid (Tb.verB z N = (z == 1)) := (show Tb.verB z N = (z == 1) by
      unfold Tb.verB
      rw [if_pos h0]
      rfl)
    clear h0
    go_wp2
    go_ret
    exact ⟨by rw [HV.out]; rfl, HB.out⟩
  · have h0b : ((N : Int) == 0) = false := by simp [h0]
    have hw1 : IntKind.wrap .i64 (1 + (N : Int)) = 1 + (N : Int) := by rw [IntKind.wrap_i64]; omega
    have HV : Hid (Tb.verB z N = (decide (1 + (N : Int) ≤ z) && decide (z ≤ 1099511627776))) := (show Tb.verB z N = (decide (1 + (N : Int) ≤ z) && decide (z ≤ 1099511627776)) by
      unfold Tb.verB
      rw [if_neg h0])
    clear h0
    go_upto_region 3 with fail
    by_cases h1 : 1 + (N : Int) ≤ z
    · have h1d : decide (1 + (N : Int) ≤ z) = true := decide_eq_true h1
      have HV2 : Hid (Tb.verB z N = decide (z ≤ 1099511627776)) := (show Tb.verB z N = decide (z ≤ 1099511627776) by rw [HV.out, h1d]; rfl)
      clear h1d
      go_quiet (fail)
      have HB2 : Hid (Below w.heap.size w (w.drewN nq)) := below_drewN HB.out _
      go_wp2
      go_ret
      exact ⟨by rw [HV2.out]; rfl, HB2.out⟩
    · have h1d : decide (1 + (N : Int) ≤ z) = false := decide_eq_false h1
      have HV2 : Hid (Tb.verB z N = false) := (show Tb.verB z N = false by rw [HV.out, h1d]; rfl)
      go_quiet (fail)
      have HB2 : Hid (Below w.heap.size w (w.drewN nq)) := below_drewN HB.out _
      go_wp2
      go_ret
      exact ⟨by rw [HV2.out]; rfl, HB2.out⟩
/-- What readMoved leaves. -/
def LvP (w0 : World) (r q : Nat) (s : Tb.St) (o : Option (List Tb.Mv × List UInt8 × Bool)) (e : Ending) (w' : World) : Prop :=
  (o = none → e = .returned (.bool false) ∧ Below w0.heap.size w0 w') ∧ ∀ l ys b, o = some (l, ys, b) → e = .returned (.bool true) ∧ ∃ v', Gs16 w0 w' r ys b q ⟨s.shards, s.version, l⟩ v'
theorem LvP.no {w0 w' : World} {r q : Nat} {s : Tb.St} {o : Option (List Tb.Mv × List UInt8 × Bool)} (h : o = none) (hb : Below w0.heap.size w0 w') : LvP w0 r q s o (.returned (.bool false)) w' :=
  ⟨fun _ => ⟨rfl, hb⟩, fun l ys b e => by rw [h] at e; cases e⟩
theorem LvP.yes {w0 w' : World} {r q : Nat} {s : Tb.St} {o : Option (List Tb.Mv × List UInt8 × Bool)} {l : List Tb.Mv} {ys : List UInt8} {b : Bool} {v : Value} (h : o = some (l, ys, b)) (hg : Gs16 w0 w' r ys b q ⟨s.shards, s.version, l⟩ v) : LvP w0 r q s o (.returned (.bool true)) w' := by
  refine ⟨fun e => (by rw [h] at e; cases e), fun l' ys' b' e => ?_⟩
  rw [h] at e
  simp only [Option.some.injEq, Prod.mk.injEq] at e
  obtain ⟨rfl, rfl, rfl⟩ := e
  exact ⟨rfl, v, hg⟩
/-- A block that lies apart. -/
def Kept16 (w : World) (F : Nat → Prop) (k : Nat) (cs : List Value) (t : TypeId) : Prop := Cb w k cs t ∧ ¬ F k
/-- A block that was made for what is read next. -/
structure Zb16 (w : World) (F : Nat → Prop) (r k : Nat) : Prop where
  cb : Cb w k [.string ⟨#[]⟩, .int .i64 0] 68
  off : ¬ F k
  hi : r < k
theorem Zb16.read {w w' : World} {F : Nat → Prop} {r k : Nat} (h : Zb16 w F r k) (hg : w.grownBy w' (some r)) : Zb16 w' F r k :=
  ⟨h.cb.keep (hg.block k h.cb.lt (fun e => by have := h.hi; simp at e; omega)), h.off, h.hi⟩
theorem Gs16.made {w0 w : World} {r q : Nat} {xs : List UInt8} {bad : Bool} {s : Tb.St} {v : Value} (h : Gs16 w0 w r xs bad q s v) : Gs16 w0 (w.alloc (.cells #[.string ⟨#[]⟩, .int .i64 0] 68)) r xs bad q s v ∧ Zb16 (w.alloc (.cells #[.string ⟨#[]⟩, .int .i64 0] 68)) (Ft16 v q) r w.heap.size :=
  ⟨h.later ((Below.refl _ w).alloc (Nat.le_refl _) _), ⟨Cb.made w [.string ⟨#[]⟩, .int .i64 0] _, fun e => by have := LTb.lt ⟨v, h.se, rfl⟩ e; omega, h.rd.lt⟩⟩
theorem Gs16.held {w0 w : World} {r q : Nat} {xs : List UInt8} {bad : Bool} {s : Tb.St} {v : Value} (h : Gs16 w0 w r xs bad q s v) (x : Tb.Mv) : Gs16 w0 (w.alloc (.cells #[.string x.top, .int .i64 x.shard] 68)) r xs bad q s v ∧ Kept16 (w.alloc (.cells #[.string x.top, .int .i64 x.shard] 68)) (Ft16 v q) w.heap.size (mc x) 68 :=
  ⟨h.later ((Below.refl _ w).alloc (Nat.le_refl _) _), Cb.made w (mc x) _, fun e => by have := LTb.lt ⟨v, h.se, rfl⟩ e; omega⟩
theorem Gs16.stored {w0 w : World} {r q xb : Nat} {xs : List UInt8} {bad : Bool} {s : Tb.St} {v : Value} (h : Gs16 w0 w r xs bad q s v) (hz : Zb16 w (Ft16 v q) r xb) (x : Tb.Mv) :
    Gs16 w0 ((w.setCell ⟨xb, 0, none⟩ (.string x.top)).setCell ⟨xb, 1, none⟩ (.int .i64 x.shard)) r xs bad q s v ∧ Kept16 ((w.setCell ⟨xb, 0, none⟩ (.string x.top)).setCell ⟨xb, 1, none⟩ (.int .i64 x.shard)) (Ft16 v q) xb (mc x) 68 := by
  have hg : w.grownBy ((w.setCell ⟨xb, 0, none⟩ (.string x.top)).setCell ⟨xb, 1, none⟩ (.int .i64 x.shard)) (some xb) := grownBy_trans (grownBy_setCell w ⟨xb, 0, none⟩ _) (grownBy_setCell _ ⟨xb, 1, none⟩ _)
  have hk : ∀ k, Ft16 v q k → ((w.setCell ⟨xb, 0, none⟩ (.string x.top)).setCell ⟨xb, 1, none⟩ (.int .i64 x.shard)).heap[k]? = w.heap[k]? := fun k hk => hg.block k (LTb.lt ⟨v, h.se, rfl⟩ hk) (fun e => hz.off (by simp at e; rw [← e]; exact hk))
  refine ⟨⟨h.rd.grown hg hz.hi, h.lo, ⟨h.se.blk.keep (hk q (Or.inr rfl)), row_stays h.se.row fun k e => hk k (Or.inl e)⟩, h.hi, h.below.grown hg h.below.size (fun k hk => by have := h.lo; have := hz.hi; simp at hk; omega)⟩, ?_, hz.off⟩
  exact (hz.cb.set 0 (.string x.top)).set 1 (.int .i64 x.shard)
/-- Another row. -/
theorem Gs16.rowed {w0 w w' : World} {r q xb t : Nat} {xs : List UInt8} {bad : Bool} {s : Tb.St} {v v' : Value} {l : List Tb.Mv} {cs : List Value} (h : Gs16 w0 w r xs bad q s v) (hx : Kept16 w (Ft16 v q) xb cs t) (hr : w'.ownsRow 0 68 2 v' l.length (mcs l)) (hg : w.grownBy w' v.ownBlock) (ho : v'.ownBlock = v.ownBlock ∨ v'.ownBlock = some w.heap.size) :
    Cb w' q [.int .i64 s.shards, .int .i64 s.version, v] 63 ∧ Gs16 w0 (w'.setCell ⟨q, 2, none⟩ v') r xs bad q ⟨s.shards, s.version, l⟩ v' ∧ Cb w' xb cs t ∧ Cb (w'.setCell ⟨q, 2, none⟩ v') xb cs t := by
  obtain ⟨hq, hl, hm⟩ := h.se.rowed hr hg ho
  have hrq := h.hi q (Or.inr rfl)
  have hlo := h.lo
  have hg2 := grownBy_setCell w' ⟨q, 2, none⟩ v'
  have hx9 : Cb w' xb cs t := hx.1.keep (hg.block xb hx.1.lt (fun e => hx.2 (Or.inl e.symm)))
  have hxq : xb ≠ q := fun e => hx.2 (Or.inr e)
  have hrd9 : Pw.Rd w0.heap.size w' r xs bad := by
    cases ho : v.ownBlock with
    | none =>
      rw [ho] at hg
      exact h.rd.grown (r := w.heap.size) ⟨hg.os, hg.tape, hg.output, hg.size, fun i hi _ => hg.block i hi (by simp)⟩ h.rd.lt
    | some g =>
      rw [ho] at hg
      exact h.rd.grown hg (h.hi g (Or.inl ho))
  refine ⟨hq, ⟨hrd9.grown hg2 hrq, hlo, hl, fun k hk => ?_, h.below.trans (hm.below h.below.size (fun k hk => by have := h.hi k hk; omega))⟩, hx9, hx9.keep (hg2.block xb hx9.lt (by simpa using hxq))⟩
  rcases hm.sub k hk with e | e
  · exact h.hi k e
  · have := h.rd.lt
    omega
/-- The order of two texts, as the tests meet it. -/
theorem Tb.leq_cases (a b : ByteArray) : (Op.bytesLess a.toList b.toList = true ∧ Op.bytesLess b.toList a.toList = false ∧ (a.toList == b.toList) = false ∧ Kq.lt b a = false) ∨ (Op.bytesLess a.toList b.toList = false ∧ Op.bytesLess b.toList a.toList = false ∧ (a.toList == b.toList) = true ∧ Kq.lt b a = false) ∨ (Op.bytesLess a.toList b.toList = false ∧ Op.bytesLess b.toList a.toList = true ∧ (a.toList == b.toList) = false ∧ Kq.lt b a = true) := by
  have hne : ∀ {x y : ByteArray}, Kq.lt x y = true → (x.toList == y.toList) = false ∧ (y.toList == x.toList) = false := fun {x y} h => by
    refine ⟨?_, ?_⟩
    · cases e : (x.toList == y.toList) with
      | false => rfl
      | true => rw [bytes_eq e, Kq.lt_irrefl] at h; cases h
    · cases e : (y.toList == x.toList) with
      | false => rfl
      | true => rw [bytes_eq e, Kq.lt_irrefl] at h; cases h
  cases h1 : Kq.lt a b with
  | true =>
    have h2 := Kq.lt_asymm h1
    exact Or.inl ⟨h1, h2, (hne h1).1, h2⟩
  | false =>
    cases h2 : Kq.lt b a with
    | false =>
      refine Or.inr (Or.inl ⟨h1, h2, ?_, rfl⟩)
      rw [Kq.lt_total h1 h2]
      simp
    | true => exact Or.inr (Or.inr ⟨h1, h2, (hne h2).2, rfl⟩)
set_option maxRecDepth 20000 in
set_option maxHeartbeats 8000000 in
theorem readMoved_any16 (w0 w : World) (r : Nat) (xs : List UInt8) (bad : Bool) (q : Nat) (s : Tb.St) (v : Value) (h : Gs16 w0 w r xs bad q s v) (hl : s.l = []) (hr1 : 1 ≤ s.shards) (hr2 : s.shards ≤ 4) (hS : Pa.Std w0)
    (c : Int × List UInt8 × Bool) (hc : c = Pk.rC 50 xs bad) :
    Calls Tryd.prog 34 #[dptr q, dptr r] w fun e w' => LvP w0 r q s (Tb.rdL (s.shards - 1) c.1.toNat [] ⟨#[]⟩ c.2.1 c.2.2) e w' := by
  have hcn := Pk.rC_nonneg 50 xs bad
  rw [← hc] at hcn
  obtain ⟨N, hN⟩ : ∃ N, N = c.1.toNat := ⟨_, rfl⟩
  have hcN : c.1 = (N : Int) := by omega
  have hNr : N ≤ 50 := by
    have : c.1 ≤ 50 := by
      rw [hc]
      exact Tb.rC_up4 (by omega)
    omega
  obtain ⟨mm, hmm⟩ : ∃ z, z = s.shards - 1 := ⟨_, rfl⟩
  have hwm : IntKind.wrap .i64 (s.shards - 1) = mm := by rw [hmm, IntKind.wrap_i64]; omega
  rw [← hmm]
  have H0 : Hid (Gs16 w0 w r xs bad q s v ∧ c = Pk.rC 50 xs bad ∧ s.l = [] ∧ N = c.1.toNat ∧ c.1 = (N : Int) ∧ Pa.Std w0) := ⟨h, hc, hl, hN, hcN, hS⟩
  have HMM : Hid (IntKind.wrap .i64 (s.shards - 1) = mm) := hwm
  rw [← hN]
  clear h hc hl hcn hN hcN hr1 hr2 hS hmm hwm
  unfold dptr
  go_enter Tryd.func34, Tryd.ntmps34
  go_wp2_with fail
  refine (Pw.rCount_any r 50 xs bad w H0.out.1.rd).mono ?_
  rintro e w1 ⟨rfl, hrd, hg⟩
  rw [← H0.out.2.1] at hrd ⊢
  rw [H0.out.2.2.2.2.1]
  have H1 : Hid (Gs16 w0 w1 r c.2.1 c.2.2 q s v) := H0.out.1.read hrd hg
  clear hrd hg
  go_wp2
  go_loopw [5, 9] (fun u i wx => ∃ (k : Nat) (acc : List Tb.Mv) (last : ByteArray) (ys : List UInt8) (b : Bool) (v' : Value), k ≤ N ∧ i = .int .i64 (k : Int) ∧ u = .string last ∧ acc.length = k ∧ Gs16 w0 wx r ys b q ⟨s.shards, s.version, acc⟩ v' ∧ Tb.rdL mm N [] ⟨#[]⟩ c.2.1 c.2.2 = Tb.rdL mm (N - k) acc last ys b) (fun _ i _ => N - (intOf i).toNat)
  case atStart => exact ⟨0, [], ⟨#[]⟩, _, _, v, Nat.zero_le _, rfl, rfl, rfl, by
    have h := H1.out
    have e : s = ⟨s.shards, s.version, []⟩ := by rw [← H0.out.2.2.1]
    rw [e] at h
    exact h, rfl⟩
  case round =>
    obtain ⟨k, acc, last, ys, b, v', hk, rfl, rfl, hac, hG, hT⟩ := hrel
    have H2 : Hid (Gs16 w0 wr r ys b q ⟨s.shards, s.version, acc⟩ v' ∧ acc.length = k ∧ Tb.rdL mm N [] ⟨#[]⟩ c.2.1 c.2.2 = Tb.rdL mm (N - k) acc last ys b) := ⟨hG, hac, hT⟩
    clear hG hac hT H1
    by_cases hlt : k < N
    · have hlt' : (k : Int) < (N : Int) := by omega
      have hwk : IntKind.wrap .i64 ((k : Int) + 1) = (k : Int) + 1 := by rw [IntKind.wrap_i64]; omega
      obtain ⟨n1, hn1⟩ : ∃ n, n = Pk.rT 40 ys b := ⟨_, rfl⟩
      obtain ⟨n2, hn2⟩ : ∃ n, n = Pk.rC mm n1.2.1 n1.2.2 := ⟨_, rfl⟩
      obtain ⟨x, hx⟩ : ∃ x : Tb.Mv, x = ⟨⟨n1.1.toArray⟩, n2.1⟩ := ⟨_, rfl⟩
      have HN : Hid (n1 = Pk.rT 40 ys b ∧ n2 = Pk.rC mm n1.2.1 n1.2.2 ∧ (⟨n1.1.toArray⟩ : ByteArray) = x.top ∧ n2.1 = x.shard ∧ x.top.size ≤ maxLen) := ⟨hn1, hn2, by rw [hx], by rw [hx], by
        rw [hx]
        show n1.1.toArray.size ≤ maxLen
        have h1 : n1.1.length ≤ 40 := by
          rw [hn1]
          unfold Pk.rT
          split
          · have h2 := Tb.rC_up4 (n := 40) (xs := ys) (bad := b) (by omega)
            simp only []
            rw [List.length_take]
            omega
          · simp
        unfold maxLen
        simp only [List.size_toArray]
        omega⟩
      have HST : Hid (Tb.rdL mm N [] ⟨#[]⟩ c.2.1 c.2.2 = if Tb.okB last x then Tb.rdL mm (N - (k + 1)) (acc ++ [x]) x.top n2.2.1 n2.2.2 else none) := (show Tb.rdL mm N [] ⟨#[]⟩ c.2.1 c.2.2 = if Tb.okB last x then Tb.rdL mm (N - (k + 1)) (acc ++ [x]) x.top n2.2.1 n2.2.2 else none by
        rw [H2.out.2.2, show N - k = N - (k + 1) + 1 by omega, Tb.rdL]
        have e : Tb.rd1 mm ys b = (x, n2.2) := by rw [hx, hn2, hn1]; rfl
        rw [e])
      have hwm : IntKind.wrap .i64 (s.shards - 1) = mm := HMM.out
      have c0 : wr.cell? ⟨q, 0, none⟩ = some (.int .i64 s.shards) := H2.out.1.se.blk.cell 0
      clear hn1 hn2 hx
      go_upto_region 4 with fail
      go_cut [6] (fun u wx => ∃ xb, u = .pointer (some ⟨xb, 0, none⟩) ∧ Gs16 w0 wx r n2.2.1 n2.2.2 q ⟨s.shards, s.version, acc⟩ v' ∧ Kept16 wx (Ft16 v' q) xb (mc x) 68)
      case first =>
        refine wp_region_held_drew (S := fun w' => w'.cell? ⟨q, 0, none⟩ = some (.int .i64 s.shards)) (by kernel_rfl) c0 (fun _ => ?_)
        have H3 : Hid (Gs16 w0 wr.drew r ys b q ⟨s.shards, s.version, acc⟩ v') := H2.out.1.later (Below.refl _ _).drew
        clear c0
        generalize wr.drew = wX at *
        refine' take_at (i := 0) (d := 11) (v := _) rfl rfl (by kernel_rfl) (by kernel_rfl) (by kernel_rfl) (fun _ _ _ h => h) (Or.inl ⟨by rfl, ?h0⟩) (H3.out.se.blk.cell 0) ?_
        case h0 =>
          intro w hSw
          go_simp
          with_reducible rfl
        simp only [List.setIfInBounds_toArray, List.set_cons_zero, List.set_cons_succ]
        refine' take_at (i := 2) (d := 13) (v := _) rfl rfl (by kernel_rfl) (by kernel_rfl) (by kernel_rfl) (fun _ _ _ h => h) (Or.inl ⟨by rfl, ?h2⟩) (H3.out.se.blk.cell 0) ?_
        case h2 =>
          intro w hSw
          go_simp
          with_reducible rfl
        simp only [List.setIfInBounds_toArray, List.set_cons_zero, List.set_cons_succ]
        refine' take_at (i := 3) (d := 14) (v := _) rfl rfl (by kernel_rfl) (by kernel_rfl) (by kernel_rfl) (fun _ _ _ h => h) (Or.inl ⟨by rfl, ?h3⟩) (H3.out.se.blk.cell 0) ?_
        case h3 =>
          intro w hSw
          go_simp
          with_reducible rfl
        simp only [List.setIfInBounds_toArray, List.set_cons_zero, List.set_cons_succ]
        refine' take_at (i := 4) (d := 15) (v := _) rfl rfl (by kernel_rfl) (by kernel_rfl) (by kernel_rfl) (fun _ _ _ h => h) (Or.inl ⟨by rfl, ?h4⟩) (H3.out.se.blk.cell 0) ?_
        case h4 =>
          intro w hSw
          go_simp
          with_reducible rfl
        simp only [List.setIfInBounds_toArray, List.set_cons_zero, List.set_cons_succ]
        refine' take_at (i := 5) (d := 16) (v := _) rfl rfl (by kernel_rfl) (by kernel_rfl) (by kernel_rfl) (fun _ _ _ h => h) (Or.inl ⟨by rfl, ?h5⟩) (H3.out.se.blk.cell 0) ?_
        case h5 =>
          intro w hSw
          go_simp
          with_reducible rfl
        simp only [List.setIfInBounds_toArray, List.set_cons_zero, List.set_cons_succ]
        refine' take_at (i := 6) (d := 17) (v := _) rfl rfl (by kernel_rfl) (by kernel_rfl) (by kernel_rfl) (fun _ _ _ h => h) (Or.inl ⟨by rfl, ?h6⟩) (H3.out.se.blk.cell 0) ?_
        case h6 =>
          intro w hSw
          go_simp
          with_reducible rfl
        simp only [List.setIfInBounds_toArray, List.set_cons_zero, List.set_cons_succ]
        refine' take_at (i := 7) (d := 18) (v := _) rfl rfl (by kernel_rfl) (by kernel_rfl) (by kernel_rfl) (fun _ _ _ h => h) (Or.inl ⟨by rfl, ?h7⟩) (H3.out.se.blk.cell 0) ?_
        case h7 =>
          intro w hSw
          go_simp
          with_reducible rfl
        simp only [List.setIfInBounds_toArray, List.set_cons_zero, List.set_cons_succ]
        refine wpAnyH_ready (rs := [1, 10]) (by kernel_rfl) (by simp) ?_
        refine AllReadyH.cons (o := _) rfl (fun KQ hKQ => ?_) (AllReadyH.cons (o := _) rfl (fun KQ hKQ => ?_) AllReadyH.nil)
        · go_simp
          refine (Pw.rText_any r 40 ys b wX H3.out.rd).mono ?_
          rintro e w2 ⟨rfl, hrd, hg⟩
          rw [← HN.out.1] at hrd ⊢
          rw [HN.out.2.2.1]
          have H4 : Hid (Gs16 w0 w2 r n1.2.1 n1.2.2 q ⟨s.shards, s.version, acc⟩ v') := H3.out.read hrd hg
          clear hrd hg
          refine hKQ.out _ _ (H4.out.se.blk.cell 0) (fun _ => ?_)
          clear hKQ KQ
          refine wpAnyH_ready (rs := [8, 10]) (by kernel_rfl) (by simp) ?_
          refine AllReadyH.cons (o := _) rfl (fun KQ hKQ => ?_) (AllReadyH.cons (o := _) rfl (fun KQ hKQ => ?_) AllReadyH.nil)
          · go_simp
            refine (Pw.rCount_any r mm n1.2.1 n1.2.2 w2 H4.out.rd).mono ?_
            rintro e w3 ⟨rfl, hrd, hg⟩
            rw [← HN.out.2.1] at hrd ⊢
            rw [HN.out.2.2.2.1]
            have H5 : Hid (Gs16 w0 w3 r n2.2.1 n2.2.2 q ⟨s.shards, s.version, acc⟩ v') := H4.out.read hrd hg
            clear hrd hg
            refine hKQ.out _ _ (H5.out.se.blk.cell 0) (fun _ => ?_)
            clear hKQ KQ
            refine' take_at (i := 9) (d := 20) (v := _) rfl rfl (by kernel_rfl) (by kernel_rfl) (by kernel_rfl) (fun _ _ _ h => h) (Or.inl ⟨by rfl, ?h9⟩) (H5.out.se.blk.cell 0) ?_
            case h9 =>
              intro w hSw
              go_simp
              with_reducible rfl
            simp only [List.setIfInBounds_toArray, List.set_cons_zero, List.set_cons_succ]
            refine wpAnyH_ready (rs := [10]) (by kernel_rfl) (by simp) ?_
            refine AllReadyH.cons (o := _) rfl (fun KQ hKQ => ?_) AllReadyH.nil
            go_simp
            refine hKQ.out _ _ (H5.out.made.1.se.blk.cell 0) (fun _ => ?_)
            clear hKQ KQ
            refine wpAnyH_ready (rs := [11]) (by kernel_rfl) (by simp) ?_
            refine AllReadyH.cons (o := _) rfl (fun KQ hKQ => ?_) AllReadyH.nil
            go_simp
            refine hKQ.out _ _ ((H5.out.held x).1.se.blk.cell 0) (fun _ => ?_)
            clear hKQ KQ
            refine wpAnyH_done (by kernel_rfl) ?_ _
            go_wp2
            go_meet
            case rel => exact ⟨w3.heap.size, rfl, (H5.out.held x).1, (H5.out.held x).2⟩
          · go_simp
            obtain ⟨xb, hxb⟩ : ∃ z, z = w2.heap.size := ⟨_, rfl⟩
            have H5 : Hid (Gs16 w0 (w2.alloc (.cells #[.string ⟨#[]⟩, .int .i64 0] 68)) r n1.2.1 n1.2.2 q ⟨s.shards, s.version, acc⟩ v' ∧ Zb16 (w2.alloc (.cells #[.string ⟨#[]⟩, .int .i64 0] 68)) (Ft16 v' q) r xb) := by
              rw [hxb]
              exact H4.out.made
            rw [← hxb]
            clear hxb
            generalize (w2.alloc (.cells #[.string ⟨#[]⟩, .int .i64 0] 68)) = w3 at *
            refine hKQ.out _ _ (H5.out.1.se.blk.cell 0) (fun _ => ?_)
            clear hKQ KQ
            refine wpAnyH_ready (rs := [8]) (by kernel_rfl) (by simp) ?_
            refine AllReadyH.cons (o := _) rfl (fun KQ hKQ => ?_) AllReadyH.nil
            go_simp
            refine (Pw.rCount_any r mm n1.2.1 n1.2.2 w3 H5.out.1.rd).mono ?_
            rintro e w4 ⟨rfl, hrd, hg⟩
            rw [← HN.out.2.1] at hrd ⊢
            rw [HN.out.2.2.2.1]
            have H6 : Hid (Gs16 w0 w4 r n2.2.1 n2.2.2 q ⟨s.shards, s.version, acc⟩ v' ∧ Zb16 w4 (Ft16 v' q) r xb) := ⟨H5.out.1.read hrd hg, H5.out.2.read hg⟩
            clear hrd hg
            refine hKQ.out _ _ (H6.out.1.se.blk.cell 0) (fun _ => ?_)
            clear hKQ KQ
            refine' take_at (i := 9) (d := 20) (v := _) rfl rfl (by kernel_rfl) (by kernel_rfl) (by kernel_rfl) (fun _ _ _ h => h) (Or.inl ⟨by rfl, ?h9⟩) (H6.out.1.se.blk.cell 0) ?_
            case h9 =>
              intro w hSw
              go_simp
              with_reducible rfl
            simp only [List.setIfInBounds_toArray, List.set_cons_zero, List.set_cons_succ]
            refine wpAnyH_ready (rs := [11]) (by kernel_rfl) (by simp) ?_
            refine AllReadyH.cons (o := _) rfl (fun KQ hKQ => ?_) AllReadyH.nil
            have z0 := H6.out.2.cb.cell 0
            have z1 := H6.out.2.cb.cell 1
            have f0 := H6.out.2.cb.free 0
            have f1 := H6.out.2.cb.free 1
            have HE : Hid (Gs16 w0 ((w4.setCell ⟨xb, 0, none⟩ (.string x.top)).setCell ⟨xb, 1, none⟩ (.int .i64 x.shard)) r n2.2.1 n2.2.2 q ⟨s.shards, s.version, acc⟩ v' ∧ Kept16 ((w4.setCell ⟨xb, 0, none⟩ (.string x.top)).setCell ⟨xb, 1, none⟩ (.int .i64 x.shard)) (Ft16 v' q) xb (mc x) 68) := H6.out.1.stored H6.out.2 x
            go_simp
            refine hKQ.out _ _ (HE.out.1.se.blk.cell 0) (fun _ => ?_)
            clear hKQ KQ z0 z1 f0 f1
            refine wpAnyH_done (by kernel_rfl) ?_ _
            go_wp2
            go_meet
            case rel => exact ⟨xb, rfl, HE.out.1, HE.out.2⟩
        · go_simp
          obtain ⟨xb, hxb⟩ : ∃ z, z = wX.heap.size := ⟨_, rfl⟩
          have H4 : Hid (Gs16 w0 (wX.alloc (.cells #[.string ⟨#[]⟩, .int .i64 0] 68)) r ys b q ⟨s.shards, s.version, acc⟩ v' ∧ Zb16 (wX.alloc (.cells #[.string ⟨#[]⟩, .int .i64 0] 68)) (Ft16 v' q) r xb) := by
            rw [hxb]
            exact H3.out.made
          rw [← hxb]
          clear hxb
          generalize (wX.alloc (.cells #[.string ⟨#[]⟩, .int .i64 0] 68)) = w2 at *
          refine hKQ.out _ _ (H4.out.1.se.blk.cell 0) (fun _ => ?_)
          clear hKQ KQ
          refine wpAnyH_ready (rs := [1]) (by kernel_rfl) (by simp) ?_
          refine AllReadyH.cons (o := _) rfl (fun KQ hKQ => ?_) AllReadyH.nil
          go_simp
          refine (Pw.rText_any r 40 ys b w2 H4.out.1.rd).mono ?_
          rintro e w3 ⟨rfl, hrd, hg⟩
          rw [← HN.out.1] at hrd ⊢
          rw [HN.out.2.2.1]
          have H5 : Hid (Gs16 w0 w3 r n1.2.1 n1.2.2 q ⟨s.shards, s.version, acc⟩ v' ∧ Zb16 w3 (Ft16 v' q) r xb) := ⟨H4.out.1.read hrd hg, H4.out.2.read hg⟩
          clear hrd hg
          refine hKQ.out _ _ (H5.out.1.se.blk.cell 0) (fun _ => ?_)
          clear hKQ KQ
          refine wpAnyH_ready (rs := [8]) (by kernel_rfl) (by simp) ?_
          refine AllReadyH.cons (o := _) rfl (fun KQ hKQ => ?_) AllReadyH.nil
          go_simp
          refine (Pw.rCount_any r mm n1.2.1 n1.2.2 w3 H5.out.1.rd).mono ?_
          rintro e w4 ⟨rfl, hrd, hg⟩
          rw [← HN.out.2.1] at hrd ⊢
          rw [HN.out.2.2.2.1]
          have H6 : Hid (Gs16 w0 w4 r n2.2.1 n2.2.2 q ⟨s.shards, s.version, acc⟩ v' ∧ Zb16 w4 (Ft16 v' q) r xb) := ⟨H5.out.1.read hrd hg, H5.out.2.read hg⟩
          clear hrd hg
          refine hKQ.out _ _ (H6.out.1.se.blk.cell 0) (fun _ => ?_)
          clear hKQ KQ
          refine' take_at (i := 9) (d := 20) (v := _) rfl rfl (by kernel_rfl) (by kernel_rfl) (by kernel_rfl) (fun _ _ _ h => h) (Or.inl ⟨by rfl, ?h9⟩) (H6.out.1.se.blk.cell 0) ?_
          case h9 =>
            intro w hSw
            go_simp
            with_reducible rfl
          simp only [List.setIfInBounds_toArray, List.set_cons_zero, List.set_cons_succ]
          refine wpAnyH_ready (rs := [11]) (by kernel_rfl) (by simp) ?_
          refine AllReadyH.cons (o := _) rfl (fun KQ hKQ => ?_) AllReadyH.nil
          have z0 := H6.out.2.cb.cell 0
          have z1 := H6.out.2.cb.cell 1
          have f0 := H6.out.2.cb.free 0
          have f1 := H6.out.2.cb.free 1
          have HE : Hid (Gs16 w0 ((w4.setCell ⟨xb, 0, none⟩ (.string x.top)).setCell ⟨xb, 1, none⟩ (.int .i64 x.shard)) r n2.2.1 n2.2.2 q ⟨s.shards, s.version, acc⟩ v' ∧ Kept16 ((w4.setCell ⟨xb, 0, none⟩ (.string x.top)).setCell ⟨xb, 1, none⟩ (.int .i64 x.shard)) (Ft16 v' q) xb (mc x) 68) := H6.out.1.stored H6.out.2 x
          go_simp
          refine hKQ.out _ _ (HE.out.1.se.blk.cell 0) (fun _ => ?_)
          clear hKQ KQ z0 z1 f0 f1
          refine wpAnyH_done (by kernel_rfl) ?_ _
          go_wp2
          go_meet
          case rel => exact ⟨xb, rfl, HE.out.1, HE.out.2⟩
      case rest =>
        obtain ⟨xb, rfl, hG, hKp⟩ := hcut
        generalize wc = w5 at *
        have H6 : Hid (Gs16 w0 w5 r n2.2.1 n2.2.2 q ⟨s.shards, s.version, acc⟩ v' ∧ Kept16 w5 (Ft16 v' q) xb (mc x) 68) := ⟨hG, hKp⟩
        have HS5 : Hid (Pa.Std w5) := H0.out.2.2.2.2.2.below hG.below
        clear hG hKp c0 hwm
        have d0 : w5.cell? ⟨xb, 0, none⟩ = some (.string x.top) := H6.out.2.1.cell 0
        have hxs : x.top.size ≤ maxLen := HN.out.2.2.2.2
        rcases Tb.leq_cases x.top last with ⟨l1, l2, l3, l4⟩ | ⟨l1, l2, l3, l4⟩ | ⟨l1, l2, l3, l4⟩
        · have HNO : Hid (Tb.rdL mm N [] ⟨#[]⟩ c.2.1 c.2.2 = none) := (show Tb.rdL mm N [] ⟨#[]⟩ c.2.1 c.2.2 = none by
            rw [HST.out, if_neg]
            intro e
            have := (Tb.okB_iff.1 e).1
            rw [l4] at this
            cases this)
          go_wp2
          go_ret
          exact LvP.no HNO.out H6.out.1.below
        · have HNO : Hid (Tb.rdL mm N [] ⟨#[]⟩ c.2.1 c.2.2 = none) := (show Tb.rdL mm N [] ⟨#[]⟩ c.2.1 c.2.2 = none by
            rw [HST.out, if_neg]
            intro e
            have := (Tb.okB_iff.1 e).1
            rw [l4] at this
            cases this)
          go_wp2
          go_ret
          exact LvP.no HNO.out H6.out.1.below
        have HL4 : Hid (Kq.lt last x.top = true) := l4
        obtain ⟨nm, hnm⟩ : ∃ z, z = Tb.isName x.top := ⟨_, rfl⟩
        have HIN : Hid (Calls Tryd.prog 28 #[.string x.top] w5 fun e w' => e = .returned (.bool nm) ∧ Below w5.heap.size w5 w') := by
          rw [hnm]
          exact isName_any16 x.top w5 HS5.out hxs
        have HNM : Hid (nm = Tb.isName x.top) := hnm
        clear hxs hnm l4
        go_wp2_with fail
        refine HIN.out.mono ?_
        rintro e w6 ⟨rfl, hb⟩
        have H7 : Hid (Gs16 w0 w6 r n2.2.1 n2.2.2 q ⟨s.shards, s.version, acc⟩ v' ∧ Kept16 w6 (Ft16 v' q) xb (mc x) 68) := ⟨H6.out.1.later hb, H6.out.2.1.below hb, H6.out.2.2⟩
        clear hb d0 HIN H6 l1 l2 l3
        cases nm with
        | false =>
          have HNO : Hid (Tb.rdL mm N [] ⟨#[]⟩ c.2.1 c.2.2 = none) := (show Tb.rdL mm N [] ⟨#[]⟩ c.2.1 c.2.2 = none by
            rw [HST.out, if_neg]
            intro e
            have := (Tb.okB_iff.1 e).2
            rw [← HNM.out] at this
            cases this)
          go_wp2
          go_ret
          exact LvP.no HNO.out H7.out.1.below
        | true =>
          have HYES : Hid (Tb.rdL mm N [] ⟨#[]⟩ c.2.1 c.2.2 = Tb.rdL mm (N - (k + 1)) (acc ++ [x]) x.top n2.2.1 n2.2.2) := (show Tb.rdL mm N [] ⟨#[]⟩ c.2.1 c.2.2 = Tb.rdL mm (N - (k + 1)) (acc ++ [x]) x.top n2.2.1 n2.2.2 by
            rw [HST.out, if_pos (Tb.okB_iff.2 ⟨HL4.out, HNM.out.symm⟩)])
          obtain ⟨va, vc, hve, _, _⟩ := row_form (show w6.ownsRow 0 68 2 v' acc.length (mcs acc) from H7.out.1.se.row)
          obtain ⟨M, hM⟩ : ∃ M, M = acc.length := ⟨_, rfl⟩
          rw [← hM] at hve
          subst hve
          have HM : Hid (M = acc.length ∧ M ≤ 50 ∧ acc.length = k) := ⟨hM, by have := H2.out.2.1; omega, H2.out.2.1⟩
          clear hM
          go_upto_region 7 with fail
          refine wp_region_T (fun w' => w'.cell? ⟨xb, 0, none⟩ = some (.string x.top) ∧ w'.cell? ⟨xb, 1, none⟩ = some (.int .i64 x.shard) ∧ w'.cell? ⟨q, 2, none⟩ = some (Value.slice va M vc)) 10 (by kernel_rfl) ?_
          have H8 : Hid (Gs16 w0 w6.drew r n2.2.1 n2.2.2 q ⟨s.shards, s.version, acc⟩ (Value.slice va M vc) ∧ Kept16 w6.drew (Ft16 (Value.slice va M vc) q) xb (mc x) 68) := ⟨H7.out.1.later (Below.refl _ _).drew, H7.out.2.1.below (Below.refl _ _).drew, H7.out.2.2⟩
          clear H7 H2
          generalize w6.drew = w7 at *
          have HSY : Hid ((fun w' : World => w'.cell? ⟨xb, 0, none⟩ = some (.string x.top) ∧ w'.cell? ⟨xb, 1, none⟩ = some (.int .i64 x.shard) ∧ w'.cell? ⟨q, 2, none⟩ = some (Value.slice va M vc)) w7) := ⟨H8.out.2.1.cell 0, H8.out.2.1.cell 1, H8.out.1.se.blk.cell 2⟩
          refine' take_T (i := 0) (d := 31) (v := _) rfl rfl (by kernel_rfl) (by kernel_rfl) (by kernel_rfl) (by kernel_rfl) (by kernel_rfl) (fun _ _ _ h => h) (Or.inl ⟨by rfl, ?h0⟩) (HSY.out) ?_
          case h0 =>
            intro w hSw
            obtain ⟨t0, t1, t2⟩ := hSw
            go_simp
            with_reducible rfl
          simp only [List.setIfInBounds_toArray, List.set_cons_zero, List.set_cons_succ]
          refine' take_T (i := 1) (d := 32) (v := _) rfl rfl (by kernel_rfl) (by kernel_rfl) (by kernel_rfl) (by kernel_rfl) (by kernel_rfl) (fun _ _ _ h => h) (Or.inl ⟨by rfl, ?h1⟩) (HSY.out) ?_
          case h1 =>
            intro w hSw
            obtain ⟨t0, t1, t2⟩ := hSw
            go_simp
            with_reducible rfl
          simp only [List.setIfInBounds_toArray, List.set_cons_zero, List.set_cons_succ]
          refine' take_T (i := 2) (d := 33) (v := _) rfl rfl (by kernel_rfl) (by kernel_rfl) (by kernel_rfl) (by kernel_rfl) (by kernel_rfl) (fun _ _ _ h => h) (Or.inl ⟨by rfl, ?h2⟩) (HSY.out) ?_
          case h2 =>
            intro w hSw
            obtain ⟨t0, t1, t2⟩ := hSw
            go_simp
            with_reducible rfl
          simp only [List.setIfInBounds_toArray, List.set_cons_zero, List.set_cons_succ]
          refine' take_T (i := 3) (d := 34) (v := _) rfl rfl (by kernel_rfl) (by kernel_rfl) (by kernel_rfl) (by kernel_rfl) (by kernel_rfl) (fun _ _ _ h => h) (Or.inl ⟨by rfl, ?h3⟩) (HSY.out) ?_
          case h3 =>
            intro w hSw
            obtain ⟨t0, t1, t2⟩ := hSw
            go_simp
            with_reducible rfl
          simp only [List.setIfInBounds_toArray, List.set_cons_zero, List.set_cons_succ]
          refine' take_T (i := 4) (d := 35) (v := _) rfl rfl (by kernel_rfl) (by kernel_rfl) (by kernel_rfl) (by kernel_rfl) (by kernel_rfl) (fun _ _ _ h => h) (Or.inl ⟨by rfl, ?h4⟩) (HSY.out) ?_
          case h4 =>
            intro w hSw
            obtain ⟨t0, t1, t2⟩ := hSw
            go_simp
            with_reducible rfl
          simp only [List.setIfInBounds_toArray, List.set_cons_zero, List.set_cons_succ]
          refine' take_T (i := 5) (d := 36) (v := _) rfl rfl (by kernel_rfl) (by kernel_rfl) (by kernel_rfl) (by kernel_rfl) (by kernel_rfl) (fun _ _ _ h => h) (Or.inl ⟨by rfl, ?h5⟩) (HSY.out) ?_
          case h5 =>
            intro w hSw
            obtain ⟨t0, t1, t2⟩ := hSw
            go_simp
            with_reducible rfl
          simp only [List.setIfInBounds_toArray, List.set_cons_zero, List.set_cons_succ]
          refine wpAnyT_ready (rs := [6]) (by kernel_rfl) (by simp) ?_
          refine AllReadyT.cons (o := _) rfl (fun KQ hKQ => ?_) AllReadyT.nil
          go_simp
          obtain ⟨sb, hsb⟩ : ∃ z, z = w7.heap.size := ⟨_, rfl⟩
          rw [← hsb]
          have H9 : Hid (Gs16 w0 (w7.alloc (.cells #[.string x.top, .int .i64 x.shard] 68)) r n2.2.1 n2.2.2 q ⟨s.shards, s.version, acc⟩ (Value.slice va M vc) ∧ Kept16 (w7.alloc (.cells #[.string x.top, .int .i64 x.shard] 68)) (Ft16 (Value.slice va M vc) q) xb (mc x) 68 ∧ Cb (w7.alloc (.cells #[.string x.top, .int .i64 x.shard] 68)) sb (mc x) 68) := by
            have hb := (Below.refl _ w7).alloc (Nat.le_refl _) (.cells #[.string x.top, .int .i64 x.shard] 68)
            rw [hsb]
            exact ⟨H8.out.1.later hb, ⟨H8.out.2.1.below hb, H8.out.2.2⟩, Cb.made w7 (mc x) _⟩
          clear HSY H8 hsb
          generalize (w7.alloc (.cells #[.string x.top, .int .i64 x.shard] 68)) = w8 at *
          refine hKQ.out _ _ (fun _ => ⟨H9.out.2.1.1.cell 0, H9.out.2.1.1.cell 1, H9.out.1.se.blk.cell 2⟩) ?_
          clear hKQ KQ
          refine wpAnyT_ready (rs := [7]) (by kernel_rfl) (by simp) ?_
          refine AllReadyT.cons (o := _) rfl (fun KQ hKQ => ?_) AllReadyT.nil
          refine wp_mc16 infoMv Tryd.underlying61 _ _ rfl 0 (Value.slice va M vc) (.slice (some ⟨sb, 0, none⟩) 1 1) acc [x] w8 rfl rfl H9.out.1.se.row (Nat.zero_le _) (Smc.one H9.out.2.2) (by have := HM.out; simp only [List.length_singleton]; omega) ?_
          intro v9 w9 hr9 hb9 hg9 hv9
          obtain ⟨hq9, hG9, hx9, hx10⟩ := H9.out.1.rowed H9.out.2.1 hr9 hg9 hv9
          have H10 : Hid (Cb w9 q [.int .i64 s.shards, .int .i64 s.version, (Value.slice va M vc)] 63 ∧ Gs16 w0 (w9.setCell ⟨q, 2, none⟩ v9) r n2.2.1 n2.2.2 q ⟨s.shards, s.version, acc ++ [x]⟩ v9 ∧ Cb w9 xb (mc x) 68 ∧ (w9.setCell ⟨q, 2, none⟩ v9).cell? ⟨xb, 0, none⟩ = some (.string x.top)) := ⟨hq9, hG9, hx9, hx10.cell 0⟩
          obtain ⟨a9, c9, e9, j1, j2⟩ := row_form hr9
          obtain ⟨M9, hM9⟩ : ∃ z, z = (acc ++ [x]).length := ⟨_, rfl⟩
          rw [← hM9] at e9
          subst e9
          clear hr9 hb9 hg9 hv9 hq9 hG9 hx9 hx10 j1 j2 hM9 H9
          refine hKQ.out _ _ (fun _ => ⟨H10.out.2.2.1.cell 0, H10.out.2.2.1.cell 1, H10.out.1.cell 2⟩) ?_
          clear hKQ KQ
          refine' take_T (i := 8) (d := 39) (v := _) rfl rfl (by kernel_rfl) (by kernel_rfl) (by kernel_rfl) (by kernel_rfl) (by kernel_rfl) (fun _ _ _ h => h) (Or.inl ⟨by rfl, ?h8⟩) (⟨H10.out.2.2.1.cell 0, H10.out.2.2.1.cell 1, H10.out.1.cell 2⟩) ?_
          case h8 =>
            intro w hSw
            go_simp
            with_reducible rfl
          simp only [List.setIfInBounds_toArray, List.set_cons_zero, List.set_cons_succ]
          refine' take_T (i := 9) (d := 40) (v := _) rfl rfl (by kernel_rfl) (by kernel_rfl) (by kernel_rfl) (by kernel_rfl) (by kernel_rfl) (fun _ _ _ h => h) (Or.inl ⟨by rfl, ?h9⟩) (⟨H10.out.2.2.1.cell 0, H10.out.2.2.1.cell 1, H10.out.1.cell 2⟩) ?_
          case h9 =>
            intro w hSw
            go_simp
            with_reducible rfl
          simp only [List.setIfInBounds_toArray, List.set_cons_zero, List.set_cons_succ]
          refine wpAnyT_ready (rs := [10]) (by kernel_rfl) (by simp) ?_
          refine AllReadyT.cons (o := _) rfl (fun KQ hKQ => ?_) AllReadyT.nil
          have z3 : w9.cell? ⟨q, 2, none⟩ = some (Value.slice va M vc) := H10.out.1.cell 2
          have f3 := H10.out.1.free 2
          go_simp
          clear z3 f3
          have H11 : Hid (Gs16 w0 (w9.setCell ⟨q, 2, none⟩ (.slice a9 M9 c9)) r n2.2.1 n2.2.2 q ⟨s.shards, s.version, acc ++ [x]⟩ (.slice a9 M9 c9)) := H10.out.2.1
          have y0 : (w9.setCell ⟨q, 2, none⟩ (.slice a9 M9 c9)).cell? ⟨xb, 0, none⟩ = some (.string x.top) := H10.out.2.2.2
          clear H10
          generalize w9.setCell ⟨q, 2, none⟩ (.slice a9 M9 c9) = w10 at *
          refine hKQ.out _ _ (fun h => absurd rfl h) ?_
          clear hKQ KQ
          refine wpAnyT_done (by kernel_rfl) ?_ _
          go_wp2
          go_roundw
          case rel => exact ⟨k + 1, acc ++ [x], x.top, _, _, _, by omega, by go_num, rfl, by rw [List.length_append, HM.out.2.2]; rfl, H11.out, HYES.out⟩
          case measure => simp [intOf]; omega
    · have hlt' : ¬ (k : Int) < (N : Int) := by omega
      obtain rfl : k = N := by omega
      have HE : Hid (Tb.rdL mm k [] ⟨#[]⟩ c.2.1 c.2.2 = some (acc, ys, b)) := (show Tb.rdL mm k [] ⟨#[]⟩ c.2.1 c.2.2 = some (acc, ys, b) by
        rw [H2.out.2.2, Nat.sub_self]
        rfl)
      go_wp2
      go_ret
      exact LvP.yes HE.out H2.out.1
end Go.Proofs.YtpjdjobdbandhaaDoor
