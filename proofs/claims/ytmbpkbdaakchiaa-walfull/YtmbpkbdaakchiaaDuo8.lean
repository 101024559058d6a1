/- The calls of a log that a statement has opened. -/
import Derived.Test.YtmbpkbdaakchiaaSpecs8
import Derived.Test.YtmbpkbdaakchiaaPlainX8
namespace Go.Proofs.Ytmbpkbdaakchiaa
open Go.RowKit

/-- 'make([]byte, n)': nought everywhere. -/
theorem make_some {ops : Array Oper} {rest : List Oper} {o : Oper} {a : Act} {Q : Exit → Act → World → Prop} (hgd : o.guard = none) (l c : Operand) (ho : o.op = .makeSlice 31 l c)
    (n : Nat) (w : World) (hl : a.eval l = .int .i64 (n : Int)) (hc : a.eval c = .int .i64 (n : Int)) (hN : n ≤ 100000000)
    (h : ∀ w' xs, xs.length = n → (∀ x ∈ xs, x = (0 : UInt8)) → w'.ownsRow w.heap.size 5 1 (.slice (some ⟨w.heap.size, 0, none⟩) n n) n (bc xs) → Below w.heap.size w w' → wpList Try.prog ops Q rest (a.put o.dst (.slice (some ⟨w.heap.size, 0, none⟩) n n)) w') : wpList Try.prog ops Q (o :: rest) a w :=
  make_bytes hgd l c ho n w hl hc hN fun w' h1 h2 => h w' (List.replicate n 0) List.length_replicate (fun _ hx => (List.mem_replicate.1 hx).2) h1 h2

theorem fine_wadd {g : Wq.Lg} {st : Dq.St} (h : Fine st) (hl : st.fs.length ≤ 999) (r : List UInt8) : Fine (Wq.add g st r).2.2 := by
  have h1 := fine_append h Wq.logN (Fr.frame r) hl
  unfold Wq.add
  split
  · exact h
  split
  · exact h
  split
  · exact h1
  · exact h1
theorem fine_wsync {g : Wq.Lg} {st : Dq.St} (h : Fine st) : Fine (Wq.sync g st).2.2 := by
  have h1 := fine_sync h Wq.logN
  unfold Wq.sync
  split
  · exact h
  · exact h1
theorem fine_wcut {g : Wq.Lg} {st : Dq.St} (h : Fine st) (n : Int) : Fine (Wq.cutTo g st n).2.2 := by
  have h1 := fun z => fine_cut h Wq.logN z
  unfold Wq.cutTo
  split
  · exact h
  split
  · exact h
  split
  · exact h
  split
  · exact h1 _
  · exact h1 _
theorem fine_wrestart {g : Wq.Lg} {st : Dq.St} (h : Fine st) (hl : st.fs.length ≤ 900) (n : Int) : Fine (Wq.restart g st n).2.2 := by
  have h0 := fine_cut h Wq.logN 0
  have e0 : (Dq.cut st Wq.logN 0).2.fs.length = st.fs.length := by
    unfold Dq.cut
    split
    · split
      · rfl
      · simp [Dq.len_upd]
    · rfl
  have h1 := fine_drop h0 Wq.newN
  have e1 : (Wq.wiped st).fs.length ≤ 900 := by
    unfold Wq.wiped Dq.drop
    split
    · have := Dq.len_del Wq.newN (Dq.cut st Wq.logN 0).2.fs
      simp only []
      omega
    · simp only []
      omega
  have h2 : Fine (Wq.based st n).2 := fine_append h1 Wq.newN _ (Nat.le_trans e1 (by decide))
  have e2 : (Wq.based st n).2.fs.length ≤ 901 := by
    unfold Wq.based Dq.append
    split
    · simp only []; omega
    split
    · simp only []; omega
    split
    · simp only [Dq.len_lay]; omega
    · simp only [Dq.len_upd]; omega
  have h3 := fine_sync h2 Wq.newN
  have e3 : (Dq.sync (Wq.based st n).2 Wq.newN).2.fs.length ≤ 901 := by
    unfold Dq.sync
    split
    · simp only [Dq.len_upd]; exact e2
    · exact e2
  have h4 := fine_rename h3 Wq.newN Wq.baseN (Nat.le_trans e3 (by decide))
  unfold Wq.restart
  split
  · exact h
  split
  · exact h
  split
  · exact h4
  · exact h2
theorem fine_opn {st : Dq.St} (h : Fine st) : Fine (Wq.opn st).2.2 := by
  have h1 := fun z => fine_cut h Wq.logN z
  unfold Wq.opn
  split
  · exact h
  split
  · exact h
  · split
    · exact h
    split
    · exact h
    · simp only []
      split
      · exact h1 _
      · exact h

section
variable {LD : Rep} {LG : RepG} {W w w' : World} {qd ql : Nat} {st st' : Dq.St} {F F' G G' : Nat → Prop} {g g' : Wq.Lg}

/-- A log's blocks that lie apart stay, and stay apart. -/
theorem Specs8.other (S : Specs8 LD LG) {X X' : Nat → Prop} (h : LG w ql qd g G) (hm : Moved w w' X X') (ha : ∀ k, G k → ¬ X k) : LG w' ql qd g G ∧ ∀ k, G k → ¬ X' k := by
  refine ⟨S.keep h (fun k hk => hm.block k (S.lt h hk) (ha k hk)), fun k hk hX => ?_⟩
  rcases hm.sub k hX with e | e
  · exact ha k hk e
  · have := S.lt h hk
    omega

theorem Apart.both {v : Value} {xs : List UInt8} (h1 : Apart F v xs) (h2 : Apart G v xs) : Apart (Go.Proofs.Ytmbpkbdaakchiaa.both F G) v xs := fun h0 k hk e => e.elim (h1 h0 k hk) (h2 h0 k hk)
theorem Apart.left {v : Value} {xs : List UInt8} (h : Apart (Go.Proofs.Ytmbpkbdaakchiaa.both F G) v xs) : Apart F v xs := fun h0 k hk e => h h0 k hk (Or.inl e)
theorem Apart.right {v : Value} {xs : List UInt8} (h : Apart (Go.Proofs.Ytmbpkbdaakchiaa.both F G) v xs) : Apart G v xs := fun h0 k hk e => h h0 k hk (Or.inr e)

/-- A disk that a log may lie on, of a statement's own. -/
def Roomy (st : Dq.St) : Prop := st.room ≤ 100000 ∧ st.fs.length ≤ 900
theorem roomy_fs {R lv k : Nat} {bs : List Dq.Fl} {has off : Bool} {b : List UInt8} (hR : R ≤ 100000) (hb : bs.length ≤ 2) : Roomy ⟨R, Wq.Fs bs has b k, off, lv⟩ := by
  refine ⟨hR, ?_⟩
  unfold Wq.Fs
  cases has with
  | true => simp; omega
  | false => simp; omega
theorem Mine.fineW (h : Mine LD W w qd st F) (hr : Roomy st) : FineW st := ⟨h.fine, hr⟩

theorem Mine.opn (S : Specs8 LD LG) (h : Mine LD W w qd st F) (hr : Roomy st) (he : Wq.opn st = (0, some g, st')) :
    Calls Try.prog 10 #[dptr qd] w fun e w' => ∃ ql F' G, e = .returned (.tuple #[dptr ql, .int .i64 0]) ∧ Duo LD LG W w' qd st' F' ql g G ∧ Moved w w' F F' ∧ ∀ k, G k → w.heap.size ≤ k := by
  refine (S.opn qd st F w h.ld (h.fineW hr)).mono ?_
  rintro e w' ⟨F', h1, h2, _, h3⟩
  have hf := fine_opn h.fine
  rw [he] at h1 h3 hf
  obtain ⟨ql, G, rfl, h4, h5, h6⟩ := h3 g rfl
  have hs := h.below.size
  exact ⟨ql, F', G, rfl, ⟨h.step h1 hf h2, h4, fun k hk => Nat.le_trans hs (h5 k hk), h6⟩, h2, h5⟩
theorem Mine.big (S : Specs8 LD LG) (h : Mine LD W w qd st F) (s : ByteArray) (v : Value) (b : List UInt8) (hv : Bs w v b) (hb : b.length ≤ 100000) (ha : Apart F v b) (hl : st.fs.length ≤ 999) (e : Int) (st' : Dq.St) (he : Dq.append st s b = (e, st')) :
    Calls Try.prog 20 #[dptr qd, .string s, v] w fun ed w' => ∃ F', ed = .returned (.int .i64 e) ∧ Mine LD W w' qd st' F' ∧ Moved w w' F F' := by
  refine (S.big qd st F s v b w h.ld h.fine hv hb ha).mono ?_
  rintro ed w' ⟨F', rfl, hl', hm⟩
  have hf := fine_append h.fine s b hl
  rw [he] at hl' hf ⊢
  exact ⟨F', rfl, h.step hl' hf hm, hm⟩
theorem Mine.opnNo (S : Specs8 LD LG) (h : Mine LD W w qd st F) (hr : Roomy st) {z : Int} (he : Wq.opn st = (z, none, st')) :
    Calls Try.prog 10 #[dptr qd] w fun e w' => ∃ F', e = .returned (.tuple #[.pointer none, .int .i64 z]) ∧ Mine LD W w' qd st' F' ∧ Moved w w' F F' := by
  refine (S.opn qd st F w h.ld (h.fineW hr)).mono ?_
  rintro e w' ⟨F', h1, h2, h3, _⟩
  have hf := fine_opn h.fine
  rw [he] at h1 h3 hf
  exact ⟨F', h3 rfl, h.step h1 hf h2, h2⟩

/-- A log that answers behind a call lay on a disk with power. -/
theorem on_add {r : List UInt8} {e : Int} (he : Wq.add g st r = (e, g', st')) (ho : Wq.off g' st' = false) : st.off = false := by
  cases h : Wq.off g st with
  | false => exact (Wq.off_iff.1 h).2.1
  | true =>
    rw [Wq.add_dead h] at he
    simp only [Prod.mk.injEq] at he
    rw [← he.2.1, ← he.2.2, Wq.off_true] at ho
    cases ho
theorem on_cutTo {n e : Int} (he : Wq.cutTo g st n = (e, g', st')) (ho : Wq.off g' st' = false) : st.off = false := by
  cases h : Wq.off g st with
  | false => exact (Wq.off_iff.1 h).2.1
  | true =>
    unfold Wq.cutTo at he
    rw [if_pos h] at he
    simp only [Prod.mk.injEq] at he
    rw [← he.2.1, ← he.2.2, Wq.off_true] at ho
    cases ho
theorem on_restart {n e : Int} (he : Wq.restart g st n = (e, g', st')) (ho : Wq.off g' st' = false) : st.off = false := by
  cases h : Wq.off g st with
  | false => exact (Wq.off_iff.1 h).2.1
  | true =>
    unfold Wq.restart at he
    rw [if_pos h] at he
    simp only [Prod.mk.injEq] at he
    rw [← he.2.1, ← he.2.2, Wq.off_true] at ho
    cases ho

theorem Duo.add (S : Specs8 LD LG) (h : Duo LD LG W w qd st F ql g G) (hr : Roomy st) (hg : g.recs.length ≤ 9999) (v : Value) (r : List UInt8) (hv : Bs w v r) (hl : r.length ≤ 100000) (ha : Apart F v r) (hb : Apart G v r) (e : Int) (g' : Wq.Lg) (st' : Dq.St) (he : Wq.add g st r = (e, g', st')) (ho : Wq.off g' st' = false) :
    Calls Try.prog 11 #[dptr ql, v] w fun ed w' => ∃ F' G', ed = .returned (.int .i64 e) ∧ Duo LD LG W w' qd st' F' ql g' G' ∧ Moved w w' (both F G) (both F' G') := by
  refine (S.add ql qd g st F G v r w h.mine.ld h.lg h.ap (h.mine.fineW hr) (on_add he ho) hg hv hl ha hb).mono ?_
  rintro ed w' ⟨rfl, hp⟩
  have hf := fine_wadd (g := g) h.mine.fine (Nat.le_trans hr.2 (by decide)) r
  rw [he] at hp hf ⊢
  obtain ⟨F', G', h1, h2⟩ := h.stepOk hp hf ho
  exact ⟨F', G', rfl, h1, h2⟩
theorem Duo.addAny (S : Specs8 LD LG) (h : Duo LD LG W w qd st F ql g G) (h0 : st.off = false) (hr : Roomy st) (hg : g.recs.length ≤ 9999) (v : Value) (r : List UInt8) (hv : Bs w v r) (hl : r.length ≤ 100000) (ha : Apart F v r) (hb : Apart G v r) (e : Int) (g' : Wq.Lg) (st' : Dq.St) (he : Wq.add g st r = (e, g', st')) :
    Calls Try.prog 11 #[dptr ql, v] w fun ed w' => ∃ F' G' g2, ed = .returned (.int .i64 e) ∧ Duo LD LG W w' qd st' F' ql g2 G' ∧ Wq.Like g2 g' st' ∧ Moved w w' (both F G) (both F' G') := by
  refine (S.add ql qd g st F G v r w h.mine.ld h.lg h.ap (h.mine.fineW hr) h0 hg hv hl ha hb).mono ?_
  rintro ed w' ⟨rfl, hp⟩
  have hf := fine_wadd (g := g) h.mine.fine (Nat.le_trans hr.2 (by decide)) r
  rw [he] at hp hf ⊢
  obtain ⟨F', G', g2, h1, h2, h3⟩ := h.step hp hf
  exact ⟨F', G', g2, rfl, h1, h2, h3⟩
theorem Duo.sync (S : Specs8 LD LG) (h : Duo LD LG W w qd st F ql g G) (hr : Roomy st) (e : Int) (g' : Wq.Lg) (st' : Dq.St) (he : Wq.sync g st = (e, g', st')) (ho : Wq.off g' st' = false) :
    Calls Try.prog 17 #[dptr ql] w fun ed w' => ∃ F' G', ed = .returned (.int .i64 e) ∧ Duo LD LG W w' qd st' F' ql g' G' ∧ Moved w w' (both F G) (both F' G') := by
  refine (S.sync ql qd g st F G w h.mine.ld h.lg h.ap (h.mine.fineW hr)).mono ?_
  rintro ed w' ⟨rfl, hp⟩
  have hf := fine_wsync (g := g) h.mine.fine
  rw [he] at hp hf ⊢
  obtain ⟨F', G', h1, h2⟩ := h.stepOk hp hf ho
  exact ⟨F', G', rfl, h1, h2⟩
theorem Duo.syncAny (S : Specs8 LD LG) (h : Duo LD LG W w qd st F ql g G) (hr : Roomy st) (e : Int) (g' : Wq.Lg) (st' : Dq.St) (he : Wq.sync g st = (e, g', st')) :
    Calls Try.prog 17 #[dptr ql] w fun ed w' => ∃ F' G' g2, ed = .returned (.int .i64 e) ∧ Duo LD LG W w' qd st' F' ql g2 G' ∧ Wq.Like g2 g' st' ∧ Moved w w' (both F G) (both F' G') := by
  refine (S.sync ql qd g st F G w h.mine.ld h.lg h.ap (h.mine.fineW hr)).mono ?_
  rintro ed w' ⟨rfl, hp⟩
  have hf := fine_wsync (g := g) h.mine.fine
  rw [he] at hp hf ⊢
  obtain ⟨F', G', g2, h1, h2, h3⟩ := h.step hp hf
  exact ⟨F', G', g2, rfl, h1, h2, h3⟩
theorem Duo.cutTo (S : Specs8 LD LG) (h : Duo LD LG W w qd st F ql g G) (hr : Roomy st) (n : Int) (n1 : -9223372036854775808 ≤ n) (n2 : n ≤ 9223372036854775807) (e : Int) (g' : Wq.Lg) (st' : Dq.St) (he : Wq.cutTo g st n = (e, g', st')) (ho : Wq.off g' st' = false) :
    Calls Try.prog 13 #[dptr ql, .int .i64 n] w fun ed w' => ∃ F' G', ed = .returned (.int .i64 e) ∧ Duo LD LG W w' qd st' F' ql g' G' ∧ Moved w w' (both F G) (both F' G') := by
  refine (S.cutTo ql qd g st F G n w h.mine.ld h.lg h.ap (h.mine.fineW hr) (on_cutTo he ho) n1 n2).mono ?_
  rintro ed w' ⟨rfl, hp⟩
  have hf := fine_wcut (g := g) h.mine.fine n
  rw [he] at hp hf ⊢
  obtain ⟨F', G', h1, h2⟩ := h.stepOk hp hf ho
  exact ⟨F', G', rfl, h1, h2⟩
theorem Duo.restart (S : Specs8 LD LG) (h : Duo LD LG W w qd st F ql g G) (hr : Roomy st) (n : Int) (n1 : -9223372036854775808 ≤ n) (n2 : n ≤ 9223372036854775807) (e : Int) (g' : Wq.Lg) (st' : Dq.St) (he : Wq.restart g st n = (e, g', st')) (ho : Wq.off g' st' = false) :
    Calls Try.prog 14 #[dptr ql, .int .i64 n] w fun ed w' => ∃ F' G', ed = .returned (.int .i64 e) ∧ Duo LD LG W w' qd st' F' ql g' G' ∧ Moved w w' (both F G) (both F' G') := by
  refine (S.restart ql qd g st F G n w h.mine.ld h.lg h.ap (h.mine.fineW hr) (on_restart he ho) n1 n2).mono ?_
  rintro ed w' ⟨rfl, hp⟩
  have hf := fine_wrestart (g := g) h.mine.fine hr.2 n
  rw [he] at hp hf ⊢
  obtain ⟨F', G', h1, h2⟩ := h.stepOk hp hf ho
  exact ⟨F', G', rfl, h1, h2⟩
theorem Duo.at_ (S : Specs8 LD LG) (h : Duo LD LG W w qd st F ql g G) (hr : Roomy st) (n : Int) (n1 : -9223372036854775808 ≤ n) (n2 : n ≤ 9223372036854775807) (x : List UInt8) (e : Int) (he : Wq.at_ g st n = (x, e, g)) (ho : Wq.off g st = false) :
    Calls Try.prog 12 #[dptr ql, .int .i64 n] w fun ed w' => ∃ F' G' v, ed = .returned (.tuple #[v, .int .i64 e]) ∧ Bs w' v x ∧ Apart (both F' G') v x ∧ Duo LD LG W w' qd st F' ql g G' ∧ Moved w w' (both F G) (both F' G') := by
  refine (S.at_ ql qd g st F G n w h.mine.ld h.lg h.ap (h.mine.fineW hr) (Wq.off_iff.1 ho).2.1 n1 n2).mono ?_
  rintro ed w' ⟨F', G', g2, v, rfl, h1, h2, h3, h4, h5, h6, h7, h8⟩
  rw [he] at h1 h2 h3 h6 ⊢
  have hs := h.mine.below.size
  have hlo : ∀ k, both F G k → W.heap.size ≤ k := fun k hk => hk.elim (h.mine.hi k) (h.hi k)
  have hhi : ∀ k, both F' G' k → W.heap.size ≤ k := fun k hk => by
    rcases h8.sub k hk with e | e
    · exact hlo k e
    · omega
  rw [h6.eq ho] at h5
  exact ⟨F', G', v, rfl, h1, h2.both h3, ⟨⟨h4, h.mine.fine, fun k hk => hhi k (Or.inl hk), h.mine.below.trans (h8.below hs hlo)⟩, h5, fun k hk => hhi k (Or.inr hk), h7⟩, h8⟩
theorem Duo.first (S7 : Specs7 LD) (S : Specs8 LD LG) (h : Duo LD LG W w qd st F ql g G) (z : Int) (hz : g.first = z) :
    Calls Try.prog 19 #[dptr ql] w fun ed w' => ed = .returned (.int .i64 z) ∧ Duo LD LG W w' qd st F ql g G ∧ Below w.heap.size w w' := by
  refine (S.first ql qd g G w h.lg).mono ?_
  rintro ed w' ⟨rfl, hb⟩
  exact ⟨by rw [hz], h.later S7 S hb, hb⟩
theorem Duo.next (S7 : Specs7 LD) (S : Specs8 LD LG) (h : Duo LD LG W w qd st F ql g G) (z : Int) (hz : Wq.next g = z) :
    Calls Try.prog 15 #[dptr ql] w fun ed w' => ed = .returned (.int .i64 z) ∧ Duo LD LG W w' qd st F ql g G ∧ Below w.heap.size w w' := by
  refine (S.next ql qd g G w h.lg).mono ?_
  rintro ed w' ⟨rfl, hb⟩
  exact ⟨by rw [hz], h.later S7 S hb, hb⟩
/-- The disk's power goes. -/
theorem Duo.crash (S7 : Specs7 LD) (S : Specs8 LD LG) (h : Duo LD LG W w qd st F ql g G) (keep : Int) (h1 : -9223372036854775808 ≤ keep) (h2 : keep ≤ 9223372036854775807) (st' : Dq.St) (he : Dq.crash st keep = st') :
    Calls Try.prog 16 #[dptr qd, .int .i64 keep] w fun ed w' => ∃ F', ed = .returned (.tuple #[]) ∧ Duo LD LG W w' qd st' F' ql g G ∧ Moved w w' F F' := by
  refine (h.mine.crash S7 keep h1 h2 st' he).mono ?_
  rintro ed w' ⟨F', rfl, hm, hv⟩
  exact ⟨F', rfl, h.disk S hm hv, hv⟩
theorem Duo.on (S7 : Specs7 LD) (S : Specs8 LD LG) (h : Duo LD LG W w qd st F ql g G) (hl : st.lives ≤ 999) (st' : Dq.St) (he : Dq.on st = st') :
    Calls Try.prog 18 #[dptr qd] w fun ed w' => ∃ F', ed = .returned (.tuple #[]) ∧ Duo LD LG W w' qd st' F' ql g G ∧ Moved w w' F F' := by
  refine (h.mine.on S7 hl st' he).mono ?_
  rintro ed w' ⟨F', rfl, hm, hv⟩
  exact ⟨F', rfl, h.disk S hm hv, hv⟩
/-- Bytes that were just written down. -/
theorem Duo.fresh (S7 : Specs7 LD) (S : Specs8 LD LG) (h : Duo LD LG W w qd st F ql g G) (xs : List UInt8) (t : TypeId) (fz : Nat × Nat) :
    Duo LD LG W (w.alloc (.cells (bc xs).toArray t fz)) qd st F ql g G ∧ Bs (w.alloc (.cells (bc xs).toArray t fz)) (.slice (some ⟨w.heap.size, 0, none⟩) xs.length xs.length) xs ∧ Apart F (.slice (some ⟨w.heap.size, 0, none⟩) xs.length xs.length) xs ∧ Apart G (.slice (some ⟨w.heap.size, 0, none⟩) xs.length xs.length) xs := by
  obtain ⟨_, h2, h3⟩ := Mine.fresh S7 h.mine xs t fz
  refine ⟨h.later S7 S ((Below.refl _ w).alloc (Nat.le_refl _) _), h2, h3, fun _ k hk hG => ?_⟩
  have := S.lt h.lg hG
  simp only [Value.ownBlock, Option.some.injEq] at hk
  omega
/-- Bytes that a call has made. -/
theorem Duo.made (S7 : Specs7 LD) (S : Specs8 LD LG) (h : Duo LD LG W w qd st F ql g G) {v : Value} {n : Nat} {xs : List UInt8} (ho : w'.ownsRow w.heap.size 5 1 v n (bc xs)) : Apart F v xs ∧ Apart G v xs := by
  refine ⟨fun _ k hk hF => ?_, fun _ k hk hG => ?_⟩
  · have h1 := S7.lt h.mine.ld hF
    have h2 := (ho.lt k hk).1
    omega
  · have h1 := S.lt h.lg hG
    have h2 := (ho.lt k hk).1
    omega
/-- What a statement that adds records has under way: the records l, none of them synced past k. -/
def AddS (LD : Rep) (LG : RepG) (W w : World) (qd ql R k : Nat) (bs : List Dq.Fl) (n : Int) (l : List (List UInt8)) : Prop :=
  ∃ F G has, Duo LD LG W w qd ⟨R, Wq.Fs bs has (Fr.frames l) k, false, 1⟩ F ql ⟨n, l, 1, false⟩ G ∧ (has = false → l = [] ∧ k = 0)
theorem AddS.below {R k : Nat} {bs : List Dq.Fl} {n : Int} {l : List (List UInt8)} (h : AddS LD LG W w qd ql R k bs n l) : Below W.heap.size W w := by
  obtain ⟨F, G, has, hd, _⟩ := h
  exact hd.mine.below
/-- A record more. -/
theorem AddS.add (S : Specs8 LD LG) {R k : Nat} {bs : List Dq.Fl} {n : Int} {l : List (List UInt8)} (h : AddS LD LG W w qd ql R k bs n l) (hb : Wq.Low bs) (hbs : bs.length ≤ 2) (hR : R ≤ 100000) (hl : l.length ≤ 9999) (v : Value) (r : List UInt8) (hv : Bs W v r) (hr : r.length ≤ 20000) (hs : Dq.size bs + (Fr.frames l).length + (12 + r.length) ≤ R) :
    Calls Try.prog 11 #[dptr ql, v] w fun ed w' => ed = .returned (.int .i64 0) ∧ AddS LD LG W w' qd ql R k bs n (l ++ [r]) := by
  obtain ⟨F, G, has, hd, hh⟩ := h
  obtain ⟨a1, a2, a3⟩ := hd.arg hv
  refine (hd.add S (roomy_fs hR hbs) hl v r a1 (by omega) a2 a3 _ _ _ (Wq.add_fs hb (fun e => ⟨by rw [(hh e).1]; rfl, (hh e).2⟩) hr hs) (by simp [Wq.off])).mono ?_
  rintro ed w' ⟨F', G', rfl, h1, _⟩
  exact ⟨rfl, F', G', true, h1, fun e => by cases e⟩
/-- What was added is synced. -/
theorem AddS.sync (S : Specs8 LD LG) {R k : Nat} {bs : List Dq.Fl} {n : Int} {l : List (List UInt8)} (h : AddS LD LG W w qd ql R k bs n l) (hb : Wq.Low bs) (hbs : bs.length ≤ 2) (hR : R ≤ 100000) :
    Calls Try.prog 17 #[dptr ql] w fun ed w' => ed = .returned (.int .i64 0) ∧ AddS LD LG W w' qd ql R (Fr.frames l).length bs n l := by
  obtain ⟨F, G, has, hd, hh⟩ := h
  refine (hd.sync S (roomy_fs hR hbs) _ _ _ (Wq.sync_fs hb) (by simp [Wq.off])).mono ?_
  rintro ed w' ⟨F', G', rfl, h1, _⟩
  cases has with
  | true => exact ⟨rfl, F', G', true, h1, fun e => by cases e⟩
  | false =>
    obtain ⟨rfl, rfl⟩ := hh rfl
    exact ⟨rfl, F', G', false, h1, fun _ => ⟨rfl, rfl⟩⟩
/-- A record more, in memory that was just made. -/
theorem AddS.addMade (S7 : Specs7 LD) (S : Specs8 LD LG) {R k m : Nat} {bs : List Dq.Fl} {n : Int} {l : List (List UInt8)} (h : AddS LD LG W w qd ql R k bs n l) (hb : Wq.Low bs) (hbs : bs.length ≤ 2) (hR : R ≤ 100000) (hl : l.length ≤ 9999) (v : Value) (r : List UInt8) (hw : Below w.heap.size w w') (hv : w'.ownsRow w.heap.size 5 1 v m (bc r)) (hr : r.length ≤ 20000) (hs : Dq.size bs + (Fr.frames l).length + (12 + r.length) ≤ R) :
    Calls Try.prog 11 #[dptr ql, v] w' fun ed w2 => ed = .returned (.int .i64 0) ∧ AddS LD LG W w2 qd ql R k bs n (l ++ [r]) := by
  obtain ⟨F, G, has, hd, hh⟩ := h
  obtain ⟨a2, a3⟩ := hd.made S7 S hv
  refine ((hd.later S7 S hw).add S (roomy_fs hR hbs) hl v r (Bs.own hv) (by omega) a2 a3 _ _ _ (Wq.add_fs hb (fun e => ⟨by rw [(hh e).1]; rfl, (hh e).2⟩) hr hs) (by simp [Wq.off])).mono ?_
  rintro ed w2 ⟨F', G', rfl, h1, _⟩
  exact ⟨rfl, F', G', true, h1, fun e => by cases e⟩
/-- A record that does not fit: the log is done. -/
theorem AddS.fullMade (S7 : Specs7 LD) (S : Specs8 LD LG) {R k m : Nat} {bs : List Dq.Fl} {n : Int} {l : List (List UInt8)} (h : AddS LD LG W w qd ql R k bs n l) (hb : Wq.Low bs) (hbs : bs.length ≤ 2) (hR : R ≤ 100000) (hl : l.length ≤ 9999) (v : Value) (r : List UInt8) (hw : Below w.heap.size w w') (hv : w'.ownsRow w.heap.size 5 1 v m (bc r)) (hr : r.length ≤ 20000) (hs : R < Dq.size bs + (Fr.frames l).length + (12 + r.length)) :
    Calls Try.prog 11 #[dptr ql, v] w' fun ed w2 => ed = .returned (.int .i64 9) ∧ ∃ F G has g2, Duo LD LG W w2 qd ⟨R, Wq.Fs bs has (Fr.frames l) k, false, 1⟩ F ql g2 G ∧ Wq.Like g2 ⟨n, l, 1, true⟩ ⟨R, Wq.Fs bs has (Fr.frames l) k, false, 1⟩ ∧ (has = false → l = [] ∧ k = 0) := by
  obtain ⟨F, G, has, hd, hh⟩ := h
  obtain ⟨a2, a3⟩ := hd.made S7 S hv
  refine ((hd.later S7 S hw).addAny S rfl (roomy_fs hR hbs) hl v r (Bs.own hv) (by omega) a2 a3 _ _ _ (Wq.add_full hb (fun e => ⟨by rw [(hh e).1]; rfl, (hh e).2⟩) hr hs)).mono ?_
  rintro ed w2 ⟨F', G', g2, rfl, h1, h2, _⟩
  exact ⟨rfl, F', G', has, g2, h1, h2, hh⟩
theorem AddS.next (S7 : Specs7 LD) (S : Specs8 LD LG) {R k : Nat} {bs : List Dq.Fl} {n : Int} {l : List (List UInt8)} (h : AddS LD LG W w qd ql R k bs n l) (z : Int) (hz : n + l.length = z) :
    Calls Try.prog 15 #[dptr ql] w fun ed w' => ed = .returned (.int .i64 z) ∧ AddS LD LG W w' qd ql R k bs n l := by
  obtain ⟨F, G, has, hd, hh⟩ := h
  refine (hd.next S7 S z hz).mono ?_
  rintro ed w' ⟨rfl, h1, _⟩
  exact ⟨rfl, F, G, has, h1, hh⟩
end
end Go.Proofs.Ytmbpkbdaakchiaa
