/- The landed Locks: four maps: whose each path is; each holder's paths, in rows of their own; how many right under a path are held; how many of those are one's. -/
import Derived.Test.YtadgjinlblloiaaDoorPlainM17
import Derived.Test.YtadgjinlblloiaaDoorSpecs17
import Derived.Test.YtadgjinlblloiaaDoorMapped
import Derived.Test.YtadgjinlblloiaaDoorStrs
import Derived.DeepKeys4
namespace Go.Proofs.YtadgjinlblloiaaDoor
open Go.RowKit

/-! Keys. -/
def pkey (s : ByteArray) : Lit := .string s.data.toList
def ikey (z : Int) : Lit := .int .i64 z
def shv (p : ByteArray) (z : Int) : Value := .agg #[.string p, .int .i64 z]
def skey (p : ByteArray) (z : Int) : Lit := .string (keyBytes [.string p.data.toList, .int .i64 z])
theorem pkey_inj {s t : ByteArray} (h : pkey s = pkey t) : s = t := by
  unfold pkey at h
  simp only [Lit.string.injEq] at h
  exact ByteArray.ext (Array.toList_inj.1 h)
theorem ikey_inj {s t : Int} (h : ikey s = ikey t) : s = t := by
  unfold ikey at h
  simp only [Lit.int.injEq, true_and] at h
  exact h
theorem keyedP : Maps.Keyed Tryd.prog 9 := Maps.string_keyed Tryd.underlying9
theorem keyedI : Maps.Keyed Tryd.prog 2 := Maps.int_keyed Tryd.underlying2
theorem laid17 : laidOutB Tryd.prog = true := by kernel_rfl
theorem rowS : (58 : TypeId) < Tryd.prog.types.size := of_decide_eq_true (by kernel_rfl)
theorem deepS : Tryd.prog.keyType 58 = true := by kernel_rfl
theorem wideS : (match Tryd.prog.underlying 58 with | some (.array _ _) | some (.struct _) => true | _ => false) = true := by kernel_rfl
theorem lawS : WideMaps.KeyLaw Tryd.prog 58 := deep_law_laid laid17 (m := 2) (by omega) rowS (by kernel_rfl) wideS
theorem keyedS : Maps.Keyed Tryd.prog 58 := Maps.Keyed.of_law lawS
theorem cellsS : Tryd.prog.cellsOf 58 = 2 := by kernel_rfl
theorem cellsT17 : Tryd.prog.cellsOf 9 = 1 := by kernel_rfl
theorem cellsI17 : Tryd.prog.cellsOf 2 = 1 := by kernel_rfl
theorem key_p {s : ByteArray} (hs : s.size ≤ maxLen) : keyOf Tryd.prog 9 (.string s) = some (pkey s) := Go.WideMaps.keyOf_string_mk Tryd.underlying9 hs
theorem wf17 {z : Int} (h : I64 z) : (Lit.int .i64 z).wf = true := by
  unfold I64 at h
  simp [Lit.wf, IntKind.min, IntKind.max, IntKind.bits, IntKind.signed]
  omega
theorem key_i {z : Int} (h : I64 z) : keyOf Tryd.prog 2 (.int .i64 z) = some (ikey z) := Maps.keyOf_int_mk Tryd.underlying2 (wf17 h)
theorem key_s {p : ByteArray} {z : Int} (hp : p.size ≤ maxLen) (h : I64 z) : keyOf Tryd.prog 58 (shv p z) = some (skey p z) := by
  obtain ⟨n, hn⟩ : ∃ n, Tryd.prog.types.size = n + 1 := ⟨_, (Nat.succ_pred_eq_of_pos (Nat.lt_of_le_of_lt (Nat.zero_le _) rowS)).symm⟩
  have h1 := wf17 h
  unfold keyOf
  rw [deepS, hn]
  simp [Program.keyLits, Tryd.underlying58, Tryd.underlying9, Tryd.underlying2, cellsS, cellsT17, cellsI17, Value.cells, Value.formed, shv, h1, hp, skey]
theorem skey_inj {p p' : ByteArray} {z z' : Int} (hp : p.size ≤ maxLen) (hz : I64 z) (hp' : p'.size ≤ maxLen) (hz' : I64 z') (h : skey p z = skey p' z') : p = p' ∧ z = z' := by
  have h1 := keyedS.inj (key_s hp hz) (h ▸ key_s hp' hz')
  unfold shv at h1
  simp at h1
  exact h1

/-! What the keys lead to. -/
def cnt (n : Nat) : Option Value := if n = 0 then none else some (.int .i64 (n : Int))
theorem cnt_getD (n : Nat) : (cnt n).getD (.int .i64 0) = .int .i64 (n : Int) := by
  unfold cnt
  split
  · rename_i h
    rw [h]
    rfl
  · rfl
theorem cnt_some {n : Nat} (h : n ≠ 0) : cnt n = some (.int .i64 (n : Int)) := by unfold cnt; rw [if_neg h]
theorem cnt_pos {n : Nat} (h : (cnt n).isSome = true) : 0 < n := by
  apply Nat.pos_of_ne_zero
  intro e
  rw [e] at h
  cases h
structure IsH (s : Lk.St) (f : Lit → Option Value) : Prop where
  at_ : ∀ p, f (pkey p) = (Lk.held s p).map (Value.int .i64)
  key : ∀ kl, (f kl).isSome = true → ∃ p, kl = pkey p
structure IsO (s : Lk.St) (V : Int → Value) (f : Lit → Option Value) : Prop where
  at_ : ∀ z, f (ikey z) = if Lk.own s z = [] then none else some (V z)
  key : ∀ kl, (f kl).isSome = true → ∃ z, kl = ikey z
structure IsU (s : Lk.St) (f : Lit → Option Value) : Prop where
  at_ : ∀ p, f (pkey p) = cnt (Lk.kids s p)
  key : ∀ kl, (f kl).isSome = true → ∃ p, kl = pkey p
structure IsS (s : Lk.St) (f : Lit → Option Value) : Prop where
  at_ : ∀ p z, p.size ≤ maxLen → I64 z → f (skey p z) = cnt (Lk.mine s p z)
  key : ∀ kl, (f kl).isSome = true → ∃ p z, p.size ≤ maxLen ∧ I64 z ∧ kl = skey p z
section
variable {s s' : Lk.St} {f g : Lit → Option Value} {V : Int → Value}
theorem IsH.few (h : IsH s f) : Few f s.length := few_of s (fun x => pkey x.path) fun kl hk => by
  obtain ⟨p, rfl⟩ := h.key kl hk
  rw [h.at_] at hk
  cases e : Lk.held s p with
  | none => rw [e] at hk; cases hk
  | some a =>
    obtain ⟨x, hx, hp, _⟩ := Lk.held_some e
    exact ⟨x, hx, by rw [hp]⟩
theorem IsO.few (h : IsO s V f) : Few f s.length := few_of s (fun x => ikey x.who) fun kl hk => by
  obtain ⟨z, rfl⟩ := h.key kl hk
  rw [h.at_] at hk
  by_cases e : Lk.own s z = []
  · rw [if_pos e] at hk
    cases hk
  · obtain ⟨p, hp⟩ := List.exists_mem_of_ne_nil _ e
    obtain ⟨x, hx, _, hw⟩ := Lk.mem_own.1 hp
    exact ⟨x, hx, by rw [hw]⟩
theorem IsU.few (h : IsU s f) : Few f s.length := few_of s (fun x => pkey (Lk.up x.path)) fun kl hk => by
  obtain ⟨p, rfl⟩ := h.key kl hk
  rw [h.at_] at hk
  obtain ⟨x, hx, hp⟩ := List.countP_pos_iff.1 (cnt_pos hk)
  unfold Lk.isKid at hp
  rw [Bool.and_eq_true, decide_eq_true_eq] at hp
  exact ⟨x, hx, by rw [hp.2]⟩
theorem IsS.few (h : IsS s f) : Few f s.length := few_of s (fun x => skey (Lk.up x.path) x.who) fun kl hk => by
  obtain ⟨p, z, hp, hz, rfl⟩ := h.key kl hk
  rw [h.at_ p z hp hz] at hk
  obtain ⟨x, hx, hp⟩ := List.countP_pos_iff.1 (cnt_pos hk)
  unfold Lk.isMine Lk.isKid at hp
  rw [Bool.and_eq_true, Bool.and_eq_true, decide_eq_true_eq, decide_eq_true_eq] at hp
  exact ⟨x, hx, by rw [hp.1.2, hp.2]⟩
theorem IsH.nil : IsH [] (fun _ => none) := ⟨fun _ => rfl, fun _ h => by cases h⟩
theorem IsO.nil (V : Int → Value) : IsO [] V (fun _ => none) := ⟨fun _ => rfl, fun _ h => by cases h⟩
theorem IsU.nil : IsU [] (fun _ => none) := ⟨fun _ => rfl, fun _ h => by cases h⟩
theorem IsS.nil : IsS [] (fun _ => none) := ⟨fun _ _ _ _ => rfl, fun _ h => by cases h⟩
/-- One path has come, or gone. -/
theorem IsH.one (h : IsH s f) {p : ByteArray} (hu : Up f (pkey p) ((Lk.held s' p).map (Value.int .i64)) g) (ho : ∀ q, q ≠ p → Lk.held s' q = Lk.held s q) : IsH s' g := by
  refine ⟨fun q => ?_, fun kl hk => ?_⟩
  · by_cases e : q = p
    · rw [e, hu.same]
    · rw [hu.other _ (fun e2 => e (pkey_inj e2)), h.at_, ho q e]
  · by_cases e : kl = pkey p
    · exact ⟨p, e⟩
    · rw [hu.other _ e] at hk
      exact h.key kl hk
theorem IsU.one (h : IsU s f) {p : ByteArray} (hu : Up f (pkey p) (cnt (Lk.kids s' p)) g) (ho : ∀ q, q ≠ p → Lk.kids s' q = Lk.kids s q) : IsU s' g := by
  refine ⟨fun q => ?_, fun kl hk => ?_⟩
  · by_cases e : q = p
    · rw [e, hu.same]
    · rw [hu.other _ (fun e2 => e (pkey_inj e2)), h.at_, ho q e]
  · by_cases e : kl = pkey p
    · exact ⟨p, e⟩
    · rw [hu.other _ e] at hk
      exact h.key kl hk
theorem IsU.all (h : IsU s f) (ho : ∀ q, Lk.kids s' q = Lk.kids s q) : IsU s' f := ⟨fun q => by rw [h.at_, ho], h.key⟩
theorem IsS.one (h : IsS s f) {p : ByteArray} {z : Int} (hp : p.size ≤ maxLen) (hz : I64 z) (hu : Up f (skey p z) (cnt (Lk.mine s' p z)) g) (ho : ∀ q y, q ≠ p ∨ y ≠ z → Lk.mine s' q y = Lk.mine s q y) : IsS s' g := by
  refine ⟨fun q y hq hy => ?_, fun kl hk => ?_⟩
  · by_cases e : skey q y = skey p z
    · obtain ⟨rfl, rfl⟩ := skey_inj hq hy hp hz e
      rw [hu.same]
    · rw [hu.other _ e, h.at_ q y hq hy, ho q y]
      apply Classical.byContradiction
      intro h2
      rw [not_or, Classical.not_not, Classical.not_not] at h2
      exact e (by rw [h2.1, h2.2])
  · by_cases e : kl = skey p z
    · exact ⟨p, z, hp, hz, e⟩
    · rw [hu.other _ e] at hk
      exact h.key kl hk
theorem IsS.all (h : IsS s f) (ho : ∀ q z, Lk.mine s' q z = Lk.mine s q z) : IsS s' f := ⟨fun q z hq hz => by rw [h.at_ q z hq hz, ho], h.key⟩
/-- One holder's paths are others. -/
theorem IsO.one (h : IsO s V f) {z : Int} {V' : Int → Value} (hu : Up f (ikey z) (if Lk.own s' z = [] then none else some (V' z)) g) (ho : ∀ y, y ≠ z → Lk.own s' y = Lk.own s y ∧ V' y = V y) : IsO s' V' g := by
  refine ⟨fun y => ?_, fun kl hk => ?_⟩
  · by_cases e : y = z
    · rw [e, hu.same]
    · rw [hu.other _ (fun e2 => e (ikey_inj e2)), h.at_, (ho y e).1, (ho y e).2]
  · by_cases e : kl = ikey z
    · exact ⟨z, e⟩
    · rw [hu.other _ e] at hk
      exact h.key kl hk
end

/-- The Locks at q: the paths' holders are sh's, the holders' paths so's. -/
structure LkU (w : World) (q : Nat) (sh so : Lk.St) (F : Nat → Prop) (a b c d : Nat) (fh fo fu fs : Lit → Option Value) (V : Int → Value) : Prop where
  blk : Cb w q [.map (some a), .map (some b), .map (some c), .map (some d)] 53
  mh : Mq w 9 a fh
  mo : Mq w 2 b fo
  mu : Mq w 9 c fu
  ms : Mq w 58 d fs
  ih : IsH sh fh
  io : IsO so V fo
  row : ∀ z, Lk.own so z ≠ [] → w.ownsRow 0 9 1 (V z) (Lk.own so z).length (sc (Lk.own so z))
  apart : ∀ z y, Lk.own so z ≠ [] → Lk.own so y ≠ [] → z ≠ y → ∀ k, (V z).ownBlock = some k → (V y).ownBlock ≠ some k
  ne : a ≠ b ∧ a ≠ c ∧ a ≠ d ∧ b ≠ c ∧ b ≠ d ∧ c ≠ d
  gq : F q
  gm : F a ∧ F b ∧ F c ∧ F d
  gv : ∀ z, Lk.own so z ≠ [] → ∀ k, (V z).ownBlock = some k → F k
  flt : ∀ k, F k → k < w.heap.size
def LLk : Rep17 := fun w q s F => ∃ a b c d fh fo fu fs V, LkU w q s s F a b c d fh fo fu fs V ∧ IsU s fu ∧ IsS s fs
section
variable {w w' : World} {q a b c d : Nat} {sh so s : Lk.St} {F F' : Nat → Prop} {fh fo fu fs fh' fo' fu' fs' : Lit → Option Value} {V V' : Int → Value}
theorem LkU.keep (h : LkU w q sh so F a b c d fh fo fu fs V) (hk : ∀ k, F k → w'.heap[k]? = w.heap[k]?) : LkU w' q sh so F a b c d fh fo fu fs V := by
  refine ⟨h.blk.keep (hk q h.gq), h.mh.keep (hk a h.gm.1), h.mo.keep (hk b h.gm.2.1), h.mu.keep (hk c h.gm.2.2.1), h.ms.keep (hk d h.gm.2.2.2), h.ih, h.io, fun z hz => row_stays (h.row z hz) fun k hk2 => hk k (h.gv z hz k hk2), h.apart, h.ne, h.gq, h.gm, h.gv, fun k e => ?_⟩
  have h1 := h.flt k e
  have h2 := hk k e
  rw [Array.getElem?_eq_getElem h1] at h2
  exact (Array.getElem?_eq_some_iff.1 h2).1
theorem LkU.below (h : LkU w q sh so F a b c d fh fo fu fs V) (hb : Below w.heap.size w w') : LkU w' q sh so F a b c d fh fo fu fs V := h.keep fun k hk => hb.block k (h.flt k hk)
theorem LkU.drewN (h : LkU w q sh so F a b c d fh fo fu fs V) (n : Nat) : LkU (w.drewN n) q sh so F a b c d fh fo fu fs V := h.below (below_drewN (Below.refl _ w) n)
theorem llk_keep (h : LLk w q s F) (hk : ∀ k, F k → w'.heap[k]? = w.heap[k]?) : LLk w' q s F := by
  obtain ⟨a, b, c, d, fh, fo, fu, fs, V, h, h1, h2⟩ := h
  exact ⟨a, b, c, d, fh, fo, fu, fs, V, h.keep hk, h1, h2⟩
theorem Moved.turned {m : Nat} (ht : w.mapTurned w' m) (hm : F m) : Moved w w' F F := by
  have hg := ht.grown
  exact ⟨hg.os, hg.tape, hg.output, hg.size, fun k hk hF => hg.block k hk (by simp; exact fun e => hF (e ▸ hm)), fun _ h => Or.inl h⟩
theorem turned_keep {m k : Nat} (ht : w.mapTurned w' m) (hk : k < w.heap.size) (hne : k ≠ m) : w'.heap[k]? = w.heap[k]? := ht.grown.block k hk (by simpa using hne)
theorem LkU.rows_turned (h : LkU w q sh so F a b c d fh fo fu fs V) {m : Nat} {f : Lit → Option Value} {t : TypeId} (hm : Mq w t m f) (ht : w.mapTurned w' m) : ∀ z, Lk.own so z ≠ [] → w'.ownsRow 0 9 1 (V z) (Lk.own so z).length (sc (Lk.own so z)) := fun z hz =>
  row_stays (h.row z hz) fun k hk => turned_keep ht ((h.row z hz).lt k hk).2 fun e => hm.ne_row (h.row z hz) (by rw [hk, e])
theorem LkU.flt_turned (h : LkU w q sh so F a b c d fh fo fu fs V) {m : Nat} (ht : w.mapTurned w' m) : ∀ k, F k → k < w'.heap.size := fun k hk => Nat.lt_of_lt_of_le (h.flt k hk) ht.grown.size
/-- The map of the paths' holders is written. -/
theorem LkU.turn_h (h : LkU w q sh so F a b c d fh fo fu fs V) (ht : w.mapTurned w' a) (hm : Mq w' 9 a fh') {sh' : Lk.St} (hi : IsH sh' fh') : LkU w' q sh' so F a b c d fh' fo fu fs V := by
  obtain ⟨n1, n2, n3, n4, n5, n6⟩ := h.ne
  exact ⟨h.blk.keep (turned_keep ht h.blk.lt (h.mh.ne h.blk).symm), hm, h.mo.keep (turned_keep ht h.mo.lt n1.symm), h.mu.keep (turned_keep ht h.mu.lt n2.symm), h.ms.keep (turned_keep ht h.ms.lt n3.symm), hi, h.io, h.rows_turned h.mh ht, h.apart, h.ne, h.gq, h.gm, h.gv, h.flt_turned ht⟩
/-- The counts are written. -/
theorem LkU.turn_u (h : LkU w q sh so F a b c d fh fo fu fs V) (ht : w.mapTurned w' c) (hm : Mq w' 9 c fu') : LkU w' q sh so F a b c d fh fo fu' fs V := by
  obtain ⟨n1, n2, n3, n4, n5, n6⟩ := h.ne
  exact ⟨h.blk.keep (turned_keep ht h.blk.lt (h.mu.ne h.blk).symm), h.mh.keep (turned_keep ht h.mh.lt n2), h.mo.keep (turned_keep ht h.mo.lt n4), hm, h.ms.keep (turned_keep ht h.ms.lt n6.symm), h.ih, h.io, h.rows_turned h.mu ht, h.apart, h.ne, h.gq, h.gm, h.gv, h.flt_turned ht⟩
theorem LkU.turn_s (h : LkU w q sh so F a b c d fh fo fu fs V) (ht : w.mapTurned w' d) (hm : Mq w' 58 d fs') : LkU w' q sh so F a b c d fh fo fu fs' V := by
  obtain ⟨n1, n2, n3, n4, n5, n6⟩ := h.ne
  exact ⟨h.blk.keep (turned_keep ht h.blk.lt (h.ms.ne h.blk).symm), h.mh.keep (turned_keep ht h.mh.lt n3), h.mo.keep (turned_keep ht h.mo.lt n5), h.mu.keep (turned_keep ht h.mu.lt n6), hm, h.ih, h.io, h.rows_turned h.ms ht, h.apart, h.ne, h.gq, h.gm, h.gv, h.flt_turned ht⟩
/-- A holder has none any more. -/
theorem LkU.turn_o (h : LkU w q sh so F a b c d fh fo fu fs V) (ht : w.mapTurned w' b) {so' : Lk.St} (hm : Mq w' 2 b fo') (hi : IsO so' V fo') (hsub : ∀ z, Lk.own so' z ≠ [] → Lk.own so' z = Lk.own so z) : LkU w' q sh so' F a b c d fh fo' fu fs V := by
  obtain ⟨n1, n2, n3, n4, n5, n6⟩ := h.ne
  have hne : ∀ z, Lk.own so' z ≠ [] → Lk.own so z ≠ [] := fun z hz => by rw [← hsub z hz]; exact hz
  exact ⟨h.blk.keep (turned_keep ht h.blk.lt (h.mo.ne h.blk).symm), h.mh.keep (turned_keep ht h.mh.lt n1), hm, h.mu.keep (turned_keep ht h.mu.lt n4.symm), h.ms.keep (turned_keep ht h.ms.lt n5.symm), h.ih, hi, fun z hz => by rw [hsub z hz]; exact h.rows_turned h.mo ht z (hne z hz), fun z y hz hy => h.apart z y (hne z hz) (hne y hy), h.ne, h.gq, h.gm, fun z hz => h.gv z (hne z hz), h.flt_turned ht⟩
end
end Go.Proofs.YtadgjinlblloiaaDoor
