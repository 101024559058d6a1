/- A tree laid node by node into another one: plain reckoning; a second tree beside the first. -/
import Derived.Test.YtfcbdjjbchcpjaaGreatDoorKeep11
import Derived.Test.YtfcbdjjbchcpjaaGreatDoorWDo11
namespace Go.Proofs.YtfcbdjjbchcpjaaGreatDoor.Tq
open Kq
/-- Each node's Length is its Data's. -/
def Ln (t : Tr) : Prop := ∀ e ∈ t.l, e.2.len = (e.2.data.size : Int)
theorem ln_new (r : Int) : Ln ⟨r, []⟩ := fun e he => by cases he
theorem ln_set {l : List En} {r : Int} {p : ByteArray} {n : Kn} (h : Ln ⟨r, l⟩) (hn : n.len = (n.data.size : Int)) : Ln ⟨r, set l p n⟩ := fun e he => by
  rcases mem_set he with he | ⟨rfl, _⟩
  · exact h e he
  · exact hn
theorem ln_add {n : Kn} {s : ByteArray} (h : n.len = (n.data.size : Int)) : (add n s).len = ((add n s).data.size : Int) := by unfold add; split <;> exact h
theorem ln_remove {n : Kn} {s : ByteArray} (h : n.len = (n.data.size : Int)) : (remove n s).len = ((remove n s).data.size : Int) := by unfold remove; split <;> exact h
theorem ln_named {l : List En} {r : Int} {u : Option ByteArray} {p : ByteArray} (h : Ln ⟨r, l⟩) : Ln ⟨r, named l u p⟩ := by
  unfold named
  split
  · exact h
  · split
    · exact h
    · rename_i m hm
      exact ln_set h (ln_add (h _ (find_some hm)))
theorem ln_orphan {l : List En} {r : Int} {p : ByteArray} (h : Ln ⟨r, l⟩) : Ln ⟨r, orphan l p⟩ := by
  unfold orphan
  split
  · exact h
  · split
    · exact h
    · rename_i m hm
      exact ln_set h (ln_remove (h _ (find_some hm)))
theorem ln_doo {t : Tr} {o : O} {s z : Int} (h : Ln t) : Ln (doo t o s z).2 := by
  obtain ⟨x, t', hd⟩ : ∃ x t', doo t o s z = (x, t') := ⟨_, _, rfl⟩
  rw [hd]
  rcases doo_ok hd with ⟨_, rfl⟩ | ⟨_, _, _, ⟨_, _, _, rfl⟩ | ⟨_, _, rfl⟩ | ⟨_, n, hn, rfl⟩ | ⟨_, rfl⟩⟩
  · exact h
  · intro e he
    rcases mem_ins.1 he with rfl | he
    · rfl
    · exact ln_named (r := t.room) h e he
  · exact ln_orphan (r := t.room) (fun e he => h e (mem_del.1 he).1)
  · exact ln_set (r := t.room) h rfl
  · exact h

/-- What of a tree is laid into another, from a turn on. -/
structure Ld (t : Tr) (turn : Nat) (j : Nat) (u : Tr) : Prop where
  fine : Fine11 u
  room : u.room = 60
  len : u.l.length = j
  mem : ∀ e, e ∈ u.l ↔ ∃ i, i < j ∧ t.l[(i + turn) % t.l.length]? = some e
theorem ld_new (t : Tr) (turn : Nat) : Ld t turn 0 ⟨60, []⟩ := ⟨fine11_new (by decide), rfl, rfl, fun e => ⟨fun h => (by cases h), fun ⟨i, h, _⟩ => absurd h (by omega)⟩⟩
theorem turn_ne {n i j r : Nat} (hi : i < j) (hj : j < n) : (i + r) % n ≠ (j + r) % n := fun e => by
  have h : ((j + r) - (i + r)) % n = 0 := Nat.sub_mod_eq_zero_of_mod_eq e.symm
  rw [show (j + r) - (i + r) = j - i by omega, Nat.mod_eq_of_lt (by omega)] at h
  omega
theorem keys_inj {t : Tr} (hf : Fine11 t) {a b : Nat} {p : ByteArray} (ha : (keys t.l)[a]? = some p) (hb : (keys t.l)[b]? = some p) : a = b := by
  have hr := hf.rise
  have h1 := (List.getElem?_eq_some_iff.1 ha).1
  have h2 := (List.getElem?_eq_some_iff.1 hb).1
  have key : ∀ x y : Nat, x < y → (keys t.l)[x]? = some p → (keys t.l)[y]? = some p → False := fun x y hxy hx hy => by
    obtain ⟨hx1, hx2⟩ := List.getElem?_eq_some_iff.1 hx
    obtain ⟨hy1, hy2⟩ := List.getElem?_eq_some_iff.1 hy
    have h3 := List.pairwise_iff_getElem.1 hr x y hx1 hy1 hxy
    rw [hx2, hy2] at h3
    exact lt_ne h3 rfl
  rcases Nat.lt_trichotomy a b with h | h | h
  · exact (key a b h ha hb).elim
  · exact h
  · exact (key b a h hb ha).elim
theorem at_key {t : Tr} {k : Nat} {e : En} (h : t.l[k]? = some e) : (keys t.l)[k]? = some e.1 := by
  unfold keys
  rw [List.getElem?_map, h]
  rfl
/-- One more is laid. -/
theorem Ld.step {t u : Tr} {turn j m : Nat} (hf : Fine11 t) (hs : Snd t) (hl : Ln t) (hm : Few t m) (hm5 : m ≤ 500) (hr : t.room = 60) (h : Ld t turn j u) (hj : j < t.l.length) {p : ByteArray} {n : Kn} (he : t.l[(j + turn) % t.l.length]? = some (p, n)) :
    load u p n = (0, { u with l := ins u.l p n }) ∧ Ld t turn (j + 1) { u with l := ins u.l p n } ∧ load { u with l := ins u.l p n } p n = (5, { u with l := ins u.l p n }) := by
  have hmem := List.mem_of_getElem? he
  have hN := hf.nodes _ hmem
  have hfind := find_of hf.rise hmem
  have hlaid : laid n = n := by
    have h1 := hs.cnt p n hfind
    have h2 := hl _ hmem
    unfold laid
    simp only [] at h2
    rw [← h1, ← h2]
  have hlay : layB p n = true := by
    unfold layB
    have h1 : risesB n.names = true := (rises_iff _).2 hN.2.rises
    have h2 : n.names.length ≤ 500 := by have := hm _ hmem; simp only [] at this; omega
    have h3 : (n.names.all fun s => Pl.nameB s.data.toList) = true := List.all_eq_true.2 hN.2.long
    rw [hN.1, h1, h3]
    simp [h2]
  have hno : find u.l p = none := by
    cases hq : find u.l p with
    | none => rfl
    | some m' =>
      obtain ⟨i, hi, hie⟩ := (h.mem _).1 (find_some hq)
      have a1 : (keys t.l)[(i + turn) % t.l.length]? = some p := at_key hie
      have a2 : (keys t.l)[(j + turn) % t.l.length]? = some p := at_key he
      exact absurd (keys_inj hf a1 a2) (turn_ne hi hj)
  have hroom : ¬ u.room ≤ (u.l.length : Int) := by
    rw [h.room, h.len]
    have := hf.len
    rw [hr] at this
    omega
  have hfi : Fine11 { u with l := ins u.l p n } := fine_ins h.fine hN.1 hno (by omega) hN.2
  refine ⟨?_, ⟨hfi, h.room, ?_, fun e => ?_⟩, ?_⟩
  · unfold load
    rw [if_neg (by rw [hlay]; simp), hno]
    simp only []
    rw [if_neg hroom, hlaid]
  · show (ins u.l p n).length = j + 1
    rw [len_ins, h.len]
  · show e ∈ ins u.l p n ↔ _
    rw [mem_ins, h.mem]
    constructor
    · rintro (rfl | ⟨i, hi, hie⟩)
      · exact ⟨j, by omega, he⟩
      · exact ⟨i, by omega, hie⟩
    · rintro ⟨i, hi, hie⟩
      by_cases hij : i = j
      · subst hij
        rw [he] at hie
        exact Or.inl (Option.some.inj hie).symm
      · exact Or.inr ⟨i, by omega, hie⟩
  · unfold load
    rw [if_neg (by rw [hlay]; simp)]
    have h2 : find (ins u.l p n) p = some n := by rw [find_ins n h.fine.rise hno, if_pos rfl]
    show (match find (ins u.l p n) p with | some _ => _ | none => _) = _
    rw [h2]
theorem same_list {a b : List En} (ha : Rises (keys a)) (hb : Rises (keys b)) (h : ∀ e, e ∈ a ↔ e ∈ b) : a = b := by
  have pw : ∀ {l : List En}, Rises (keys l) → l.Pairwise fun x y => lt x.1 y.1 = true := fun {l} hl => by
    unfold Rises keys at hl
    exact List.pairwise_map.1 hl
  have nd : ∀ {l : List En}, Rises (keys l) → l.Nodup := fun {l} hl => by
    unfold List.Nodup
    exact (pw hl).imp (fun {x y} h (e : x = y) => lt_ne h (by rw [e]))
  have hp : a.Perm b := (List.perm_ext_iff_of_nodup (nd ha) (nd hb)).2 h
  refine List.Perm.eq_of_pairwise (le := fun x y => lt x.1 y.1 = true) (fun x y hx hy h1 h2 => ?_) (pw ha) (pw hb) hp
  exact absurd h2 (by rw [lt_asymm h1]; simp)
/-- All are laid. -/
theorem Ld.all {t u : Tr} {turn : Nat} (hf : Fine11 t) (h : Ld t turn t.l.length u) : u.l = t.l := by
  refine same_list h.fine.rise hf.rise (fun e => ?_)
  rw [h.mem]
  constructor
  · rintro ⟨i, _, hi⟩
    exact List.mem_of_getElem? hi
  · intro he
    obtain ⟨k, hk, rfl⟩ := List.getElem_of_mem he
    obtain ⟨n, hn⟩ : ∃ n, n = t.l.length := ⟨_, rfl⟩
    have hn0 : 0 < n := by omega
    have hr := Nat.mod_lt turn hn0
    have hd := Nat.div_add_mod turn n
    refine ⟨if turn % n ≤ k then k - turn % n else k + n - turn % n, by rw [← hn]; split <;> omega, ?_⟩
    have e2 : ((if turn % n ≤ k then k - turn % n else k + n - turn % n) + turn) % n = k := by
      obtain ⟨i, hi⟩ : ∃ i, i = if turn % n ≤ k then k - turn % n else k + n - turn % n := ⟨_, rfl⟩
      rw [← hi]
      have e3 : i + turn % n = k ∨ i + turn % n = k + n := by rw [hi]; split <;> omega
      rw [Nat.add_mod, ← Nat.add_mod_mod, Nat.mod_mod, Nat.mod_add_mod]
      rcases e3 with e3 | e3
      · rw [e3, Nat.mod_eq_of_lt (by omega)]
      · rw [e3, Nat.add_mod_right, Nat.mod_eq_of_lt (by omega)]
    rw [← hn, e2]
    exact List.getElem?_eq_getElem hk
end Go.Proofs.YtfcbdjjbchcpjaaGreatDoor.Tq
namespace Go.Proofs.YtfcbdjjbchcpjaaGreatDoor
open Go.RowKit
section
variable {LT : Rep11} {W w : World} {q : Nat} {t : Tq.Tr} {F : Nat → Prop}
theorem Mine11.second (S : Specs11 LT) (h : Mine11 LT W w q t F) (n : Int) (hn : ¬ (n < 1 ∨ 500 < n)) :
    Calls Tryz.prog 16 #[.int .i64 n] w fun e w' => ∃ q2 F2, e = .returned (.tuple #[dptr q2, .int .i64 0]) ∧ Two12 LT W w' q t F q2 ⟨n, []⟩ F2 ∧ Below w.heap.size w w' := by
  refine (S.new n w).mono ?_
  rintro e w' ⟨hb, h1⟩
  rw [if_neg hn] at h1
  obtain ⟨q2, F2, rfl, h2, h3⟩ := h1
  have hs := h.below.size
  refine ⟨q2, F2, rfl, ⟨h.later S hb, ⟨h2, fine11_new hn, fun k hk => by have := h3 k hk; omega, h.below.trans (hb.mono hs)⟩, fun k e e2 => ?_⟩, hb⟩
  have := S.lt h.ld e
  have := h3 k e2
  omega
theorem Mine11.loadd (S : Specs11 LT) (h : Mine11 LT W w q t F) (hS : Pa.Std W) (p : ByteArray) (n : Kq.Kn) (u : Value) (hu : Ss w u n.names) (ho : n.names ≠ [] → Off11 F u) (hn : Node11 n) (hp : p.size ≤ maxLen) (e : Int) (t' : Tq.Tr) (he : Tq.load t p n = (e, t')) (hf : Fine11 t') :
    Calls Tryz.prog 20 #[dptr q, .string p, kv n u] w fun ed w' => ∃ F', ed = .returned (.int .i64 e) ∧ Mine11 LT W w' q t' F' ∧ Moved w w' F F' := by
  refine (S.load q t F p n u w h.ld h.fine (h.six hS) (hS.below h.below) hu ho (by have := hn.many; omega) (fun s hs => by have := name_len (hn.long s hs); omega) hn.data hp).mono ?_
  rintro ed w' ⟨F', rfl, h1, hm⟩
  rw [he] at h1 ⊢
  exact ⟨F', rfl, h.step h1 hf hm, hm⟩
end
end Go.Proofs.YtfcbdjjbchcpjaaGreatDoor
namespace Go.Proofs.YtfcbdjjbchcpjaaGreatDoor
theorem k10_all {w : World} {q : Nat} {n : Kq.Kn} {u : Value} {t : TypeId} (h : Cb w q (k10 n u) t) : w.cell? ⟨q, 0, none⟩ = some (.int .i64 n.made) ∧ w.cell? ⟨q, 1, none⟩ = some (.int .i64 n.changed) ∧ w.cell? ⟨q, 2, none⟩ = some (.int .i64 n.ver) ∧ w.cell? ⟨q, 3, none⟩ = some (.int .i64 n.kids) ∧ w.cell? ⟨q, 4, none⟩ = some (.int .i64 n.owner) ∧ w.cell? ⟨q, 5, none⟩ = some (.int .i64 n.len) ∧ w.cell? ⟨q, 6, none⟩ = some (.int .i64 n.cnt) ∧ w.cell? ⟨q, 7, none⟩ = some (.string n.data) ∧ w.cell? ⟨q, 8, none⟩ = some (.int .i64 n.next) ∧ w.cell? ⟨q, 9, none⟩ = some u :=
  ⟨(h.cell 0).trans rfl, (h.cell 1).trans rfl, (h.cell 2).trans rfl, (h.cell 3).trans rfl, (h.cell 4).trans rfl, (h.cell 5).trans rfl, (h.cell 6).trans rfl, (h.cell 7).trans rfl, (h.cell 8).trans rfl, (h.cell 9).trans rfl⟩
end Go.Proofs.YtfcbdjjbchcpjaaGreatDoor
