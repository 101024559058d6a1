/- What a purge leaves of a tree: plain reckoning. A share of something greater, plainly: no program. What was foreseen is done: plain reckoning, no program. A share, act by act: what was prepared stays as it was foreseen; what is held is held by what waits. What part's calls are asked to answer, whatever a share is made of (to be proved of the landed code). -/
import Derived.Test.YtboejbjobjhajaaGreatDoorPm2
import Derived.Test.YtboejbjobjhajaaGreatDoorWtk
import Derived.Test.YtboejbjobjhajaaGreatDoorHbx
import Derived.Test.YtboejbjobjhajaaGreatDoorLk7
import Derived.Test.YtboejbjobjhajaaGreatDoorRes12
namespace Go.Proofs.YtboejbjobjhajaaGreatDoor.Tq
open Kq
theorem owner_orphan {l : List En} {p x : ByteArray} {n : Kn} (h : find (orphan l p) x = some n) : ∃ m, find l x = some m ∧ n.owner = m.owner := by
  unfold orphan at h
  split at h
  · exact ⟨n, h, rfl⟩
  · rename_i u _
    split at h
    · exact ⟨n, h, rfl⟩
    · rename_i m hm
      rw [find_set] at h
      by_cases hx : x = u
      · rw [if_pos hx, hx, hm] at h
        simp only [Option.map_some, Option.some.injEq] at h
        exact ⟨m, by rw [hx]; exact hm, by rw [← h]; exact remove_owner _ _⟩
      · rw [if_neg hx] at h
        exact ⟨n, h, rfl⟩
theorem find_keys12 {l : List En} {p : ByteArray} {n : Kn} (h : find l p = some n) : p ∈ keys l := List.mem_map.2 ⟨_, find_some h, rfl⟩
theorem drop_is {t : Tr} {p : ByteArray} {n : Kn} (h : find t.l p = some n) : dropT t p = { t with l := orphan (del t.l p) p } := by unfold dropT; rw [h]
end Go.Proofs.YtboejbjobjhajaaGreatDoor.Tq
namespace Go.Proofs.YtboejbjobjhajaaGreatDoor.Tq
open Kq
theorem nodup_le18 {α : Type} : ∀ (l m : List α), l.Nodup → (∀ x ∈ l, x ∈ m) → l.length ≤ m.length
  | [], _, _, _ => Nat.zero_le _
  | a :: l, m, hn, hm => by
    classical
    obtain ⟨h1, h2⟩ := List.nodup_cons.1 hn
    have ha := hm a (by simp)
    have ih := nodup_le18 l (m.erase a) h2 (fun x hx => (List.mem_erase_of_ne (fun e : x = a => h1 (by rw [← e]; exact hx))).2 (hm x (by simp [hx])))
    have hl := List.length_erase_of_mem ha
    have hp := List.length_pos_of_mem ha
    rw [List.length_cons]
    omega
theorem sub_inj18 {p a b : ByteArray} (h : sub p a = sub p b) : a = b := by
  have h1 := List.append_cancel_left (tb_inj h)
  rw [List.cons.injEq] at h1
  rw [← tb_back a, ← tb_back b, h1.2]
theorem few_snd18 {t : Tr} (hf : Fine11 t) (hs : Snd t) : Few t 500 := fun e he => by
  have hfd : find t.l e.1 = some e.2 := find_of hf.rise he
  have h1 : (e.2.names.map (sub e.1)).Nodup := by
    unfold List.Nodup
    rw [List.pairwise_map]
    exact (hf.nodes e he).2.rises.imp fun {a b} hab h => lt_ne hab (sub_inj18 h)
  have h2 := nodup_le18 (e.2.names.map (sub e.1)) (keys t.l) h1 (fun x hx => by
    obtain ⟨s, hs1, rfl⟩ := List.mem_map.1 hx
    obtain ⟨m, hm⟩ := hs.kid _ _ _ hfd hs1
    exact find_keys12 hm)
  rw [List.length_map] at h2
  have h3 := hf.len
  have h4 := hf.room
  unfold keys at h2
  rw [List.length_map] at h2
  omega
structure Well (t : Tr) : Prop where
  fine : Fine11 t
  snd : Snd t
theorem Well.few {t : Tr} (h : Well t) : Few t 500 := few_snd18 h.fine h.snd
theorem well_new {r : Int} (h : ¬ (r < 1 ∨ 500 < r)) : Well ⟨r, []⟩ := ⟨fine11_new h, snd_new r⟩
theorem Well.doo {t : Tr} (h : Well t) (o : O) (s z : Int) : Well (Tq.doo t o s z).2 := ⟨fine_doo h.fine (h.few.more (by omega)), snd_doo h.fine h.snd⟩
theorem Well.after {s z : Int} : ∀ {l : List O} {t : Tr}, Well t → Well (after t s z l)
  | [], _, h => h
  | o :: l, _, h => Well.after (l := l) (h.doo o s z)
theorem Well.many {t : Tr} (h : Well t) (s z : Int) (os : List O) : Well (many t s z os).2 := by
  unfold Tq.many
  split
  · exact h
  split
  · exact h
  simp only []
  split
  · unfold turn
    split
    · exact h.after
    · exact h.after
  · exact h
theorem Well.ask {t : Tr} (h : Well t) (s n z : Int) (os : List O) : Well (ask t s n z os).2 := by
  unfold Tq.ask
  split
  · exact h
  · exact h.many s z os
theorem Well.drop {t : Tr} (h : Well t) {p : ByteArray} (hp : ∀ n, find t.l p = some n → n.owner ≠ 0) : Well (dropT t p) := by
  refine ⟨fine_drop h.fine p, ?_⟩
  cases hn : find t.l p with
  | none => unfold dropT; rw [hn]; exact h.snd
  | some n => rw [drop_is hn]; exact snd_gone h.fine h.snd hn (h.snd.eph p n hn (hp n hn))
theorem find_drop18 {t : Tr} {p x : ByteArray} (h : Fine11 t) {n : Kn} (hn : find (dropT t p).l x = some n) : ∃ m, find t.l x = some m ∧ n.owner = m.owner := by
  cases hp : find t.l p with
  | none => unfold dropT at hn; rw [hp] at hn; exact ⟨n, hn, rfl⟩
  | some m =>
    rw [drop_is hp] at hn
    obtain ⟨m2, r1, r2⟩ := owner_orphan hn
    rw [find_del h.rise] at r1
    split at r1
    · cases r1
    · exact ⟨m2, r1, r2⟩
theorem Well.drops : ∀ {ts : List ByteArray} {t : Tr}, Well t → (∀ p ∈ ts, ∀ n, find t.l p = some n → n.owner ≠ 0) → Well (drops t ts)
  | [], _, h, _ => h
  | p :: ts, t, h, hp => Well.drops (ts := ts) (h.drop (hp p (by simp))) (fun x hx n hn => by
    obtain ⟨m, h1, h2⟩ := find_drop18 h.fine hn
    rw [h2]
    exact hp x (by simp [hx]) m h1)
theorem ofs_owner18 {t : Tr} (h : Fine11 t) {s : Int} {p : ByteArray} (hp : p ∈ ofs t s) : 0 < s ∧ ∃ n, find t.l p = some n ∧ n.owner = s := by
  unfold ofs at hp
  split at hp
  · rename_i hs
    obtain ⟨e, he, rfl⟩ := List.mem_map.1 hp
    obtain ⟨h1, h2⟩ := List.mem_filter.1 he
    exact ⟨hs, e.2, find_of h.rise h1, of_decide_eq_true h2⟩
  · cases hp
theorem Well.purge {t : Tr} (h : Well t) (s : Int) {ts : List ByteArray} (hp : List.Perm ts (ofs t s)) : Well (Tq.drops t ts) := h.drops fun p hpt n hn => by
  obtain ⟨hs, m, h1, h2⟩ := ofs_owner18 h.fine (hp.mem_iff.1 hpt)
  rw [hn] at h1
  rw [Option.some.inj h1, h2]
  omega
theorem room_after18 {s z : Int} : ∀ {l : List O} {t : Tr}, (after t s z l).room = t.room
  | [], _ => rfl
  | o :: l, t => (room_after18 (l := l) (t := (doo t o s z).2)).trans (room_doo t o s z)
theorem room_many18 (t : Tr) (s z : Int) (os : List O) : (many t s z os).2.room = t.room := by
  unfold many
  split
  · rfl
  split
  · rfl
  simp only []
  split
  · unfold turn
    split
    · exact room_after18
    · exact room_after18
  · rfl
theorem room_drops18 : ∀ {ts : List ByteArray} {t : Tr}, (drops t ts).room = t.room
  | [], _ => rfl
  | p :: ts, t => (room_drops18 (ts := ts) (t := dropT t p)).trans (by unfold dropT; split <;> rfl)
end Go.Proofs.YtboejbjobjhajaaGreatDoor.Tq

namespace Go.Proofs.YtboejbjobjhajaaGreatDoor.Pt
open Go
structure Pr where
  id : Int
  sess : Int
  ops : List O
  closes : Bool
  fails : Bool
structure St where
  t : Tq.Tr
  z : Int
  lk : Lk.St
  ps : List Pr
  dn : List Int
  cl : List Int
def new (room : Int) : St := ⟨⟨room, []⟩, 0, [], [], [], []⟩
def wants (o : O) : List ByteArray := if 2 ≤ o.flags then [o.path, Lk.up o.path] else [o.path]
def creates (o : O) : Bool := decide (o.kind = 1)
def made (os : List O) : Nat := os.countP creates
def own (p : Pr) : List O := if p.fails then [] else p.ops
def sumW (ps : List Pr) : Nat := (ps.map fun p => made (own p)).sum
def wanted (s : St) : Nat := sumW s.ps
def closing (s : St) (z : Int) : Bool := s.ps.any fun p => p.closes && decide (p.sess = z)
def asks (ps : List Pr) (z : Int) : Nat := ps.countP fun p => !p.closes && decide (p.sess = z)
def ended (s : St) (z : Int) : Int := if z ∈ s.cl then 11 else if closing s z = true then 12 else 0
def bars (s : St) (who : Int) (o : O) : Bool := (wants o).any (Lk.blocks s.lk who)
def full (s : St) (os : List O) : Bool := decide (0 < wanted s) && decide (s.t.room < ((wanted s + s.t.l.length + made os : Nat) : Int))
def refusal (s : St) (who z : Int) (os : List O) : Int × Int :=
  if ended s z ≠ 0 then (ended s z, -1)
  else match os.findIdx? (bars s who) with
    | some i => (12, (i : Int))
    | none => match os.findIdx? creates with
      | some i => if full s os = true then (12, (i : Int)) else (0, -1)
      | none => (0, -1)
def local_ (s : St) (z n : Int) (os : List O) : Rp × St :=
  if Oq.may z n os ≠ 0 then (Rq.fail n (Oq.may z n os) (-1) 0, s)
  else if (refusal s 0 z os).1 ≠ 0 then ({ Rq.fail n (refusal s 0 z os).1 (refusal s 0 z os).2 (os.length : Int) with zxid := s.z + 1 }, { s with z := s.z + 1 })
  else ((Tq.ask s.t z n (s.z + 1) os).1, { s with z := s.z + 1, t := (Tq.ask s.t z n (s.z + 1) os).2 })
def isNew (s : St) (id : Int) : Bool := decide (0 < id) && !(s.ps.any fun p => decide (p.id = id)) && !decide (id ∈ s.dn)
def prepare (s : St) (id z : Int) (os : List O) : (Int × Int) × St :=
  if isNew s id = false ∨ z < 1 then ((1, -1), s)
  else if Oq.may z 1 os ≠ 0 then ((Oq.may z 1 os, -1), s)
  else if (refusal s id z os).1 ≠ 0 then (refusal s id z os, s)
  else (((Tq.many s.t z s.z os).1.1.err, (Tq.many s.t z s.z os).1.1.at_), { s with lk := Lk.adds id s.lk (os.flatMap wants), ps := s.ps ++ [⟨id, z, os, false, !(Tq.many s.t z s.z os).1.2⟩] })
def close (s : St) (id z : Int) : (Int × Int) × St :=
  if isNew s id = false ∨ z < 1 then ((1, -1), s)
  else if ended s z ≠ 0 then ((ended s z, -1), s)
  else if asks s.ps z ≠ 0 then ((12, -1), s)
  else if (Tq.ofs s.t z).any (Lk.blocks s.lk id) = true then ((12, -1), s)
  else ((0, -1), { s with lk := Lk.adds id s.lk (Tq.ofs s.t z), ps := s.ps ++ [⟨id, z, [], true, false⟩] })
def look (s : St) (id : Int) : Option Pr := s.ps.find? fun p => decide (p.id = id)
def rest (ps : List Pr) (id : Int) : List Pr := ps.filter fun p => decide (p.id ≠ id)
def gone (s : St) (id : Int) : St := { s with z := s.z + 1, lk := Lk.rest s.lk id, ps := rest s.ps id, dn := s.dn ++ [id] }
def decide_ (s : St) (id : Int) (commit : Bool) : (List X × Int) × St :=
  match look s id with
  | none => (([], 4), s)
  | some p =>
    if commit = false then (([], 0), gone s id)
    else if p.closes = true then (([], 0), { gone s id with t := Tq.drops s.t (Tq.ofs s.t p.sess), cl := s.cl ++ [p.sess] })
    else if p.fails = true then (([], 0), gone s id)
    else (((Tq.many s.t p.sess (s.z + 1) p.ops).1.1.xs, 0), { gone s id with t := (Tq.many s.t p.sess (s.z + 1) p.ops).2 })
def waiting (s : St) : List Int := (s.ps.map (·.id)).mergeSort fun a b => decide (a ≤ b)

/-! What stays true. -/
def I64p (z : Int) : Prop := 1 ≤ z ∧ z ≤ 9223372036854775807
structure FitP (p : Pr) : Prop where
  id : I64p p.id
  sess : I64p p.sess
  ops : p.closes = false → Oq.may p.sess 1 p.ops = 0 ∧ ∀ o ∈ p.ops, OFit o
  none_ : p.closes = true → p.ops = [] ∧ p.fails = false
structure Fit (n : Nat) (s : St) : Prop where
  well : Tq.Well s.t
  z : 0 ≤ s.z ∧ s.z ≤ (n : Int)
  lk : Lk.Fine (n * 532) s.lk
  who : ∀ x ∈ s.lk, ∃ p ∈ s.ps, p.id = x.who
  ps : ∀ p ∈ s.ps, FitP p
  uniq : s.ps.Pairwise fun p q => p.id ≠ q.id
  old : ∀ p ∈ s.ps, p.id ∉ s.dn
  lens : s.ps.length ≤ n ∧ s.dn.length ≤ n ∧ s.cl.length ≤ n
  alone : ∀ p ∈ s.ps, p.closes = true → ∀ q ∈ s.ps, q.sess = p.sess → q = p
  live : ∀ p ∈ s.ps, p.sess ∉ s.cl
  dn : ∀ x ∈ s.dn, I64p x
  cl : ∀ x ∈ s.cl, I64p x
theorem fit_new {r : Int} (h : ¬ (r < 1 ∨ 500 < r)) : Fit 0 (new r) :=
  ⟨Tq.well_new h, ⟨Int.le_refl _, Int.le_refl _⟩, Lk.Fine.nil, fun _ h => (by cases h), fun _ h => (by cases h), List.Pairwise.nil, fun _ h => (by cases h), ⟨Nat.le_refl _, Nat.le_refl _, Nat.le_refl _⟩, fun _ h => (by cases h), fun _ h => (by cases h), fun _ h => (by cases h), fun _ h => (by cases h)⟩
theorem Fit.more {n m : Nat} {s : St} (h : Fit n s) (hm : n ≤ m) : Fit m s :=
  { h with z := ⟨h.z.1, by have := h.z.2; omega⟩, lk := h.lk.mono (Nat.mul_le_mul_right _ hm), lens := ⟨by have := h.lens.1; omega, by have := h.lens.2.1; omega, by have := h.lens.2.2; omega⟩ }
theorem may_ok {z n : Int} {os : List O} (h : Oq.may z n os = 0) : 1 ≤ z ∧ 1 ≤ n ∧ os ≠ [] ∧ os.length ≤ 16 ∧ Oq.firstBad os = 0 := by
  unfold Oq.may at h
  split at h
  · cases h
  · rename_i h1
    split at h
    · cases h
    · rename_i h2
      split at h
      · rename_i h3
        exact absurd h h3
      · rename_i h3
        exact ⟨by omega, by omega, fun e => h1 (Or.inr (Or.inr (by rw [e]; rfl))), by omega, by simpa using h3⟩
theorem first_ok : ∀ {os : List O}, Oq.firstBad os = 0 → ∀ o ∈ os, Oq.good o = 0
  | [], _, _, h => by cases h
  | a :: os, h, o, ho => by
    have e : Oq.firstBad (a :: os) = if Oq.good a = 0 then Oq.firstBad os else Oq.good a := rfl
    rw [e] at h
    split at h
    · rename_i hg
      rcases List.mem_cons.1 ho with rfl | ho
      · exact hg
      · exact first_ok h o ho
    · rename_i hg
      exact absurd h hg
theorem may_good {z n : Int} {os : List O} (h : Oq.may z n os = 0) : ∀ o ∈ os, Oq.good o = 0 := first_ok (may_ok h).2.2.2.2
theorem wants_le (o : O) : (wants o).length ≤ 2 := by unfold wants; split <;> simp
theorem wants_len (os : List O) : (os.flatMap wants).length ≤ 2 * os.length := by
  induction os with
  | nil => simp
  | cons o os ih =>
    rw [List.flatMap_cons, List.length_append, List.length_cons]
    have := wants_le o
    omega
theorem seq_under {o : O} (hg : Oq.good o = 0) (hf : 2 ≤ o.flags) : o.kind = 1 ∧ 2 ≤ (Pl.parts o.path.data.toList).length := by
  obtain ⟨_, _, h3, h4⟩ := Tq.good_zero hg
  have hk : o.kind = 1 := by
    unfold Oq.hasB at h3
    simp only [Bool.or_eq_false_iff, Bool.and_eq_false_iff, decide_eq_false_iff_not] at h3
    rcases h3.2 with h | h
    · exact absurd (show o.flags ≠ 0 by omega) h
    · exact Classical.not_not.1 h
  refine ⟨hk, ?_⟩
  unfold Oq.seqB at h4
  simp only [Bool.and_eq_false_iff, Bool.or_eq_false_iff, decide_eq_false_iff_not] at h4
  rcases h4 with (h | h) | h
  · exact absurd hk h
  · exact absurd hf h
  · have h5 := (Pl.good_parts (Tq.good_path (o := o) hg)).2.1
    unfold Pl.namesB at h5
    simp only [Bool.and_eq_true, decide_eq_true_eq] at h5
    have h6 := h.1
    have h7 := h5.1.1
    omega
theorem wants_good {o : O} (h : Oq.good o = 0) : ∀ p ∈ wants o, Lk.good p = true := by
  intro p hp
  unfold wants at hp
  split at hp
  · rename_i hf
    obtain ⟨_, h2⟩ := seq_under h hf
    rcases List.mem_cons.1 hp with rfl | hp
    · exact Tq.good_path h
    · rw [List.mem_singleton.1 hp]
      exact (Tq.up_sub (p := o.path) (u := Lk.up o.path) (Tq.good_path h) (by unfold Tq.up; rw [if_pos h2]; rfl)).2
  · rw [List.mem_singleton.1 hp]
    exact Tq.good_path h
theorem refusal_ok {s : St} {who z : Int} {os : List O} (h : (refusal s who z os).1 = 0) : ended s z = 0 ∧ (∀ o ∈ os, bars s who o = false) ∧ (0 < made os → full s os = false) ∧ refusal s who z os = (0, -1) := by
  unfold refusal at h ⊢
  split at h
  · rename_i he
    exact absurd h he
  · rename_i he
    rw [if_neg he]
    have he : ended s z = 0 := Classical.not_not.1 he
    cases hb : os.findIdx? (bars s who) with
    | some i => rw [hb] at h; cases h
    | none =>
      rw [hb] at h
      have hb2 := List.findIdx?_eq_none_iff.1 hb
      cases hc : os.findIdx? creates with
      | some i =>
        rw [hc] at h
        simp only [] at h ⊢
        split at h
        · cases h
        · rename_i hf
          rw [if_neg hf]
          exact ⟨he, hb2, fun _ => by simpa using hf, rfl⟩
      | none =>
        refine ⟨he, hb2, fun hm => ?_, rfl⟩
        have h1 := List.findIdx?_eq_none_iff.1 hc
        unfold made at hm
        rw [List.countP_pos_iff] at hm
        obtain ⟨a, ha, hca⟩ := hm
        rw [h1 a ha] at hca
        cases hca
theorem ended_ok {s : St} {z : Int} (h : ended s z = 0) : z ∉ s.cl ∧ ∀ p ∈ s.ps, p.closes = true → p.sess ≠ z := by
  unfold ended at h
  split at h
  · cases h
  · rename_i h1
    split at h
    · cases h
    · rename_i h2
      refine ⟨h1, fun p hp hc e => h2 ?_⟩
      unfold closing
      rw [List.any_eq_true]
      exact ⟨p, hp, by simp [hc, e]⟩
theorem isNew_ok {s : St} {id : Int} (h : isNew s id = true) : 0 < id ∧ (∀ p ∈ s.ps, p.id ≠ id) ∧ id ∉ s.dn := by
  unfold isNew at h
  simp only [Bool.and_eq_true, decide_eq_true_eq, Bool.not_eq_true', List.any_eq_false, decide_eq_false_iff_not] at h
  exact ⟨h.1.1, h.1.2, h.2⟩
theorem any_none {s : St} {who : Int} {os : List O} (h : ∀ o ∈ os, bars s who o = false) : ∀ p ∈ os.flatMap wants, Lk.blocks s.lk who p = false := by
  intro p hp
  obtain ⟨o, ho, hpo⟩ := List.mem_flatMap.1 hp
  have h1 := h o ho
  unfold bars at h1
  rw [List.any_eq_false] at h1
  simpa using h1 p hpo
section
variable {n : Nat} {s : St}
theorem Fit.loc (h : Fit n s) (z k : Int) (os : List O) : Fit (n + 1) (local_ s z k os).2 := by
  have h1 := h.more (Nat.le_succ n)
  unfold local_
  split
  · exact h1
  split
  · exact { h1 with z := ⟨by have := h.z.1; show 0 ≤ s.z + 1; omega, by have := h.z.2; show s.z + 1 ≤ ((n + 1 : Nat) : Int); omega⟩ }
  · exact { h1 with z := ⟨by have := h.z.1; show 0 ≤ s.z + 1; omega, by have := h.z.2; show s.z + 1 ≤ ((n + 1 : Nat) : Int); omega⟩, well := h.well.ask _ _ _ _ }
theorem id_range {z : Int} {b : Bool} (h : ¬ (b = false ∨ z < 1)) : b = true ∧ 1 ≤ z := ⟨by cases b; exact absurd (Or.inl rfl) h; rfl, by omega⟩
theorem Fit.snoc (h : Fit n s) {id z : Int} {ts : List ByteArray} {p : Pr} (hid : isNew s id = true) (hi : id ≤ 9223372036854775807) (hl : ts.length ≤ 532) (hg : ∀ x ∈ ts, Lk.good x = true) (hb : ∀ x ∈ ts, Lk.blocks s.lk id x = false) (hp : FitP p) (hpi : p.id = id) (hpz : p.sess = z) (hcl : z ∉ s.cl) (hal : ∀ q ∈ s.ps, q.sess = z → q.closes = false ∧ p.closes = false) : Fit (n + 1) { s with lk := Lk.adds id s.lk ts, ps := s.ps ++ [p] } := by
  have h1 := h.more (Nat.le_succ n)
  obtain ⟨i1, i2, i3⟩ := isNew_ok hid
  subst hpi hpz
  refine { h1 with lk := ?_, who := ?_, ps := ?_, uniq := ?_, old := ?_, lens := ?_, alone := ?_, live := ?_ }
  · exact (h.lk.adds ⟨by omega, hi⟩ hg hb).mono (by rw [Nat.succ_mul]; omega)
  · intro x hx
    obtain ⟨t, e1, e2⟩ := Lk.adds_ext p.id ts s.lk
    have hx2 : x ∈ Lk.adds p.id s.lk ts := hx
    rw [e1] at hx2
    rcases List.mem_append.1 hx2 with hx | hx
    · obtain ⟨q, hq, e⟩ := h.who x hx
      exact ⟨q, List.mem_append.2 (Or.inl hq), e⟩
    · exact ⟨p, List.mem_append.2 (Or.inr (by simp)), (e2 x hx).1.symm⟩
  · intro q hq
    rcases List.mem_append.1 hq with hq | hq
    · exact h.ps q hq
    · rw [List.mem_singleton.1 hq]; exact hp
  · show (s.ps ++ [p]).Pairwise _
    rw [List.pairwise_append]
    exact ⟨h.uniq, List.pairwise_singleton _ _, fun a ha b hb2 => by rw [List.mem_singleton.1 hb2]; exact i2 a ha⟩
  · intro q hq
    rcases List.mem_append.1 hq with hq | hq
    · exact h.old q hq
    · rw [List.mem_singleton.1 hq]; exact i3
  · refine ⟨?_, h1.lens.2⟩
    show (s.ps ++ [p]).length ≤ n + 1
    rw [List.length_append]
    have := h.lens.1
    simp only [List.length_cons, List.length_nil]
    omega
  · intro a ha hc b hb2 e
    rcases List.mem_append.1 ha with ha | ha <;> rcases List.mem_append.1 hb2 with hb2 | hb2
    · exact h.alone a ha hc b hb2 e
    · rw [List.mem_singleton.1 hb2] at e
      rw [(hal a ha e.symm).1] at hc
      cases hc
    · rw [List.mem_singleton.1 ha] at e hc
      rw [(hal b hb2 e).2] at hc
      cases hc
    · rw [List.mem_singleton.1 ha, List.mem_singleton.1 hb2]
  · intro q hq
    rcases List.mem_append.1 hq with hq | hq
    · exact h.live q hq
    · rw [List.mem_singleton.1 hq]; exact hcl
theorem Fit.prep (h : Fit n s) {id z : Int} {os : List O} (hi : id ≤ 9223372036854775807) (hz : z ≤ 9223372036854775807) (ho : ∀ o ∈ os, OFit o) : Fit (n + 1) (prepare s id z os).2 := by
  have h1 := h.more (Nat.le_succ n)
  unfold prepare
  split
  · exact h1
  rename_i hn
  split
  · exact h1
  rename_i hm
  split
  · exact h1
  rename_i hr
  obtain ⟨n1, n2⟩ := id_range hn
  have hm : Oq.may z 1 os = 0 := Classical.not_not.1 hm
  obtain ⟨r1, r2, _, _⟩ := refusal_ok (Classical.not_not.1 hr)
  obtain ⟨e1, e2⟩ := ended_ok r1
  have hl := wants_len os
  have hl2 := (may_ok hm).2.2.2.1
  refine h.snoc (z := z) n1 hi (by omega) (fun x hx => ?_) (any_none r2) ⟨⟨(isNew_ok n1).1, hi⟩, ⟨n2, hz⟩, fun _ => ⟨hm, ho⟩, fun e => (by cases e)⟩ rfl rfl e1 (fun q hq e => ⟨?_, rfl⟩)
  · obtain ⟨o, ho2, hx⟩ := List.mem_flatMap.1 hx
    exact wants_good (may_good hm o ho2) x hx
  · cases hc : q.closes with
    | false => rfl
    | true => exact absurd e (e2 q hq hc)
theorem Fit.clo (h : Fit n s) {id z : Int} (hi : id ≤ 9223372036854775807) (hz : z ≤ 9223372036854775807) : Fit (n + 1) (close s id z).2 := by
  have h1 := h.more (Nat.le_succ n)
  unfold close
  split
  · exact h1
  rename_i hn
  split
  · exact h1
  rename_i he
  split
  · exact h1
  rename_i ha
  split
  · exact h1
  rename_i hb
  obtain ⟨n1, n2⟩ := id_range hn
  obtain ⟨e1, e2⟩ := ended_ok (Classical.not_not.1 he)
  have ha : asks s.ps z = 0 := Classical.not_not.1 ha
  have hl := Tq.ofs_len h.well.fine z
  refine h.snoc (z := z) n1 hi (by omega) (fun x hx => Tq.ofs_good h.well.fine hx) (fun x hx => ?_) ⟨⟨(isNew_ok n1).1, hi⟩, ⟨n2, hz⟩, fun e => (by cases e), fun _ => ⟨rfl, rfl⟩⟩ rfl rfl e1 (fun q hq e => ?_)
  · have hb2 : (Tq.ofs s.t z).any (Lk.blocks s.lk id) = false := by simpa using hb
    rw [List.any_eq_false] at hb2
    simpa using hb2 x hx
  · exfalso
    cases hc : q.closes with
    | true => exact e2 q hq hc e
    | false =>
      unfold asks at ha
      rw [List.countP_eq_zero] at ha
      exact ha q hq (by simp [hc, e])
theorem look_some {id : Int} {p : Pr} (h : look s id = some p) : p ∈ s.ps ∧ p.id = id := by
  unfold look at h
  have h2 := List.find?_some h
  exact ⟨List.mem_of_find?_eq_some h, by simpa using h2⟩
theorem mem_rest {ps : List Pr} {id : Int} {p : Pr} : p ∈ rest ps id ↔ p ∈ ps ∧ p.id ≠ id := by unfold rest; rw [List.mem_filter]; simp
theorem Fit.gone (h : Fit n s) {id : Int} {p : Pr} (hp : look s id = some p) : Fit (n + 1) (gone s id) := by
  have h1 := h.more (Nat.le_succ n)
  obtain ⟨p1, p2⟩ := look_some hp
  refine { h1 with z := ?_, lk := h1.lk.rest id, who := ?_, ps := ?_, uniq := h.uniq.filter _, old := ?_, lens := ?_, alone := ?_, live := ?_, dn := ?_ }
  · have := h.z
    exact ⟨by show 0 ≤ s.z + 1; omega, by show s.z + 1 ≤ ((n + 1 : Nat) : Int); omega⟩
  · intro x hx
    obtain ⟨x1, x2⟩ := List.mem_filter.1 hx
    obtain ⟨q, hq, e⟩ := h.who x x1
    exact ⟨q, mem_rest.2 ⟨hq, by rw [e]; exact of_decide_eq_true x2⟩, e⟩
  · intro q hq
    exact h.ps q (mem_rest.1 hq).1
  · intro q hq hd
    obtain ⟨q1, q2⟩ := mem_rest.1 hq
    rcases List.mem_append.1 hd with hd | hd
    · exact h.old q q1 hd
    · exact q2 (List.mem_singleton.1 hd)
  · refine ⟨Nat.le_trans (List.length_filter_le _ _) h1.lens.1, ?_, h1.lens.2.2⟩
    show (s.dn ++ [id]).length ≤ n + 1
    rw [List.length_append]
    have := h.lens.2.1
    simp only [List.length_cons, List.length_nil]
    omega
  · intro a ha hc b hb e
    exact h.alone a (mem_rest.1 ha).1 hc b (mem_rest.1 hb).1 e
  · intro q hq
    exact h.live q (mem_rest.1 hq).1
  · intro x hx
    rcases List.mem_append.1 hx with hx | hx
    · exact h.dn x hx
    · rw [List.mem_singleton.1 hx, ← p2]
      exact (h.ps p p1).id
theorem Fit.dec (h : Fit n s) (id : Int) (c : Bool) : Fit (n + 1) (decide_ s id c).2 := by
  unfold decide_
  cases hp : look s id with
  | none => exact h.more (Nat.le_succ n)
  | some p =>
    have hg := h.gone hp
    obtain ⟨p1, p2⟩ := look_some hp
    simp only []
    split
    · exact hg
    split
    · rename_i hc
      refine { hg with well := h.well.purge _ (List.Perm.refl _), lens := ?_, live := ?_, cl := ?_ }
      · refine ⟨hg.lens.1, hg.lens.2.1, ?_⟩
        show (s.cl ++ [p.sess]).length ≤ n + 1
        rw [List.length_append]
        have := h.lens.2.2
        simp only [List.length_cons, List.length_nil]
        omega
      · intro q hq hin
        rcases List.mem_append.1 hin with hin | hin
        · exact hg.live q hq hin
        · obtain ⟨q1, q2⟩ := mem_rest.1 hq
          have := h.alone p p1 hc q q1 (List.mem_singleton.1 hin)
          exact q2 (by rw [this, p2])
      · intro x hx
        rcases List.mem_append.1 hx with hx | hx
        · exact h.cl x hx
        · rw [List.mem_singleton.1 hx]
          exact (h.ps p p1).sess
    split
    · exact hg
    · exact { hg with well := h.well.many _ _ _ }
end
end Go.Proofs.YtboejbjobjhajaaGreatDoor.Pt
namespace Go.Proofs.YtboejbjobjhajaaGreatDoor.Tq
open Kq

/-! What is left at each path. -/
theorem find_orphan18 (l : List En) (p q : ByteArray) : find (orphan l p) q = if up p = some q then (find l q).map (fun m => remove m (nm p)) else find l q := by
  unfold orphan
  cases hu : up p with
  | none => simp
  | some u =>
    simp only [Option.some.injEq]
    cases h : find l u with
    | none =>
      by_cases e : u = q
      · subst e; simp [h]
      · simp [e]
    | some m =>
      simp only []
      rw [find_set]
      by_cases e : q = u
      · subst e; simp [h]
      · rw [if_neg e, if_neg (fun e2 => e e2.symm)]
theorem find_gone18 {l : List En} {x q : ByteArray} (hr : Rises (keys l)) : find (orphan (del l x) x) q = if up x = some q then (if q = x then none else find l q).map (fun m => remove m (nm x)) else if q = x then none else find l q := by
  rw [find_orphan18, find_del hr]

/-! What a Create makes. -/
/-! What is done, if it is done. -/
/-! Of a node what Ops ask. -/
section
variable {K : ByteArray → Prop} {t t' : Tr} {o : O} {s z z' : Int}
/-! Both do the same. -/
/-! Others do theirs. -/
end
/-! Owners, counts. -/
/-! What was foreseen. -/
end Go.Proofs.YtboejbjobjhajaaGreatDoor.Tq
namespace Go.Proofs.YtboejbjobjhajaaGreatDoor.Pt
open Go
theorem sumW_app (a b : List Pr) : sumW (a ++ b) = sumW a + sumW b := by unfold sumW; rw [List.map_append, List.sum_append]
theorem rest_none : ∀ {ps : List Pr} {id : Int}, (∀ q ∈ ps, q.id ≠ id) → rest ps id = ps
  | ps, id, h => by
    unfold rest
    rw [List.filter_eq_self]
    intro q hq
    simp [h q hq]
theorem sumW_rest : ∀ {ps : List Pr} {p : Pr}, ps.Pairwise (fun p q => p.id ≠ q.id) → p ∈ ps → sumW ps = made (own p) + sumW (rest ps p.id)
  | a :: ps, p, hu, h => by
    rw [List.pairwise_cons] at hu
    have e : sumW (a :: ps) = made (own a) + sumW ps := by unfold sumW; simp
    rw [e]
    rcases List.mem_cons.1 h with rfl | h
    · have e2 : rest (p :: ps) p.id = rest ps p.id := by unfold rest; simp
      rw [e2, rest_none (fun q hq => (hu.1 q hq).symm)]
    · have hne := hu.1 p h
      have e2 : rest (a :: ps) p.id = a :: rest ps p.id := by unfold rest; simp [hne]
      have e3 : sumW (a :: rest ps p.id) = made (own a) + sumW (rest ps p.id) := by unfold sumW; simp
      rw [e2, e3, sumW_rest hu.2 h]
      omega
section
variable {n : Nat} {id sess : Int} {os : List O} {t0 : Tq.Tr} {s : St}
end
/-! When nothing waits nothing is held. -/
end Go.Proofs.YtboejbjobjhajaaGreatDoor.Pt
namespace Go.Proofs.YtboejbjobjhajaaGreatDoor
open Go.RowKit
abbrev Rep18 := World → Nat → Pt.St → (Nat → Prop) → Prop
structure Specs18 (LT : Rep11) (LP : Rep18) : Prop where
  lt : ∀ {w q s F k}, LP w q s F → F k → k < w.heap.size
  keep : ∀ {w w' : World} {q s F}, LP w q s F → (∀ k, F k → w'.heap[k]? = w.heap[k]?) → LP w' q s F
  new : ∀ (n : Int) (w : World), Calls Tryz.prog 10 #[.int .i64 n] w fun e w' => Below w.heap.size w w' ∧
    if n < 1 ∨ 500 < n then e = .returned (.tuple #[.pointer none, .int .i64 1]) else ∃ q F, e = .returned (.tuple #[dptr q, .int .i64 0]) ∧ LP w' q (Pt.new n) F ∧ ∀ k, F k → w.heap.size ≤ k
  loc : ∀ (q : Nat) (s : Pt.St) (F : Nat → Prop) (m : Nat) (z n : Int) (v : Value) (os : List O) (w : World), LP w q s F → Pt.Fit m s → m ≤ 1000 → (∀ k, F k → 6 ≤ k) → Pa.Std w → Om12 w F v os → (∀ o ∈ os, OFit o) → os.length ≤ maxLen → I64 z →
    Calls Tryz.prog 16 #[dptr q, .agg #[.int .i64 z, .int .i64 n, v]] w fun e w' => ∃ F' u, e = .returned (rpv (Pt.local_ s z n os).1 u) ∧ Rn12 w.heap.size F' w' u (Pt.local_ s z n os).1.xs ∧ LP w' q (Pt.local_ s z n os).2 F' ∧ Moved w w' F F'
  prep : ∀ (q : Nat) (s : Pt.St) (F : Nat → Prop) (m : Nat) (id z : Int) (v : Value) (os : List O) (w : World), LP w q s F → Pt.Fit m s → m ≤ 1000 → (∀ k, F k → 6 ≤ k) → Pa.Std w → Om12 w F v os → (∀ o ∈ os, OFit o) → os.length ≤ maxLen → I64 id → I64 z →
    Calls Tryz.prog 11 #[dptr q, .int .i64 id, .int .i64 z, v] w fun e w' => ∃ F', e = .returned (.tuple #[.int .i64 (Pt.prepare s id z os).1.1, .int .i64 (Pt.prepare s id z os).1.2]) ∧ LP w' q (Pt.prepare s id z os).2 F' ∧ Moved w w' F F'
  clo : ∀ (q : Nat) (s : Pt.St) (F : Nat → Prop) (m : Nat) (id z : Int) (w : World), LP w q s F → Pt.Fit m s → m ≤ 1000 → (∀ k, F k → 6 ≤ k) → Pa.Std w → I64 id → I64 z →
    Calls Tryz.prog 17 #[dptr q, .int .i64 id, .int .i64 z] w fun e w' => ∃ F', e = .returned (.tuple #[.int .i64 (Pt.close s id z).1.1, .int .i64 (Pt.close s id z).1.2]) ∧ LP w' q (Pt.close s id z).2 F' ∧ Moved w w' F F'
  dec : ∀ (q : Nat) (s : Pt.St) (F : Nat → Prop) (m : Nat) (id : Int) (c : Bool) (w : World), LP w q s F → Pt.Fit m s → m ≤ 1000 → (∀ k, F k → 6 ≤ k) → Pa.Std w → I64 id →
    Calls Tryz.prog 15 #[dptr q, .int .i64 id, .bool c] w fun e w' => ∃ F' u, e = .returned (.tuple #[u, .int .i64 (Pt.decide_ s id c).1.2]) ∧ Rn12 w.heap.size F' w' u (Pt.decide_ s id c).1.1 ∧ LP w' q (Pt.decide_ s id c).2 F' ∧ Moved w w' F F'
  waiting : ∀ (q : Nat) (s : Pt.St) (F : Nat → Prop) (m : Nat) (w : World), LP w q s F → Pt.Fit m s → m ≤ 1000 →
    Calls Tryz.prog 31 #[dptr q] w fun e w' => ∃ v, e = .returned v ∧ w'.ownsRow w.heap.size 2 1 v (Pt.waiting s).length ((Pt.waiting s).map (Value.int .i64)) ∧ Below w.heap.size w w'
  closed : ∀ (q : Nat) (s : Pt.St) (F : Nat → Prop) (m : Nat) (z : Int) (w : World), LP w q s F → Pt.Fit m s → I64 z →
    Calls Tryz.prog 18 #[dptr q, .int .i64 z] w fun e w' => e = .returned (.bool (decide (z ∈ s.cl))) ∧ Below w.heap.size w w'
  zxid : ∀ (q : Nat) (s : Pt.St) (F : Nat → Prop) (w : World), LP w q s F →
    Calls Tryz.prog 35 #[dptr q] w fun e w' => e = .returned (.int .i64 s.z) ∧ Below w.heap.size w w'
  tree : ∀ (q : Nat) (s : Pt.St) (F : Nat → Prop) (m : Nat) (w : World), LP w q s F → Pt.Fit m s →
    Calls Tryz.prog 19 #[dptr q] w fun e w' => ∃ q2 F2, e = .returned (dptr q2) ∧ LT w' q2 s.t F2 ∧ (∀ k, F2 k → w.heap.size ≤ k) ∧ Below w.heap.size w w'
  locks : ∀ (q : Nat) (s : Pt.St) (F : Nat → Prop) (m : Nat) (w : World), LP w q s F → Pt.Fit m s → m ≤ 1000 →
    Calls Tryz.prog 14 #[dptr q] w fun e w' => e = .returned (.int .i64 (s.lk.length : Int)) ∧ Below w.heap.size w w'
  wanted : ∀ (q : Nat) (s : Pt.St) (F : Nat → Prop) (w : World), LP w q s F →
    Calls Tryz.prog 13 #[dptr q] w fun e w' => e = .returned (.int .i64 (Pt.wanted s : Int)) ∧ Below w.heap.size w w'
end Go.Proofs.YtboejbjobjhajaaGreatDoor
