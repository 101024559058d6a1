import Derived.Test.YtboejbjobjhajaaGreatDoorPm2
import Derived.Test.YtboejbjobjhajaaGreatDoorWtk
import Derived.Test.YtboejbjobjhajaaGreatDoorHbx
import Derived.Test.YtboejbjobjhajaaGreatDoorLk7
import Derived.Test.YtboejbjobjhajaaGreatDoorRes12
namespace Go.Proofs.YtboejbjobjhajaaGreatDoor.Tq
open Kq
theorem keys_orphan12 (l : List En) (p : ByteArray) : keys (orphan l p) = keys l := by
  unfold orphan
  split
  · rfl
  · split
    · rfl
    · exact keys_set _ _ _
theorem len_orphan (l : List En) (p : ByteArray) : (orphan l p).length = l.length := by
  have h := congrArg List.length (keys_orphan12 l p)
  unfold keys at h
  simpa using h
theorem owner_orphan {l : List En} {p x : ByteArray} {n : Kn} (h : find (orphan l p) x = some n) : ∃ m, find l x = some m ∧ n.owner = m.owner := by
  unfold orphan at h
  split at h
  · exact ⟨n, h, rfl⟩
  · rename_i u _
    split at h
    · exact ⟨n, h, rfl⟩
    · rename_i m hm
      rw [find_set] at h
      by_cases hx : x = u
      · rw [if_pos hx, hx, hm] at h
        simp only [Option.map_some, Option.some.injEq] at h
        exact ⟨m, by rw [hx]; exact hm, by rw [← h]; exact remove_owner _ _⟩
      · rw [if_neg hx] at h
        exact ⟨n, h, rfl⟩
theorem find_keys12 {l : List En} {p : ByteArray} {n : Kn} (h : find l p = some n) : p ∈ keys l := List.mem_map.2 ⟨_, find_some h, rfl⟩
theorem drop_is {t : Tr} {p : ByteArray} {n : Kn} (h : find t.l p = some n) : dropT t p = { t with l := orphan (del t.l p) p } := by unfold dropT; rw [h]
end Go.Proofs.YtboejbjobjhajaaGreatDoor.Tq
namespace Go.Proofs.YtboejbjobjhajaaGreatDoor.Tq
open Kq
theorem nodup_le18 {α : Type} : ∀ (l m : List α), l.Nodup → (∀ x ∈ l, x ∈ m) → l.length ≤ m.length
  | [], _, _, _ => Nat.zero_le _
  | a :: l, m, hn, hm => by
    classical
    obtain ⟨h1, h2⟩ := List.nodup_cons.1 hn
    have ha := hm a (by simp)
    have ih := nodup_le18 l (m.erase a) h2 (fun x hx => (List.mem_erase_of_ne (fun e : x = a => h1 (by rw [← e]; exact hx))).2 (hm x (by simp [hx])))
    have hl := List.length_erase_of_mem ha
    have hp := List.length_pos_of_mem ha
    rw [List.length_cons]
    omega
theorem sub_inj18 {p a b : ByteArray} (h : sub p a = sub p b) : a = b := by
  have h1 := List.append_cancel_left (tb_inj h)
  rw [List.cons.injEq] at h1
  rw [← tb_back a, ← tb_back b, h1.2]
theorem few_snd18 {t : Tr} (hf : Fine11 t) (hs : Snd t) : Few t 500 := fun e he => by
  have hfd : find t.l e.1 = some e.2 := find_of hf.rise he
  have h1 : (e.2.names.map (sub e.1)).Nodup := by
    unfold List.Nodup
    rw [List.pairwise_map]
    exact (hf.nodes e he).2.rises.imp fun {a b} hab h => lt_ne hab (sub_inj18 h)
  have h2 := nodup_le18 (e.2.names.map (sub e.1)) (keys t.l) h1 (fun x hx => by
    obtain ⟨s, hs1, rfl⟩ := List.mem_map.1 hx
    obtain ⟨m, hm⟩ := hs.kid _ _ _ hfd hs1
    exact find_keys12 hm)
  rw [List.length_map] at h2
  have h3 := hf.len
  have h4 := hf.room
  unfold keys at h2
  rw [List.length_map] at h2
  omega
structure Well (t : Tr) : Prop where
  fine : Fine11 t
  snd : Snd t
theorem Well.few {t : Tr} (h : Well t) : Few t 500 := few_snd18 h.fine h.snd
theorem well_new {r : Int} (h : ¬ (r < 1 ∨ 500 < r)) : Well ⟨r, []⟩ := ⟨fine11_new h, snd_new r⟩
theorem Well.doo {t : Tr} (h : Well t) (o : O) (s z : Int) : Well (Tq.doo t o s z).2 := ⟨fine_doo h.fine (h.few.more (by omega)), snd_doo h.fine h.snd⟩
theorem Well.after {s z : Int} : ∀ {l : List O} {t : Tr}, Well t → Well (after t s z l)
  | [], _, h => h
  | o :: l, _, h => Well.after (l := l) (h.doo o s z)
theorem Well.many {t : Tr} (h : Well t) (s z : Int) (os : List O) : Well (many t s z os).2 := by
  unfold Tq.many
  split
  · exact h
  split
  · exact h
  simp only []
  split
  · unfold turn
    split
    · exact h.after
    · exact h.after
  · exact h
theorem Well.ask {t : Tr} (h : Well t) (s n z : Int) (os : List O) : Well (ask t s n z os).2 := by
  unfold Tq.ask
  split
  · exact h
  · exact h.many s z os
theorem Well.drop {t : Tr} (h : Well t) {p : ByteArray} (hp : ∀ n, find t.l p = some n → n.owner ≠ 0) : Well (dropT t p) := by
  refine ⟨fine_drop h.fine p, ?_⟩
  cases hn : find t.l p with
  | none => unfold dropT; rw [hn]; exact h.snd
  | some n => rw [drop_is hn]; exact snd_gone h.fine h.snd hn (h.snd.eph p n hn (hp n hn))
theorem find_drop18 {t : Tr} {p x : ByteArray} (h : Fine11 t) {n : Kn} (hn : find (dropT t p).l x = some n) : ∃ m, find t.l x = some m ∧ n.owner = m.owner := by
  cases hp : find t.l p with
  | none => unfold dropT at hn; rw [hp] at hn; exact ⟨n, hn, rfl⟩
  | some m =>
    rw [drop_is hp] at hn
    obtain ⟨m2, r1, r2⟩ := owner_orphan hn
    rw [find_del h.rise] at r1
    split at r1
    · cases r1
    · exact ⟨m2, r1, r2⟩
theorem Well.drops : ∀ {ts : List ByteArray} {t : Tr}, Well t → (∀ p ∈ ts, ∀ n, find t.l p = some n → n.owner ≠ 0) → Well (drops t ts)
  | [], _, h, _ => h
  | p :: ts, t, h, hp => Well.drops (ts := ts) (h.drop (hp p (by simp))) (fun x hx n hn => by
    obtain ⟨m, h1, h2⟩ := find_drop18 h.fine hn
    rw [h2]
    exact hp x (by simp [hx]) m h1)
theorem ofs_owner18 {t : Tr} (h : Fine11 t) {s : Int} {p : ByteArray} (hp : p ∈ ofs t s) : 0 < s ∧ ∃ n, find t.l p = some n ∧ n.owner = s := by
  unfold ofs at hp
  split at hp
  · rename_i hs
    obtain ⟨e, he, rfl⟩ := List.mem_map.1 hp
    obtain ⟨h1, h2⟩ := List.mem_filter.1 he
    exact ⟨hs, e.2, find_of h.rise h1, of_decide_eq_true h2⟩
  · cases hp
theorem Well.purge {t : Tr} (h : Well t) (s : Int) {ts : List ByteArray} (hp : List.Perm ts (ofs t s)) : Well (Tq.drops t ts) := h.drops fun p hpt n hn => by
  obtain ⟨hs, m, h1, h2⟩ := ofs_owner18 h.fine (hp.mem_iff.1 hpt)
  rw [hn] at h1
  rw [Option.some.inj h1, h2]
  omega
theorem room_after18 {s z : Int} : ∀ {l : List O} {t : Tr}, (after t s z l).room = t.room
  | [], _ => rfl
  | o :: l, t => (room_after18 (l := l) (t := (doo t o s z).2)).trans (room_doo t o s z)
theorem room_many18 (t : Tr) (s z : Int) (os : List O) : (many t s z os).2.room = t.room := by
  unfold many
  split
  · rfl
  split
  · rfl
  simp only []
  split
  · unfold turn
    split
    · exact room_after18
    · exact room_after18
  · rfl
theorem room_drops18 : ∀ {ts : List ByteArray} {t : Tr}, (drops t ts).room = t.room
  | [], _ => rfl
  | p :: ts, t => (room_drops18 (ts := ts) (t := dropT t p)).trans (by unfold dropT; split <;> rfl)
end Go.Proofs.YtboejbjobjhajaaGreatDoor.Tq
namespace Go.Proofs.YtboejbjobjhajaaGreatDoor.Pt
open Go
structure Pr where
  id : Int
  sess : Int
  ops : List O
  closes : Bool
  fails : Bool
structure St where
  t : Tq.Tr
  z : Int
  lk : Lk.St
  ps : List Pr
  dn : List Int
  cl : List Int
def new (room : Int) : St := ⟨⟨room, []⟩, 0, [], [], [], []⟩
def wants (o : O) : List ByteArray := if 2 ≤ o.flags then [o.path, Lk.up o.path] else [o.path]
def creates (o : O) : Bool := decide (o.kind = 1)
def made (os : List O) : Nat := os.countP creates
def own (p : Pr) : List O := if p.fails then [] else p.ops
def sumW (ps : List Pr) : Nat := (ps.map fun p => made (own p)).sum
def wanted (s : St) : Nat := sumW s.ps
def closing (s : St) (z : Int) : Bool := s.ps.any fun p => p.closes && decide (p.sess = z)
def asks (ps : List Pr) (z : Int) : Nat := ps.countP fun p => !p.closes && decide (p.sess = z)
def ended (s : St) (z : Int) : Int := if z ∈ s.cl then 11 else if closing s z = true then 12 else 0
def bars (s : St) (who : Int) (o : O) : Bool := (wants o).any (Lk.blocks s.lk who)
def full (s : St) (os : List O) : Bool := decide (0 < wanted s) && decide (s.t.room < ((wanted s + s.t.l.length + made os : Nat) : Int))
def refusal (s : St) (who z : Int) (os : List O) : Int × Int :=
  if ended s z ≠ 0 then (ended s z, -1)
  else match os.findIdx? (bars s who) with
    | some i => (12, (i : Int))
    | none => match os.findIdx? creates with
      | some i => if full s os = true then (12, (i : Int)) else (0, -1)
      | none => (0, -1)
def local_ (s : St) (z n : Int) (os : List O) : Rp × St :=
  if Oq.may z n os ≠ 0 then (Rq.fail n (Oq.may z n os) (-1) 0, s)
  else if (refusal s 0 z os).1 ≠ 0 then ({ Rq.fail n (refusal s 0 z os).1 (refusal s 0 z os).2 (os.length : Int) with zxid := s.z + 1 }, { s with z := s.z + 1 })
  else ((Tq.ask s.t z n (s.z + 1) os).1, { s with z := s.z + 1, t := (Tq.ask s.t z n (s.z + 1) os).2 })
def isNew (s : St) (id : Int) : Bool := decide (0 < id) && !(s.ps.any fun p => decide (p.id = id)) && !decide (id ∈ s.dn)
def prepare (s : St) (id z : Int) (os : List O) : (Int × Int) × St :=
  if isNew s id = false ∨ z < 1 then ((1, -1), s)
  else if Oq.may z 1 os ≠ 0 then ((Oq.may z 1 os, -1), s)
  else if (refusal s id z os).1 ≠ 0 then (refusal s id z os, s)
  else (((Tq.many s.t z s.z os).1.1.err, (Tq.many s.t z s.z os).1.1.at_), { s with lk := Lk.adds id s.lk (os.flatMap wants), ps := s.ps ++ [⟨id, z, os, false, !(Tq.many s.t z s.z os).1.2⟩] })
def close (s : St) (id z : Int) : (Int × Int) × St :=
  if isNew s id = false ∨ z < 1 then ((1, -1), s)
  else if ended s z ≠ 0 then ((ended s z, -1), s)
  else if asks s.ps z ≠ 0 then ((12, -1), s)
  else if (Tq.ofs s.t z).any (Lk.blocks s.lk id) = true then ((12, -1), s)
  else ((0, -1), { s with lk := Lk.adds id s.lk (Tq.ofs s.t z), ps := s.ps ++ [⟨id, z, [], true, false⟩] })
def look (s : St) (id : Int) : Option Pr := s.ps.find? fun p => decide (p.id = id)
def rest (ps : List Pr) (id : Int) : List Pr := ps.filter fun p => decide (p.id ≠ id)
def gone (s : St) (id : Int) : St := { s with z := s.z + 1, lk := Lk.rest s.lk id, ps := rest s.ps id, dn := s.dn ++ [id] }
def decide_ (s : St) (id : Int) (commit : Bool) : (List X × Int) × St :=
  match look s id with
  | none => (([], 4), s)
  | some p =>
    if commit = false then (([], 0), gone s id)
    else if p.closes = true then (([], 0), { gone s id with t := Tq.drops s.t (Tq.ofs s.t p.sess), cl := s.cl ++ [p.sess] })
    else if p.fails = true then (([], 0), gone s id)
    else (((Tq.many s.t p.sess (s.z + 1) p.ops).1.1.xs, 0), { gone s id with t := (Tq.many s.t p.sess (s.z + 1) p.ops).2 })
def waiting (s : St) : List Int := (s.ps.map (·.id)).mergeSort fun a b => decide (a ≤ b)
/-! What stays true. -/
def I64p (z : Int) : Prop := 1 ≤ z ∧ z ≤ 9223372036854775807
structure FitP (p : Pr) : Prop where
  id : I64p p.id
  sess : I64p p.sess
  ops : p.closes = false → Oq.may p.sess 1 p.ops = 0 ∧ ∀ o ∈ p.ops, OFit o
  none_ : p.closes = true → p.ops = [] ∧ p.fails = false
structure Fit (n : Nat) (s : St) : Prop where
  well : Tq.Well s.t
  z : 0 ≤ s.z ∧ s.z ≤ (n : Int)
  lk : Lk.Fine (n * 532) s.lk
  who : ∀ x ∈ s.lk, ∃ p ∈ s.ps, p.id = x.who
  ps : ∀ p ∈ s.ps, FitP p
  uniq : s.ps.Pairwise fun p q => p.id ≠ q.id
  old : ∀ p ∈ s.ps, p.id ∉ s.dn
  lens : s.ps.length ≤ n ∧ s.dn.length ≤ n ∧ s.cl.length ≤ n
  alone : ∀ p ∈ s.ps, p.closes = true → ∀ q ∈ s.ps, q.sess = p.sess → q = p
  live : ∀ p ∈ s.ps, p.sess ∉ s.cl
  dn : ∀ x ∈ s.dn, I64p x
  cl : ∀ x ∈ s.cl, I64p x
theorem fit_new {r : Int} (h : ¬ (r < 1 ∨ 500 < r)) : Fit 0 (new r) :=
  ⟨Tq.well_new h, ⟨Int.le_refl _, Int.le_refl _⟩, Lk.Fine.nil, fun _ h => (by cases h), fun _ h => (by cases h), List.Pairwise.nil, fun _ h => (by cases h), ⟨Nat.le_refl _, Nat.le_refl _, Nat.le_refl _⟩, fun _ h => (by cases h), fun _ h => (by cases h), fun _ h => (by cases h), fun _ h => (by cases h)⟩
theorem Fit.more {n m : Nat} {s : St} (h : Fit n s) (hm : n ≤ m) : Fit m s :=
  { h with z := ⟨h.z.1, by have := h.z.2; omega⟩, lk := h.lk.mono (Nat.mul_le_mul_right _ hm), lens := ⟨by have := h.lens.1; omega, by have := h.lens.2.1; omega, by have := h.lens.2.2; omega⟩ }
theorem may_ok {z n : Int} {os : List O} (h : Oq.may z n os = 0) : 1 ≤ z ∧ 1 ≤ n ∧ os ≠ [] ∧ os.length ≤ 16 ∧ Oq.firstBad os = 0 := by
  unfold Oq.may at h
  split at h
  · cases h
  · rename_i h1
    split at h
    · cases h
    · rename_i h2
      split at h
      · rename_i h3
        exact absurd h h3
      · rename_i h3
        exact ⟨by omega, by omega, fun e => h1 (Or.inr (Or.inr (by rw [e]; rfl))), by omega, by simpa using h3⟩
theorem first_ok : ∀ {os : List O}, Oq.firstBad os = 0 → ∀ o ∈ os, Oq.good o = 0
  | [], _, _, h => by cases h
  | a :: os, h, o, ho => by
    have e : Oq.firstBad (a :: os) = if Oq.good a = 0 then Oq.firstBad os else Oq.good a := rfl
    rw [e] at h
    split at h
    · rename_i hg
      rcases List.mem_cons.1 ho with rfl | ho
      · exact hg
      · exact first_ok h o ho
    · rename_i hg
      exact absurd h hg
theorem may_good {z n : Int} {os : List O} (h : Oq.may z n os = 0) : ∀ o ∈ os, Oq.good o = 0 := first_ok (may_ok h).2.2.2.2
theorem wants_le (o : O) : (wants o).length ≤ 2 := by unfold wants; split <;> simp
theorem wants_len (os : List O) : (os.flatMap wants).length ≤ 2 * os.length := by
  induction os with
  | nil => simp
  | cons o os ih =>
    rw [List.flatMap_cons, List.length_append, List.length_cons]
    have := wants_le o
    omega
theorem seq_under {o : O} (hg : Oq.good o = 0) (hf : 2 ≤ o.flags) : o.kind = 1 ∧ 2 ≤ (Pl.parts o.path.data.toList).length := by
  obtain ⟨_, _, h3, h4⟩ := Tq.good_zero hg
  have hk : o.kind = 1 := by
    unfold Oq.hasB at h3
    simp only [Bool.or_eq_false_iff, Bool.and_eq_false_iff, decide_eq_false_iff_not] at h3
    rcases h3.2 with h | h
    · exact absurd (show o.flags ≠ 0 by omega) h
    · exact Classical.not_not.1 h
  refine ⟨hk, ?_⟩
  unfold Oq.seqB at h4
  simp only [Bool.and_eq_false_iff, Bool.or_eq_false_iff, decide_eq_false_iff_not] at h4
  rcases h4 with (h | h) | h
  · exact absurd hk h
  · exact absurd hf h
  · have h5 := (Pl.good_parts (Tq.good_path (o := o) hg)).2.1
    unfold Pl.namesB at h5
    simp only [Bool.and_eq_true, decide_eq_true_eq] at h5
    have h6 := h.1
    have h7 := h5.1.1
    omega
theorem wants_good {o : O} (h : Oq.good o = 0) : ∀ p ∈ wants o, Lk.good p = true := by
  intro p hp
  unfold wants at hp
  split at hp
  · rename_i hf
    obtain ⟨_, h2⟩ := seq_under h hf
    rcases List.mem_cons.1 hp with rfl | hp
    · exact Tq.good_path h
    · rw [List.mem_singleton.1 hp]
      exact (Tq.up_sub (p := o.path) (u := Lk.up o.path) (Tq.good_path h) (by unfold Tq.up; rw [if_pos h2]; rfl)).2
  · rw [List.mem_singleton.1 hp]
    exact Tq.good_path h
theorem refusal_ok {s : St} {who z : Int} {os : List O} (h : (refusal s who z os).1 = 0) : ended s z = 0 ∧ (∀ o ∈ os, bars s who o = false) ∧ (0 < made os → full s os = false) ∧ refusal s who z os = (0, -1) := by
  unfold refusal at h ⊢
  split at h
  · rename_i he
    exact absurd h he
  · rename_i he
    rw [if_neg he]
    have he : ended s z = 0 := Classical.not_not.1 he
    cases hb : os.findIdx? (bars s who) with
    | some i => rw [hb] at h; cases h
    | none =>
      rw [hb] at h
      have hb2 := List.findIdx?_eq_none_iff.1 hb
      cases hc : os.findIdx? creates with
      | some i =>
        rw [hc] at h
        simp only [] at h ⊢
        split at h
        · cases h
        · rename_i hf
          rw [if_neg hf]
          exact ⟨he, hb2, fun _ => by simpa using hf, rfl⟩
      | none =>
        refine ⟨he, hb2, fun hm => ?_, rfl⟩
        have h1 := List.findIdx?_eq_none_iff.1 hc
        unfold made at hm
        rw [List.countP_pos_iff] at hm
        obtain ⟨a, ha, hca⟩ := hm
        rw [h1 a ha] at hca
        cases hca
theorem ended_ok {s : St} {z : Int} (h : ended s z = 0) : z ∉ s.cl ∧ ∀ p ∈ s.ps, p.closes = true → p.sess ≠ z := by
  unfold ended at h
  split at h
  · cases h
  · rename_i h1
    split at h
    · cases h
    · rename_i h2
      refine ⟨h1, fun p hp hc e => h2 ?_⟩
      unfold closing
      rw [List.any_eq_true]
      exact ⟨p, hp, by simp [hc, e]⟩
theorem isNew_ok {s : St} {id : Int} (h : isNew s id = true) : 0 < id ∧ (∀ p ∈ s.ps, p.id ≠ id) ∧ id ∉ s.dn := by
  unfold isNew at h
  simp only [Bool.and_eq_true, decide_eq_true_eq, Bool.not_eq_true', List.any_eq_false, decide_eq_false_iff_not] at h
  exact ⟨h.1.1, h.1.2, h.2⟩
theorem any_none {s : St} {who : Int} {os : List O} (h : ∀ o ∈ os, bars s who o = false) : ∀ p ∈ os.flatMap wants, Lk.blocks s.lk who p = false := by
  intro p hp
  obtain ⟨o, ho, hpo⟩ := List.mem_flatMap.1 hp
  have h1 := h o ho
  unfold bars at h1
  rw [List.any_eq_false] at h1
  simpa using h1 p hpo
section
variable {n : Nat} {s : St}
theorem Fit.loc (h : Fit n s) (z k : Int) (os : List O) : Fit (n + 1) (local_ s z k os).2 := by
  have h1 := h.more (Nat.le_succ n)
  unfold local_
  split
  · exact h1
  split
  · exact { h1 with z := ⟨by have := h.z.1; show 0 ≤ s.z + 1; omega, by have := h.z.2; show s.z + 1 ≤ ((n + 1 : Nat) : Int); omega⟩ }
  · exact { h1 with z := ⟨by have := h.z.1; show 0 ≤ s.z + 1; omega, by have := h.z.2; show s.z + 1 ≤ ((n + 1 : Nat) : Int); omega⟩, well := h.well.ask _ _ _ _ }
theorem id_range {z : Int} {b : Bool} (h : ¬ (b = false ∨ z < 1)) : b = true ∧ 1 ≤ z := ⟨by cases b; exact absurd (Or.inl rfl) h; rfl, by omega⟩
theorem Fit.snoc (h : Fit n s) {id z : Int} {ts : List ByteArray} {p : Pr} (hid : isNew s id = true) (hi : id ≤ 9223372036854775807) (hl : ts.length ≤ 532) (hg : ∀ x ∈ ts, Lk.good x = true) (hb : ∀ x ∈ ts, Lk.blocks s.lk id x = false) (hp : FitP p) (hpi : p.id = id) (hpz : p.sess = z) (hcl : z ∉ s.cl) (hal : ∀ q ∈ s.ps, q.sess = z → q.closes = false ∧ p.closes = false) : Fit (n + 1) { s with lk := Lk.adds id s.lk ts, ps := s.ps ++ [p] } := by
  have h1 := h.more (Nat.le_succ n)
  obtain ⟨i1, i2, i3⟩ := isNew_ok hid
  subst hpi hpz
  refine { h1 with lk := ?_, who := ?_, ps := ?_, uniq := ?_, old := ?_, lens := ?_, alone := ?_, live := ?_ }
  · exact (h.lk.adds ⟨by omega, hi⟩ hg hb).mono (by rw [Nat.succ_mul]; omega)
  · intro x hx
    obtain ⟨t, e1, e2⟩ := Lk.adds_ext p.id ts s.lk
    have hx2 : x ∈ Lk.adds p.id s.lk ts := hx
    rw [e1] at hx2
    rcases List.mem_append.1 hx2 with hx | hx
    · obtain ⟨q, hq, e⟩ := h.who x hx
      exact ⟨q, List.mem_append.2 (Or.inl hq), e⟩
    · exact ⟨p, List.mem_append.2 (Or.inr (by simp)), (e2 x hx).1.symm⟩
  · intro q hq
    rcases List.mem_append.1 hq with hq | hq
    · exact h.ps q hq
    · rw [List.mem_singleton.1 hq]; exact hp
  · show (s.ps ++ [p]).Pairwise _
    rw [List.pairwise_append]
    exact ⟨h.uniq, List.pairwise_singleton _ _, fun a ha b hb2 => by rw [List.mem_singleton.1 hb2]; exact i2 a ha⟩
  · intro q hq
    rcases List.mem_append.1 hq with hq | hq
    · exact h.old q hq
    · rw [List.mem_singleton.1 hq]; exact i3
  · refine ⟨?_, h1.lens.2⟩
    show (s.ps ++ [p]).length ≤ n + 1
    rw [List.length_append]
    have := h.lens.1
    simp only [List.length_cons, List.length_nil]
    omega
  · intro a ha hc b hb2 e
    rcases List.mem_append.1 ha with ha | ha <;> rcases List.mem_append.1 hb2 with hb2 | hb2
    · exact h.alone a ha hc b hb2 e
    · rw [List.mem_singleton.1 hb2] at e
      rw [(hal a ha e.symm).1] at hc
      cases hc
    · rw [List.mem_singleton.1 ha] at e hc
      rw [(hal b hb2 e).2] at hc
      cases hc
    · rw [List.mem_singleton.1 ha, List.mem_singleton.1 hb2]
  · intro q hq
    rcases List.mem_append.1 hq with hq | hq
    · exact h.live q hq
    · rw [List.mem_singleton.1 hq]; exact hcl
theorem Fit.prep (h : Fit n s) {id z : Int} {os : List O} (hi : id ≤ 9223372036854775807) (hz : z ≤ 9223372036854775807) (ho : ∀ o ∈ os, OFit o) : Fit (n + 1) (prepare s id z os).2 := by
  have h1 := h.more (Nat.le_succ n)
  unfold prepare
  split
  · exact h1
  rename_i hn
  split
  · exact h1
  rename_i hm
  split
  · exact h1
  rename_i hr
  obtain ⟨n1, n2⟩ := id_range hn
  have hm : Oq.may z 1 os = 0 := Classical.not_not.1 hm
  obtain ⟨r1, r2, _, _⟩ := refusal_ok (Classical.not_not.1 hr)
  obtain ⟨e1, e2⟩ := ended_ok r1
  have hl := wants_len os
  have hl2 := (may_ok hm).2.2.2.1
  refine h.snoc (z := z) n1 hi (by omega) (fun x hx => ?_) (any_none r2) ⟨⟨(isNew_ok n1).1, hi⟩, ⟨n2, hz⟩, fun _ => ⟨hm, ho⟩, fun e => (by cases e)⟩ rfl rfl e1 (fun q hq e => ⟨?_, rfl⟩)
  · obtain ⟨o, ho2, hx⟩ := List.mem_flatMap.1 hx
    exact wants_good (may_good hm o ho2) x hx
  · cases hc : q.closes with
    | false => rfl
    | true => exact absurd e (e2 q hq hc)
theorem Fit.clo (h : Fit n s) {id z : Int} (hi : id ≤ 9223372036854775807) (hz : z ≤ 9223372036854775807) : Fit (n + 1) (close s id z).2 := by
  have h1 := h.more (Nat.le_succ n)
  unfold close
  split
  · exact h1
  rename_i hn
  split
  · exact h1
  rename_i he
  split
  · exact h1
  rename_i ha
  split
  · exact h1
  rename_i hb
  obtain ⟨n1, n2⟩ := id_range hn
  obtain ⟨e1, e2⟩ := ended_ok (Classical.not_not.1 he)
  have ha : asks s.ps z = 0 := Classical.not_not.1 ha
  have hl := Tq.ofs_len h.well.fine z
  refine h.snoc (z := z) n1 hi (by omega) (fun x hx => Tq.ofs_good h.well.fine hx) (fun x hx => ?_) ⟨⟨(isNew_ok n1).1, hi⟩, ⟨n2, hz⟩, fun e => (by cases e), fun _ => ⟨rfl, rfl⟩⟩ rfl rfl e1 (fun q hq e => ?_)
  · have hb2 : (Tq.ofs s.t z).any (Lk.blocks s.lk id) = false := by simpa using hb
    rw [List.any_eq_false] at hb2
    simpa using hb2 x hx
  · exfalso
    cases hc : q.closes with
    | true => exact e2 q hq hc e
    | false =>
      unfold asks at ha
      rw [List.countP_eq_zero] at ha
      exact ha q hq (by simp [hc, e])
theorem look_some {id : Int} {p : Pr} (h : look s id = some p) : p ∈ s.ps ∧ p.id = id := by
  unfold look at h
  have h2 := List.find?_some h
  exact ⟨List.mem_of_find?_eq_some h, by simpa using h2⟩
theorem look_none {id : Int} (h : look s id = none) : ∀ p ∈ s.ps, p.id ≠ id := by
  unfold look at h
  rw [List.find?_eq_none] at h
  intro p hp
  simpa using h p hp
theorem mem_rest {ps : List Pr} {id : Int} {p : Pr} : p ∈ rest ps id ↔ p ∈ ps ∧ p.id ≠ id := by unfold rest; rw [List.mem_filter]; simp
theorem Fit.gone (h : Fit n s) {id : Int} {p : Pr} (hp : look s id = some p) : Fit (n + 1) (gone s id) := by
  have h1 := h.more (Nat.le_succ n)
  obtain ⟨p1, p2⟩ := look_some hp
  refine { h1 with z := ?_, lk := h1.lk.rest id, who := ?_, ps := ?_, uniq := h.uniq.filter _, old := ?_, lens := ?_, alone := ?_, live := ?_, dn := ?_ }
  · have := h.z
    exact ⟨by show 0 ≤ s.z + 1; omega, by show s.z + 1 ≤ ((n + 1 : Nat) : Int); omega⟩
  · intro x hx
    obtain ⟨x1, x2⟩ := List.mem_filter.1 hx
    obtain ⟨q, hq, e⟩ := h.who x x1
    exact ⟨q, mem_rest.2 ⟨hq, by rw [e]; exact of_decide_eq_true x2⟩, e⟩
  · intro q hq
    exact h.ps q (mem_rest.1 hq).1
  · intro q hq hd
    obtain ⟨q1, q2⟩ := mem_rest.1 hq
    rcases List.mem_append.1 hd with hd | hd
    · exact h.old q q1 hd
    · exact q2 (List.mem_singleton.1 hd)
  · refine ⟨Nat.le_trans (List.length_filter_le _ _) h1.lens.1, ?_, h1.lens.2.2⟩
    show (s.dn ++ [id]).length ≤ n + 1
    rw [List.length_append]
    have := h.lens.2.1
    simp only [List.length_cons, List.length_nil]
    omega
  · intro a ha hc b hb e
    exact h.alone a (mem_rest.1 ha).1 hc b (mem_rest.1 hb).1 e
  · intro q hq
    exact h.live q (mem_rest.1 hq).1
  · intro x hx
    rcases List.mem_append.1 hx with hx | hx
    · exact h.dn x hx
    · rw [List.mem_singleton.1 hx, ← p2]
      exact (h.ps p p1).id
theorem Fit.dec (h : Fit n s) (id : Int) (c : Bool) : Fit (n + 1) (decide_ s id c).2 := by
  unfold decide_
  cases hp : look s id with
  | none => exact h.more (Nat.le_succ n)
  | some p =>
    have hg := h.gone hp
    obtain ⟨p1, p2⟩ := look_some hp
    simp only []
    split
    · exact hg
    split
    · rename_i hc
      refine { hg with well := h.well.purge _ (List.Perm.refl _), lens := ?_, live := ?_, cl := ?_ }
      · refine ⟨hg.lens.1, hg.lens.2.1, ?_⟩
        show (s.cl ++ [p.sess]).length ≤ n + 1
        rw [List.length_append]
        have := h.lens.2.2
        simp only [List.length_cons, List.length_nil]
        omega
      · intro q hq hin
        rcases List.mem_append.1 hin with hin | hin
        · exact hg.live q hq hin
        · obtain ⟨q1, q2⟩ := mem_rest.1 hq
          have := h.alone p p1 hc q q1 (List.mem_singleton.1 hin)
          exact q2 (by rw [this, p2])
      · intro x hx
        rcases List.mem_append.1 hx with hx | hx
        · exact h.cl x hx
        · rw [List.mem_singleton.1 hx]
          exact (h.ps p p1).sess
    split
    · exact hg
    · exact { hg with well := h.well.many _ _ _ }
end
end Go.Proofs.YtboejbjobjhajaaGreatDoor.Pt
namespace Go.Proofs.YtboejbjobjhajaaGreatDoor.Tq
open Kq
/-! What is left at each path. -/
theorem find_named18 (l : List En) (u : Option ByteArray) (x q : ByteArray) : find (named l u x) q = if u = some q then (find l q).map (fun m => add m (nm x)) else find l q := by
  unfold named
  cases u with
  | none => simp
  | some u =>
    simp only [Option.some.injEq]
    cases h : find l u with
    | none =>
      by_cases e : u = q
      · subst e; simp [h]
      · simp [e]
    | some m =>
      simp only []
      rw [find_set]
      by_cases e : q = u
      · subst e; simp [h]
      · rw [if_neg e, if_neg (fun e2 => e e2.symm)]
theorem find_orphan18 (l : List En) (p q : ByteArray) : find (orphan l p) q = if up p = some q then (find l q).map (fun m => remove m (nm p)) else find l q := by
  unfold orphan
  cases hu : up p with
  | none => simp
  | some u =>
    simp only [Option.some.injEq]
    cases h : find l u with
    | none =>
      by_cases e : u = q
      · subst e; simp [h]
      · simp [e]
    | some m =>
      simp only []
      rw [find_set]
      by_cases e : q = u
      · subst e; simp [h]
      · rw [if_neg e, if_neg (fun e2 => e e2.symm)]
theorem rises_named18 {l : List En} (u : Option ByteArray) (x : ByteArray) (h : Rises (keys l)) : Rises (keys (named l u x)) := by rw [keys_named]; exact h
theorem find_none_named18 {l : List En} (u : Option ByteArray) {x q : ByteArray} (h : find l q = none) : find (named l u x) q = none := by
  rw [find_named18, h]
  simp
theorem find_made18 {l : List En} {u : Option ByteArray} {x q : ByteArray} {n : Kn} (hr : Rises (keys l)) (hx : find l x = none) : find (ins (named l u x) x n) q = if q = x then some n else if u = some q then (find l q).map (fun m => add m (nm x)) else find l q := by
  rw [find_ins n (rises_named18 u x hr) (find_none_named18 u hx), find_named18]
theorem find_gone18 {l : List En} {x q : ByteArray} (hr : Rises (keys l)) : find (orphan (del l x) x) q = if up x = some q then (if q = x then none else find l q).map (fun m => remove m (nm x)) else if q = x then none else find l q := by
  rw [find_orphan18, find_del hr]
/-! What a Create makes. -/
def ownOf (o : O) (s : Int) : Int := if o.flags = 1 ∨ o.flags = 3 then s else 0
def Cr (t : Tr) (o : O) (x : ByteArray) : Prop :=
  (up o.path = none ∧ x = o.path) ∨ ∃ u m, up o.path = some u ∧ find t.l u = some m ∧ m.owner = 0 ∧ ((o.flags < 2 ∧ x = o.path) ∨ (2 ≤ o.flags ∧ num o.path m.next = some x))
theorem create_of18 {t : Tr} {o : O} {x : ByteArray} (s z : Int) (h : Cr t o x) : create t o s z = makeAt t (up o.path) x (ownOf o s) z o.data := by
  unfold create ownOf
  simp only []
  rcases h with ⟨h1, rfl⟩ | ⟨u, m, h1, h2, h3, h4⟩
  · rw [h1]
  · rw [h1]
    simp only []
    rw [h2]
    simp only []
    rw [if_neg (by simp [h3])]
    rcases h4 with ⟨h4, rfl⟩ | ⟨h4, h5⟩
    · rw [if_neg (by omega)]
    · rw [if_pos h4, h5]
theorem create_ok18 {t : Tr} {o : O} {s z : Int} (h : (create t o s z).1.err = 0) : ∃ x, Cr t o x ∧ find t.l x = none ∧ (t.l.length : Int) < t.room := by
  have key : ∀ x, Cr t o x → ∃ x, Cr t o x ∧ find t.l x = none ∧ (t.l.length : Int) < t.room := fun x hx => by
    rw [create_of18 s z hx] at h
    unfold makeAt at h
    cases hf : find t.l x with
    | some n => rw [hf] at h; simp [fail] at h
    | none =>
      rw [hf] at h
      simp only [] at h
      by_cases hr : t.room ≤ (t.l.length : Int)
      · rw [if_pos hr] at h; simp [fail] at h
      · exact ⟨x, hx, hf, by omega⟩
  cases hu : up o.path with
  | none => exact key o.path (Or.inl ⟨hu, rfl⟩)
  | some u =>
    cases hm : find t.l u with
    | none =>
      unfold create at h
      simp only [] at h
      rw [hu] at h
      simp only [] at h
      rw [hm] at h
      simp [fail] at h
    | some m =>
      by_cases ho : m.owner = 0
      · by_cases hf : 2 ≤ o.flags
        · cases hn : num o.path m.next with
          | some x => exact key x (Or.inr ⟨u, m, hu, hm, ho, Or.inr ⟨hf, hn⟩⟩)
          | none =>
            unfold create at h
            simp only [] at h
            rw [hu] at h
            simp only [] at h
            rw [hm] at h
            simp only [] at h
            rw [if_neg (by simp [ho]), if_pos hf, hn] at h
            simp [fail] at h
        · exact key o.path (Or.inr ⟨u, m, hu, hm, ho, Or.inl ⟨by omega, rfl⟩⟩)
      · unfold create at h
        simp only [] at h
        rw [hu] at h
        simp only [] at h
        rw [hm] at h
        simp only [] at h
        rw [if_pos ho] at h
        simp [fail] at h
theorem make_yes18 {t : Tr} {u : Option ByteArray} {x d : ByteArray} {own z : Int} (h1 : find t.l x = none) (h2 : (t.l.length : Int) < t.room) : makeAt t u x own z d = (told x ⟨#[]⟩ [] (new z own d), { t with l := ins (named t.l u x) x (new z own d) }) := by
  unfold makeAt
  rw [h1]
  simp only []
  rw [if_neg (by omega)]
theorem Cr.path {t : Tr} {o : O} {x : ByteArray} (h : Cr t o x) (hg : Oq.good o = 0) : Pl.goodB x.data.toList = true ∧ up x = up o.path := by
  rcases h with ⟨_, rfl⟩ | ⟨u, m, _, _, _, ⟨_, rfl⟩ | ⟨_, h5⟩⟩
  · exact ⟨good_path hg, rfl⟩
  · exact ⟨good_path hg, rfl⟩
  · exact ⟨num_ok h5, up_num (good_path hg) h5⟩
/-! What is done, if it is done. -/
def Did (t : Tr) (o : O) (s z : Int) (r : X) (T : Tr) : Prop :=
  (∃ x, o.kind = 1 ∧ Cr t o x ∧ find t.l x = none ∧ (t.l.length : Int) < t.room ∧ told x ⟨#[]⟩ [] (new z (ownOf o s) o.data) = r ∧ ({ t with l := ins (named t.l (up o.path) x) x (new z (ownOf o s) o.data) } : Tr) = T) ∨
  (∃ n, o.kind = 2 ∧ find t.l o.path = some n ∧ (o.ver = -1 ∨ o.ver = n.ver) ∧ n.names = [] ∧ gone o.path = r ∧ ({ t with l := orphan (del t.l o.path) o.path } : Tr) = T) ∨
  (∃ n, o.kind = 3 ∧ find t.l o.path = some n ∧ (o.ver = -1 ∨ o.ver = n.ver) ∧ told o.path ⟨#[]⟩ [] (write n z o.data) = r ∧ ({ t with l := set t.l o.path (write n z o.data) } : Tr) = T) ∨
  ∃ n, 4 ≤ o.kind ∧ find t.l o.path = some n ∧ (o.kind = 4 → o.ver = -1 ∨ o.ver = n.ver) ∧ r.err = 0 ∧ r.path = o.path ∧ t = T
theorem Did.made {t : Tr} {o : O} {s z : Int} (x : ByteArray) (h1 : o.kind = 1) (h2 : Cr t o x) (h3 : find t.l x = none) (h4 : (t.l.length : Int) < t.room) : Did t o s z (told x ⟨#[]⟩ [] (new z (ownOf o s) o.data)) { t with l := ins (named t.l (up o.path) x) x (new z (ownOf o s) o.data) } := Or.inl ⟨x, h1, h2, h3, h4, rfl, rfl⟩
theorem Did.gone {t : Tr} {o : O} {s z : Int} (n : Kn) (h1 : o.kind = 2) (h2 : find t.l o.path = some n) (h3 : o.ver = -1 ∨ o.ver = n.ver) (h4 : n.names = []) : Did t o s z (Tq.gone o.path) { t with l := orphan (del t.l o.path) o.path } := Or.inr (Or.inl ⟨n, h1, h2, h3, h4, rfl, rfl⟩)
theorem Did.set {t : Tr} {o : O} {s z : Int} (n : Kn) (h1 : o.kind = 3) (h2 : find t.l o.path = some n) (h3 : o.ver = -1 ∨ o.ver = n.ver) : Did t o s z (told o.path ⟨#[]⟩ [] (write n z o.data)) { t with l := Tq.set t.l o.path (write n z o.data) } := Or.inr (Or.inr (Or.inl ⟨n, h1, h2, h3, rfl, rfl⟩))
theorem Did.look {t : Tr} {o : O} {s z : Int} (n : Kn) (x : X) (h1 : 4 ≤ o.kind) (h2 : find t.l o.path = some n) (h3 : o.kind = 4 → o.ver = -1 ∨ o.ver = n.ver) (h4 : x.err = 0) (h5 : x.path = o.path) : Did t o s z x t := Or.inr (Or.inr (Or.inr ⟨n, h1, h2, h3, h4, h5, rfl⟩))
theorem doo_did {t : Tr} {o : O} {s z : Int} (h : (doo t o s z).1.err = 0) : Oq.good o = 0 ∧ 1 ≤ s ∧ 0 ≤ z ∧ Did t o s z (doo t o s z).1 (doo t o s z).2 := by
  by_cases hg : Oq.good o = 0
  · by_cases hs : s < 1 ∨ z < 0
    · unfold doo at h
      rw [if_neg (by simp [hg]), if_pos hs] at h
      simp [fail] at h
    · refine ⟨hg, by omega, by omega, ?_⟩
      by_cases hk : o.kind = 1
      · rw [doo_create hg (by omega) (by omega) hk] at h ⊢
        obtain ⟨x, h1, h2, h3⟩ := create_ok18 h
        rw [create_of18 s z h1, make_yes18 h2 h3]
        exact Did.made x hk h1 h2 h3
      · cases hn : find t.l o.path with
        | none =>
          rw [doo_nowhere hg (by omega) (by omega) hk hn] at h
          simp [fail] at h
        | some n =>
          rw [doo_node hg (by omega) (by omega) hk hn] at h ⊢
          unfold atNode at h ⊢
          by_cases hv : (o.kind = 2 ∨ o.kind = 3 ∨ o.kind = 4) ∧ o.ver ≠ -1 ∧ o.ver ≠ n.ver
          · rw [if_pos hv] at h
            simp [fail] at h
          · rw [if_neg hv] at h ⊢
            by_cases h2 : o.kind = 2
            · rw [if_pos h2] at h ⊢
              by_cases hk2 : n.names ≠ []
              · rw [if_pos hk2] at h
                simp [fail] at h
              · rw [if_neg hk2]
                exact Did.gone n h2 hn (by rw [Classical.or_iff_not_imp_left]; intro e; apply Classical.byContradiction; intro e2; exact hv ⟨Or.inl h2, e, e2⟩) (Classical.not_not.1 hk2)
            · rw [if_neg h2] at h ⊢
              by_cases h3 : o.kind = 3
              · rw [if_pos h3]
                exact Did.set n h3 hn (by rw [Classical.or_iff_not_imp_left]; intro e; apply Classical.byContradiction; intro e2; exact hv ⟨Or.inr (Or.inl h3), e, e2⟩)
              · rw [if_neg h3] at h ⊢
                have h4 : 4 ≤ o.kind := by
                  have h5 := (Oq.head_no (good_zero hg).1).1
                  omega
                have hv4 : o.kind = 4 → o.ver = -1 ∨ o.ver = n.ver := fun e => by rw [Classical.or_iff_not_imp_left]; intro e1; apply Classical.byContradiction; intro e2; exact hv ⟨Or.inr (Or.inr e), e1, e2⟩
                split
                · exact Did.look n _ h4 hn hv4 rfl rfl
                · split
                  · exact Did.look n _ h4 hn hv4 rfl rfl
                  · split
                    · exact Did.look n _ h4 hn hv4 rfl rfl
                    · exact Did.look n _ h4 hn hv4 rfl rfl
  · unfold doo at h
    rw [if_pos hg] at h
    exact absurd h hg
theorem doo_fails {t : Tr} {o : O} {s z : Int} (h : (doo t o s z).1.err ≠ 0) : (doo t o s z).2 = t := by
  revert h
  unfold doo create makeAt atNode
  simp only []
  repeat' split
  all_goals first | (intro _; rfl) | (intro h; exact absurd rfl h)
/-! Of a node what Ops ask. -/
def vw (n : Kn) : Int × List ByteArray × Int × Bool := (n.ver, n.names, n.next, decide (n.owner = 0))
theorem vw_inj {a b : Kn} (h : vw a = vw b) : a.ver = b.ver ∧ a.names = b.names ∧ a.next = b.next ∧ (decide (a.owner = 0) = decide (b.owner = 0)) := by
  unfold vw at h
  simp only [Prod.mk.injEq] at h
  exact h
theorem vw_add {a b : Kn} (h : vw a = vw b) (s : ByteArray) : vw (add a s) = vw (add b s) := by
  obtain ⟨h1, h2, h3, h4⟩ := vw_inj h
  unfold add
  rw [← h2]
  split
  · exact h
  · unfold vw
    simp only [Prod.mk.injEq]
    exact ⟨h1, trivial, by rw [h3], h4⟩
theorem vw_remove {a b : Kn} (h : vw a = vw b) (s : ByteArray) : vw (remove a s) = vw (remove b s) := by
  obtain ⟨h1, h2, h3, h4⟩ := vw_inj h
  unfold remove
  rw [← h2]
  split
  · unfold vw
    simp only [Prod.mk.injEq]
    exact ⟨h1, trivial, h3, h4⟩
  · exact h
theorem vw_write {a b : Kn} (h : vw a = vw b) (z z' : Int) (d : ByteArray) : vw (write a z d) = vw (write b z' d) := by
  obtain ⟨h1, h2, h3, h4⟩ := vw_inj h
  unfold write vw
  simp only [Prod.mk.injEq]
  exact ⟨by rw [h1], h2, h3, h4⟩
def at18 (t : Tr) (q : ByteArray) : Option (Int × List ByteArray × Int × Bool) := (find t.l q).map vw
def ow18 (t : Tr) (q : ByteArray) : Option Bool := (find t.l q).map fun n => decide (n.owner = 0)
structure Sim (K : ByteArray → Prop) (t t' : Tr) : Prop where
  at_ : ∀ p, K p → at18 t p = at18 t' p
  par : ∀ p, K p → ∀ u, up p = some u → ∀ b, ow18 t u = some b → ow18 t' u = some b
theorem Sim.refl (K : ByteArray → Prop) (t : Tr) : Sim K t t := ⟨fun _ _ => rfl, fun _ _ _ _ _ h => h⟩
section
variable {K : ByteArray → Prop} {t t' : Tr} {o : O} {s z z' : Int}
theorem at_some {t : Tr} {p : ByteArray} {n : Kn} (h : find t.l p = some n) : at18 t p = some (vw n) := by unfold at18; rw [h]; rfl
theorem Sim.get (h : Sim K t t') {p : ByteArray} (hp : K p) {n : Kn} (hn : find t.l p = some n) : ∃ n', find t'.l p = some n' ∧ vw n = vw n' := by
  have h1 := h.at_ p hp
  rw [at_some hn] at h1
  unfold at18 at h1
  cases hf : find t'.l p with
  | none => rw [hf] at h1; cases h1
  | some n' =>
    rw [hf] at h1
    exact ⟨n', rfl, Option.some.inj h1⟩
theorem Sim.no (h : Sim K t t') {p : ByteArray} (hp : K p) (hn : find t.l p = none) : find t'.l p = none := by
  have h1 := h.at_ p hp
  unfold at18 at h1
  rw [hn] at h1
  cases hf : find t'.l p with
  | none => rfl
  | some n' => rw [hf] at h1; cases h1
theorem Sim.under (h : Sim K t t') (hw' : Well t') (hw : Well t) {x u : ByteArray} (hu : up x = some u) (hK : K u) (hg : Pl.goodB x.data.toList = true) (hn : find t.l x = none) : find t'.l x = none := by
  cases hf : find t'.l x with
  | none => rfl
  | some n' =>
    obtain ⟨m', h1, _, h3⟩ := hw'.snd.par x n' u hf hu
    cases hm : find t.l u with
    | none =>
      rw [h.no hK hm] at h1
      cases h1
    | some m =>
      obtain ⟨m2, h4, h5⟩ := h.get hK hm
      rw [h1] at h4
      obtain rfl := Option.some.inj h4
      obtain ⟨k, hk⟩ := hw.snd.kid u m (nm x) hm (by rw [(vw_inj h5).2.1]; exact h3)
      rw [(up_sub hg hu).1, hn] at hk
      cases hk
theorem ow_some {t : Tr} {p : ByteArray} {b : Bool} (h : ow18 t p = some b) : ∃ n, find t.l p = some n ∧ decide (n.owner = 0) = b := by
  unfold ow18 at h
  cases hf : find t.l p with
  | none => rw [hf] at h; cases h
  | some n => rw [hf] at h; exact ⟨n, rfl, Option.some.inj h⟩
theorem ow_at {t : Tr} {p : ByteArray} {n : Kn} (h : find t.l p = some n) : ow18 t p = some (decide (n.owner = 0)) := by unfold ow18; rw [h]; rfl
theorem Sim.par_get (h : Sim K t t') {p u : ByteArray} (hp : K p) (hu : up p = some u) {m : Kn} (hm : find t.l u = some m) : ∃ m', find t'.l u = some m' ∧ decide (m'.owner = 0) = decide (m.owner = 0) := ow_some (h.par p hp u hu _ (ow_at hm))
theorem Sim.cr (h : Sim K t t') (hK : ∀ x ∈ Pt.wants o, K x) {x : ByteArray} (hc : Cr t o x) : Cr t' o x := by
  have hp : K o.path := hK _ (by unfold Pt.wants; split <;> simp)
  rcases hc with h1 | ⟨u, m, h1, h2, h3, h4⟩
  · exact Or.inl h1
  · obtain ⟨m', g1, g2⟩ := h.par_get hp h1 h2
    have g3 : m'.owner = 0 := by
      rw [h3] at g2
      simpa using g2
    rcases h4 with h4 | ⟨h4, h5⟩
    · exact Or.inr ⟨u, m', h1, g1, g3, Or.inl h4⟩
    · have hu : K u := by
        refine hK u ?_
        unfold Pt.wants
        rw [if_pos h4]
        have e : u = Lk.up o.path := by
          unfold up at h1
          split at h1
          · exact (Option.some.inj h1).symm
          · cases h1
        rw [e]
        simp
      obtain ⟨m2, g4, g5⟩ := h.get hu h2
      rw [g1] at g4
      obtain rfl := Option.some.inj g4
      exact Or.inr ⟨u, m', h1, g1, g3, Or.inr ⟨h4, by rw [← (vw_inj g5).2.2.1]; exact h5⟩⟩
/-! Both do the same. -/
theorem Sim.both {t1 t1' : Tr} (h : Sim K t t') (f : ByteArray → Option Kn → Option Kn) (f' : ByteArray → Option Kn → Option Kn) (h1 : ∀ q, find t1.l q = f q (find t.l q)) (h2 : ∀ q, find t1'.l q = f' q (find t'.l q))
    (hv : ∀ q a b, a.map vw = b.map vw → (f q a).map vw = (f' q b).map vw) (hp : ∀ q a b, (f q a).map (fun n => decide (n.owner = 0)) = some b → (f' q none).map (fun n => decide (n.owner = 0)) = some b ∨ (a.map (fun n => decide (n.owner = 0)) = some b ∧ ∀ a', a'.map (fun n : Kn => decide (n.owner = 0)) = some b → (f' q a').map (fun n => decide (n.owner = 0)) = some b))
    (hp2 : ∀ q a b, (f' q none).map (fun n => decide (n.owner = 0)) = some b → (f' q a).map (fun n => decide (n.owner = 0)) = some b) : Sim K t1 t1' := by
  refine ⟨fun p hK => ?_, fun p hK u hu b hb => ?_⟩
  · unfold at18
    rw [h1, h2]
    exact hv p _ _ (h.at_ p hK)
  · unfold ow18 at hb ⊢
    rw [h1] at hb
    rw [h2]
    rcases hp u _ b hb with e | ⟨e1, e2⟩
    · exact hp2 u _ b e
    · exact e2 _ (h.par p hK u hu b e1)
theorem map_add18 (a : Option Kn) (s : ByteArray) : (a.map fun m => add m s).map (fun n => decide (n.owner = 0)) = a.map fun n => decide (n.owner = 0) := by
  cases a with
  | none => rfl
  | some m => simp [add_owner]
theorem map_remove18 (a : Option Kn) (s : ByteArray) : (a.map fun m => remove m s).map (fun n => decide (n.owner = 0)) = a.map fun n => decide (n.owner = 0) := by
  cases a with
  | none => rfl
  | some m => simp [remove_owner]
theorem vw_map {a b : Option Kn} (h : a.map vw = b.map vw) {f g : Kn → Kn} (hfg : ∀ m n, vw m = vw n → vw (f m) = vw (g n)) : (a.map f).map vw = (b.map g).map vw := by
  cases a with
  | none => cases b with
    | none => rfl
    | some n => cases h
  | some m => cases b with
    | none => cases h
    | some n => exact congrArg some (hfg m n (Option.some.inj h))
def grew (t t1 : Tr) : Int := (t1.l.length : Int) - (t.l.length : Int)
theorem len_made18 {l : List En} {u : Option ByteArray} {x : ByteArray} {n : Kn} : (ins (named l u x) x n).length = l.length + 1 := by
  rw [len_ins]
  have h := congrArg List.length (keys_named l u x)
  unfold keys at h
  simp only [List.length_map] at h
  omega
theorem len_gone18 {l : List En} {x : ByteArray} {n : Kn} (hr : Rises (keys l)) (h : find l x = some n) : (orphan (del l x) x).length + 1 = l.length := by
  rw [len_orphan]
  exact len_del_eq hr h
theorem ver_eq {n n' : Kn} (h : vw n = vw n') {v : Int} (hv : v = -1 ∨ v = n.ver) : v = -1 ∨ v = n'.ver := by rw [← (vw_inj h).1]; exact hv
theorem doo_of_made {x : ByteArray} (hg : Oq.good o = 0) (hs : 1 ≤ s) (hz : 0 ≤ z) (hk : o.kind = 1) (hc : Cr t o x) (hx : find t.l x = none) (hr : (t.l.length : Int) < t.room) : doo t o s z = (told x ⟨#[]⟩ [] (new z (ownOf o s) o.data), { t with l := ins (named t.l (up o.path) x) x (new z (ownOf o s) o.data) }) := by
  rw [doo_create hg hs hz hk, create_of18 s z hc, make_yes18 hx hr]
theorem Sim.step (h : Sim K t t') (hw : Well t) (hw' : Well t') (hK : ∀ x ∈ Pt.wants o, K x) (he : (doo t o s z).1.err = 0) (hz : 0 ≤ z') (hroom : o.kind = 1 → (t'.l.length : Int) < t'.room) :
    (doo t' o s z').1.err = 0 ∧ Sim K (doo t o s z).2 (doo t' o s z').2 ∧ grew t (doo t o s z).2 = grew t' (doo t' o s z').2 := by
  obtain ⟨hg, hs, hz0, hd⟩ := doo_did he
  have hp : K o.path := hK _ (by unfold Pt.wants; split <;> simp)
  have hr := hw.fine.rise
  have hr' := hw'.fine.rise
  revert hd
  generalize hX : (doo t o s z).1 = X
  generalize hT : (doo t o s z).2 = T
  intro hd
  rcases hd with ⟨x, hk, hc, hx, hl, rfl, rfl⟩ | ⟨n, hk, hn, hv, hk2, rfl, rfl⟩ | ⟨n, hk, hn, hv, rfl, rfl⟩ | ⟨n, hk, hn, hv, hx0, hx1, rfl⟩
  next =>
    have hc' := h.cr hK hc
    have hx' : find t'.l x = none := by
      rcases hc with ⟨_, rfl⟩ | ⟨u, m, h1, h2, _, ⟨_, rfl⟩ | ⟨h4, h5⟩⟩
      · exact h.no hp hx
      · exact h.no hp hx
      · have hu : K u := by
          refine hK u ?_
          unfold Pt.wants
          rw [if_pos h4]
          have e : u = Lk.up o.path := by
            unfold up at h1
            split at h1
            · exact (Option.some.inj h1).symm
            · cases h1
          rw [e]
          simp
        exact h.under hw' hw (by rw [up_num (good_path hg) h5]; exact h1) hu (num_ok h5) hx
    rw [doo_of_made hg hs hz hk hc' hx' (hroom hk)]
    refine ⟨rfl, ?_, ?_⟩
    · refine h.both (fun q a => if q = x then some (new z (ownOf o s) o.data) else if up o.path = some q then a.map (fun m => add m (nm x)) else a) (fun q a => if q = x then some (new z' (ownOf o s) o.data) else if up o.path = some q then a.map (fun m => add m (nm x)) else a) (fun q => find_made18 hr hx) (fun q => find_made18 hr' hx') (fun q a b hab => ?_) (fun q a b hab => ?_) (fun q a b hab => ?_)
      · by_cases e : q = x
        · rw [if_pos e, if_pos e]; rfl
        · rw [if_neg e, if_neg e]
          by_cases e2 : up o.path = some q
          · rw [if_pos e2, if_pos e2]
            exact vw_map hab (fun m n hmn => vw_add hmn _)
          · rw [if_neg e2, if_neg e2]
            exact hab
      · by_cases e : q = x
        · simp only [if_pos e] at hab ⊢
          exact Or.inl hab
        · simp only [if_neg e] at hab ⊢
          by_cases e2 : up o.path = some q
          · simp only [if_pos e2] at hab ⊢
            rw [map_add18] at hab
            exact Or.inr ⟨hab, fun a' ha' => by rw [map_add18]; exact ha'⟩
          · simp only [if_neg e2] at hab ⊢
            exact Or.inr ⟨hab, fun a' ha' => ha'⟩
      · by_cases e : q = x
        · simp only [if_pos e] at hab ⊢
          exact hab
        · simp only [if_neg e] at hab
          by_cases e2 : up o.path = some q
          · simp only [if_pos e2] at hab
            cases hab
          · simp only [if_neg e2] at hab
            cases hab
    · unfold grew
      simp only []
      rw [len_made18, len_made18]
      omega
  next =>
    obtain ⟨n', hn', hvw⟩ := h.get hp hn
    have hv' := ver_eq hvw hv
    have e1 : doo t' o s z' = (gone o.path, { t' with l := orphan (del t'.l o.path) o.path }) := by
      rw [doo_node hg hs hz (by omega) hn']
      unfold atNode
      rw [if_neg (by rintro ⟨_, e2, e3⟩; rcases hv' with e | e; exact e2 e; exact e3 e), if_pos hk, if_neg (by rw [← (vw_inj hvw).2.1, hk2]; simp)]
    rw [e1]
    refine ⟨rfl, ?_, ?_⟩
    · refine h.both (fun q a => if up o.path = some q then (if q = o.path then none else a).map (fun m => remove m (nm o.path)) else if q = o.path then none else a) (fun q a => if up o.path = some q then (if q = o.path then none else a).map (fun m => remove m (nm o.path)) else if q = o.path then none else a) (fun q => find_gone18 hr) (fun q => find_gone18 hr') (fun q a b hab => ?_) (fun q a b hab => ?_) (fun q a b hab => ?_)
      · by_cases e : up o.path = some q
        · rw [if_pos e, if_pos e]
          refine vw_map ?_ (fun m n hmn => vw_remove hmn _)
          split
          · rfl
          · exact hab
        · rw [if_neg e, if_neg e]
          split
          · rfl
          · exact hab
      · by_cases e : up o.path = some q
        · simp only [if_pos e] at hab ⊢
          rw [map_remove18] at hab
          by_cases e2 : q = o.path
          · rw [if_pos e2] at hab; cases hab
          · rw [if_neg e2] at hab
            exact Or.inr ⟨hab, fun a' ha' => by rw [map_remove18, if_neg e2]; exact ha'⟩
        · simp only [if_neg e] at hab ⊢
          by_cases e2 : q = o.path
          · rw [if_pos e2] at hab; cases hab
          · rw [if_neg e2] at hab
            exact Or.inr ⟨hab, fun a' ha' => by rw [if_neg e2]; exact ha'⟩
      · exfalso
        by_cases e : up o.path = some q
        · simp only [if_pos e] at hab
          split at hab <;> cases hab
        · simp only [if_neg e] at hab
          split at hab <;> cases hab
    · unfold grew
      have := len_gone18 hr hn
      have := len_gone18 hr' hn'
      simp only []
      omega
  next =>
    obtain ⟨n', hn', hvw⟩ := h.get hp hn
    have hv' := ver_eq hvw hv
    have e1 : doo t' o s z' = (told o.path ⟨#[]⟩ [] (write n' z' o.data), { t' with l := Tq.set t'.l o.path (write n' z' o.data) }) := by
      rw [doo_node hg hs hz (by omega) hn']
      unfold atNode
      rw [if_neg (by rintro ⟨_, e2, e3⟩; rcases hv' with e | e; exact e2 e; exact e3 e), if_neg (by omega), if_pos hk]
    rw [e1]
    refine ⟨rfl, ?_, ?_⟩
    · refine ⟨fun p hKp => ?_, fun p hKp u hu b hb => ?_⟩
      · unfold at18
        simp only []
        rw [find_set, find_set]
        by_cases e : p = o.path
        · rw [if_pos e, if_pos e, e, hn, hn']
          exact congrArg some (vw_write hvw z z' o.data)
        · rw [if_neg e, if_neg e]
          exact h.at_ p hKp
      · have h1 := h.par p hKp u hu
        unfold ow18 at hb ⊢ h1
        simp only [] at hb ⊢
        rw [find_set] at hb ⊢
        by_cases e : u = o.path
        · rw [if_pos e, e, hn] at hb
          rw [if_pos e, e, hn']
          have h2 : decide ((write n z o.data).owner = 0) = b := Option.some.inj hb
          have h3 : decide ((write n' z' o.data).owner = 0) = b := (vw_inj (vw_write hvw z z' o.data)).2.2.2.symm.trans h2
          exact congrArg some h3
        · rw [if_neg e] at hb ⊢
          exact h1 b hb
    · unfold grew
      simp only []
      rw [len_set, len_set]
      omega
  next =>
    obtain ⟨n', hn', hvw⟩ := h.get hp hn
    have e1 : (doo t' o s z').1.err = 0 ∧ (doo t' o s z').2 = t' := by
      rw [doo_node hg hs hz (by omega) hn']
      unfold atNode
      rw [if_neg (by
        rintro ⟨e1, e2, e3⟩
        rcases e1 with e | e | e
        · omega
        · omega
        · rcases ver_eq hvw (hv e) with e4 | e4
          · exact e2 e4
          · exact e3 e4), if_neg (by omega), if_neg (by omega)]
      split
      · exact ⟨rfl, rfl⟩
      · split
        · exact ⟨rfl, rfl⟩
        · split <;> exact ⟨rfl, rfl⟩
    rw [e1.2]
    exact ⟨e1.1, h, by unfold grew; omega⟩
/-! Others do theirs. -/
theorem up_lk {x u : ByteArray} (hg : Pl.goodB x.data.toList = true) (h : up x = some u) : Lk.under x = true ∧ u = Lk.up x := by
  unfold up at h
  split at h
  · rename_i h2
    refine ⟨?_, (Option.some.inj h).symm⟩
    unfold Lk.under Lk.good
    rw [hg, decide_eq_true h2]
    rfl
  · cases h
theorem near_not {x p : ByteArray} (hx : Pl.goodB x.data.toList = true) (hp : Pl.goodB p.data.toList = true) (h : Lk.near x p = false) : p ≠ x ∧ up x ≠ some p ∧ up p ≠ some x := by
  unfold Lk.near at h
  simp only [Bool.or_eq_false_iff, Bool.and_eq_false_iff, decide_eq_false_iff_not] at h
  refine ⟨h.1.1, fun e => ?_, fun e => ?_⟩
  · obtain ⟨h1, h2⟩ := up_lk hx e
    rcases h.1.2 with h3 | h3
    · rw [h1] at h3; cases h3
    · exact h3 h2
  · obtain ⟨h1, h2⟩ := up_lk hp e
    rcases h.2 with h3 | h3
    · rw [h1] at h3; cases h3
    · exact h3 h2.symm
theorem Sim.touch (h : Sim K t t') {t1 : Tr} {x : ByteArray} (hT : ∀ q, q ≠ x → up x ≠ some q → find t1.l q = find t'.l q) (hO : ∀ q, q ≠ x → ow18 t1 q = ow18 t' q) (hx : ∀ p, K p → p ≠ x ∧ up x ≠ some p) (hu : ∀ p, K p → up p = some x → find t'.l x = none) : Sim K t t1 := by
  refine ⟨fun p hp => ?_, fun p hp u hup b hb => ?_⟩
  · rw [h.at_ p hp]
    unfold at18
    rw [hT p (hx p hp).1 (hx p hp).2]
  · have h1 := h.par p hp u hup b hb
    by_cases e : u = x
    · have h2 := hu p hp (by rw [← e]; exact hup)
      unfold ow18 at h1
      rw [e, h2] at h1
      cases h1
    · rw [hO u e]
      exact h1
theorem ow_map {t1 t2 : Tr} {q : ByteArray} (h : find t1.l q = find t2.l q) : ow18 t1 q = ow18 t2 q := by unfold ow18; rw [h]
theorem wants_path (o : O) : o.path ∈ Pt.wants o := by unfold Pt.wants; split <;> simp
theorem Sim.frame (h : Sim K t t') (hw' : Well t') (hKg : ∀ p, K p → Pl.goodB p.data.toList = true) (hfar : ∀ x ∈ Pt.wants o, ∀ p, K p → Lk.near x p = false) (s z : Int) : Sim K t (doo t' o s z).2 := by
  by_cases he : (doo t' o s z).1.err = 0
  · obtain ⟨hg, hs, hz0, hd⟩ := doo_did he
    have hr := hw'.fine.rise
    have hpg := good_path hg
    have hnp : ∀ p, K p → p ≠ o.path ∧ up o.path ≠ some p ∧ up p ≠ some o.path := fun p hp => near_not hpg (hKg p hp) (hfar _ (wants_path o) p hp)
    revert hd
    generalize (doo t' o s z).1 = X
    generalize (doo t' o s z).2 = T
    intro hd
    rcases hd with ⟨x, hk, hc, hx, hl, rfl, rfl⟩ | ⟨n, hk, hn, hv, hk2, rfl, rfl⟩ | ⟨n, hk, hn, hv, rfl, rfl⟩ | ⟨n, hk, hn, hv, hx0, hx1, rfl⟩
    next =>
      have hup := (hc.path hg).2
      have hxK : ∀ p, K p → p ≠ x ∧ up x ≠ some p := fun p hp => by
        rcases hc with ⟨_, rfl⟩ | ⟨u, m, h1, h2, _, ⟨_, rfl⟩ | ⟨h4, h5⟩⟩
        · exact ⟨(hnp p hp).1, (hnp p hp).2.1⟩
        · exact ⟨(hnp p hp).1, (hnp p hp).2.1⟩
        · obtain ⟨_, e⟩ := up_lk hpg h1
          have hu : u ∈ Pt.wants o := by unfold Pt.wants; rw [if_pos h4, e]; simp
          have hug : Pl.goodB u.data.toList = true := (up_sub hpg h1).2
          obtain ⟨n1, n2, n3⟩ := near_not hug (hKg p hp) (hfar u hu p hp)
          exact ⟨fun e2 => n3 (by rw [e2, hup, h1]), fun e2 => n1 (by rw [hup, h1] at e2; exact (Option.some.inj e2).symm)⟩
      refine h.touch (x := x) (fun q hq hq2 => ?_) (fun q hq => ?_) hxK (fun p hp _ => hx)
      · show find (ins (named t'.l (up o.path) x) x _) q = _
        rw [find_made18 hr hx, if_neg hq, if_neg (by rw [← hup]; exact hq2)]
      · unfold ow18
        show (find (ins (named t'.l (up o.path) x) x _) q).map _ = _
        rw [find_made18 hr hx, if_neg hq]
        split
        · exact map_add18 _ _
        · rfl
    next =>
      refine h.touch (x := o.path) (fun q hq hq2 => ?_) (fun q hq => ?_) (fun p hp => ⟨(hnp p hp).1, (hnp p hp).2.1⟩) (fun p hp e => absurd e (hnp p hp).2.2)
      · show find (orphan (del t'.l o.path) o.path) q = _
        rw [find_gone18 hr, if_neg hq2, if_neg hq]
      · unfold ow18
        show (find (orphan (del t'.l o.path) o.path) q).map _ = _
        rw [find_gone18 hr, if_neg hq]
        split
        · exact map_remove18 _ _
        · rfl
    next =>
      refine h.touch (x := o.path) (fun q hq _ => ?_) (fun q hq => ow_map ?_) (fun p hp => ⟨(hnp p hp).1, (hnp p hp).2.1⟩) (fun p hp e => absurd e (hnp p hp).2.2)
      · show find (Tq.set t'.l o.path _) q = _
        rw [find_set, if_neg hq]
      · show find (Tq.set t'.l o.path _) q = _
        rw [find_set, if_neg hq]
    next => exact h
  · rw [doo_fails he]
    exact h
theorem Sim.frames (hKg : ∀ p, K p → Pl.goodB p.data.toList = true) (s z : Int) : ∀ {os : List O} {t' : Tr}, Sim K t t' → Well t' → (∀ o ∈ os, ∀ x ∈ Pt.wants o, ∀ p, K p → Lk.near x p = false) → Sim K t (after t' s z os)
  | [], _, h, _, _ => h
  | o :: os, t', h, hw, hf => Sim.frames hKg s z (os := os) (h.frame hw hKg (hf o (by simp)) s z) (hw.doo o s z) (fun o2 ho => hf o2 (by simp [ho]))
theorem many_leaves (t : Tr) (s z : Int) (os : List O) : ((many t s z os).1.2 = true ∧ (many t s z os).2 = after t s z os) ∨ ((many t s z os).1.2 = false ∧ (many t s z os).2 = t) := by
  unfold many
  split
  · exact Or.inr ⟨rfl, rfl⟩
  split
  · exact Or.inr ⟨rfl, rfl⟩
  simp only []
  unfold turn
  split
  · exact Or.inr ⟨rfl, rfl⟩
  · exact Or.inl ⟨rfl, rfl⟩
theorem Sim.many (h : Sim K t t') (hw : Well t') (hKg : ∀ p, K p → Pl.goodB p.data.toList = true) (s z : Int) (os : List O) (hf : ∀ o ∈ os, ∀ x ∈ Pt.wants o, ∀ p, K p → Lk.near x p = false) : Sim K t (many t' s z os).2 := by
  rcases many_leaves t' s z os with ⟨_, e⟩ | ⟨_, e⟩
  · rw [e]; exact Sim.frames hKg s z h hw hf
  · rw [e]; exact h
theorem Sim.drop (h : Sim K t t') (hw : Well t') (hKg : ∀ p, K p → Pl.goodB p.data.toList = true) {x : ByteArray} (hx : Pl.goodB x.data.toList = true) (hf : ∀ p, K p → Lk.near x p = false) : Sim K t (dropT t' x) := by
  have hr := hw.fine.rise
  have hnp : ∀ p, K p → p ≠ x ∧ up x ≠ some p ∧ up p ≠ some x := fun p hp => near_not hx (hKg p hp) (hf p hp)
  cases hn : find t'.l x with
  | none => unfold dropT; rw [hn]; exact h
  | some n =>
    rw [drop_is hn]
    refine h.touch (x := x) (fun q hq hq2 => ?_) (fun q hq => ?_) (fun p hp => ⟨(hnp p hp).1, (hnp p hp).2.1⟩) (fun p hp e => absurd e (hnp p hp).2.2)
    · show find (orphan (del t'.l x) x) q = _
      rw [find_gone18 hr, if_neg hq2, if_neg hq]
    · unfold ow18
      show (find (orphan (del t'.l x) x) q).map _ = _
      rw [find_gone18 hr, if_neg hq]
      split
      · exact map_remove18 _ _
      · rfl
theorem Sim.drops (hKg : ∀ p, K p → Pl.goodB p.data.toList = true) : ∀ {ts : List ByteArray} {t' : Tr}, Sim K t t' → Well t' → (∀ x ∈ ts, Pl.goodB x.data.toList = true ∧ ∀ p, K p → Lk.near x p = false) → (∀ p ∈ ts, ∀ n, find t'.l p = some n → n.owner ≠ 0) → Sim K t (Tq.drops t' ts)
  | [], _, h, _, _, _ => h
  | x :: ts, t', h, hw, hf, ho => Sim.drops hKg (ts := ts) (h.drop hw hKg (hf x (by simp)).1 (hf x (by simp)).2) (hw.drop (ho x (by simp))) (fun y hy => hf y (by simp [hy])) (fun y hy n hn => by
    obtain ⟨m, h1, h2⟩ := find_drop18 hw.fine hn
    rw [h2]
    exact ho y (by simp [hy]) m h1)
end
/-! Owners, counts. -/
theorem mem_ofs18 {t : Tr} (hf : Fine11 t) {c : Int} {x : ByteArray} : x ∈ ofs t c ↔ 0 < c ∧ ∃ n, find t.l x = some n ∧ n.owner = c :=
  ⟨fun h => ofs_owner18 hf h, fun ⟨h1, n, h2, h3⟩ => by rw [← h3]; exact mem_ofs h2 (by omega)⟩
theorem owner_doo18 {t : Tr} (hw : Well t) {o : O} {s z c : Int} (hc : 0 < c) (hcs : c ≠ s) {x : ByteArray} {n : Kn} (h : find (doo t o s z).2.l x = some n) (ho : n.owner = c) : ∃ m, find t.l x = some m ∧ m.owner = c := by
  by_cases he : (doo t o s z).1.err = 0
  · obtain ⟨hg, hs, hz0, hd⟩ := doo_did he
    have hr := hw.fine.rise
    revert hd h
    generalize (doo t o s z).1 = X
    generalize (doo t o s z).2 = T
    intro h hd
    rcases hd with ⟨y, hk, hc2, hx, hl, rfl, rfl⟩ | ⟨n0, hk, hn, hv, hk2, rfl, rfl⟩ | ⟨n0, hk, hn, hv, rfl, rfl⟩ | ⟨n0, hk, hn, hv, hx0, hx1, rfl⟩
    next =>
      have h2 : find (ins (named t.l (up o.path) y) y (new z (ownOf o s) o.data)) x = some n := h
      rw [find_made18 hr hx] at h2
      by_cases e : x = y
      · rw [if_pos e] at h2
        have e2 := Option.some.inj h2
        rw [← e2] at ho
        have ho : ownOf o s = c := ho
        unfold ownOf at ho
        split at ho <;> omega
      · rw [if_neg e] at h2
        split at h2
        · obtain ⟨m, h3, h4⟩ := Option.map_eq_some_iff.1 h2
          exact ⟨m, h3, by rw [← ho, ← h4, add_owner]⟩
        · exact ⟨n, h2, ho⟩
    next =>
      have h2 : find (orphan (del t.l o.path) o.path) x = some n := h
      obtain ⟨m, h3, h4⟩ := owner_orphan h2
      rw [find_del hr] at h3
      split at h3
      · cases h3
      · exact ⟨m, h3, by rw [← h4]; exact ho⟩
    next =>
      have h2 : find (Tq.set t.l o.path (write n0 z o.data)) x = some n := h
      rw [find_set] at h2
      by_cases e : x = o.path
      · rw [if_pos e, e, hn] at h2
        exact ⟨n0, by rw [e]; exact hn, by rw [← ho, ← Option.some.inj h2]; rfl⟩
      · rw [if_neg e] at h2
        exact ⟨n, h2, ho⟩
    next => exact ⟨n, h, ho⟩
  · rw [doo_fails he] at h
    exact ⟨n, h, ho⟩
theorem owner_after18 {s z c : Int} (hc : 0 < c) (hcs : c ≠ s) : ∀ {os : List O} {t : Tr}, Well t → ∀ {x n}, find (after t s z os).l x = some n → n.owner = c → ∃ m, find t.l x = some m ∧ m.owner = c
  | [], _, _, _, n, h, ho => ⟨n, h, ho⟩
  | o :: os, t, hw, x, n, h, ho => by
    obtain ⟨m, h1, h2⟩ := owner_after18 hc hcs (os := os) (hw.doo o s z) h ho
    exact owner_doo18 hw hc hcs h1 h2
theorem ofs_many18 {t : Tr} (hw : Well t) {s z c : Int} {os : List O} (hcs : c ≠ s) {x : ByteArray} (h : x ∈ ofs (many t s z os).2 c) : x ∈ ofs t c := by
  obtain ⟨hc, n, h1, h2⟩ := (mem_ofs18 (hw.many s z os).fine).1 h
  rcases many_leaves t s z os with ⟨_, e⟩ | ⟨_, e⟩
  · rw [e] at h1
    exact (mem_ofs18 hw.fine).2 ⟨hc, owner_after18 hc hcs hw h1 h2⟩
  · rw [e] at h
    exact h
theorem ofs_drops18 : ∀ {ts : List ByteArray} {t : Tr}, Fine11 t → ∀ {c x}, x ∈ ofs (drops t ts) c → x ∈ ofs t c
  | [], _, _, _, _, h => h
  | p :: ts, t, hf, c, x, h => by
    have h1 := ofs_drops18 (ts := ts) (fine_drop hf p) h
    obtain ⟨hc, n, h2, h3⟩ := (mem_ofs18 (fine_drop hf p)).1 h1
    obtain ⟨m, h4, h5⟩ := find_drop18 hf h2
    exact (mem_ofs18 hf).2 ⟨hc, m, h4, by rw [← h5]; exact h3⟩
theorem len_doo18 {t : Tr} (hw : Well t) (o : O) (s z : Int) : (doo t o s z).2.l.length ≤ t.l.length + (if Pt.creates o = true then 1 else 0) := by
  by_cases he : (doo t o s z).1.err = 0
  · obtain ⟨hg, hs, hz0, hd⟩ := doo_did he
    revert hd
    generalize (doo t o s z).1 = X
    generalize (doo t o s z).2 = T
    intro hd
    rcases hd with ⟨y, hk, hc2, hx, hl, rfl, rfl⟩ | ⟨n0, hk, hn, hv, hk2, rfl, rfl⟩ | ⟨n0, hk, hn, hv, rfl, rfl⟩ | ⟨n0, hk, hn, hv, hx0, hx1, rfl⟩
    next =>
      simp only []
      rw [len_made18, if_pos (by unfold Pt.creates; simp [hk])]
      exact Nat.le_refl _
    next =>
      have := len_gone18 hw.fine.rise hn
      simp only []
      omega
    next =>
      simp only []
      rw [len_set]
      omega
    next => omega
  · rw [doo_fails he]
    omega
theorem made_cons (o : O) (os : List O) : Pt.made (o :: os) = (if Pt.creates o = true then 1 else 0) + Pt.made os := by
  unfold Pt.made
  rw [List.countP_cons]
  omega
theorem len_after18 {s z : Int} : ∀ {os : List O} {t : Tr}, Well t → (after t s z os).l.length ≤ t.l.length + Pt.made os
  | [], _, _ => Nat.le_add_right _ _
  | o :: os, t, hw => by
    have h1 := len_after18 (s := s) (z := z) (os := os) (hw.doo o s z)
    have h2 := len_doo18 hw o s z
    rw [made_cons]
    have e : after t s z (o :: os) = after (doo t o s z).2 s z os := rfl
    rw [e]
    omega
theorem len_many18 {t : Tr} (hw : Well t) (s z : Int) (os : List O) : (many t s z os).2.l.length ≤ t.l.length + Pt.made os := by
  rcases many_leaves t s z os with ⟨_, e⟩ | ⟨_, e⟩
  · rw [e]; exact len_after18 hw
  · rw [e]; omega
theorem len_drops18 : ∀ {ts : List ByteArray} {t : Tr}, (drops t ts).l.length ≤ t.l.length
  | [], _ => Nat.le_refl _
  | p :: ts, t => by
    have h1 := len_drops18 (ts := ts) (t := dropT t p)
    have h2 : (dropT t p).l.length ≤ t.l.length := by
      unfold dropT
      split
      · exact Nat.le_refl _
      · show (orphan (del t.l p) p).length ≤ _
        rw [len_orphan]
        exact len_del_le _ _
    exact Nat.le_trans h1 h2
/-! What was foreseen. -/
theorem did_good {t : Tr} {o : O} {s z : Int} (h : (doo t o s z).1.err = 0) : Pl.goodB (doo t o s z).1.path.data.toList = true := by
  obtain ⟨hg, hs, hz0, hd⟩ := doo_did h
  revert hd
  generalize (doo t o s z).1 = X
  generalize (doo t o s z).2 = T
  intro hd
  rcases hd with ⟨y, hk, hc2, hx, hl, rfl, rfl⟩ | ⟨n0, hk, hn, hv, hk2, rfl, rfl⟩ | ⟨n0, hk, hn, hv, rfl, rfl⟩ | ⟨n0, hk, hn, hv, hx0, hx1, rfl⟩
  next => exact (hc2.path hg).1
  next => exact good_path hg
  next => exact good_path hg
  next => rw [hx1]; exact good_path hg
theorem Sim.says {K : ByteArray → Prop} {s z z' : Int} (hz : 0 ≤ z') : ∀ {os : List O} {t t' : Tr}, Sim K t t' → Well t → Well t' → (∀ o ∈ os, ∀ x ∈ Pt.wants o, K x) → bad t s z os = none → t'.room = t.room → (t'.l.length ≤ t.l.length ∨ ((t'.l.length + Pt.made os : Nat) : Int) ≤ t'.room) →
    bad t' s z' os = none ∧ ∀ x ∈ Tq.says t' s z' os, x.err = 0 ∧ Pl.goodB x.path.data.toList = true
  | [], _, _, _, _, _, _, _, _, _ => ⟨rfl, fun _ h => by cases h⟩
  | o :: os, t, t', h, hw, hw', hK, hb, hr, hl => by
    have e1 : bad t s z (o :: os) = if (doo t o s z).1.err ≠ 0 then some (0, (doo t o s z).1.err) else (bad (doo t o s z).2 s z os).map fun k => (k.1 + 1, k.2) := rfl
    rw [e1] at hb
    by_cases he : (doo t o s z).1.err = 0
    · rw [if_neg (by simp [he]), Option.map_eq_none_iff] at hb
      have hcr : o.kind = 1 → (t.l.length : Int) < t.room := fun hk => by
        obtain ⟨hg, hs, hz0, hd⟩ := doo_did he
        revert hd
        generalize (doo t o s z).1 = X
        generalize (doo t o s z).2 = T
        intro hd
        rcases hd with ⟨y, hk, hc2, hx, hl, rfl, rfl⟩ | ⟨n0, hk2, hn, hv, hk2, rfl, rfl⟩ | ⟨n0, hk2, hn, hv, rfl, rfl⟩ | ⟨n0, hk2, hn, hv, hx0, hx1, rfl⟩
        next => exact hl
        next => omega
        next => omega
        next => omega
      rw [made_cons] at hl
      have hcre : o.kind = 1 → Pt.creates o = true := fun hk => by unfold Pt.creates; simp [hk]
      obtain ⟨g1, g2, g3⟩ := h.step hw hw' (hK o (by simp)) he hz (fun hk => by
        have h1 := hcr hk
        rw [if_pos (hcre hk)] at hl
        rcases hl with hl | hl <;> omega)
      have hl2 := len_doo18 hw' o s z'
      have e2 : bad t' s z' (o :: os) = if (doo t' o s z').1.err ≠ 0 then some (0, (doo t' o s z').1.err) else (bad (doo t' o s z').2 s z' os).map fun k => (k.1 + 1, k.2) := rfl
      have e3 : Tq.says t' s z' (o :: os) = (doo t' o s z').1 :: Tq.says (doo t' o s z').2 s z' os := rfl
      unfold grew at g3
      obtain ⟨i1, i2⟩ := Sim.says hz (os := os) g2 (hw.doo o s z) (hw'.doo o s z') (fun o2 ho => hK o2 (by simp [ho])) hb (by rw [room_doo, room_doo, hr]) (by
        rw [room_doo]
        rcases hl with hl | hl
        · exact Or.inl (by omega)
        · exact Or.inr (by omega))
      rw [e2, if_neg (by simp [g1]), i1, e3]
      refine ⟨rfl, fun x hx => ?_⟩
      rcases List.mem_cons.1 hx with rfl | hx
      · exact ⟨g1, did_good g1⟩
      · exact i2 x hx
    · rw [if_pos he] at hb
      cases hb
end Go.Proofs.YtboejbjobjhajaaGreatDoor.Tq
namespace Go.Proofs.YtboejbjobjhajaaGreatDoor.Pt
open Go
def Wk (os : List O) (x : ByteArray) : Prop := x ∈ os.flatMap wants
theorem Wk.good {os : List O} (h : ∀ o ∈ os, Oq.good o = 0) : ∀ x, Wk os x → Pl.goodB x.data.toList = true := fun x hx => by
  obtain ⟨o, ho, hxo⟩ := List.mem_flatMap.1 hx
  exact wants_good (h o ho) x hxo
theorem sumW_app (a b : List Pr) : sumW (a ++ b) = sumW a + sumW b := by unfold sumW; rw [List.map_append, List.sum_append]
theorem sumW_mem : ∀ {ps : List Pr} {p : Pr}, p ∈ ps → made (own p) ≤ sumW ps
  | a :: ps, p, h => by
    have e : sumW (a :: ps) = made (own a) + sumW ps := by unfold sumW; simp
    rw [e]
    rcases List.mem_cons.1 h with rfl | h
    · omega
    · have := sumW_mem h
      omega
theorem rest_none : ∀ {ps : List Pr} {id : Int}, (∀ q ∈ ps, q.id ≠ id) → rest ps id = ps
  | ps, id, h => by
    unfold rest
    rw [List.filter_eq_self]
    intro q hq
    simp [h q hq]
theorem sumW_rest : ∀ {ps : List Pr} {p : Pr}, ps.Pairwise (fun p q => p.id ≠ q.id) → p ∈ ps → sumW ps = made (own p) + sumW (rest ps p.id)
  | a :: ps, p, hu, h => by
    rw [List.pairwise_cons] at hu
    have e : sumW (a :: ps) = made (own a) + sumW ps := by unfold sumW; simp
    rw [e]
    rcases List.mem_cons.1 h with rfl | h
    · have e2 : rest (p :: ps) p.id = rest ps p.id := by unfold rest; simp
      rw [e2, rest_none (fun q hq => (hu.1 q hq).symm)]
    · have hne := hu.1 p h
      have e2 : rest (a :: ps) p.id = a :: rest ps p.id := by unfold rest; simp [hne]
      have e3 : sumW (a :: rest ps p.id) = made (own a) + sumW (rest ps p.id) := by unfold sumW; simp
      rw [e2, e3, sumW_rest hu.2 h]
      omega
structure Fs (id sess : Int) (os : List O) (t0 : Tq.Tr) (s : St) : Prop where
  here : ∃ p ∈ s.ps, p = ⟨id, sess, os, false, false⟩
  sim : Tq.Sim (Wk os) t0 s.t
  held : ∀ x, Wk os x → Lk.held s.lk x = some id
  others : ∀ p ∈ s.ps, p.id ≠ id → ∀ o ∈ p.ops, ∀ w ∈ wants o, ∀ x, Wk os x → Lk.near w x = false
  closers : ∀ p ∈ s.ps, p.closes = true → ∀ w ∈ Tq.ofs s.t p.sess, ∀ x, Wk os x → Lk.near w x = false
  room : made os = 0 ∨ (s.t.l.length ≤ t0.l.length ∧ wanted s = made os) ∨ ((s.t.l.length + wanted s : Nat) : Int) ≤ s.t.room
  same : s.t.room = t0.room
section
variable {n : Nat} {id sess : Int} {os : List O} {t0 : Tq.Tr} {s : St}
theorem far_of {id2 : Int} (hh : ∀ x, Wk os x → Lk.held s.lk x = some id) (hne : id2 ≠ id) {w : ByteArray} (hg : Lk.good w = true) (hb : Lk.blocks s.lk id2 w = false) : ∀ x, Wk os x → Lk.near w x = false := fun x hx => by
  obtain ⟨y, hy, hp, hw⟩ := Lk.held_some (hh x hx)
  cases hn : Lk.near w x with
  | false => rfl
  | true => exact absurd ((Lk.not_bars hg hb y hy (by rw [hp]; exact hn)).symm.trans hw) hne
theorem far_ops {id2 z : Int} {l : List O} (hh : ∀ x, Wk os x → Lk.held s.lk x = some id) (hne : id2 ≠ id) (hg : ∀ o ∈ l, Oq.good o = 0) (hr : (refusal s id2 z l).1 = 0) : ∀ o ∈ l, ∀ w ∈ wants o, ∀ x, Wk os x → Lk.near w x = false := fun o ho w hw => by
  obtain ⟨_, h2, _, _⟩ := refusal_ok hr
  refine far_of hh hne (wants_good (hg o ho) w hw) ?_
  exact any_none h2 w (List.mem_flatMap.2 ⟨o, ho, hw⟩)
theorem Fs.least (h : Fs id sess os t0 s) : made os ≤ wanted s := by
  obtain ⟨p, hp, e⟩ := h.here
  have h1 := sumW_mem hp
  rw [e] at h1
  exact h1
theorem Fs.roomy (h : Fs id sess os t0 s) {l : List O} {t1 : Tq.Tr} (hl : t1.l.length ≤ s.t.l.length + made l) (hf : 0 < made l → full s l = false) (hr : t1.room = s.t.room) : made os = 0 ∨ (t1.l.length ≤ t0.l.length ∧ wanted s = made os) ∨ ((t1.l.length + wanted s : Nat) : Int) ≤ t1.room := by
  have hle := h.least
  rcases Nat.eq_zero_or_pos (made l) with e | e
  · rcases h.room with h1 | ⟨h1, h2⟩ | h1
    · exact Or.inl h1
    · exact Or.inr (Or.inl ⟨by omega, h2⟩)
    · exact Or.inr (Or.inr (by rw [hr]; omega))
  · have hf := hf e
    unfold full at hf
    rw [Bool.and_eq_false_iff, decide_eq_false_iff_not, decide_eq_false_iff_not] at hf
    rcases hf with h1 | h1
    · exact Or.inl (by omega)
    · exact Or.inr (Or.inr (by rw [hr]; omega))
theorem Fs.okg (h : Fs id sess os t0 s) (hf : Fit n s) : (∀ o ∈ os, Oq.good o = 0) ∧ 1 ≤ id ∧ Oq.may sess 1 os = 0 ∧ ∀ o ∈ os, OFit o := by
  obtain ⟨p, hp, e⟩ := h.here
  have h1 := hf.ps p hp
  rw [e] at h1
  exact ⟨may_good (h1.ops rfl).1, h1.id.1, h1.ops rfl⟩
theorem Fs.kg (h : Fs id sess os t0 s) (hf : Fit n s) : ∀ x, Wk os x → Pl.goodB x.data.toList = true := Wk.good (h.okg hf).1
theorem Fs.loc (h : Fs id sess os t0 s) (hf : Fit n s) (z k : Int) (l : List O) : Fs id sess os t0 (local_ s z k l).2 := by
  unfold local_
  split
  · exact h
  rename_i hm
  split
  · exact { h with }
  rename_i hr
  have hm : Oq.may z k l = 0 := Classical.not_not.1 hm
  have hr : (refusal s 0 z l).1 = 0 := Classical.not_not.1 hr
  have hfar := far_ops h.held (by have := (h.okg hf).2.1; omega) (may_good hm) hr
  obtain ⟨r1, _, r3, _⟩ := refusal_ok hr
  have e : (Tq.ask s.t z k (s.z + 1) l).2 = (Tq.many s.t z (s.z + 1) l).2 := by unfold Tq.ask; rw [if_neg (by simp [hm])]
  rw [e]
  refine { h with sim := h.sim.many hf.well (h.kg hf) _ _ _ hfar, closers := fun p hp hc w hw => h.closers p hp hc w (Tq.ofs_many18 hf.well ((ended_ok r1).2 p hp hc) hw), room := h.roomy (Tq.len_many18 hf.well _ _ _) r3 (Tq.room_many18 _ _ _ _), same := (Tq.room_many18 _ _ _ _).trans h.same }
theorem Fs.snoc (h : Fs id sess os t0 s) {p : Pr} {id2 : Int} {ts : List ByteArray} (ho : ∀ o ∈ p.ops, ∀ w ∈ wants o, ∀ x, Wk os x → Lk.near w x = false) (hc : p.closes = true → ∀ w ∈ Tq.ofs s.t p.sess, ∀ x, Wk os x → Lk.near w x = false) (hr : made os = 0 ∨ made (own p) = 0 ∨ (((s.t.l.length + wanted s + made (own p) : Nat) : Int) ≤ s.t.room)) : Fs id sess os t0 { s with lk := Lk.adds id2 s.lk ts, ps := s.ps ++ [p] } := by
  have hw : wanted { s with lk := Lk.adds id2 s.lk ts, ps := s.ps ++ [p] } = wanted s + made (own p) := by
    unfold wanted
    simp only []
    rw [sumW_app]
    unfold sumW
    simp
  refine { h with here := ?_, held := fun x hx => Lk.adds_old (h.held x hx), others := fun q hq hqi => ?_, closers := fun q hq hqc => ?_, room := ?_ }
  · obtain ⟨q, hq, e⟩ := h.here
    exact ⟨q, List.mem_append.2 (Or.inl hq), e⟩
  · rcases List.mem_append.1 hq with hq | hq
    · exact h.others q hq hqi
    · rw [List.mem_singleton.1 hq]
      exact ho
  · rcases List.mem_append.1 hq with hq | hq
    · exact h.closers q hq hqc
    · rw [List.mem_singleton.1 hq] at hqc ⊢
      exact hc hqc
  · rw [hw]
    rcases hr with e | e | e
    · exact Or.inl e
    · rcases h.room with h1 | ⟨h1, h2⟩ | h1
      · exact Or.inl h1
      · exact Or.inr (Or.inl ⟨h1, by omega⟩)
      · exact Or.inr (Or.inr (by simp only []; omega))
    · exact Or.inr (Or.inr (by simp only []; omega))
theorem Fs.prep (h : Fs id sess os t0 s) {id2 : Int} (hne : id2 ≠ id) (z : Int) (l : List O) : Fs id sess os t0 (prepare s id2 z l).2 := by
  unfold prepare
  split
  · exact h
  split
  · exact h
  rename_i hm
  split
  · exact h
  rename_i hr
  have hm : Oq.may z 1 l = 0 := Classical.not_not.1 hm
  have hr : (refusal s id2 z l).1 = 0 := Classical.not_not.1 hr
  have hfar := far_ops h.held hne (may_good hm) hr
  obtain ⟨_, _, r3, _⟩ := refusal_ok hr
  refine h.snoc hfar (fun e => by cases e) ?_
  have hle := h.least
  have hown : made (own ⟨id2, z, l, false, !(Tq.many s.t z s.z l).1.2⟩) ≤ made l := by
    unfold own
    split
    · exact Nat.zero_le _
    · exact Nat.le_refl _
  rcases Nat.eq_zero_or_pos (made l) with e | e
  · exact Or.inr (Or.inl (by omega))
  · have hf2 := r3 e
    unfold full at hf2
    rw [Bool.and_eq_false_iff, decide_eq_false_iff_not, decide_eq_false_iff_not] at hf2
    rcases hf2 with h1 | h1
    · exact Or.inl (by omega)
    · exact Or.inr (Or.inr (by omega))
theorem Fs.clo (h : Fs id sess os t0 s) (hf : Fit n s) {id2 : Int} (hne : id2 ≠ id) (z : Int) : Fs id sess os t0 (close s id2 z).2 := by
  unfold close
  split
  · exact h
  split
  · exact h
  split
  · exact h
  split
  · exact h
  rename_i hb
  have hb2 : (Tq.ofs s.t z).any (Lk.blocks s.lk id2) = false := by simpa using hb
  rw [List.any_eq_false] at hb2
  exact h.snoc (fun o ho => by cases ho) (fun _ w hw => far_of h.held hne (Tq.ofs_good hf.well.fine hw) (by simpa using hb2 w hw)) (Or.inr (Or.inl rfl))
theorem Fs.gone (h : Fs id sess os t0 s) (hf : Fit n s) {id2 : Int} {p : Pr} (hp : look s id2 = some p) (hne : id2 ≠ id) : Fs id sess os t0 (gone s id2) ∧ wanted s = made (own p) + wanted (gone s id2) := by
  obtain ⟨p1, p2⟩ := look_some hp
  have hw : wanted s = made (own p) + wanted (Pt.gone s id2) := by
    have h1 := sumW_rest hf.uniq p1
    rw [p2] at h1
    exact h1
  refine ⟨{ h with here := ?_, held := fun x hx => ?_, others := fun q hq => h.others q (mem_rest.1 hq).1, closers := fun q hq => h.closers q (mem_rest.1 hq).1, room := ?_ }, hw⟩
  · obtain ⟨q, hq, e⟩ := h.here
    exact ⟨q, mem_rest.2 ⟨hq, by rw [e]; exact fun e2 => hne e2.symm⟩, e⟩
  · obtain ⟨y, hy, h1, h2⟩ := Lk.held_some (h.held x hx)
    have hy2 : y ∈ Lk.rest s.lk id2 := List.mem_filter.2 ⟨hy, by rw [h2]; simp; exact fun e => hne e.symm⟩
    have h3 := Lk.held_mem (hf.lk.rest id2) hy2
    rw [h1, h2] at h3
    exact h3
  · have hle : made os ≤ wanted (Pt.gone s id2) := by
      obtain ⟨q, hq, e⟩ := h.here
      have h1 := sumW_mem (ps := (Pt.gone s id2).ps) (p := q) (mem_rest.2 ⟨hq, by rw [e]; exact fun e2 => hne e2.symm⟩)
      rw [e] at h1
      exact h1
    rcases h.room with h1 | ⟨h1, h2⟩ | h1
    · exact Or.inl h1
    · exact Or.inr (Or.inl ⟨h1, by omega⟩)
    · exact Or.inr (Or.inr (by show ((s.t.l.length + _ : Nat) : Int) ≤ s.t.room; omega))
theorem Fs.dec (h : Fs id sess os t0 s) (hf : Fit n s) {id2 : Int} (hne : id2 ≠ id) (c : Bool) : Fs id sess os t0 (decide_ s id2 c).2 := by
  unfold decide_
  cases hp : look s id2 with
  | none => exact h
  | some p =>
    obtain ⟨hg, hw⟩ := h.gone hf hp hne
    obtain ⟨p1, p2⟩ := look_some hp
    simp only []
    split
    · exact hg
    split
    · rename_i hc
      have hfd : ∀ x ∈ Tq.ofs s.t p.sess, Pl.goodB x.data.toList = true ∧ ∀ y, Wk os y → Lk.near x y = false := fun x hx => ⟨Tq.ofs_good hf.well.fine hx, h.closers p p1 hc x hx⟩
      have hlen := Tq.len_drops18 (ts := Tq.ofs s.t p.sess) (t := s.t)
      have hroom := Tq.room_drops18 (ts := Tq.ofs s.t p.sess) (t := s.t)
      refine { hg with sim := h.sim.drops (h.kg hf) hf.well hfd (fun x hx m hm => ?_), closers := fun q hq hqc w hw => hg.closers q hq hqc w (Tq.ofs_drops18 hf.well.fine hw), room := ?_, same := hroom.trans h.same }
      · obtain ⟨h1, m2, h2, h3⟩ := Tq.ofs_owner18 hf.well.fine hx
        rw [hm] at h2
        rw [Option.some.inj h2, h3]
        omega
      · rcases hg.room with h1 | ⟨h1, h2⟩ | h1
        · exact Or.inl h1
        · exact Or.inr (Or.inl ⟨Nat.le_trans hlen h1, h2⟩)
        · refine Or.inr (Or.inr ?_)
          show (((Tq.drops s.t (Tq.ofs s.t p.sess)).l.length + wanted (Pt.gone s id2) : Nat) : Int) ≤ (Tq.drops s.t (Tq.ofs s.t p.sess)).room
          have h1 : ((s.t.l.length + wanted (Pt.gone s id2) : Nat) : Int) ≤ s.t.room := h1
          rw [hroom]
          omega
    split
    · exact hg
    · rename_i hc hfl
      have hlen := Tq.len_many18 hf.well p.sess (s.z + 1) p.ops
      have hroom := Tq.room_many18 s.t p.sess (s.z + 1) p.ops
      have hown : own p = p.ops := by unfold own; rw [if_neg hfl]
      rw [hown] at hw
      refine { hg with sim := h.sim.many hf.well (h.kg hf) _ _ _ (h.others p p1 (by rw [p2]; exact hne)), closers := fun q hq hqc w hw => hg.closers q hq hqc w (Tq.ofs_many18 hf.well (fun e => ?_) hw), room := ?_, same := hroom.trans h.same }
      · obtain ⟨q1, q2⟩ := mem_rest.1 hq
        have := hf.alone q q1 hqc p p1 e.symm
        rw [this] at hc
        exact hc hqc
      · have hle : made os ≤ wanted (Pt.gone s id2) := hg.least
        rcases h.room with h1 | ⟨h1, h2⟩ | h1
        · exact Or.inl h1
        · refine Or.inr (Or.inl ⟨?_, ?_⟩)
          · show (Tq.many s.t p.sess (s.z + 1) p.ops).2.l.length ≤ _
            omega
          · show wanted (Pt.gone s id2) = _
            omega
        · refine Or.inr (Or.inr ?_)
          show (((Tq.many s.t p.sess (s.z + 1) p.ops).2.l.length + wanted (Pt.gone s id2) : Nat) : Int) ≤ (Tq.many s.t p.sess (s.z + 1) p.ops).2.room
          rw [hroom]
          omega
theorem Fs.fin (h : Fs id sess os t0 s) (hf : Fit n s) (hw0 : Tq.Well t0) {z0 : Int} (hb : Tq.bad t0 sess z0 os = none) : (decide_ s id true).1.2 = 0 ∧ (decide_ s id true).1.1.length = os.length ∧ ∀ x ∈ (decide_ s id true).1.1, x.err = 0 ∧ Pl.goodB x.path.data.toList = true := by
  obtain ⟨p, hp, e⟩ := h.here
  have hl : look s id = some p := by
    cases hq : look s id with
    | none => exact absurd (by rw [e]) (look_none hq p hp)
    | some q =>
      obtain ⟨q1, q2⟩ := look_some hq
      have hpi : p.id = id := by rw [e]
      congr 1
      have hu := hf.uniq
      apply Classical.byContradiction
      intro hne
      have : ∀ {l : List Pr}, l.Pairwise (fun p q => p.id ≠ q.id) → q ∈ l → p ∈ l → False := by
        intro l
        induction l with
        | nil => intro _ h; cases h
        | cons a l ih =>
          intro hpw h1 h2
          rw [List.pairwise_cons] at hpw
          rcases List.mem_cons.1 h1 with e1 | h1 <;> rcases List.mem_cons.1 h2 with e2 | h2
          · exact hne (by rw [e1, e2])
          · exact hpw.1 p h2 (by rw [← e1, q2, hpi])
          · exact hpw.1 q h1 (by rw [← e2, q2, hpi])
          · exact ih hpw.2 h1 h2
      exact this hu q1 hp
  obtain ⟨hgd, _, hmay, _⟩ := h.okg hf
  obtain ⟨_, _, m3, m4, _⟩ := may_ok hmay
  obtain ⟨i1, i2⟩ := h.sim.says (z := z0) (z' := s.z + 1) (by have := hf.z.1; omega) hw0 hf.well (fun o ho x hx => List.mem_flatMap.2 ⟨o, ho, hx⟩) hb h.same (by
    have hle := h.least
    rcases h.room with h1 | ⟨h1, _⟩ | h1
    · refine Or.inr ?_
      have := hf.well.fine.len
      omega
    · exact Or.inl h1
    · exact Or.inr (by omega))
  have e2 : (decide_ s id true).1 = ((Tq.many s.t sess (s.z + 1) os).1.1.xs, 0) := by
    unfold decide_
    rw [hl, e]
    rfl
  have e3 : (Tq.many s.t sess (s.z + 1) os).1.1.xs = Tq.says s.t sess (s.z + 1) os := by
    unfold Tq.many
    rw [if_neg (by omega), if_neg (by intro e; exact m3 (List.length_eq_zero_iff.1 e)), Tq.turn_none i1]
  rw [e2, e3]
  exact ⟨rfl, Tq.says_len, i2⟩
theorem foreseen {id z : Int} (h : (prepare s id z os).1.1 = 0) (hps : s.ps = []) : Fs id z os s.t (prepare s id z os).2 ∧ Tq.bad s.t z s.z os = none := by
  unfold prepare at h ⊢
  split at h
  · cases h
  rename_i hn
  split at h
  · rename_i hm
    exact absurd h hm
  rename_i hm
  split at h
  · rename_i hr
    exact absurd h hr
  rename_i hr
  rw [if_neg hn, if_neg hm, if_neg hr]
  have hm : Oq.may z 1 os = 0 := Classical.not_not.1 hm
  obtain ⟨r1, r2, _, _⟩ := refusal_ok (Classical.not_not.1 hr)
  obtain ⟨_, _, m3, m4, _⟩ := may_ok hm
  have hb : Tq.bad s.t z s.z os = none := by
    cases hb : Tq.bad s.t z s.z os with
    | none => rfl
    | some k =>
      have h1 : (Tq.many s.t z s.z os).1.1.err = 0 := h
      unfold Tq.many at h1
      rw [if_neg (by omega), if_neg (by intro e; exact m3 (List.length_eq_zero_iff.1 e)), Tq.turn_some hb] at h1
      have h2 := (Tq.bad_lt hb).2
      exact absurd h1 h2
  have hok : (Tq.many s.t z s.z os).1.2 = true := by
    unfold Tq.many
    rw [if_neg (by omega), if_neg (by intro e; exact m3 (List.length_eq_zero_iff.1 e)), Tq.turn_none hb]
  refine ⟨⟨⟨_, List.mem_append.2 (Or.inr (List.mem_singleton.2 rfl)), by rw [hok]; rfl⟩, Tq.Sim.refl _ _, fun x hx => ?_, fun p hp hpi => ?_, fun p hp hc => ?_, Or.inr (Or.inl ⟨Nat.le_refl _, ?_⟩), rfl⟩, hb⟩
  · exact Lk.adds_all (fun x hx => by
      obtain ⟨o, ho, hxo⟩ := List.mem_flatMap.1 hx
      exact wants_good (may_good hm o ho) x hxo) (any_none r2) x hx
  · rw [hps] at hp
    rw [List.mem_singleton.1 hp] at hpi
    exact absurd rfl hpi
  · rw [hps] at hp
    rw [List.mem_singleton.1 hp] at hc
    cases hc
  · unfold wanted
    simp only []
    rw [hps, hok]
    unfold sumW own
    simp
end
/-! When nothing waits nothing is held. -/
end Go.Proofs.YtboejbjobjhajaaGreatDoor.Pt
namespace Go.Proofs.YtboejbjobjhajaaGreatDoor
open Go.RowKit
abbrev Rep18 := World → Nat → Pt.St → (Nat → Prop) → Prop
structure Specs18 (LT : Rep11) (LP : Rep18) : Prop where
  lt : ∀ {w q s F k}, LP w q s F → F k → k < w.heap.size
  keep : ∀ {w w' : World} {q s F}, LP w q s F → (∀ k, F k → w'.heap[k]? = w.heap[k]?) → LP w' q s F
  new : ∀ (n : Int) (w : World), Calls Tryz.prog 10 #[.int .i64 n] w fun e w' => Below w.heap.size w w' ∧
    if n < 1 ∨ 500 < n then e = .returned (.tuple #[.pointer none, .int .i64 1]) else ∃ q F, e = .returned (.tuple #[dptr q, .int .i64 0]) ∧ LP w' q (Pt.new n) F ∧ ∀ k, F k → w.heap.size ≤ k
  loc : ∀ (q : Nat) (s : Pt.St) (F : Nat → Prop) (m : Nat) (z n : Int) (v : Value) (os : List O) (w : World), LP w q s F → Pt.Fit m s → m ≤ 1000 → (∀ k, F k → 6 ≤ k) → Pa.Std w → Om12 w F v os → (∀ o ∈ os, OFit o) → os.length ≤ maxLen → I64 z →
    Calls Tryz.prog 16 #[dptr q, .agg #[.int .i64 z, .int .i64 n, v]] w fun e w' => ∃ F' u, e = .returned (rpv (Pt.local_ s z n os).1 u) ∧ Rn12 w.heap.size F' w' u (Pt.local_ s z n os).1.xs ∧ LP w' q (Pt.local_ s z n os).2 F' ∧ Moved w w' F F'
  prep : ∀ (q : Nat) (s : Pt.St) (F : Nat → Prop) (m : Nat) (id z : Int) (v : Value) (os : List O) (w : World), LP w q s F → Pt.Fit m s → m ≤ 1000 → (∀ k, F k → 6 ≤ k) → Pa.Std w → Om12 w F v os → (∀ o ∈ os, OFit o) → os.length ≤ maxLen → I64 id → I64 z →
    Calls Tryz.prog 11 #[dptr q, .int .i64 id, .int .i64 z, v] w fun e w' => ∃ F', e = .returned (.tuple #[.int .i64 (Pt.prepare s id z os).1.1, .int .i64 (Pt.prepare s id z os).1.2]) ∧ LP w' q (Pt.prepare s id z os).2 F' ∧ Moved w w' F F'
  clo : ∀ (q : Nat) (s : Pt.St) (F : Nat → Prop) (m : Nat) (id z : Int) (w : World), LP w q s F → Pt.Fit m s → m ≤ 1000 → (∀ k, F k → 6 ≤ k) → Pa.Std w → I64 id → I64 z →
    Calls Tryz.prog 17 #[dptr q, .int .i64 id, .int .i64 z] w fun e w' => ∃ F', e = .returned (.tuple #[.int .i64 (Pt.close s id z).1.1, .int .i64 (Pt.close s id z).1.2]) ∧ LP w' q (Pt.close s id z).2 F' ∧ Moved w w' F F'
  dec : ∀ (q : Nat) (s : Pt.St) (F : Nat → Prop) (m : Nat) (id : Int) (c : Bool) (w : World), LP w q s F → Pt.Fit m s → m ≤ 1000 → (∀ k, F k → 6 ≤ k) → Pa.Std w → I64 id →
    Calls Tryz.prog 15 #[dptr q, .int .i64 id, .bool c] w fun e w' => ∃ F' u, e = .returned (.tuple #[u, .int .i64 (Pt.decide_ s id c).1.2]) ∧ Rn12 w.heap.size F' w' u (Pt.decide_ s id c).1.1 ∧ LP w' q (Pt.decide_ s id c).2 F' ∧ Moved w w' F F'
  waiting : ∀ (q : Nat) (s : Pt.St) (F : Nat → Prop) (m : Nat) (w : World), LP w q s F → Pt.Fit m s → m ≤ 1000 →
    Calls Tryz.prog 31 #[dptr q] w fun e w' => ∃ v, e = .returned v ∧ w'.ownsRow w.heap.size 2 1 v (Pt.waiting s).length ((Pt.waiting s).map (Value.int .i64)) ∧ Below w.heap.size w w'
  closed : ∀ (q : Nat) (s : Pt.St) (F : Nat → Prop) (m : Nat) (z : Int) (w : World), LP w q s F → Pt.Fit m s → I64 z →
    Calls Tryz.prog 18 #[dptr q, .int .i64 z] w fun e w' => e = .returned (.bool (decide (z ∈ s.cl))) ∧ Below w.heap.size w w'
  zxid : ∀ (q : Nat) (s : Pt.St) (F : Nat → Prop) (w : World), LP w q s F →
    Calls Tryz.prog 35 #[dptr q] w fun e w' => e = .returned (.int .i64 s.z) ∧ Below w.heap.size w w'
  tree : ∀ (q : Nat) (s : Pt.St) (F : Nat → Prop) (m : Nat) (w : World), LP w q s F → Pt.Fit m s →
    Calls Tryz.prog 19 #[dptr q] w fun e w' => ∃ q2 F2, e = .returned (dptr q2) ∧ LT w' q2 s.t F2 ∧ (∀ k, F2 k → w.heap.size ≤ k) ∧ Below w.heap.size w w'
  locks : ∀ (q : Nat) (s : Pt.St) (F : Nat → Prop) (m : Nat) (w : World), LP w q s F → Pt.Fit m s → m ≤ 1000 →
    Calls Tryz.prog 14 #[dptr q] w fun e w' => e = .returned (.int .i64 (s.lk.length : Int)) ∧ Below w.heap.size w w'
  wanted : ∀ (q : Nat) (s : Pt.St) (F : Nat → Prop) (w : World), LP w q s F →
    Calls Tryz.prog 13 #[dptr q] w fun e w' => e = .returned (.int .i64 (Pt.wanted s : Int)) ∧ Below w.heap.size w w'
end Go.Proofs.YtboejbjobjhajaaGreatDoor
