/- What a purge leaves of a tree: plain reckoning. -/
import Derived.Test.YtfcbdjjbchcpjaaGreatDoorWPurge12
import Derived.Test.YtfcbdjjbchcpjaaGreatDoorWtk
namespace Go.Proofs.YtfcbdjjbchcpjaaGreatDoor.Tq
open Kq
theorem keys_orphan12 (l : List En) (p : ByteArray) : keys (orphan l p) = keys l := by
  unfold orphan
  split
  · rfl
  · split
    · rfl
    · exact keys_set _ _ _
theorem len_orphan (l : List En) (p : ByteArray) : (orphan l p).length = l.length := by
  have h := congrArg List.length (keys_orphan12 l p)
  unfold keys at h
  simpa using h
theorem mem_keys_del {l : List En} {p x : ByteArray} : x ∈ keys (del l p) ↔ x ∈ keys l ∧ x ≠ p := by
  unfold keys
  rw [List.mem_map, List.mem_map]
  constructor
  · rintro ⟨e, he, rfl⟩
    exact ⟨⟨e, (mem_del.1 he).1, rfl⟩, (mem_del.1 he).2⟩
  · rintro ⟨⟨e, he, rfl⟩, hne⟩
    exact ⟨e, mem_del.2 ⟨he, hne⟩, rfl⟩
theorem owner_orphan {l : List En} {p x : ByteArray} {n : Kn} (h : find (orphan l p) x = some n) : ∃ m, find l x = some m ∧ n.owner = m.owner := by
  unfold orphan at h
  split at h
  · exact ⟨n, h, rfl⟩
  · rename_i u _
    split at h
    · exact ⟨n, h, rfl⟩
    · rename_i m hm
      rw [find_set] at h
      by_cases hx : x = u
      · rw [if_pos hx, hx, hm] at h
        simp only [Option.map_some, Option.some.injEq] at h
        exact ⟨m, by rw [hx]; exact hm, by rw [← h]; exact remove_owner _ _⟩
      · rw [if_neg hx] at h
        exact ⟨n, h, rfl⟩
theorem find_keys12 {l : List En} {p : ByteArray} {n : Kn} (h : find l p = some n) : p ∈ keys l := List.mem_map.2 ⟨_, find_some h, rfl⟩
theorem drop_is {t : Tr} {p : ByteArray} {n : Kn} (h : find t.l p = some n) : dropT t p = { t with l := orphan (del t.l p) p } := by unfold dropT; rw [h]
/-- What is left behind paths that go. -/
theorem drops_all : ∀ {ts : List ByteArray} {t : Tr}, Fine11 t → ts.Nodup → (∀ p ∈ ts, p ∈ keys t.l) →
    (drops t ts).l.length + ts.length = t.l.length ∧ (∀ x, x ∈ keys (drops t ts).l ↔ x ∈ keys t.l ∧ x ∉ ts) ∧ ∀ x n, find (drops t ts).l x = some n → ∃ m, find t.l x = some m ∧ n.owner = m.owner
  | [], t, _, _, _ => ⟨rfl, fun x => by simp [drops], fun x n h => ⟨n, h, rfl⟩⟩
  | p :: ts, t, hf, hnd, hin => by
    obtain ⟨n, hn⟩ := find_mem (hin p List.mem_cons_self)
    obtain ⟨h1, h2⟩ := List.nodup_cons.1 hnd
    have hd := drop_is hn
    have hk : ∀ x, x ∈ keys (dropT t p).l ↔ x ∈ keys t.l ∧ x ≠ p := fun x => by rw [hd]; show x ∈ keys (orphan (del t.l p) p) ↔ _; rw [keys_orphan12, mem_keys_del]
    have hl : (dropT t p).l.length + 1 = t.l.length := by rw [hd]; show (orphan (del t.l p) p).length + 1 = _; rw [len_orphan]; exact len_del_eq hf.rise hn
    obtain ⟨g1, g2, g3⟩ := drops_all (ts := ts) (fine_drop hf p) h2 (fun x hx => (hk x).2 ⟨hin x (List.mem_cons_of_mem _ hx), fun e => h1 (e ▸ hx)⟩)
    have e : drops t (p :: ts) = drops (dropT t p) ts := rfl
    rw [e]
    refine ⟨by rw [List.length_cons]; omega, fun x => ?_, fun x m hm => ?_⟩
    · rw [g2, hk]
      simp only [List.mem_cons, not_or]
      constructor
      · rintro ⟨⟨a, b⟩, c⟩
        exact ⟨a, b, c⟩
      · rintro ⟨a, b, c⟩
        exact ⟨⟨a, b⟩, c⟩
    · obtain ⟨m1, q1, q2⟩ := g3 x m hm
      rw [hd] at q1
      obtain ⟨m2, r1, r2⟩ := owner_orphan q1
      rw [find_del hf.rise] at r1
      split at r1
      · cases r1
      · exact ⟨m2, r1, by rw [q2, r2]⟩
theorem ofs_sub {t : Tr} {s : Int} {p : ByteArray} (hp : p ∈ ofs t s) : p ∈ keys t.l := by
  unfold ofs at hp
  split at hp
  · obtain ⟨e, he, rfl⟩ := List.mem_map.1 hp
    exact List.mem_map.2 ⟨e, (List.mem_filter.1 he).1, rfl⟩
  · cases hp
theorem ofs_nodup {t : Tr} (hf : Fine11 t) (s : Int) : (ofs t s).Nodup := by
  unfold List.Nodup
  unfold ofs
  split
  · rw [List.pairwise_map]
    have h := hf.rise
    unfold Rises keys at h
    rw [List.pairwise_map] at h
    exact (h.sublist List.filter_sublist).imp (fun {a b} hab e => lt_ne hab e)
  · exact List.Pairwise.nil
theorem purge_says {t : Tr} {s : Int} {ts : List ByteArray} (hf : Fine11 t) (hs : 0 < s) (hp : List.Perm ts (ofs t s)) :
    (drops t ts).l.length + (ofs t s).length = t.l.length ∧ ofs (drops t ts) s = [] ∧ ∀ p ∈ keys t.l, ((find (drops t ts).l p).isSome = true ↔ p ∉ ts) := by
  obtain ⟨h1, h2, h3⟩ := drops_all (t := t) hf (hp.nodup_iff.2 (ofs_nodup hf s)) (fun p hp2 => ofs_sub (hp.mem_iff.1 hp2))
  refine ⟨by rw [← hp.length_eq]; exact h1, ?_, fun p hpk => ?_⟩
  · cases ho : ofs (drops t ts) s with
    | nil => rfl
    | cons x l =>
      have hx : x ∈ ofs (drops t ts) s := by rw [ho]; exact List.mem_cons_self
      have hxk := ofs_sub hx
      unfold ofs at hx
      rw [if_pos hs] at hx
      obtain ⟨e, he, rfl⟩ := List.mem_map.1 hx
      obtain ⟨he1, he2⟩ := List.mem_filter.1 he
      have hfd : find (drops t ts).l e.1 = some e.2 := find_of (fine_drops hf).rise he1
      obtain ⟨m, hm1, hm2⟩ := h3 _ _ hfd
      have hin : e.1 ∈ ofs t s := by
        unfold ofs
        rw [if_pos hs]
        exact List.mem_map.2 ⟨(e.1, m), List.mem_filter.2 ⟨find_some hm1, by simp at he2 ⊢; rw [← hm2]; exact he2⟩, rfl⟩
      exact absurd (hp.mem_iff.2 hin) ((h2 _).1 hxk).2
  · constructor
    · intro h
      obtain ⟨n, hn⟩ := Option.isSome_iff_exists.1 h
      exact ((h2 p).1 (find_keys12 hn)).2
    · intro h
      obtain ⟨n, hn⟩ := find_mem ((h2 p).2 ⟨hpk, h⟩)
      rw [hn]
      rfl
end Go.Proofs.YtfcbdjjbchcpjaaGreatDoor.Tq
