/- What reply's calls are asked to answer (to be proved of the landed code). -/
import Derived.Test.YtebmcjhhoionbaaFail6
import Derived.Test.YtebmcjhhoionbaaSame6
import Derived.Test.YtebmcjhhoionbaaPlainY
namespace Go.Proofs.Ytebmcjhhoionbaa
open Go.RowKit

theorem Rl.one (w : World) (x : X) (nv : Value) (t : TypeId) (h : Sq w nv x.names) : Rl (w.alloc (.cells (xc x nv).toArray t)) (.slice (some ⟨w.heap.size, 0, none⟩) 1 1) [x] := by
  refine ⟨_, 1, 1, rfl, rfl, Nat.le_refl _, fun e => (by cases e), fun j y hy => ?_⟩
  match j, hy with
  | 0, hy =>
    simp at hy
    subst hy
    refine ⟨w.heap.size, 0, nv, rfl, h.below ((Below.refl _ w).alloc (Nat.le_refl _) _), fun i u hu => ?_⟩
    rw [Nat.zero_mul, Nat.zero_add, Nat.zero_add]
    exact cell?_alloc_at _ _ _ _ _ _ (by simpa using hu)
  | (j + 1), hy => simp at hy

def PutSpec6 : Prop := ∀ (r : Rp) (u : Value) (w : World), Rl w u r.xs → r.xs.length ≤ 20 → (∀ x ∈ r.xs, Light x) →
  Calls Try.prog 11 #[rv r u] w fun e w' => ∃ v', e = .returned v' ∧ Bs w' v' (Rq.bytes r) ∧ Below w.heap.size w w'
/-- Get: that reply, or that there is none. -/
def GetPost6 (b : List UInt8) (w : World) (e : Ending) (w' : World) : Prop :=
  Below w.heap.size w w' ∧ ((∃ r u, e = .returned (.tuple #[rv r u, .int .i64 0]) ∧ Rl w' u r.xs ∧ Rq.Is b r) ∨
    (∃ u, e = .returned (.tuple #[rv Rq.zero u, .int .i64 3]) ∧ Rl w' u [] ∧ ∀ r, ¬ Rq.Is b r))
def GetSpec6 : Prop := ∀ (v : Value) (b : List UInt8) (w : World), Bs w v b → b.length ≤ 150000 → Calls Try.prog 10 #[v] w (GetPost6 b w)
def AlikeSpec : Prop := ∀ (P0 : Prop) (u u' : Value) (xs ys : List X) (w : World), Rl w u xs → Rl w u' ys → xs.length ≤ maxLen → ys.length ≤ maxLen → Few xs → Few ys → (P0 ↔ xs = ys) →
  Calls Try.prog 13 #[u, u'] w (BoolP P0 w)
def SameSpec6 : Prop := ∀ (P0 : Prop) (r q : Rp) (u u' : Value) (w : World), Rl w u r.xs → Rl w u' q.xs → r.xs.length ≤ maxLen → q.xs.length ≤ maxLen → Few r.xs → Few q.xs → (P0 ↔ r = q) →
  Calls Try.prog 17 #[rv r u, rv q u'] w (BoolP P0 w)
def FailSpec : Prop := ∀ (num e at_ n : Int) (w : World), -9223372036854775808 ≤ n → n ≤ 9223372036854775807 →
  Calls Try.prog 12 #[.int .i64 num, .int .i64 e, .int .i64 at_, .int .i64 n] w fun ed w' => ∃ u, ed = .returned (rv (Rq.fail num e at_ n) u) ∧ Rl w' u (Rq.fail num e at_ n).xs ∧ Below w.heap.size w w'

structure Specs6 : Prop where
  put : PutSpec6
  get : GetSpec6
  alike : AlikeSpec
  same : SameSpec6
  fail : FailSpec

theorem few_light {xs : List X} (h : ∀ x ∈ xs, Light x) : Few xs := fun x hx => by have := (h x hx).count; omega
theorem few_is {b : List UInt8} {r : Rp} (h : Rq.Is b r) : Few r.xs := fun x hx => by have := (h.small x hx).count; omega
theorem few_nil : Few [] := fun x hx => by cases hx
theorem light_small {x : X} (h : Light x) : Rq.Small x := ⟨by have := h.path; omega, by have := h.data; omega, by have := h.count; omega, fun t ht => by have := h.texts t ht; omega⟩
theorem skip_light (e : Int) : Light (Rq.skip e) := ⟨Nat.zero_le _, Nat.zero_le _, Nat.zero_le _, fun t ht => by cases ht⟩
theorem fails_light (e at_ : Int) (n : Nat) : ∀ x ∈ Rq.fails e at_ n, Light x := fun x hx => by
  unfold Rq.fails at hx
  obtain ⟨i, _, rfl⟩ := List.mem_map.1 hx
  exact skip_light _
theorem fail_few (num e at_ n : Int) : (Rq.fail num e at_ n).xs.length ≤ 16 ∧ ∀ x ∈ (Rq.fail num e at_ n).xs, Light x := by
  unfold Rq.fail
  simp only []
  split
  · exact ⟨by simp, fun x hx => by cases hx⟩
  · rename_i h
    exact ⟨by rw [fails_len]; omega, fails_light _ _ _⟩
theorem is_of {r : Rp} (hf : Rq.FitR r) (hn : r.xs.length ≤ 16) (hl : ∀ x ∈ r.xs, Light x) : Rq.Is (Rq.bytes r) r := ⟨rfl, hf, hn, fun x hx => light_small (hl x hx)⟩

theorem rng0 : Rq.Rng 0 := ⟨by decide, by decide⟩
theorem skip_fit {e : Int} (h : Rq.Rng e) : Rq.Fit (Rq.skip e) := ⟨h, rng0, rng0, rng0, rng0, rng0, rng0, rng0, Nat.zero_le _, Nat.zero_le _, Nat.zero_le _, fun t ht => by cases ht⟩

theorem tb_len {ts : List ByteArray} (h : ∀ t ∈ ts, t.size ≤ 100) : (Rq.tbytes ts).length ≤ 108 * ts.length := tbytes_len h
theorem xbytes_light {x : X} (h : Light x) : (Rq.xbytes x).length ≤ 5100 := by
  have h1 := h.path
  have h2 := h.data
  have h3 := h.count
  have h4 := tb_len h.texts
  have e1 : x.path.data.toList.length = x.path.size := rfl
  have e2 : x.data.data.toList.length = x.data.size := rfl
  unfold Rq.xbytes Rq.sbytes Pk.txt
  simp only [List.length_append, Pk.be8_len]
  omega
theorem flat_light {xs : List X} (h : ∀ x ∈ xs, Light x) : (xs.flatMap Rq.xbytes).length ≤ 5100 * xs.length := by
  induction xs with
  | nil => simp
  | cons x xs ih =>
    have h1 := xbytes_light (h x (by simp))
    have h2 := ih (fun y hy => h y (by simp [hy]))
    rw [List.flatMap_cons, List.length_append, List.length_cons]
    omega
theorem bytes_light {r : Rp} (hn : r.xs.length ≤ 20) (h : ∀ x ∈ r.xs, Light x) : (Rq.bytes r).length ≤ 103000 := by
  have h1 := flat_light h
  unfold Rq.bytes
  simp only [List.length_append, Pk.be8_len]
  omega
end Go.Proofs.Ytebmcjhhoionbaa
