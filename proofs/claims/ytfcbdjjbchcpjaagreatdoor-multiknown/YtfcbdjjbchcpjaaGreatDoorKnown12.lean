/- What MultiKnown is answered: plain reckoning; its helpers. -/
import Derived.Test.YtfcbdjjbchcpjaaGreatDoorLAwake12
import Derived.Test.YtfcbdjjbchcpjaaGreatDoorOp12
import Derived.Test.YtfcbdjjbchcpjaaGreatDoorWReq12
import Derived.Test.YtfcbdjjbchcpjaaGreatDoorPlainP12
import Derived.Test.YtfcbdjjbchcpjaaGreatDoorRefS11
namespace Go.Proofs.YtfcbdjjbchcpjaaGreatDoor.Tq
def pAE : ByteArray := ⟨#[47, 97, 47, 101]⟩
def pFF : ByteArray := ⟨#[47, 102]⟩
def gtF : O := ⟨5, pFF, ⟨#[]⟩, 0, 0⟩
def z0 : O := ⟨0, ⟨#[]⟩, ⟨#[]⟩, 0, 0⟩
def kops : List O := [mk pA 0, mk pAE 1, mk pFF 1]
def km : (Rp × Bool) × Tr := many ⟨10, []⟩ 5 1 kops
def kd : Tr := drops km.2 [pAE, pFF]
def ka : Rp × Tr := ask kd 1 7 9 [gtF]
theorem km_says : km.1.2 = true ∧ ofs km.2 5 = [pAE, pFF] := ⟨by kernel_rfl, by kernel_rfl⟩
theorem kd_says : kd.l.length = 1 ∧ ka.1.err = 4 ∧ ka.1.zxid = 9 ∧ ka.1.num = 7 ∧ ka.2.l.length = 1 := ⟨by kernel_rfl, by kernel_rfl, by kernel_rfl, by kernel_rfl, by kernel_rfl⟩
theorem k_deep : deepB pAE.data.toList pFF.data.toList = true := by kernel_rfl
theorem k_order {ts : List ByteArray} (hp : List.Perm ts [pAE, pFF]) (hs : (dl11 ts).Pairwise (fun x y => deepB y x = false)) : ts = [pAE, pFF] := by
  have hl := hp.length_eq
  match ts, hl with
  | [a, b], _ =>
    have ha : a = pAE ∨ a = pFF := by simpa using hp.mem_iff.1 (List.mem_cons_self (a := a) (l := [b]))
    rcases ha with rfl | rfl
    · have h := (List.perm_cons _).1 hp
      rw [List.perm_singleton] at h
      simp only [List.cons.injEq, and_true] at h
      rw [h]
    · have h := (List.perm_cons _).1 (hp.trans (List.Perm.swap pFF pAE []))
      rw [List.perm_singleton] at h
      simp only [List.cons.injEq, and_true] at h
      subst h
      have h2 := List.rel_of_pairwise_cons hs (List.mem_cons_self (a := pAE.data.toList) (l := []))
      rw [k_deep] at h2
      cases h2
theorem ask_fine {t : Tr} {s n z : Int} {os : List O} {m : Nat} (h : Fine11 t) (hk : Few t m) (hm : m ≤ 883) : Fine11 (ask t s n z os).2 := by
  unfold ask
  split
  · exact h
  · by_cases h16 : 16 < os.length
    · rw [many_long h16]
      exact h
    · exact many_fine h hk (by omega)
theorem few_km : Few km.2 3 := many_few (few_new 10)
theorem few_drops : ∀ {ps : List ByteArray} {t : Tr} {m : Nat}, Fine11 t → Few t m → Few (drops t ps) m
  | [], _, _, _, h => h
  | p :: ps, t, m, hf, h => by
    refine few_drops (ps := ps) (fine_drop hf p) ?_
    unfold dropT
    split
    · exact h
    · intro e he
      unfold orphan at he
      split at he
      · exact h e (mem_del.1 he).1
      · split at he
        · exact h e (mem_del.1 he).1
        · rename_i n hn
          rcases mem_set he with he | ⟨rfl, _⟩
          · exact h e (mem_del.1 he).1
          · have h1 := h _ (mem_del.1 (find_some hn)).1
            show (Kq.remove n _).names.length ≤ m
            unfold Kq.remove
            split
            · exact Nat.le_trans (List.length_filter_le _ _) h1
            · exact h1
end Go.Proofs.YtfcbdjjbchcpjaaGreatDoor.Tq
namespace Go.Proofs.YtfcbdjjbchcpjaaGreatDoor
open Go.RowKit
theorem fit_z0 : ∀ o ∈ List.replicate 17 Tq.z0, OFit o := fun o ho => by
  rw [(List.mem_replicate.1 ho).2]
  exact ⟨by simp [Tq.z0], by simp [Tq.z0, maxLen, ByteArray.size], by simp [Tq.z0, maxLen, ByteArray.size], by simp [Tq.z0], by simp [Tq.z0]⟩
theorem fit_kops : ∀ o ∈ Tq.kops, OFit o := fun o ho => by
  simp only [Tq.kops, List.mem_cons, List.not_mem_nil, or_false] at ho
  rcases ho with rfl | rfl | rfl
  · exact fit_mk (by unfold maxLen; decide) (by decide)
  · exact fit_mk (by unfold maxLen; decide) (by decide)
  · exact fit_mk (by unfold maxLen; decide) (by decide)
theorem fit_gtF : ∀ o ∈ [Tq.gtF], OFit o := fun o ho => by
  obtain rfl := List.mem_singleton.1 ho
  exact ⟨by simp [Tq.gtF], by simp [Tq.gtF, Tq.pFF, maxLen, ByteArray.size], by simp [Tq.gtF, maxLen, ByteArray.size], by simp [Tq.gtF], by simp [Tq.gtF]⟩
theorem made17 : (madeCells (Value.agg #[.int .i64 0, .string ⟨#[]⟩, .string ⟨#[]⟩, .int .i64 0, .int .i64 0]).cells (17 * 5)).toList = (List.replicate 17 Tq.z0).flatMap oc := by kernel_rfl
theorem make_ops17 {ops : Array Oper} {rest : List Oper} {o : Oper} {a : Act} {Q : Exit → Act → World → Prop} (hgd : o.guard = none) (l c : Operand) (ho : o.op = .makeSlice 76 l c)
    (w : World) (hl : a.eval l = .int .i64 17) (hc : a.eval c = .int .i64 17)
    (h : ∀ w', w'.ownsRow w.heap.size 34 5 (.slice (some ⟨w.heap.size, 0, none⟩) 17 17) (List.replicate 17 Tq.z0).length ((List.replicate 17 Tq.z0).flatMap oc) → Below w.heap.size w w' → wpList Tryz.prog ops Q rest (a.put o.dst (.slice (some ⟨w.heap.size, 0, none⟩) 17 17)) w') : wpList Tryz.prog ops Q (o :: rest) a w := by
  obtain ⟨i0, hi, hz0, hz1, hz2⟩ := info_parts infoOp
  refine wpList_make_full w hgd l c 76 ho w.heap.size 34 i0 (.agg #[.int .i64 0, .string ⟨#[]⟩, .string ⟨#[]⟩, .int .i64 0, .int .i64 0]) 5 Tryz.underlying76 hi hz0 hz1 .i64 .i64 17 17 17 hl hc rfl rfl (by rw [hz2]; decide) (by unfold maxLen; decide) (Nat.le_refl _) ?_
  intro w' hown hg
  rw [made17] at hown
  exact h w' (by rw [List.length_replicate]; exact hown) ((Below.refl _ w).grown hg (Nat.le_refl _) (fun k hk => by cases hk))
theorem om_nil (w : World) (F : Nat → Prop) : Om12 w F (.slice none 0 0) [] := ⟨⟨_, _, _, rfl, rfl, Nat.le_refl _, fun _ => rfl, fun j o h => by simp at h⟩, fun e => absurd rfl e⟩
theorem Mine11.ask {LT : Rep11} {W w : World} {q : Nat} {t : Tq.Tr} {F : Nat → Prop} (S : Specs11 LT) (D : SpecD12 LT) (h : Mine11 LT W w q t F) (hS : Pa.Std W) (s n z : Int) (v : Value) (os : List O) (m : Nat) (hk : Tq.Few t m) (hm : m ≤ 883) (hO : Om12 w F v os) (hok : ∀ o ∈ os, OFit o) (hn : os.length ≤ maxLen) (r : Rp) (t' : Tq.Tr) (he : Tq.ask t s n z os = (r, t')) :
    Calls Tryz.prog 42 #[dptr q, .agg #[.int .i64 s, .int .i64 n, v], .int .i64 z] w fun e w' => ∃ F' u, e = .returned (rpv r u) ∧ Rn12 w.heap.size F' w' u r.xs ∧ Mine11 LT W w' q t' F' ∧ Moved w w' F F' := by
  have hfi : Fine11 t' := by
    have hf := Tq.ask_fine (s := s) (n := n) (z := z) (os := os) h.fine hk hm
    rw [he] at hf
    exact hf
  refine (ask_any12 S D q t F s n z v os m w h.ld h.fine hk hm (h.six hS) (hS.below h.below) hO hok hn).mono ?_
  rintro e w' ⟨F', u, rfl, h1, h2, hm⟩
  rw [he] at h1 h2 ⊢
  exact ⟨F', u, rfl, h1, h.step h2 hfi hm, hm⟩
end Go.Proofs.YtfcbdjjbchcpjaaGreatDoor
namespace Go.Proofs.YtfcbdjjbchcpjaaGreatDoor
open Go.RowKit Go.Sort
theorem Mine11.purge {LT : Rep11} (S : Specs11 LT) (P : SpecP12 LT) {W w : World} {q : Nat} {t : Tq.Tr} {F : Nat → Prop} (h : Mine11 LT W w q t F) (hS : Pa.Std W) (s : Int) :
    Calls Tryz.prog 44 #[dptr q, .int .i64 s] w fun e w' => ∃ F' v ts, e = .returned v ∧ List.Perm ts (Tq.ofs t s) ∧ (dl11 ts).Pairwise (fun x y => deepB y x = false) ∧ Mine11 LT W w' q (Tq.drops t ts) F' ∧ w'.ownsRow w.heap.size 9 1 v ts.length (sc ts) ∧ Off11 F' v ∧ Moved w w' F F' := by
  refine (purge_any12 S P q t F s w h.ld h.fine (h.six hS) (hS.below h.below)).mono ?_
  rintro e w' ⟨F', v, ts, rfl, h1, h2, h3⟩
  exact ⟨F', v, ts, rfl, h1, h2, h.step h3.ld (Tq.fine_drops h.fine) h3.mv, h3.row, h3.off, h3.mv⟩
theorem sm_row12 {w : World} {B N : Nat} {F : Nat → Prop} {v : Value} {ts : List ByteArray} (h : w.ownsRow B 9 1 v N (sc ts)) (hn : N = ts.length) (ho : Off11 F v) : Sm w F v ts := by
  subst hn
  exact ⟨(sq_own h).ss, fun _ => ho⟩
end Go.Proofs.YtfcbdjjbchcpjaaGreatDoor
