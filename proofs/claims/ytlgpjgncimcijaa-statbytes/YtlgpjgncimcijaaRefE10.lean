/- What the reference's Put answers. -/
import Derived.Test.YtlgpjgncimcijaaRefC10
import Derived.Test.YtlgpjgncimcijaaPlainB10
import Derived.Test.YtlgpjgncimcijaaTakeAt
import Derived.Deep.DeepCutAuto
namespace Go.Proofs.Ytlgpjgncimcijaa
open Go.RowKit

theorem tx_len (s : ByteArray) : (Kq.tx s).length = 8 + s.size := by
  unfold Kq.tx Pk.txt
  rw [List.length_append, Kq.size_data]
  rfl
theorem flat_len : ∀ (l : List ByteArray), (∀ s ∈ l, s.size ≤ 150) → (l.flatMap Kq.tx).length ≤ l.length * 158
  | [], _ => Nat.le_refl _
  | s :: l, h => by
    have h1 := h s (by simp)
    have h2 := flat_len l (fun x hx => h x (by simp [hx]))
    rw [List.flatMap_cons, List.length_append, tx_len, List.length_cons]
    omega
set_option linter.unusedSimpArgs false in
set_option maxRecDepth 20000 in
set_option maxHeartbeats 8000000 in
theorem refPut_any10 (v0 : Value) (xs : List UInt8) (n : Kq.Kn) (a : Option Addr) (N c : Nat) (w : World) (hv : Bs w v0 xs) (hs : Ss w (.slice a N c) n.names) (hN : n.names.length ≤ 1000) (hl : ∀ s ∈ n.names, s.size ≤ 150) (hd : n.data.size ≤ 2000) (hx : xs.length ≤ 10000) :
    Calls Try.prog 27 #[v0, kv n (.slice a N c)] w fun e w' => ∃ u, e = .returned u ∧ Bs w' u (xs ++ Kq.bytes n) ∧ Below w.heap.size w w' := by
  have HA : Hid (N = n.names.length ∧ (∀ (j : Nat) s, n.names[j]? = some s → ∃ g o, a = some ⟨g, o, none⟩ ∧ w.cell? ⟨g, o + j, none⟩ = some (.string s)) ∧ N ≤ 1000 ∧ (∀ s ∈ n.names, s.size ≤ 150) ∧ n.data.size ≤ 2000 ∧ xs.length ≤ 10000) := by
    obtain ⟨a', N', c', e, h1, h2⟩ := hs
    simp only [Value.slice.injEq] at e
    obtain ⟨rfl, rfl, rfl⟩ := e
    exact ⟨h1, h2, by omega, hl, hd, hx⟩
  have hN1 : N ≤ 1000 := HA.out.2.2.1
  have hal := (Below.refl _ w).alloc (Nat.le_refl _) (.cells (k10 n (.slice a N c)).toArray 40)
  have HS0 : Hid (Bs (w.alloc (.cells #[.int .i64 n.made, .int .i64 n.changed, .int .i64 n.ver, .int .i64 n.kids, .int .i64 n.owner, .int .i64 n.len, .int .i64 n.cnt, .string n.data, .int .i64 n.next, .slice a N c] 40)) v0 xs) := hv.below hal
  have HX0 : Hid (Cb (w.alloc (.cells #[.int .i64 n.made, .int .i64 n.changed, .int .i64 n.ver, .int .i64 n.kids, .int .i64 n.owner, .int .i64 n.len, .int .i64 n.cnt, .string n.data, .int .i64 n.next, .slice a N c] 40)) w.heap.size (k10 n (.slice a N c)) 40) := Cb.made w _ _
  have HB0 : Hid (Below w.heap.size w (w.alloc (.cells #[.int .i64 n.made, .int .i64 n.changed, .int .i64 n.ver, .int .i64 n.kids, .int .i64 n.owner, .int .i64 n.len, .int .i64 n.cnt, .string n.data, .int .i64 n.next, .slice a N c] 40))) := hal
  have H8 : Hid (∀ z, (Pk.be8 z).length = 8) := fun _ => rfl
  clear hv hs hN hl hd hx hal
  unfold kv
  go_enter Try.func27, Try.ntmps27
  go_upto_region 1 with fail
  generalize (w.alloc (.cells #[.int .i64 n.made, .int .i64 n.changed, .int .i64 n.ver, .int .i64 n.kids, .int .i64 n.owner, .int .i64 n.len, .int .i64 n.cnt, .string n.data, .int .i64 n.next, .slice a N c] 40)) = w0 at *
  have kk0 := ten_cells HX0.out
  go_wp2
  go_region_held3 (fun w' => w'.cell? ⟨w.heap.size, 0, none⟩ = some (.int .i64 n.made) ∧ w'.cell? ⟨w.heap.size, 1, none⟩ = some (.int .i64 n.changed) ∧ w'.cell? ⟨w.heap.size, 2, none⟩ = some (.int .i64 n.ver) ∧ w'.cell? ⟨w.heap.size, 3, none⟩ = some (.int .i64 n.kids) ∧ w'.cell? ⟨w.heap.size, 4, none⟩ = some (.int .i64 n.owner) ∧ w'.cell? ⟨w.heap.size, 5, none⟩ = some (.int .i64 n.len) ∧ w'.cell? ⟨w.heap.size, 6, none⟩ = some (.int .i64 n.cnt) ∧ w'.cell? ⟨w.heap.size, 7, none⟩ = some (.string n.data) ∧ w'.cell? ⟨w.heap.size, 8, none⟩ = some (.int .i64 n.next) ∧ w'.cell? ⟨w.heap.size, 9, none⟩ = some (.slice a N c)) (first | exact kk0 | exact kk1 | exact kk2) (first
    | (go_at_call_of 49 v0; refine (Pw.refI64_bs v0 xs n.made _ (HS0.out.below (Below.refl _ _).drew) (by have h1 := HA.out; (try simp only [List.length_append, H8.out, tx_len]); omega)).mono ?_; rintro e w1 ⟨v1, rfl, hbs, hb0⟩; have hb := below_drew hb0; have HS1 : Hid (Bs w1 v1 (xs ++ Pk.be8 n.made)) := hbs; have HX1 : Hid (Cb w1 w.heap.size (k10 n (.slice a N c)) 40) := HX0.out.below hb; have HB1 : Hid (Below w.heap.size w w1) := HB0.out.trans (hb.mono HB0.out.size); have kk1 := ten_cells HX1.out; clear hbs hb0 hb)
    | (go_at_call_of 49 v1; refine (Pw.refI64_bs v1 (xs ++ Pk.be8 n.made) n.changed _ HS1.out (by have h1 := HA.out; (try simp only [List.length_append, H8.out, tx_len]); omega)).mono ?_; rintro e w2 ⟨v2, rfl, hbs, hb0⟩; have hb := hb0; have HS2 : Hid (Bs w2 v2 ((xs ++ Pk.be8 n.made) ++ Pk.be8 n.changed)) := hbs; have HX2 : Hid (Cb w2 w.heap.size (k10 n (.slice a N c)) 40) := HX1.out.below hb; have HB2 : Hid (Below w.heap.size w w2) := HB1.out.trans (hb.mono HB1.out.size); have kk2 := ten_cells HX2.out; clear hbs hb0 hb))
  clear kk0 kk1 kk2
  have kk2 := ten_cells HX2.out
  go_wp2
  go_region_held3 (fun w' => w'.cell? ⟨w.heap.size, 0, none⟩ = some (.int .i64 n.made) ∧ w'.cell? ⟨w.heap.size, 1, none⟩ = some (.int .i64 n.changed) ∧ w'.cell? ⟨w.heap.size, 2, none⟩ = some (.int .i64 n.ver) ∧ w'.cell? ⟨w.heap.size, 3, none⟩ = some (.int .i64 n.kids) ∧ w'.cell? ⟨w.heap.size, 4, none⟩ = some (.int .i64 n.owner) ∧ w'.cell? ⟨w.heap.size, 5, none⟩ = some (.int .i64 n.len) ∧ w'.cell? ⟨w.heap.size, 6, none⟩ = some (.int .i64 n.cnt) ∧ w'.cell? ⟨w.heap.size, 7, none⟩ = some (.string n.data) ∧ w'.cell? ⟨w.heap.size, 8, none⟩ = some (.int .i64 n.next) ∧ w'.cell? ⟨w.heap.size, 9, none⟩ = some (.slice a N c)) (first | exact kk2 | exact kk3 | exact kk4) (first
    | (go_at_call_of 49 v2; refine (Pw.refI64_bs v2 ((xs ++ Pk.be8 n.made) ++ Pk.be8 n.changed) n.ver _ (HS2.out.below (Below.refl _ _).drew) (by have h1 := HA.out; (try simp only [List.length_append, H8.out, tx_len]); omega)).mono ?_; rintro e w3 ⟨v3, rfl, hbs, hb0⟩; have hb := below_drew hb0; have HS3 : Hid (Bs w3 v3 (((xs ++ Pk.be8 n.made) ++ Pk.be8 n.changed) ++ Pk.be8 n.ver)) := hbs; have HX3 : Hid (Cb w3 w.heap.size (k10 n (.slice a N c)) 40) := HX2.out.below hb; have HB3 : Hid (Below w.heap.size w w3) := HB2.out.trans (hb.mono HB2.out.size); have kk3 := ten_cells HX3.out; clear hbs hb0 hb)
    | (go_at_call_of 49 v3; refine (Pw.refI64_bs v3 (((xs ++ Pk.be8 n.made) ++ Pk.be8 n.changed) ++ Pk.be8 n.ver) n.kids _ HS3.out (by have h1 := HA.out; (try simp only [List.length_append, H8.out, tx_len]); omega)).mono ?_; rintro e w4 ⟨v4, rfl, hbs, hb0⟩; have hb := hb0; have HS4 : Hid (Bs w4 v4 ((((xs ++ Pk.be8 n.made) ++ Pk.be8 n.changed) ++ Pk.be8 n.ver) ++ Pk.be8 n.kids)) := hbs; have HX4 : Hid (Cb w4 w.heap.size (k10 n (.slice a N c)) 40) := HX3.out.below hb; have HB4 : Hid (Below w.heap.size w w4) := HB3.out.trans (hb.mono HB3.out.size); have kk4 := ten_cells HX4.out; clear hbs hb0 hb))
  clear kk2 kk3 kk4
  have kk4 := ten_cells HX4.out
  go_wp2
  go_region_held3 (fun w' => w'.cell? ⟨w.heap.size, 0, none⟩ = some (.int .i64 n.made) ∧ w'.cell? ⟨w.heap.size, 1, none⟩ = some (.int .i64 n.changed) ∧ w'.cell? ⟨w.heap.size, 2, none⟩ = some (.int .i64 n.ver) ∧ w'.cell? ⟨w.heap.size, 3, none⟩ = some (.int .i64 n.kids) ∧ w'.cell? ⟨w.heap.size, 4, none⟩ = some (.int .i64 n.owner) ∧ w'.cell? ⟨w.heap.size, 5, none⟩ = some (.int .i64 n.len) ∧ w'.cell? ⟨w.heap.size, 6, none⟩ = some (.int .i64 n.cnt) ∧ w'.cell? ⟨w.heap.size, 7, none⟩ = some (.string n.data) ∧ w'.cell? ⟨w.heap.size, 8, none⟩ = some (.int .i64 n.next) ∧ w'.cell? ⟨w.heap.size, 9, none⟩ = some (.slice a N c)) (first | exact kk4 | exact kk5 | exact kk6) (first
    | (go_at_call_of 49 v4; refine (Pw.refI64_bs v4 ((((xs ++ Pk.be8 n.made) ++ Pk.be8 n.changed) ++ Pk.be8 n.ver) ++ Pk.be8 n.kids) n.owner _ (HS4.out.below (Below.refl _ _).drew) (by have h1 := HA.out; (try simp only [List.length_append, H8.out, tx_len]); omega)).mono ?_; rintro e w5 ⟨v5, rfl, hbs, hb0⟩; have hb := below_drew hb0; have HS5 : Hid (Bs w5 v5 (((((xs ++ Pk.be8 n.made) ++ Pk.be8 n.changed) ++ Pk.be8 n.ver) ++ Pk.be8 n.kids) ++ Pk.be8 n.owner)) := hbs; have HX5 : Hid (Cb w5 w.heap.size (k10 n (.slice a N c)) 40) := HX4.out.below hb; have HB5 : Hid (Below w.heap.size w w5) := HB4.out.trans (hb.mono HB4.out.size); have kk5 := ten_cells HX5.out; clear hbs hb0 hb)
    | (go_at_call_of 49 v5; refine (Pw.refI64_bs v5 (((((xs ++ Pk.be8 n.made) ++ Pk.be8 n.changed) ++ Pk.be8 n.ver) ++ Pk.be8 n.kids) ++ Pk.be8 n.owner) n.next _ HS5.out (by have h1 := HA.out; (try simp only [List.length_append, H8.out, tx_len]); omega)).mono ?_; rintro e w6 ⟨v6, rfl, hbs, hb0⟩; have hb := hb0; have HS6 : Hid (Bs w6 v6 ((((((xs ++ Pk.be8 n.made) ++ Pk.be8 n.changed) ++ Pk.be8 n.ver) ++ Pk.be8 n.kids) ++ Pk.be8 n.owner) ++ Pk.be8 n.next)) := hbs; have HX6 : Hid (Cb w6 w.heap.size (k10 n (.slice a N c)) 40) := HX5.out.below hb; have HB6 : Hid (Below w.heap.size w w6) := HB5.out.trans (hb.mono HB5.out.size); have kk6 := ten_cells HX6.out; clear hbs hb0 hb))
  clear kk4 kk5 kk6
  have kk6 := ten_cells HX6.out
  go_wp2
  go_region_held3 (fun w' => w'.cell? ⟨w.heap.size, 0, none⟩ = some (.int .i64 n.made) ∧ w'.cell? ⟨w.heap.size, 1, none⟩ = some (.int .i64 n.changed) ∧ w'.cell? ⟨w.heap.size, 2, none⟩ = some (.int .i64 n.ver) ∧ w'.cell? ⟨w.heap.size, 3, none⟩ = some (.int .i64 n.kids) ∧ w'.cell? ⟨w.heap.size, 4, none⟩ = some (.int .i64 n.owner) ∧ w'.cell? ⟨w.heap.size, 5, none⟩ = some (.int .i64 n.len) ∧ w'.cell? ⟨w.heap.size, 6, none⟩ = some (.int .i64 n.cnt) ∧ w'.cell? ⟨w.heap.size, 7, none⟩ = some (.string n.data) ∧ w'.cell? ⟨w.heap.size, 8, none⟩ = some (.int .i64 n.next) ∧ w'.cell? ⟨w.heap.size, 9, none⟩ = some (.slice a N c)) (first | exact kk6 | exact kk7 | exact kk8) (first
    | (go_at_call_of 50 v6; refine (Pw.refTxt_any v6 ((((((xs ++ Pk.be8 n.made) ++ Pk.be8 n.changed) ++ Pk.be8 n.ver) ++ Pk.be8 n.kids) ++ Pk.be8 n.owner) ++ Pk.be8 n.next) n.data _ (HS6.out.below (Below.refl _ _).drew) (by have h1 := HA.out; (try simp only [List.length_append, H8.out, tx_len]); omega) (by have h1 := HA.out; omega)).mono ?_; rintro e w7 ⟨v7, rfl, hbs, hb0⟩; have hb := below_drew hb0; have HS7 : Hid (Bs w7 v7 (((((((xs ++ Pk.be8 n.made) ++ Pk.be8 n.changed) ++ Pk.be8 n.ver) ++ Pk.be8 n.kids) ++ Pk.be8 n.owner) ++ Pk.be8 n.next) ++ Kq.tx n.data)) := hbs; have HX7 : Hid (Cb w7 w.heap.size (k10 n (.slice a N c)) 40) := HX6.out.below hb; have HB7 : Hid (Below w.heap.size w w7) := HB6.out.trans (hb.mono HB6.out.size); have kk7 := ten_cells HX7.out; clear hbs hb0 hb)
    | (go_at_call_of 49 v7; refine (Pw.refI64_bs v7 (((((((xs ++ Pk.be8 n.made) ++ Pk.be8 n.changed) ++ Pk.be8 n.ver) ++ Pk.be8 n.kids) ++ Pk.be8 n.owner) ++ Pk.be8 n.next) ++ Kq.tx n.data) (N : Int) _ HS7.out (by have h1 := HA.out; (try simp only [List.length_append, H8.out, tx_len]); omega)).mono ?_; rintro e w8 ⟨v8, rfl, hbs, hb0⟩; have hb := hb0; have HS8 : Hid (Bs w8 v8 ((((((((xs ++ Pk.be8 n.made) ++ Pk.be8 n.changed) ++ Pk.be8 n.ver) ++ Pk.be8 n.kids) ++ Pk.be8 n.owner) ++ Pk.be8 n.next) ++ Kq.tx n.data) ++ Pk.be8 (N : Int))) := hbs; have HX8 : Hid (Cb w8 w.heap.size (k10 n (.slice a N c)) 40) := HX7.out.below hb; have HB8 : Hid (Below w.heap.size w w8) := HB7.out.trans (hb.mono HB7.out.size); have kk8 := ten_cells HX8.out; clear hbs hb0 hb))
  clear kk6 kk7 kk8
  have HP : Hid (((((((((xs ++ Pk.be8 n.made) ++ Pk.be8 n.changed) ++ Pk.be8 n.ver) ++ Pk.be8 n.kids) ++ Pk.be8 n.owner) ++ Pk.be8 n.next) ++ Kq.tx n.data) ++ Pk.be8 (N : Int)).length ≤ 13000) := by
    have h1 := HA.out
    have e : ((((((((xs ++ Pk.be8 n.made) ++ Pk.be8 n.changed) ++ Pk.be8 n.ver) ++ Pk.be8 n.kids) ++ Pk.be8 n.owner) ++ Pk.be8 n.next) ++ Kq.tx n.data) ++ Pk.be8 (N : Int)).length ≤ 13000 := by (try simp only [List.length_append, H8.out, tx_len]); omega
    exact e
  have HE : Hid (xs ++ Kq.bytes n = ((((((((xs ++ Pk.be8 n.made) ++ Pk.be8 n.changed) ++ Pk.be8 n.ver) ++ Pk.be8 n.kids) ++ Pk.be8 n.owner) ++ Pk.be8 n.next) ++ Kq.tx n.data) ++ Pk.be8 (N : Int)) ++ n.names.flatMap Kq.tx) := by
    have e : xs ++ Kq.bytes n = ((((((((xs ++ Pk.be8 n.made) ++ Pk.be8 n.changed) ++ Pk.be8 n.ver) ++ Pk.be8 n.kids) ++ Pk.be8 n.owner) ++ Pk.be8 n.next) ++ Kq.tx n.data) ++ Pk.be8 (N : Int)) ++ n.names.flatMap Kq.tx := by
      rw [HA.out.1]
      unfold Kq.bytes
      simp only [List.append_assoc]
    exact e
  generalize ((((((((xs ++ Pk.be8 n.made) ++ Pk.be8 n.changed) ++ Pk.be8 n.ver) ++ Pk.be8 n.kids) ++ Pk.be8 n.owner) ++ Pk.be8 n.next) ++ Kq.tx n.data) ++ Pk.be8 (N : Int)) = ps at *
  obtain ⟨_, _, _, _, _, _, _, _, _, c9⟩ := ten_cells HX8.out
  go_wp2
  go_loopw [0, 5] (fun f i wr => ∃ k : Nat, k ≤ N ∧ i = .int .i64 (k : Int) ∧ Bs wr f (ps ++ (n.names.take k).flatMap Kq.tx) ∧ Below w8.heap.size w8 wr) (fun _ i _ => N + 1 - (intOf i).toNat)
  case atStart => exact ⟨0, Nat.zero_le _, rfl, by simpa using HS8.out, Below.refl _ _⟩
  case round =>
    obtain ⟨k, hk, rfl, hb, hbl⟩ := hrel
    have HR : Hid (Bs wr u0 (ps ++ (n.names.take k).flatMap Kq.tx) ∧ Below w8.heap.size w8 wr) := ⟨hb, hbl⟩
    have HBR : Hid (Below w.heap.size w wr) := HB8.out.trans (hbl.mono HB8.out.size)
    have d9 : wr.cell? ⟨w.heap.size, 9, none⟩ = some (.slice a N c) := Below.kept hbl c9
    clear hb hbl c9
    have i1 : (0 : Int) ≤ (k : Int) := by omega
    by_cases hlt : k < N
    · have hlt' : (k : Int) < (N : Int) := by omega
      have hwk : IntKind.wrap .i64 ((k : Int) + 1) = (k : Int) + 1 := by rw [IntKind.wrap_i64]; omega
      obtain ⟨x, hx⟩ : ∃ x, n.names[k]? = some x := ⟨_, List.getElem?_eq_getElem (by have := HA.out.1; omega)⟩
      have HX : Hid (n.names[k]? = some x ∧ x.size ≤ 150) := ⟨hx, HA.out.2.2.2.1 x (List.mem_of_getElem? hx)⟩
      have HLN : Hid ((ps ++ (n.names.take k).flatMap Kq.tx).length ≤ 171000) := by
        have h1 := flat_len (n.names.take k) (fun s hs => HA.out.2.2.2.1 s (List.mem_of_mem_take hs))
        have h2 : (n.names.take k).length ≤ k := List.length_take_le k _
        have h3 := HP.out
        have e : (ps ++ (n.names.take k).flatMap Kq.tx).length ≤ 171000 := by rw [List.length_append]; omega
        exact e
      obtain ⟨g, o, hav, lx⟩ := HA.out.2.1 k x hx
      subst hav
      have lx' : wr.cell? ⟨g, o + k, none⟩ = some (.string x) := Below.kept HBR.out lx
      clear lx hx
      go_wp2_with fail
      refine (Pw.refTxt_any u0 (ps ++ (n.names.take k).flatMap Kq.tx) x _ HR.out.1 (by have h1 := HLN.out; omega) (by have h1 := HX.out.2; omega)).mono ?_
      rintro e wt ⟨vt, rfl, hbs, hb⟩
      have HT : Hid (Bs wt vt (ps ++ (n.names.take (k + 1)).flatMap Kq.tx) ∧ Below w8.heap.size w8 wt) := by
        refine ⟨?_, HR.out.2.trans (hb.mono HR.out.2.size)⟩
        rw [List.take_add_one, HX.out.1, List.flatMap_append, ← List.append_assoc]
        simp only [Option.toList_some, List.flatMap_cons, List.flatMap_nil, List.append_nil]
        exact hbs
      clear hbs hb d9 lx'
      go_wp2_with fail
      go_roundw
      case rel => exact ⟨k + 1, by omega, by go_num, HT.out.1, HT.out.2⟩
      case measure => simp [intOf]; omega
    · have hlt' : ¬ (k : Int) < (N : Int) := by omega
      have HF : Hid (Bs wr u0 (ps ++ n.names.flatMap Kq.tx)) := by
        have h := HR.out.1
        rw [List.take_of_length_le (by have := HA.out.1; omega)] at h
        exact h
      go_wp2
      go_ret
      exact ⟨_, rfl, by rw [HE.out]; exact HF.out, HBR.out⟩
end Go.Proofs.Ytlgpjgncimcijaa
