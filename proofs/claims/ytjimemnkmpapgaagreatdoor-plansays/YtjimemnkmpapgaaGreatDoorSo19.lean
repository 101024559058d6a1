/- The reference's Same of texts. Replies and results that were boxed; results that are not too great. Results and replies held against each other: what an equality of Stats answers. What the reference's One, All and SameReply answer. -/
import Derived.Test.YtjimemnkmpapgaaGreatDoorBase
import Derived.Deep.QuietTactic
import Derived.BigQuiet
import Derived.BigRegion
import Derived.Test.YtjimemnkmpapgaaGreatDoorXs
import Derived.Laws.StructEq
import Derived.Test.YtjimemnkmpapgaaGreatDoorTakeAt
import Derived.Deep.DeepCutAuto
namespace Go.Proofs.YtjimemnkmpapgaaGreatDoor.Pw
open Go.RowKit

set_option maxRecDepth 20000 in
set_option maxHeartbeats 1000000 in
theorem same_any (u v : Value) (ss tt : List ByteArray) (w : World) (hu : Ss w u ss) (hv : Ss w v tt) (h1 : ss.length ≤ 1000) (h2 : tt.length ≤ 1000) :
    Calls Tryz.prog 63 #[u, v] w fun e w' => e = .returned (.bool (decide (ss = tt))) ∧ Below w.heap.size w w' := by
  obtain ⟨r, hr⟩ : ∃ r, r = decide (ss = tt) := ⟨_, rfl⟩
  rw [← hr]
  have HR : Hid (r = decide (ss = tt)) := hr
  obtain ⟨av, n, c, rfl, hn, hcs⟩ := hu
  obtain ⟨bv, m, d, rfl, hm, hds⟩ := hv
  have HN : Hid (n = ss.length) := hn
  have HM : Hid (m = tt.length) := hm
  have HC : Hid (∀ (j : Nat) s, ss[j]? = some s → ∃ g o, av = some ⟨g, o, none⟩ ∧ w.cell? ⟨g, o + j, none⟩ = some (.string s)) := hcs
  have HD : Hid (∀ (j : Nat) s, tt[j]? = some s → ∃ g o, bv = some ⟨g, o, none⟩ ∧ w.cell? ⟨g, o + j, none⟩ = some (.string s)) := hds
  have hn1 : n ≤ 1000 := by omega
  have hm1 : m ≤ 1000 := by omega
  clear hn hm hcs hds h1 h2 hr
  cases hne : ((n : Int) != (m : Int)) with
  | true =>
    have hnm : ss ≠ tt := by
      intro e
      have h : (n : Int) = m := by rw [HN.out, HM.out, e]
      rw [h] at hne; simp at hne
    have HF : Hid (r = false) := by rw [HR.out]; exact decide_eq_false hnm
    clear hnm
    go_enter Tryz.func63, Tryz.ntmps63
    go_wp2
    go_ret
    exact ⟨ret_bool HF.out.symm, Below.refl _ _⟩
  | false =>
    obtain rfl : n = m := by have h : (n : Int) = m := by simpa using hne
                             omega
    clear hne
    have hne : ((n : Int) != (n : Int)) = false := by simp
    go_enter Tryz.func63, Tryz.ntmps63
    go_wp2
    go_loopw [5] (fun i wr => ∃ k : Nat, k ≤ n ∧ i = .int .i64 k ∧ ss.take k = tt.take k ∧ Below w.heap.size w wr) (fun i _ => n - (intOf i).toNat)
    case atStart => exact ⟨0, Nat.zero_le _, rfl, rfl, Below.refl _ _⟩
    case round =>
      obtain ⟨k, hk, rfl, htk, hb⟩ := hrel
      have HB : Hid (Below w.heap.size w wr) := hb
      have HT : Hid (ss.take k = tt.take k) := htk
      clear hb htk
      by_cases hlt : k < n
      · obtain ⟨x, hx⟩ : ∃ x, ss[k]? = some x := ⟨ss[k]'(by rw [← HN.out]; exact hlt), List.getElem?_eq_getElem _⟩
        obtain ⟨y, hy⟩ : ∃ y, tt[k]? = some y := ⟨tt[k]'(by rw [← HM.out]; exact hlt), List.getElem?_eq_getElem _⟩
        obtain ⟨g, o, rfl, c1⟩ := HC.out k x hx
        obtain ⟨g2, o2, rfl, c2⟩ := HD.out k y hy
        have d1 : wr.cell? ⟨g, o + k, none⟩ = some (.string x) := Below.kept HB.out c1
        have d2 : wr.cell? ⟨g2, o2 + k, none⟩ = some (.string y) := Below.kept HB.out c2
        have HX : Hid (ss[k]? = some x) := hx
        have HY : Hid (tt[k]? = some y) := hy
        clear hx hy c1 c2
        have hlt' : (k : Int) < n := by omega
        have hk0 : (0 : Int) ≤ k := by omega
        cases he : (x.toList == y.toList) with
        | true =>
          have HE : Hid (x = y) := bytes_eq he
          go_wp2
          go_region
          go_wp2
          go_roundw
          case rel => exact ⟨k + 1, by omega, by go_num, by rw [List.take_add_one, List.take_add_one, HX.out, HY.out, HT.out, HE.out], HB.out.drew⟩
          case measure => simp [intOf]; omega
        | false =>
          have HF : Hid (r = false) := by
            rw [HR.out]
            refine decide_eq_false (fun e => ?_)
            have h := HX.out
            rw [e, HY.out] at h
            rw [Option.some.inj h] at he
            simp at he
          go_wp2
          go_region
          go_wp2
          go_ret
          exact ⟨ret_bool HF.out.symm, HB.out.drew⟩
      · have HG : Hid (r = true) := by
          rw [HR.out]
          refine decide_eq_true ?_
          have h := HT.out
          rwa [List.take_of_length_le (by rw [← HN.out]; omega), List.take_of_length_le (by rw [← HM.out]; omega)] at h
        go_wp2
        go_ret
        exact ⟨ret_bool HG.out.symm, HB.out⟩

end Go.Proofs.YtjimemnkmpapgaaGreatDoor.Pw
namespace Go.Proofs.YtjimemnkmpapgaaGreatDoor
open Go.RowKit

/-- A reply as a value; its Results lie elsewhere. -/
def rv (r : Rp) (u : Value) : Value := .agg #[.int .i64 r.num, .int .i64 r.zxid, .int .i64 r.err, .int .i64 r.at_, u]

/-- The five cells of a reply that was boxed. -/
structure BoxR (w : World) (q : Nat) (r : Rp) (u : Value) : Prop where
  c0 : w.cell? ⟨q, 0, none⟩ = some (.int .i64 r.num)
  c1 : w.cell? ⟨q, 1, none⟩ = some (.int .i64 r.zxid)
  c2 : w.cell? ⟨q, 2, none⟩ = some (.int .i64 r.err)
  c3 : w.cell? ⟨q, 3, none⟩ = some (.int .i64 r.at_)
  c4 : w.cell? ⟨q, 4, none⟩ = some u

theorem BoxR.below {w w' : World} {q : Nat} {r : Rp} {u : Value} (h : BoxR w q r u) (hb : Below w.heap.size w w') : BoxR w' q r u :=
  ⟨Below.kept hb h.c0, Below.kept hb h.c1, Below.kept hb h.c2, Below.kept hb h.c3, Below.kept hb h.c4⟩

theorem BoxR.made (w : World) (r : Rp) (u : Value) (t : TypeId) : BoxR (w.alloc (.cells #[.int .i64 r.num, .int .i64 r.zxid, .int .i64 r.err, .int .i64 r.at_, u] t)) w.heap.size r u :=
  ⟨cell?_alloc_at _ _ _ _ _ _ rfl, cell?_alloc_at _ _ _ _ _ _ rfl, cell?_alloc_at _ _ _ _ _ _ rfl, cell?_alloc_at _ _ _ _ _ _ rfl, cell?_alloc_at _ _ _ _ _ _ rfl⟩

theorem BoxR.all {w : World} {q : Nat} {r : Rp} {u : Value} (h : BoxR w q r u) : w.cell? ⟨q, 0, none⟩ = some (.int .i64 r.num) ∧ w.cell? ⟨q, 1, none⟩ = some (.int .i64 r.zxid) ∧ w.cell? ⟨q, 2, none⟩ = some (.int .i64 r.err) ∧ w.cell? ⟨q, 3, none⟩ = some (.int .i64 r.at_) ∧ w.cell? ⟨q, 4, none⟩ = some u := ⟨h.c0, h.c1, h.c2, h.c3, h.c4⟩

/-- The eleven cells of a result that was boxed. -/
structure BoxX (w : World) (q : Nat) (x : X) (nv : Value) : Prop where
  c0 : w.cell? ⟨q, 0, none⟩ = some (.int .i64 x.err)
  c1 : w.cell? ⟨q, 1, none⟩ = some (.string x.path)
  c2 : w.cell? ⟨q, 2, none⟩ = some (.string x.data)
  c3 : w.cell? ⟨q, 3, none⟩ = some nv
  c4 : w.cell? ⟨q, 4, none⟩ = some (.int .i64 x.made)
  c5 : w.cell? ⟨q, 5, none⟩ = some (.int .i64 x.changed)
  c6 : w.cell? ⟨q, 6, none⟩ = some (.int .i64 x.ver)
  c7 : w.cell? ⟨q, 7, none⟩ = some (.int .i64 x.kids)
  c8 : w.cell? ⟨q, 8, none⟩ = some (.int .i64 x.owner)
  c9 : w.cell? ⟨q, 9, none⟩ = some (.int .i64 x.len)
  c10 : w.cell? ⟨q, 10, none⟩ = some (.int .i64 x.cnt)

theorem BoxX.below {w w' : World} {q : Nat} {x : X} {nv : Value} (h : BoxX w q x nv) (hb : Below w.heap.size w w') : BoxX w' q x nv :=
  ⟨Below.kept hb h.c0, Below.kept hb h.c1, Below.kept hb h.c2, Below.kept hb h.c3, Below.kept hb h.c4, Below.kept hb h.c5, Below.kept hb h.c6, Below.kept hb h.c7, Below.kept hb h.c8, Below.kept hb h.c9, Below.kept hb h.c10⟩

theorem BoxX.made (w : World) (x : X) (nv : Value) (t : TypeId) : BoxX (w.alloc (.cells #[.int .i64 x.err, .string x.path, .string x.data, nv, .int .i64 x.made, .int .i64 x.changed, .int .i64 x.ver, .int .i64 x.kids, .int .i64 x.owner, .int .i64 x.len, .int .i64 x.cnt] t)) w.heap.size x nv :=
  ⟨cell?_alloc_at _ _ _ _ _ _ rfl, cell?_alloc_at _ _ _ _ _ _ rfl, cell?_alloc_at _ _ _ _ _ _ rfl, cell?_alloc_at _ _ _ _ _ _ rfl, cell?_alloc_at _ _ _ _ _ _ rfl, cell?_alloc_at _ _ _ _ _ _ rfl, cell?_alloc_at _ _ _ _ _ _ rfl, cell?_alloc_at _ _ _ _ _ _ rfl, cell?_alloc_at _ _ _ _ _ _ rfl, cell?_alloc_at _ _ _ _ _ _ rfl, cell?_alloc_at _ _ _ _ _ _ rfl⟩

theorem BoxX.all {w : World} {q : Nat} {x : X} {nv : Value} (h : BoxX w q x nv) : w.cell? ⟨q, 0, none⟩ = some (.int .i64 x.err) ∧ w.cell? ⟨q, 1, none⟩ = some (.string x.path) ∧ w.cell? ⟨q, 2, none⟩ = some (.string x.data) ∧ w.cell? ⟨q, 4, none⟩ = some (.int .i64 x.made) ∧ w.cell? ⟨q, 5, none⟩ = some (.int .i64 x.changed) ∧ w.cell? ⟨q, 6, none⟩ = some (.int .i64 x.ver) ∧ w.cell? ⟨q, 7, none⟩ = some (.int .i64 x.kids) ∧ w.cell? ⟨q, 8, none⟩ = some (.int .i64 x.owner) ∧ w.cell? ⟨q, 9, none⟩ = some (.int .i64 x.len) ∧ w.cell? ⟨q, 10, none⟩ = some (.int .i64 x.cnt) := ⟨h.c0, h.c1, h.c2, h.c4, h.c5, h.c6, h.c7, h.c8, h.c9, h.c10⟩

/-- A result that is not too great. -/
structure Light (x : X) : Prop where
  path : x.path.size ≤ 300
  data : x.data.size ≤ 300
  count : x.names.length ≤ 40
  texts : ∀ t ∈ x.names, t.size ≤ 100

theorem tbytes_len {ts : List ByteArray} (h : ∀ t ∈ ts, t.size ≤ 100) : (Rq.tbytes ts).length ≤ 108 * ts.length := by
  unfold Rq.tbytes
  induction ts with
  | nil => simp
  | cons t ts ih =>
    have h1 := h t (by simp)
    have h2 := ih (fun x hx => h x (by simp [hx]))
    have h3 : t.data.toList.length = t.size := rfl
    have h4 : (Pk.txt t.data.toList).length = 8 + t.size := by unfold Pk.txt; rw [List.length_append, Pk.be8_len, h3]
    rw [List.flatMap_cons, List.length_append, List.length_cons]
    omega

theorem xbytes_len {x : X} (h : Light x) : (Rq.xbytes x).length ≤ 5010 := by
  have h1 := tbytes_len h.texts
  have h2 := h.count
  have h3 := h.path
  have h4 := h.data
  have e1 : x.path.data.toList.length = x.path.size := rfl
  have e2 : x.data.data.toList.length = x.data.size := rfl
  unfold Rq.xbytes Rq.sbytes Pk.txt
  simp only [List.length_append, Pk.be8_len]
  omega

theorem flatx_len {xs : List X} (h : ∀ x ∈ xs, Light x) : (xs.flatMap Rq.xbytes).length ≤ 5010 * xs.length := by
  induction xs with
  | nil => simp
  | cons x xs ih =>
    have h1 := xbytes_len (h x (by simp))
    have h2 := ih (fun y hy => h y (by simp [hy]))
    rw [List.flatMap_cons, List.length_append, List.length_cons]
    omega

theorem heavy_light {xs : List X} (h : heavyB xs = false) : xs.length ≤ 20 ∧ ∀ x ∈ xs, Light x := by
  unfold heavyB at h
  simp only [Bool.or_eq_false_iff, decide_eq_false_iff_not] at h
  refine ⟨by omega, fun x hx => ?_⟩
  have h2 := List.any_eq_false.1 h.2 x hx
  unfold heavyX longB at h2
  simp only [Bool.not_eq_true, Bool.or_eq_false_iff, decide_eq_false_iff_not, List.any_eq_false, decide_eq_true_eq] at h2
  exact ⟨by omega, by omega, by omega, fun t ht => by have := h2.2 t ht; omega⟩
end Go.Proofs.YtjimemnkmpapgaaGreatDoor
namespace Go.Proofs.YtjimemnkmpapgaaGreatDoor
open Go.RowKit

/-- Are two Stats alike? -/
def sameS (x y : X) : Bool := (x.made == y.made) && ((x.changed == y.changed) && ((x.ver == y.ver) && ((x.kids == y.kids) && ((x.owner == y.owner) && ((x.len == y.len) && (x.cnt == y.cnt))))))
/-- A Stat as a value. -/
def sv (x : X) : Value := .agg #[.int .i64 x.made, .int .i64 x.changed, .int .i64 x.ver, .int .i64 x.kids, .int .i64 x.owner, .int .i64 x.len, .int .i64 x.cnt]

theorem stat_equal (x y : X) (w : World) : (Op.equalIn 10000 48 (sv x) (sv y)).run Tryz.prog w = .ok (sameS x y) w := by
  unfold sv
  rw [run_equalIn_struct w 9999 _ _ _ (by kernel_rfl) (by kernel_rfl)]
  have hf : (Tryz.prog.fieldsOf 48).toList = [{ name := "Made", type := 2, offset := 0, embedded := false, tag := "", pkgPath := "", byteOffset := 0 }, { name := "Changed", type := 2, offset := 1, embedded := false, tag := "", pkgPath := "", byteOffset := 8 }, { name := "Version", type := 3, offset := 2, embedded := false, tag := "", pkgPath := "", byteOffset := 16 }, { name := "Kids", type := 3, offset := 3, embedded := false, tag := "", pkgPath := "", byteOffset := 24 }, { name := "Owner", type := 2, offset := 4, embedded := false, tag := "", pkgPath := "", byteOffset := 32 }, { name := "Length", type := 3, offset := 5, embedded := false, tag := "", pkgPath := "", byteOffset := 40 }, { name := "Count", type := 3, offset := 6, embedded := false, tag := "", pkgPath := "", byteOffset := 48 }] := by kernel_rfl
  rw [hf]
  unfold sameS
  have ui := Tryz.underlying3
  have ul := Tryz.underlying2
  simp only [Op.eqFields]
  simp [go_sem, part, ui, ul]
  by_cases h1 : x.made = y.made <;> by_cases h2 : x.changed = y.changed <;> by_cases h3 : x.ver = y.ver <;> by_cases h4 : x.kids = y.kids <;> by_cases h5 : x.owner = y.owner <;> by_cases h6 : x.len = y.len <;> by_cases h7 : x.cnt = y.cnt <;> simp [h1, h2, h3, h4, h5, h6, h7]

theorem stat_eql (x y : X) (w : World) : (binOp .eql 48 (.agg #[.int .i64 x.made, .int .i64 x.changed, .int .i64 x.ver, .int .i64 x.kids, .int .i64 x.owner, .int .i64 x.len, .int .i64 x.cnt]) (.agg #[.int .i64 y.made, .int .i64 y.changed, .int .i64 y.ver, .int .i64 y.kids, .int .i64 y.owner, .int .i64 y.len, .int .i64 y.cnt])).run Tryz.prog w = .ok (.bool (sameS x y)) w := by
  have h := stat_equal x y w
  unfold sv at h
  rw [run_eql_struct, h]
  rfl

theorem stat_guard (op : BinOp) (a b : Operand) (xs ys : Array Value) (w : World) : (eqGuard op 48 a b (.agg xs) (.agg ys)).run Tryz.prog w = .ok () w := run_eqGuard_agg w op _ a b xs ys (by kernel_rfl)

theorem x_ext {x y : X} (h1 : x.err = y.err) (h2 : x.path.toList = y.path.toList) (h3 : x.data.toList = y.data.toList) (h4 : x.names = y.names) (h5 : sameS x y = true) : x = y := by
  obtain ⟨a1, a2, a3, a4, a5, a6, a7, a8, a9, a10, a11⟩ := x
  obtain ⟨b1, b2, b3, b4, b5, b6, b7, b8, b9, b10, b11⟩ := y
  unfold sameS at h5
  simp only [Bool.and_eq_true, beq_iff_eq] at h1 h2 h3 h4 h5
  have e2 : a2 = b2 := bytes_eq (by simpa using h2)
  have e3 : a3 = b3 := bytes_eq (by simpa using h3)
  obtain ⟨c1, c2, c3, c4, c5, c6, c7⟩ := h5
  rw [h1, e2, e3, h4, c1, c2, c3, c4, c5, c6, c7]

theorem sameS_refl (x : X) : sameS x x = true := by simp [sameS]

theorem At11.all {w : World} {g b : Nat} {x : X} {nv : Value} (h : At11 w g b x nv) : w.cell? ⟨g, b, none⟩ = some (.int .i64 x.err) ∧ w.cell? ⟨g, b + 1, none⟩ = some (.string x.path) ∧ w.cell? ⟨g, b + 2, none⟩ = some (.string x.data) ∧ w.cell? ⟨g, b + 3, none⟩ = some (nv) ∧ w.cell? ⟨g, b + 4, none⟩ = some (.int .i64 x.made) ∧ w.cell? ⟨g, b + 5, none⟩ = some (.int .i64 x.changed) ∧ w.cell? ⟨g, b + 6, none⟩ = some (.int .i64 x.ver) ∧ w.cell? ⟨g, b + 7, none⟩ = some (.int .i64 x.kids) ∧ w.cell? ⟨g, b + 8, none⟩ = some (.int .i64 x.owner) ∧ w.cell? ⟨g, b + 9, none⟩ = some (.int .i64 x.len) ∧ w.cell? ⟨g, b + 10, none⟩ = some (.int .i64 x.cnt) := ⟨h.c0, h.c1, h.c2, h.c3, h.c4, h.c5, h.c6, h.c7, h.c8, h.c9, h.c10⟩

/-- Lists of Names that are not too long. -/
def Few (xs : List X) : Prop := ∀ x ∈ xs, x.names.length ≤ 1000

theorem r_ext {r q : Rp} (h1 : r.num = q.num) (h2 : r.zxid = q.zxid) (h3 : r.err = q.err) (h4 : r.at_ = q.at_) (h5 : r.xs = q.xs) : r = q := by
  obtain ⟨a1, a2, a3, a4, a5⟩ := r
  obtain ⟨b1, b2, b3, b4, b5⟩ := q
  simp only [] at h1 h2 h3 h4 h5
  rw [h1, h2, h3, h4, h5]
end Go.Proofs.YtjimemnkmpapgaaGreatDoor
namespace Go.Proofs.YtjimemnkmpapgaaGreatDoor
open Go.RowKit

set_option maxRecDepth 20000 in
set_option maxHeartbeats 4000000 in
theorem refOne_any (P0 : Prop) (x y : X) (nv mv : Value) (w : World) (hx : Sq w nv x.names) (hy : Sq w mv y.names) (hxl : x.names.length ≤ 1000) (hyl : y.names.length ≤ 1000) (hP : P0 ↔ x = y) :
    Calls Tryz.prog 43 #[.agg #[.int .i64 x.err, .string x.path, .string x.data, nv, .int .i64 x.made, .int .i64 x.changed, .int .i64 x.ver, .int .i64 x.kids, .int .i64 x.owner, .int .i64 x.len, .int .i64 x.cnt], .agg #[.int .i64 y.err, .string y.path, .string y.data, mv, .int .i64 y.made, .int .i64 y.changed, .int .i64 y.ver, .int .i64 y.kids, .int .i64 y.owner, .int .i64 y.len, .int .i64 y.cnt]] w (BoolP P0 w) := by
  have HPP : Hid (P0 ↔ x = y) := hP
  have HN : Hid (Sq w nv x.names ∧ Sq w mv y.names ∧ x.names.length ≤ 1000 ∧ y.names.length ≤ 1000) := ⟨hx, hy, hxl, hyl⟩
  obtain ⟨an, kn, cn, rfl, hX⟩ := hx
  obtain ⟨am, km, cm, rfl, hY⟩ := hy
  clear hX hY hxl hyl hP
  obtain ⟨q1, hq1⟩ : ∃ q, q = w.heap.size + 1 := ⟨_, rfl⟩
  obtain ⟨wA, hwA⟩ : ∃ W, W = w.alloc (.cells #[.int .i64 x.err, .string x.path, .string x.data, .slice an kn cn, .int .i64 x.made, .int .i64 x.changed, .int .i64 x.ver, .int .i64 x.kids, .int .i64 x.owner, .int .i64 x.len, .int .i64 x.cnt] 50) := ⟨_, rfl⟩
  obtain ⟨w1, hw1⟩ : ∃ W, W = wA.alloc (.cells #[.int .i64 y.err, .string y.path, .string y.data, .slice am km cm, .int .i64 y.made, .int .i64 y.changed, .int .i64 y.ver, .int .i64 y.kids, .int .i64 y.owner, .int .i64 y.len, .int .i64 y.cnt] 50) := ⟨_, rfl⟩
  have hA : Below w.heap.size w wA := by rw [hwA]; exact (Below.refl _ w).alloc (Nat.le_refl _) _
  have hAs : wA.heap.size = w.heap.size + 1 := by rw [hwA, World.size_alloc]
  have h1A : Below wA.heap.size wA w1 := by rw [hw1]; exact (Below.refl _ wA).alloc (Nat.le_refl _) _
  have HB1 : Hid (Below w.heap.size w w1) := hA.trans (h1A.mono (by omega))
  have HX1 : Hid (BoxX w1 w.heap.size x (.slice an kn cn) ∧ BoxX w1 q1 y (.slice am km cm)) := by
    refine ⟨?_, ?_⟩
    · have h : BoxX wA w.heap.size x (.slice an kn cn) := by rw [hwA]; exact BoxX.made w x _ _
      exact h.below h1A
    · rw [hw1, hq1, ← hAs]
      exact BoxX.made wA y _ _
  clear hA hAs h1A
  go_enter Tryz.func43, Tryz.ntmps43
  go_upto_region 1 with fail
  rw [← hq1, ← hwA, ← hw1]
  clear hq1 hwA hw1
  obtain ⟨c0, c1, c2, c3, c4, c5, c6, c7, c8, c9, c10⟩ := HX1.out.1
  obtain ⟨d0, d1, d2, d3, d4, d5, d6, d7, d8, d9, d10⟩ := HX1.out.2
  by_cases h1 : x.err = y.err
  rotate_left
  · have HNE : Hid (¬ x = y) := fun e => h1 (by rw [e])
    go_wp2
    go_ret
    exact ⟨false, rfl, ⟨fun h => (by cases h), fun h => absurd (HPP.out.1 h) HNE.out⟩, HB1.out⟩
  by_cases h2 : x.path.toList = y.path.toList
  rotate_left
  · have HNE : Hid (¬ x = y) := fun e => h2 (by rw [e])
    go_wp2
    go_ret
    exact ⟨false, rfl, ⟨fun h => (by cases h), fun h => absurd (HPP.out.1 h) HNE.out⟩, HB1.out⟩
  by_cases h3 : x.data.toList = y.data.toList
  rotate_left
  · have HNE : Hid (¬ x = y) := fun e => h3 (by rw [e])
    go_wp2
    go_ret
    exact ⟨false, rfl, ⟨fun h => (by cases h), fun h => absurd (HPP.out.1 h) HNE.out⟩, HB1.out⟩
  have H123 : Hid (x.err = y.err ∧ x.path.toList = y.path.toList ∧ x.data.toList = y.data.toList) := ⟨h1, h2, h3⟩
  go_wp2_with fail
  refine (Pw.same_any _ _ x.names y.names _ (HN.out.1.ss.below HB1.out) (HN.out.2.1.ss.below HB1.out) HN.out.2.2.1 HN.out.2.2.2).mono ?_
  rintro e w2 ⟨rfl, hb⟩
  have HB2 : Hid (Below w.heap.size w w2) := HB1.out.trans (hb.mono HB1.out.size)
  have HX2 : Hid (BoxX w2 w.heap.size x (.slice an kn cn) ∧ BoxX w2 q1 y (.slice am km cm)) := ⟨HX1.out.1.below hb, HX1.out.2.below hb⟩
  clear hb c0 c1 c2 c3 c4 c5 c6 c7 c8 c9 c10 d0 d1 d2 d3 d4 d5 d6 d7 d8 d9 d10 h1 h2 h3
  obtain ⟨C, hC⟩ : ∃ C, C = decide (x.names = y.names) := ⟨_, rfl⟩
  have HC : Hid (C = decide (x.names = y.names)) := hC
  rw [← hC]
  clear hC
  cases C with
  | false =>
    have HNE : Hid (¬ x = y) := fun e => by
      have h := HC.out
      rw [decide_eq_true (by rw [e])] at h
      cases h
    go_wp2
    go_ret
    exact ⟨false, rfl, ⟨fun h => (by cases h), fun h => absurd (HPP.out.1 h) HNE.out⟩, HB2.out⟩
  | true =>
    obtain ⟨c0, c1, c2, c3, c4, c5, c6, c7, c8, c9, c10⟩ := HX2.out.1
    obtain ⟨d0, d1, d2, d3, d4, d5, d6, d7, d8, d9, d10⟩ := HX2.out.2
    obtain ⟨E, hE⟩ : ∃ E, E = sameS x y := ⟨_, rfl⟩
    have HE : Hid (E = true ↔ x = y) := by
      have h : E = true ↔ x = y := by
        rw [hE]
        constructor
        · intro h
          exact x_ext H123.out.1 H123.out.2.1 H123.out.2.2 (of_decide_eq_true HC.out.symm) h
        · intro h
          rw [h]
          exact sameS_refl y
      exact h
    have heq : ∀ W, (binOp .eql 48 (.agg #[.int .i64 x.made, .int .i64 x.changed, .int .i64 x.ver, .int .i64 x.kids, .int .i64 x.owner, .int .i64 x.len, .int .i64 x.cnt]) (.agg #[.int .i64 y.made, .int .i64 y.changed, .int .i64 y.ver, .int .i64 y.kids, .int .i64 y.owner, .int .i64 y.len, .int .i64 y.cnt])).run Tryz.prog W = .ok (.bool E) W := fun W => by rw [hE]; exact stat_eql x y W
    have hgd : ∀ a b W, (eqGuard .eql 48 a b (.agg #[.int .i64 x.made, .int .i64 x.changed, .int .i64 x.ver, .int .i64 x.kids, .int .i64 x.owner, .int .i64 x.len, .int .i64 x.cnt]) (.agg #[.int .i64 y.made, .int .i64 y.changed, .int .i64 y.ver, .int .i64 y.kids, .int .i64 y.owner, .int .i64 y.len, .int .i64 y.cnt])).run Tryz.prog W = .ok () W := fun a b W => stat_guard _ _ _ _ _ _
    clear hE
    go_wp2
    go_ret
    exact ⟨E, rfl, ⟨fun h => HPP.out.2 (HE.out.1 h), fun h => HE.out.2 (HPP.out.1 h)⟩, HB2.out⟩

set_option maxRecDepth 20000 in
set_option maxHeartbeats 4000000 in
theorem refAll_any (P0 : Prop) (u u' : Value) (xs ys : List X) (w : World) (hu : Rl w u xs) (hu' : Rl w u' ys) (hl : xs.length ≤ maxLen) (hl' : ys.length ≤ maxLen) (hx : Few xs) (hy : Few ys) (hP : P0 ↔ xs = ys) :
    Calls Tryz.prog 24 #[u, u'] w (BoolP P0 w) := by
  have HPP : Hid (P0 ↔ xs = ys) := hP
  have HU : Hid (Rl w u xs ∧ Rl w u' ys ∧ Few xs ∧ Few ys) := ⟨hu, hu', hx, hy⟩
  obtain ⟨au, m, cu, rfl, hm, hX⟩ := hu
  obtain ⟨au', m', cu', rfl, hm', hX'⟩ := hu'
  have HM : Hid (m = xs.length ∧ m' = ys.length) := ⟨hm, hm'⟩
  have hm1 : m ≤ 9223372036854775807 := by unfold maxLen at hl; omega
  have hm2 : m' ≤ 9223372036854775807 := by unfold maxLen at hl'; omega
  clear hm hm' hl hl' hX hX' hx hy hP
  go_enter Tryz.func24, Tryz.ntmps24
  by_cases h3 : m = m'
  · subst h3
    go_wp2
    go_loopw [5] (fun i wr => ∃ k : Nat, k ≤ m ∧ i = .int .i64 (k : Int) ∧ (∀ j : Nat, j < k → xs[j]? = ys[j]?) ∧ Below w.heap.size w wr) (fun i _ => ((m : Int) - intOf i).toNat)
    case atStart => exact ⟨0, Nat.zero_le _, rfl, fun j hj => by omega, Below.refl _ _⟩
    case round =>
      obtain ⟨k, hk, rfl, hsame, hb⟩ := hrel
      have HS : Hid (∀ j : Nat, j < k → xs[j]? = ys[j]?) := hsame
      have HB : Hid (Below w.heap.size w wr) := hb
      clear hsame hb
      by_cases hlt : k < m
      · have hlt' : (k : Int) < (m : Int) := by omega
        have hkl : k < xs.length := by rw [← HM.out.1]; exact hlt
        have hkl' : k < ys.length := by rw [← HM.out.2]; exact hlt
        obtain ⟨g, b, c', hv', hcc, hcs⟩ := (HU.out.1.below HB.out).at (by omega)
        simp only [Value.slice.injEq] at hv'
        obtain ⟨rfl, hq, rfl⟩ := hv'
        obtain ⟨nv, hnv, hat⟩ := hcs k xs[k] (List.getElem?_eq_getElem hkl)
        obtain ⟨g', b', c'', hv'', hcc', hcs'⟩ := (HU.out.2.1.below HB.out).at (by omega)
        simp only [Value.slice.injEq] at hv''
        obtain ⟨rfl, hq', rfl⟩ := hv''
        obtain ⟨mv, hmv, hat'⟩ := hcs' k ys[k] (List.getElem?_eq_getElem hkl')
        have HK : Hid (xs[k]? = some xs[k] ∧ ys[k]? = some ys[k] ∧ xs[k].names.length ≤ 1000 ∧ ys[k].names.length ≤ 1000) := ⟨List.getElem?_eq_getElem hkl, List.getElem?_eq_getElem hkl', HU.out.2.2.1 _ (List.getElem_mem hkl), HU.out.2.2.2 _ (List.getElem_mem hkl')⟩
        generalize xs[k] = x at *
        generalize ys[k] = y at *
        clear hcs hcs' hq hq' hkl hkl' hcc hcc'
        have HNV : Hid (Sq wr nv x.names ∧ Sq wr mv y.names) := ⟨hnv, hmv⟩
        obtain ⟨an, kn, cn, rfl, hY1⟩ := hnv
        obtain ⟨am, km, cm, rfl, hY2⟩ := hmv
        clear hY1 hY2
        have kk := And.intro hat.all hat'.all
        have HAT : Hid (At11 wr g (b + k * 11) x (.slice an kn cn) ∧ At11 wr g' (b' + k * 11) y (.slice am km cm)) := ⟨hat, hat'⟩
        clear hat hat'
        go_wp2
        go_region_held3 (fun w' => (w'.cell? ⟨g, b + k * 11, none⟩ = some (.int .i64 x.err) ∧ w'.cell? ⟨g, b + k * 11 + 1, none⟩ = some (.string x.path) ∧ w'.cell? ⟨g, b + k * 11 + 2, none⟩ = some (.string x.data) ∧ w'.cell? ⟨g, b + k * 11 + 3, none⟩ = some (.slice an kn cn) ∧ w'.cell? ⟨g, b + k * 11 + 4, none⟩ = some (.int .i64 x.made) ∧ w'.cell? ⟨g, b + k * 11 + 5, none⟩ = some (.int .i64 x.changed) ∧ w'.cell? ⟨g, b + k * 11 + 6, none⟩ = some (.int .i64 x.ver) ∧ w'.cell? ⟨g, b + k * 11 + 7, none⟩ = some (.int .i64 x.kids) ∧ w'.cell? ⟨g, b + k * 11 + 8, none⟩ = some (.int .i64 x.owner) ∧ w'.cell? ⟨g, b + k * 11 + 9, none⟩ = some (.int .i64 x.len) ∧ w'.cell? ⟨g, b + k * 11 + 10, none⟩ = some (.int .i64 x.cnt)) ∧ (w'.cell? ⟨g', b' + k * 11, none⟩ = some (.int .i64 y.err) ∧ w'.cell? ⟨g', b' + k * 11 + 1, none⟩ = some (.string y.path) ∧ w'.cell? ⟨g', b' + k * 11 + 2, none⟩ = some (.string y.data) ∧ w'.cell? ⟨g', b' + k * 11 + 3, none⟩ = some (.slice am km cm) ∧ w'.cell? ⟨g', b' + k * 11 + 4, none⟩ = some (.int .i64 y.made) ∧ w'.cell? ⟨g', b' + k * 11 + 5, none⟩ = some (.int .i64 y.changed) ∧ w'.cell? ⟨g', b' + k * 11 + 6, none⟩ = some (.int .i64 y.ver) ∧ w'.cell? ⟨g', b' + k * 11 + 7, none⟩ = some (.int .i64 y.kids) ∧ w'.cell? ⟨g', b' + k * 11 + 8, none⟩ = some (.int .i64 y.owner) ∧ w'.cell? ⟨g', b' + k * 11 + 9, none⟩ = some (.int .i64 y.len) ∧ w'.cell? ⟨g', b' + k * 11 + 10, none⟩ = some (.int .i64 y.cnt))) (first | exact kk | exact kk2) (first | (go_at_call 43; refine (refOne_any (x = y) x y _ _ _ (HNV.out.1.below (Below.refl _ _).drew) (HNV.out.2.below (Below.refl _ _).drew) HK.out.2.2.1 HK.out.2.2.2 Iff.rfl).mono ?_; rintro e w2 ⟨R, rfl, hR, hb0⟩; have hb := below_drew hb0; have HR : Hid (R = true ↔ x = y) := hR; have HB2 : Hid (Below w.heap.size w w2) := HB.out.trans (hb.mono HB.out.size); have kk2 := And.intro (HAT.out.1.below hb).all (HAT.out.2.below hb).all; clear hR hb hb0))
        clear kk kk2
        cases R with
        | false =>
          have HNE : Hid (¬ xs = ys) := fun e => by
            have h1 := HK.out.1
            rw [e, HK.out.2.1] at h1
            have := HR.out.2 (Option.some.inj h1).symm
            cases this
          go_wp2
          go_ret
          exact ⟨false, rfl, ⟨fun h => (by cases h), fun h => absurd (HPP.out.1 h) HNE.out⟩, HB2.out⟩
        | true =>
          have HS2 : Hid (∀ j : Nat, j < k + 1 → xs[j]? = ys[j]?) := fun j hj => by
            by_cases hjk : j < k
            · exact HS.out j hjk
            · obtain rfl : j = k := by omega
              rw [HK.out.1, HK.out.2.1, HR.out.1 rfl]
          go_wp2
          go_roundw
          case rel => exact ⟨k + 1, by omega, by go_num, HS2.out, HB2.out⟩
          case measure => simp [intOf]; omega
      · have hlt' : ¬ (k : Int) < (m : Int) := by omega
        have HEQ : Hid (xs = ys) := by
          have h : xs = ys := by
            apply List.ext_getElem?
            intro j
            by_cases hj : j < k
            · exact HS.out j hj
            · rw [List.getElem?_eq_none (by rw [← HM.out.1]; omega), List.getElem?_eq_none (by rw [← HM.out.2]; omega)]
          exact h
        go_wp2
        go_ret
        exact ⟨true, rfl, ⟨fun _ => HPP.out.2 HEQ.out, fun _ => rfl⟩, HB.out⟩
  · have h3' : ¬ (m : Int) = (m' : Int) := by omega
    have HNE : Hid (¬ xs = ys) := fun e => h3 (by rw [HM.out.1, HM.out.2, e])
    clear h3
    go_wp2
    go_ret
    exact ⟨false, rfl, ⟨fun h => (by cases h), fun h => absurd (HPP.out.1 h) HNE.out⟩, Below.refl _ _⟩

end Go.Proofs.YtjimemnkmpapgaaGreatDoor
