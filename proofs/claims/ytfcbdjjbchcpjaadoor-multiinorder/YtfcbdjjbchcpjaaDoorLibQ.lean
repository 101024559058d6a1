/- What the reference's IsName, Of and Join answer. What the reference's Cut answers at a slash. What the reference's Parts and Good answer. What the reference's Name, Top and Parent answer; and the program's and the reference's, for every text alike. What the reference's Same and Within answer. What the reference's Digits answers. What the reference's Number answers. -/
import Derived.Test.YtfcbdjjbchcpjaaDoorLibN
import Derived.Test.YtfcbdjjbchcpjaaDoorPln
import Derived.BigRegion
import Derived.Laws.BytesArg
import Derived.Deep.RegionWith
namespace Go.Proofs.YtfcbdjjbchcpjaaDoor.Pa
open Go.RowKit


theorem of_take (xs : List ByteArray) (k : Nat) (x : ByteArray) (h : xs[k]? = some x) : Pl.of ((xs.map (·.data.toList)).take (k + 1)) = Pl.of ((xs.map (·.data.toList)).take k) ++ 47 :: x.data.toList := by
  rw [names_take xs k x h, Pl.of_append]; simp [Pl.of]

theorem of_mono (l : List (List UInt8)) (k : Nat) : (Pl.of (l.take k)).length ≤ (Pl.of l).length := by
  conv => rhs; rw [← List.take_append_drop k l, Pl.of_append, List.length_append]
  omega


end Go.Proofs.YtfcbdjjbchcpjaaDoor.Pa
namespace Go.Proofs.YtfcbdjjbchcpjaaDoor.Pa
open Go.RowKit

theorem infoString : (Tryd.prog.info? 9).map (fun i => (i.zero, i.size, i.bytes)) = some (some (.string ⟨#[]⟩), 1, 16) := by kernel_rfl

theorem strs_oneCell (xs : List ByteArray) : ∀ u ∈ xs.map Value.string, u.oneCell' = true := by
  intro u hu
  obtain ⟨x, _, rfl⟩ := List.mem_map.1 hu
  rfl

/-- One byte more that is no slash. -/
theorem cut_more {B : Nat} {w wr : World} {g m cap : Nat} {ys : List ByteArray} {y : ByteArray} {z : ByteArray} (hown : wr.ownsRow B 9 1 (.slice (some ⟨g, 0, none⟩) (m + 1) cap) (m + 1) ((ys ++ [y]).map Value.string)) (hm : ys.length = m) (hB : B ≤ g) (hb : Below B w wr) :
    (wr.setCell ⟨g, m, none⟩ (.string z)).ownsRow B 9 1 (.slice (some ⟨g, 0, none⟩) (m + 1) cap) (m + 1) ((ys ++ [z]).map Value.string) ∧ Below B w (wr.setCell ⟨g, m, none⟩ (.string z)) := by
  refine ⟨?_, hb.setCell (by exact hB) _⟩
  have h := (hown.stored m (.string z)).1
  have e : ((ys ++ [y]).map Value.string).set m (.string z) = (ys ++ [z]).map Value.string := by
    subst hm
    simp
  rwa [e] at h

theorem own_form {w : World} {base n : Nat} {v : Value} {xs : List Value} (h : w.ownsRow base 9 1 v n xs) (hn : 1 ≤ n) : ∃ g cap, v = .slice (some ⟨g, 0, none⟩) n cap ∧ base ≤ g ∧ g < w.heap.size ∧ n ≤ cap := by
  rcases h.2 with ⟨_, h0⟩ | ⟨g, cap, cur, hv, hb, hg, hnc, _⟩
  · omega
  · exact ⟨g, cap, hv, hb, (Array.getElem?_eq_some_iff.1 hg).1, hnc⟩

theorem xs_last {xs : List ByteArray} (h : 1 ≤ xs.length) : ∃ ys y, xs = ys ++ [y] := by
  have hne : xs ≠ [] := by intro e; rw [e] at h; simp at h
  exact ⟨xs.dropLast, xs.getLast hne, (List.dropLast_concat_getLast hne).symm⟩

theorem one_byte (s : ByteArray) (k : Nat) (h : k < s.size) : (s.extract k (k + 1)).data.toList = [s[k]] := by
  rw [Lib.extract_data, Nat.add_sub_cancel_left]
  rw [List.drop_eq_getElem_cons (by rw [sz_list]; exact h)]
  rfl

theorem cut_names (ys : List ByteArray) (y s : ByteArray) (k : Nat) (h : k < s.size) : (ys ++ [y ++ s.extract k (k + 1)]).map (·.data.toList) = ys.map (·.data.toList) ++ [y.data.toList ++ [s[k]]] := by
  rw [List.map_append, ← one_byte s k h, ← data_append]; rfl


end Go.Proofs.YtfcbdjjbchcpjaaDoor.Pa
namespace Go.Proofs.YtfcbdjjbchcpjaaDoor.Pa
open Go.RowKit

theorem ret_slice {a : Option Addr} {n m c : Nat} (h : n = m) : Ending.returned (.slice a n c) = .returned (.slice a m c) := by rw [h]

/-- What Parts tells, the program's or the reference's. -/
def PartsPost (p : ByteArray) (w : World) (e : Ending) (w' : World) : Prop :=
  (Pl.goodB p.data.toList = true ∧ ∃ (g cap : Nat) (xs : List ByteArray), e = .returned (.slice (some ⟨g, 0, none⟩) xs.length cap) ∧ xs.length ≤ cap ∧ xs.map (·.data.toList) = Pl.parts p.data.toList ∧ Row w w' g xs) ∨
  (Pl.goodB p.data.toList = false ∧ e = .returned (.slice none 0 0) ∧ Below w.heap.size w w')

theorem head_eq (p : ByteArray) (h : 0 < p.size) : Lib.hasPrefix p.data.toList [47] = (p[0] == 47) := by
  obtain ⟨⟨l⟩⟩ := p
  cases l with
  | nil => exact absurd h (by decide)
  | cons c r =>
    show List.isPrefixOf [47] (c :: r) = (c == 47)
    rw [List.isPrefixOf_cons_cons]
    by_cases hc : c = 47
    · subst hc; rfl
    · have h1 : (47 == c) = false := by rw [beq_eq_false_iff_ne]; exact fun e => hc e.symm
      have h2 : (c == 47) = false := by rw [beq_eq_false_iff_ne]; exact hc
      rw [h1, h2]; rfl

theorem good_two {p : List UInt8} (h : Pl.goodB p = true) : 2 ≤ p.length := by
  obtain ⟨e, hn, _⟩ := Pl.good_parts h
  have h1 := Pl.namesB_len hn
  rw [e]
  match hl : Pl.parts p, h1 with
  | n :: t, _ =>
    rw [hl] at hn
    unfold Pl.namesB Pl.nameB at hn
    simp only [Bool.and_eq_true, decide_eq_true_eq, List.all_cons] at hn
    have := hn.2.1.1.1.1.1
    simp only [Pl.of, List.length_cons, List.length_append]
    omega



end Go.Proofs.YtfcbdjjbchcpjaaDoor.Pa
namespace Go.Proofs.YtfcbdjjbchcpjaaDoor.Pa
open Go.RowKit









end Go.Proofs.YtfcbdjjbchcpjaaDoor.Pa
namespace Go.Proofs.YtfcbdjjbchcpjaaDoor.Pa
open Go.RowKit




end Go.Proofs.YtfcbdjjbchcpjaaDoor.Pa
namespace Go.Proofs.YtfcbdjjbchcpjaaDoor.Pa
open Go.RowKit

theorem conv_one (W : World) (b : Nat) (z : Int) (h : W.cell? ⟨b, 0, none⟩ = some (.int .u8 z)) :
    (convert 92 9 (.slice (some ⟨b, 0, none⟩) 1 1)).run Tryd.prog W = .ok (.string (strOfNums [z])) W :=
  run_convert_bytes_arg W 92 5 Tryd.underlying92 Tryd.underlying5 b 0 1 1 [z] rfl (fun i hi => by
    obtain rfl : i = 0 := by omega
    exact h) 9 Tryd.underlying9

theorem conv_new (W : World) (z : Int) :
    (convert 92 9 (.slice (some ⟨W.heap.size, 0, none⟩) 1 1)).run Tryd.prog (W.alloc (.cells #[.int .u8 z] 5)) = .ok (.string (strOfNums [z])) (W.alloc (.cells #[.int .u8 z] 5)) :=
  conv_one _ _ z (by simp)

theorem nums_data (n : Nat) : (strOfNums [48 + (n : Int)]).data.toList = [UInt8.ofNat (48 + n)] := by
  have : (48 + (n : Int)).toNat = 48 + n := by omega
  simp [strOfNums, this]


theorem wrap_div (n : Nat) (h : n ≤ 2147483647) : IntKind.u64.wrap ((n : Int) / 10) = ((n / 10 : Nat) : Int) := by
  rw [IntKind.wrap_u64]
  omega

theorem wrap_mod (n : Nat) : IntKind.u8.wrap (IntKind.u64.wrap (48 + (n : Int).tmod 10)) = 48 + ((n % 10 : Nat) : Int) := by
  rw [Int.tmod_eq_emod_of_nonneg (by omega), IntKind.wrap_u64, IntKind.wrap_u8]
  omega

theorem below_alloc_drew {w w' : World} {o : Obj} (h : Below (w.alloc o).drew.heap.size (w.alloc o).drew w') : Below w.heap.size w w' :=
  ((Below.refl w.heap.size w).alloc (Nat.le_refl _) o).drew.trans (h.mono (by simp))

theorem digits_fin {n : Nat} {x : ByteArray} (hn : ¬ n < 10) (hx : x.data.toList = Lib.decDigits (n / 10)) : (x ++ strOfNums [48 + (n : Int) % 10]).data.toList = Lib.decDigits n := by
  have e : 48 + (n : Int) % 10 = 48 + ((n % 10 : Nat) : Int) := by omega
  rw [data_append, hx, e, nums_data]
  conv => rhs; rw [Lib.decDigits, dif_neg hn]



end Go.Proofs.YtfcbdjjbchcpjaaDoor.Pa
namespace Go.Proofs.YtfcbdjjbchcpjaaDoor.Pa
open Go.RowKit

def lenOf : Value → Nat
  | .string s => s.size
  | _ => 0


theorem zeros_more (k n : Nat) : List.replicate (k + 1) (48 : UInt8) ++ Lib.decDigits n = 48 :: (List.replicate k 48 ++ Lib.decDigits n) := by
  rw [List.replicate_succ]; rfl


end Go.Proofs.YtfcbdjjbchcpjaaDoor.Pa
