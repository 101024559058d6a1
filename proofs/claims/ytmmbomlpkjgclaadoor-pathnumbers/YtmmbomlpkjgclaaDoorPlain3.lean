/- What is of no program: numbers of ten digits behind a path: their order, and what a numbered path is. -/
import Derived.Test.YtmmbomlpkjgclaaDoorPlain2
import GoSem.Op.String
namespace Go.Proofs.YtmmbomlpkjgclaaDoor.Pl

/-- The last k digits of n. -/
def fx : Nat → Nat → List UInt8
  | 0, _ => []
  | k + 1, n => fx k (n / 10) ++ [UInt8.ofNat (48 + n % 10)]

theorem fx_len : ∀ k n, (fx k n).length = k
  | 0, _ => rfl
  | k + 1, n => by simp [fx, fx_len k]

theorem fx_zero : ∀ k, fx k 0 = List.replicate k 48
  | 0 => rfl
  | k + 1 => by rw [fx, Nat.zero_div, fx_zero k, List.replicate_succ']; rfl

theorem pad_fx : ∀ (k n : Nat), 1 ≤ k → n < 10 ^ k → List.replicate (k - (Lib.decDigits n).length) 48 ++ Lib.decDigits n = fx k n
  | 0, _, h, _ => by omega
  | k + 1, n, _, h => by
    by_cases hs : n < 10
    · rw [Lib.decDigits_one hs, fx, Nat.div_eq_of_lt hs, fx_zero, Nat.mod_eq_of_lt hs]; rfl
    · have hk : 1 ≤ k := by
        rcases Nat.eq_zero_or_pos k with rfl | h'
        · simp at h; omega
        · exact h'
      have e : Lib.decDigits n = Lib.decDigits (n / 10) ++ [UInt8.ofNat (48 + n % 10)] := by rw [Lib.decDigits, dif_neg hs]
      have ih := pad_fx k (n / 10) hk (by rw [Nat.pow_succ] at h; omega)
      rw [e, fx, ← ih, List.length_append, List.length_singleton, Nat.add_sub_add_right, List.append_assoc]

theorem dig10_fx {n : Nat} (h : n ≤ 2147483647) : dig10 n = fx 10 n := pad_fx 10 n (by decide) (by omega)

theorem less_snoc : ∀ (x y : List UInt8) (c d : UInt8), x.length = y.length → Op.bytesLess (x ++ [c]) (y ++ [d]) = (Op.bytesLess x y || (x == y && decide (c < d)))
  | [], [], c, d, _ => by simp [Op.bytesLess]
  | [], _ :: _, _, _, h => by simp at h
  | _ :: _, [], _, _, h => by simp at h
  | a :: x, b :: y, c, d, h => by
    have ih := less_snoc x y c d (by simpa using h)
    simp only [List.cons_append, Op.bytesLess, ih]
    by_cases hab : a = b
    · subst hab; simp
    · have : (a == b) = false := by simpa using hab
      simp [this]

theorem less_append : ∀ (p x y : List UInt8), Op.bytesLess (p ++ x) (p ++ y) = Op.bytesLess x y
  | [], _, _ => rfl
  | a :: p, x, y => by simp [Op.bytesLess, less_append p x y]

theorem digit_lt (a b : Nat) (ha : a < 10) (hb : b < 10) : decide (UInt8.ofNat (48 + a) < UInt8.ofNat (48 + b)) = decide (a < b) := by
  rw [decide_eq_decide, UInt8.lt_iff_toNat_lt, UInt8.toNat_ofNat', UInt8.toNat_ofNat']
  omega

theorem digit_inj {a b : Nat} (ha : a < 10) (hb : b < 10) (h : UInt8.ofNat (48 + a) = UInt8.ofNat (48 + b)) : a = b := by
  have := congrArg UInt8.toNat h
  rw [UInt8.toNat_ofNat', UInt8.toNat_ofNat'] at this
  omega

theorem fx_inj : ∀ (k a b : Nat), a < 10 ^ k → b < 10 ^ k → fx k a = fx k b → a = b
  | 0, a, b, ha, hb, _ => by simp at ha hb; omega
  | k + 1, a, b, ha, hb, h => by
    rw [fx, fx] at h
    have h2 := List.append_inj' h rfl
    rw [Nat.pow_succ] at ha hb
    have e1 := fx_inj k (a / 10) (b / 10) (by omega) (by omega) h2.1
    have e2 := digit_inj (Nat.mod_lt a (by decide)) (Nat.mod_lt b (by decide)) (List.singleton_inj.1 h2.2)
    omega

theorem fx_less : ∀ (k a b : Nat), a < 10 ^ k → b < 10 ^ k → Op.bytesLess (fx k a) (fx k b) = decide (a < b)
  | 0, a, b, ha, hb => by
    simp at ha hb
    subst ha; subst hb; rfl
  | k + 1, a, b, ha, hb => by
    rw [Nat.pow_succ] at ha hb
    rw [fx, fx, less_snoc _ _ _ _ (by rw [fx_len, fx_len]), fx_less k (a / 10) (b / 10) (by omega) (by omega), digit_lt _ _ (Nat.mod_lt a (by decide)) (Nat.mod_lt b (by decide))]
    by_cases he : a / 10 = b / 10
    · rw [he]
      simp
      omega
    · have hne : (fx k (a / 10) == fx k (b / 10)) = false := by
        rw [beq_eq_false_iff_ne]
        intro h
        exact he (fx_inj k _ _ (by omega) (by omega) h)
      rw [hne]
      simp
      omega

theorem fx_digits : ∀ (k n : Nat), ∀ c ∈ fx k n, 48 ≤ c.toNat ∧ c.toNat ≤ 57
  | 0, _ => by simp [fx]
  | k + 1, n => by
    intro c hc
    rw [fx] at hc
    rcases List.mem_append.1 hc with h | h
    · exact fx_digits k _ c h
    · rw [List.mem_singleton.1 h, UInt8.toNat_ofNat']
      have := Nat.mod_lt n (show 0 < 10 by decide)
      omega

/-- A name with ten digits behind it. -/
theorem nameB_num {n d : List UInt8} (hn : nameB n = true) (hd : d.length = 10) (hdig : ∀ c ∈ d, 48 ≤ c.toNat ∧ c.toNat ≤ 57) : nameB (n ++ d) = decide (n.length + 10 ≤ 40) := by
  have hlen : (n ++ d).length = n.length + 10 := by rw [List.length_append, hd]
  unfold nameB at hn
  simp only [Bool.and_eq_true, decide_eq_true_eq] at hn
  obtain ⟨⟨⟨⟨h1, _⟩, _⟩, _⟩, hall⟩ := hn
  have hall2 : (n ++ d).all byteB = true := by
    rw [List.all_append, hall, Bool.true_and, List.all_eq_true]
    intro c hc
    obtain ⟨a, b⟩ := hdig c hc
    refine byteB_yes (by omega) (by omega) ?_
    rw [beq_eq_false_iff_ne]
    omega
  by_cases h40 : n.length + 10 ≤ 40
  · rw [decide_eq_true h40, nameB_rest (by intro e; rw [e] at hlen; simp at hlen) (by omega) (by intro e; rw [e] at hlen; simp at hlen) (by intro e; rw [e] at hlen; simp at hlen)]
    exact hall2
  · rw [decide_eq_false h40]; exact nameB_long (by omega)

theorem num_form {p : List UInt8} (hp : goodB p = true) (d : List UInt8) : ∃ l n, parts p = l ++ [n] ∧ p = of (l ++ [n]) ∧ p ++ d = of (l ++ [n ++ d]) ∧ namesB (l ++ [n]) = true ∧ name p = n ∧ parent p = of l := by
  obtain ⟨e, hn, _⟩ := good_parts hp
  have h1 := namesB_len hn
  have hne : parts p ≠ [] := by intro hh; rw [hh] at h1; simp at h1
  have ep := (List.dropLast_concat_getLast hne).symm
  refine ⟨(parts p).dropLast, (parts p).getLast hne, ep, by rw [← ep]; exact e, ?_, by rw [← ep]; exact hn, ?_, rfl⟩
  · conv => lhs; rw [e, ep]
    rw [of_append, of_append]
    simp [of]
  · rw [name, List.getLast?_eq_some_getLast hne]; rfl

theorem good_num {p d : List UInt8} (hp : goodB p = true) (hd : d.length = 10) (hdig : ∀ c ∈ d, 48 ≤ c.toNat ∧ c.toNat ≤ 57) : goodB (p ++ d) = (decide (p.length + 10 ≤ 200) && decide ((name p).length + 10 ≤ 40)) := by
  obtain ⟨l, n, e1, e2, e3, hn, enm, _⟩ := num_form hp d
  rw [enm]
  have hc := namesB_clean hn
  have hnn : nameB n = true := by
    unfold namesB at hn
    simp only [Bool.and_eq_true, List.all_eq_true] at hn
    exact hn.2 n (by simp)
  have hnum := nameB_num hnn hd hdig
  have h8 := namesB_len hn
  have hnames : namesB (l ++ [n ++ d]) = decide (n.length + 10 ≤ 40) := by
    rw [namesB_rest (by simp) (by simpa using h8.2), List.all_append]
    have hl : l.all nameB = true := by
      unfold namesB at hn
      simp only [Bool.and_eq_true, List.all_append] at hn
      exact hn.2.1
    rw [hl, Bool.true_and]
    simp [hnum]
  have hlen : (p ++ d).length = p.length + 10 := by rw [List.length_append, hd]
  have hcl : ∀ x ∈ l ++ [n ++ d], ∀ c ∈ x, c ≠ 47 := by
    intro x hx
    rcases List.mem_append.1 hx with h | h
    · exact hc x (List.mem_append_left _ h)
    · rw [List.mem_singleton.1 h]
      intro c hcc
      rcases List.mem_append.1 hcc with h' | h'
      · exact hc n (by simp) c h'
      · obtain ⟨a, b⟩ := hdig c h'
        intro e; subst e
        simp at a
  cases hg : goodB (p ++ d) with
  | true =>
    have hl200 := (good_parts hg).2.2
    rw [hlen] at hl200
    obtain ⟨m, hm, em, _⟩ := (good_iff _).1 hg
    have : m = l ++ [n ++ d] := by
      have h1 : spl ((of m).drop 1) = m := by
        obtain ⟨x, ex, sx⟩ := spl_drop_of hm
        rw [ex]; exact sx
      rw [← h1, ← em, e3]
      cases hh : l ++ [n ++ d] with
      | nil => simp at hh
      | cons a t =>
        rw [of, List.drop_succ_cons, List.drop_zero]
        exact spl_of a t (by rw [← hh]; exact hcl)
    rw [this, hnames] at hm
    rw [decide_eq_true hl200, hm]; rfl
  | false =>
    symm
    rw [Bool.and_eq_false_iff]
    by_cases h200 : p.length + 10 ≤ 200
    · right
      cases hd40 : decide (n.length + 10 ≤ 40) with
      | false => rfl
      | true =>
        rw [hd40] at hnames
        have := (good_iff (p ++ d)).2 ⟨_, hnames, e3, by omega⟩
        rw [hg] at this; cases this
    · left; exact decide_eq_false h200

theorem num_parts {p d : List UInt8} (hp : goodB p = true) (hg : goodB (p ++ d) = true) (hcl : ∀ c ∈ d, c ≠ 47) : (parts (p ++ d)).length = (parts p).length ∧ parent (p ++ d) = parent p := by
  obtain ⟨l, n, e1, e2, e3, hn, enm, epar⟩ := num_form hp d
  have hc := namesB_clean hn
  have hq : parts (p ++ d) = l ++ [n ++ d] := by
    have h1 : parts (p ++ d) = spl ((p ++ d).drop 1) := by unfold parts; rw [hg]; rfl
    rw [h1, e3]
    cases hh : l ++ [n ++ d] with
    | nil => simp at hh
    | cons a t =>
      rw [of, List.drop_succ_cons, List.drop_zero]
      refine spl_of a t ?_
      rw [← hh]
      intro x hx
      rcases List.mem_append.1 hx with h | h
      · exact hc x (List.mem_append_left _ h)
      · rw [List.mem_singleton.1 h]
        intro c hcc
        rcases List.mem_append.1 hcc with h' | h'
        · exact hc n (by simp) c h'
        · exact hcl c h'
  refine ⟨by rw [hq, e1]; simp, ?_⟩
  rw [parent, hq, List.dropLast_concat, epar]
end Go.Proofs.YtmmbomlpkjgclaaDoor.Pl
