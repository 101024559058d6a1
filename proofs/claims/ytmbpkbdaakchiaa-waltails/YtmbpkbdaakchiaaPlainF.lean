/- Frames: plain reckoning, no program. -/
import Derived.Test.YtmbpkbdaakchiaaPlainC
import Derived.Test.YtmbpkbdaakchiaaPlain
namespace Go.Proofs.Ytmbpkbdaakchiaa.Fr

/-- A number's four bytes, the highest first. -/
def be4 (n : Nat) : List UInt8 := [UInt8.ofNat (n / 16777216 % 256), UInt8.ofNat (n / 65536 % 256), UInt8.ofNat (n / 256 % 256), UInt8.ofNat (n % 256)]

theorem be4_len (n : Nat) : (be4 n).length = 4 := rfl

theorem val_be4 (n : Nat) (h : n < 4294967296) : Pk.val (be4 n) = n := by
  unfold be4 Pk.val
  simp only [List.foldl_cons, List.foldl_nil, UInt8.toNat_ofNat']
  omega

theorem be4_inj {m n : Nat} (hm : m < 4294967296) (hn : n < 4294967296) (h : be4 m = be4 n) : m = n := by
  rw [← val_be4 m hm, ← val_be4 n hn, h]

theorem be4_val (a b c d : UInt8) : be4 (Pk.val [a, b, c, d]) = [a, b, c, d] := by
  unfold be4 Pk.val
  simp only [List.foldl_cons, List.foldl_nil]
  have ha := a.toNat_lt
  have hb := b.toNat_lt
  have hc := c.toNat_lt
  have hd := d.toNat_lt
  have e : ∀ (x : UInt8) (n : Nat), n = x.toNat → UInt8.ofNat n = x := fun x n h => by rw [h]; exact UInt8.ofNat_toNat
  rw [e a _ (by omega), e b _ (by omega), e c _ (by omega), e d _ (by omega)]

theorem val_inj4 {l m : List UInt8} (hl : l.length = 4) (hm : m.length = 4) (h : Pk.val l = Pk.val m) : l = m := by
  match l, m, hl, hm with
  | [a, b, c, d], [a', b', c', d'], _, _ => rw [← be4_val a b c d, ← be4_val a' b' c' d', h]

/-- The eight bytes ahead of the sum: how many bytes, and the same turned. -/
def head (n : Nat) : List UInt8 := be4 n ++ be4 (4294967295 - n)
/-- A record's frame. -/
def frame (r : List UInt8) : List UInt8 := head r.length ++ be4 (Cr.sum (head r.length ++ r)).toNat ++ r

theorem head_len (n : Nat) : (head n).length = 8 := rfl
theorem frame_len (r : List UInt8) : (frame r).length = 12 + r.length := by
  unfold frame
  rw [List.length_append, List.length_append, head_len, be4_len]

/-- The first frame of bytes: its record; or how it ends (1 torn, 2 broken). -/
def one (b : List UInt8) : Except Nat (List UInt8) :=
  if b.length < 12 then .error 1
  else if Pk.val ((b.drop 4).take 4) ≠ 4294967295 - Pk.val (b.take 4) ∨ 20000 < Pk.val (b.take 4) then .error 2
  else if b.length < 12 + Pk.val (b.take 4) then .error 1
  else if frame ((b.drop 12).take (Pk.val (b.take 4))) ≠ b.take (12 + Pk.val (b.take 4)) then .error 2
  else .ok ((b.drop 12).take (Pk.val (b.take 4)))

def scanN : Nat → List UInt8 → List (List UInt8) × Nat × Nat
  | 0, _ => ([], 0, 0)
  | f + 1, b => if b = [] then ([], 0, 0) else match one b with
    | .error h => ([], 0, h)
    | .ok r => (r :: (scanN f (b.drop (12 + r.length))).1, 12 + r.length + (scanN f (b.drop (12 + r.length))).2.1, (scanN f (b.drop (12 + r.length))).2.2)
/-- All frames of bytes, how many bytes they have, how it ended. -/
def scan (b : List UInt8) : List (List UInt8) × Nat × Nat := scanN b.length b

theorem scanN_more (f : Nat) : ∀ (g : Nat) (b : List UInt8), b.length ≤ f → b.length ≤ g → scanN f b = scanN g b := by
  induction f with
  | zero =>
    intro g b hf _
    obtain rfl : b = [] := List.length_eq_zero_iff.1 (by omega)
    cases g <;> simp [scanN]
  | succ f ih =>
    intro g b hf hg
    cases g with
    | zero =>
      obtain rfl : b = [] := List.length_eq_zero_iff.1 (by omega)
      simp [scanN]
    | succ g =>
      unfold scanN
      by_cases hb : b = []
      · rw [if_pos hb, if_pos hb]
      · rw [if_neg hb, if_neg hb]
        cases one b with
        | error h => rfl
        | ok r =>
          have hl : (b.drop (12 + r.length)).length ≤ f := by rw [List.length_drop]; omega
          have hl2 : (b.drop (12 + r.length)).length ≤ g := by rw [List.length_drop]; omega
          simp only [ih g _ hl hl2]

theorem scan_nil : scan [] = ([], 0, 0) := rfl
theorem scan_bad {b : List UInt8} {h : Nat} (hb : b ≠ []) (ho : one b = .error h) : scan b = ([], 0, h) := by
  unfold scan
  obtain ⟨k, hk⟩ : ∃ k, b.length = k + 1 := ⟨b.length - 1, by have : b.length ≠ 0 := fun e => hb (List.length_eq_zero_iff.1 e); omega⟩
  rw [hk, scanN, if_neg hb, ho]
theorem scan_ok {b r : List UInt8} (hb : b ≠ []) (ho : one b = .ok r) : scan b = (r :: (scan (b.drop (12 + r.length))).1, 12 + r.length + (scan (b.drop (12 + r.length))).2.1, (scan (b.drop (12 + r.length))).2.2) := by
  unfold scan
  obtain ⟨k, hk⟩ : ∃ k, b.length = k + 1 := ⟨b.length - 1, by have : b.length ≠ 0 := fun e => hb (List.length_eq_zero_iff.1 e); omega⟩
  have h2 : (b.drop (12 + r.length)).length ≤ k := by rw [List.length_drop]; omega
  rw [hk, scanN, if_neg hb, ho]
  simp only [scanN_more k _ _ h2 (Nat.le_refl _)]

/-- What a whole frame's first twelve bytes and record say. -/
theorem frame_parts (r t : List UInt8) : (frame r ++ t).take 4 = be4 r.length ∧ ((frame r ++ t).drop 4).take 4 = be4 (4294967295 - r.length) ∧ ((frame r ++ t).drop 12).take r.length = r ∧ (frame r ++ t).take (12 + r.length) = frame r := by
  refine ⟨rfl, rfl, ?_, ?_⟩
  · show (r ++ t).take r.length = r
    exact List.take_left
  · rw [← frame_len]; exact List.take_left

theorem one_frame (r t : List UInt8) (h : r.length ≤ 20000) : one (frame r ++ t) = .ok r := by
  obtain ⟨h1, h2, h3, h4⟩ := frame_parts r t
  unfold one
  rw [h1, h2, val_be4 _ (by omega), val_be4 _ (by omega)]
  rw [if_neg (by rw [List.length_append, frame_len]; omega), if_neg (by omega), if_neg (by rw [List.length_append, frame_len]; omega), h3, h4, if_neg (by simp)]

theorem frame_ne (r t : List UInt8) : frame r ++ t ≠ [] := fun e => by
  have := congrArg List.length e
  rw [List.length_append, frame_len] at this
  simp at this

/-- Frames, one behind the other. -/
def frames (l : List (List UInt8)) : List UInt8 := l.flatMap frame

theorem scan_frames (l : List (List UInt8)) (h : ∀ r ∈ l, r.length ≤ 20000) (t : List UInt8) : scan (frames l ++ t) = (l ++ (scan t).1, (frames l).length + (scan t).2.1, (scan t).2.2) := by
  induction l with
  | nil => simp [frames]
  | cons r l ih =>
    have e : frames (r :: l) ++ t = frame r ++ (frames l ++ t) := by simp [frames]
    have ih := ih (fun x hx => h x (by simp [hx]))
    have hd : (frame r ++ (frames l ++ t)).drop (12 + r.length) = frames l ++ t := by rw [← frame_len]; exact List.drop_left
    rw [e, scan_ok (frame_ne _ _) (one_frame r _ (h r (by simp))), hd, ih]
    have hl : (frames (r :: l)).length = 12 + r.length + (frames l).length := by
      rw [← frame_len]
      simp [frames]
    rw [hl]
    simp only [List.cons_append, Prod.mk.injEq, true_and, and_true]
    omega

/-- A frame that is cut off is torn. -/
theorem one_cut (r : List UInt8) (k : Nat) (h : r.length ≤ 20000) (hk : k < 12 + r.length) : one ((frame r).take k) = .error 1 := by
  have hl : ((frame r).take k).length = k := by rw [List.length_take, frame_len]; omega
  unfold one
  by_cases h12 : k < 12
  · rw [if_pos (by rw [hl]; exact h12)]
  · obtain ⟨h1, h2, _, _⟩ := frame_parts r []
    rw [List.append_nil] at h1 h2
    have e1 : ((frame r).take k).take 4 = be4 r.length := by rw [List.take_take, Nat.min_eq_left (by omega), h1]
    have e2 : (((frame r).take k).drop 4).take 4 = be4 (4294967295 - r.length) := by rw [List.drop_take, List.take_take, Nat.min_eq_left (by omega), h2]
    rw [e1, e2, val_be4 _ (by omega), val_be4 _ (by omega), if_neg (by rw [hl]; exact h12), if_neg (by omega), if_pos (by rw [hl]; exact hk)]
end Go.Proofs.Ytmbpkbdaakchiaa.Fr
