/- Sums of bytes, with the polynomial EDB88320: plain reckoning, no program. -/
import Derived.Lib.AppendStr
namespace Go.Proofs.Ytmbpkbdaakchiaa.Cr

def poly : BitVec 32 := 0xEDB88320#32
/-- One bit goes out. -/
def step (c : BitVec 32) : BitVec 32 := (c >>> 1) ^^^ (if c.getLsbD 0 then poly else 0#32)
def stepN : Nat → BitVec 32 → BitVec 32
  | 0, c => c
  | n + 1, c => step (stepN n c)
/-- Eight bits go out. -/
def sh (c : BitVec 32) : BitVec 32 := stepN 8 c
def wide (b : UInt8) : BitVec 32 := b.toBitVec.setWidth 32
def upd (c : BitVec 32) (b : UInt8) : BitVec 32 := sh (c ^^^ wide b)
def run (c : BitVec 32) (l : List UInt8) : BitVec 32 := l.foldl upd c
def ones : BitVec 32 := ~~~ 0#32
/-- The sum of bytes. -/
def sum (l : List UInt8) : BitVec 32 := ~~~ run ones l

theorem xor_cancel (a b : BitVec 32) : (a ^^^ b) ^^^ b = a := by rw [BitVec.xor_assoc, BitVec.xor_self, BitVec.xor_zero]
theorem xor_eq_zero {a b : BitVec 32} (h : a ^^^ b = 0#32) : a = b := by
  have := congrArg (· ^^^ b) h
  simp only [xor_cancel, BitVec.zero_xor] at this
  exact this

theorem xor_left_comm (a b c : BitVec 32) : a ^^^ (b ^^^ c) = b ^^^ (a ^^^ c) := by rw [← BitVec.xor_assoc, BitVec.xor_comm a b, BitVec.xor_assoc]
theorem xor_swap (a b c d : BitVec 32) : (a ^^^ b) ^^^ (c ^^^ d) = (a ^^^ c) ^^^ (b ^^^ d) := by rw [BitVec.xor_assoc, xor_left_comm b c d, ← BitVec.xor_assoc]

theorem step_xor (a b : BitVec 32) : step (a ^^^ b) = step a ^^^ step b := by
  unfold step
  rw [BitVec.ushiftRight_xor_distrib, BitVec.getLsbD_xor, xor_swap]
  cases a.getLsbD 0 <;> cases b.getLsbD 0 <;> simp

theorem step_zero : step 0#32 = 0#32 := by decide

theorem step_inj0 {a : BitVec 32} (h : step a = 0#32) : a = 0#32 := by
  have h31 : (step a).getLsbD 31 = false := by rw [h]; rfl
  unfold step at h h31
  rw [BitVec.getLsbD_xor, BitVec.getLsbD_ushiftRight] at h31
  have ha : a.getLsbD 0 = false := by
    cases hc : a.getLsbD 0
    · rfl
    · rw [hc] at h31
      have h32 : a.getLsbD (1 + 31) = false := BitVec.getLsbD_of_ge a _ (by decide)
      rw [h32] at h31
      exact absurd h31 (by decide)
  rw [ha] at h
  simp only [Bool.false_eq_true, if_false, BitVec.xor_zero] at h
  apply BitVec.eq_of_getLsbD_eq
  intro i hi
  rw [BitVec.getLsbD_zero]
  match i with
  | 0 => exact ha
  | k + 1 =>
    have := congrArg (fun x => BitVec.getLsbD x k) h
    simp only [BitVec.getLsbD_ushiftRight, BitVec.getLsbD_zero] at this
    rw [Nat.add_comm] at this
    exact this

theorem stepN_xor (n : Nat) (a b : BitVec 32) : stepN n (a ^^^ b) = stepN n a ^^^ stepN n b := by
  induction n with
  | zero => rfl
  | succ n ih => rw [stepN, ih, step_xor]; rfl
theorem stepN_zero (n : Nat) : stepN n 0#32 = 0#32 := by
  induction n with
  | zero => rfl
  | succ n ih => rw [stepN, ih, step_zero]
theorem stepN_inj0 (n : Nat) {a : BitVec 32} (h : stepN n a = 0#32) : a = 0#32 := by
  induction n with
  | zero => exact h
  | succ n ih => exact ih (step_inj0 h)

theorem sh_xor (a b : BitVec 32) : sh (a ^^^ b) = sh a ^^^ sh b := stepN_xor 8 a b
theorem sh_zero : sh 0#32 = 0#32 := stepN_zero 8
theorem sh_inj0 {a : BitVec 32} (h : sh a = 0#32) : a = 0#32 := stepN_inj0 8 h
theorem wide_xor (a b : UInt8) : wide (a ^^^ b) = wide a ^^^ wide b := by
  unfold wide
  rw [UInt8.toBitVec_xor, BitVec.setWidth_xor]
theorem wide_zero : wide 0 = 0#32 := by decide
theorem wide_inj0 {a : UInt8} (h : wide a = 0#32) : a = 0 := by
  have h1 := congrArg BitVec.toNat h
  unfold wide at h1
  rw [BitVec.toNat_setWidth] at h1
  have h2 := a.toBitVec.isLt
  have h3 : a.toBitVec.toNat = 0 := by
    have : (0#32).toNat = 0 := rfl
    rw [this] at h1
    omega
  exact UInt8.toNat_inj.1 h3

theorem upd_xor (c d : BitVec 32) (a b : UInt8) : upd (c ^^^ d) (a ^^^ b) = upd c a ^^^ upd d b := by
  unfold upd
  rw [wide_xor, ← sh_xor, xor_swap]

/-- Byte by byte, the one or the other. -/
def xors (l m : List UInt8) : List UInt8 := List.zipWith (· ^^^ ·) l m

theorem run_xor (l : List UInt8) : ∀ (m : List UInt8) (c d : BitVec 32), l.length = m.length → run (c ^^^ d) (xors l m) = run c l ^^^ run d m := by
  induction l with
  | nil => intro m c d h; cases m with | nil => rfl | cons _ _ => simp at h
  | cons x l ih =>
    intro m c d h
    cases m with
    | nil => simp at h
    | cons y m =>
      have hl : l.length = m.length := by simpa using h
      show run (upd (c ^^^ d) (x ^^^ y)) (xors l m) = run (upd c x) l ^^^ run (upd d y) m
      rw [upd_xor]
      exact ih m _ _ hl

theorem run_app (c : BitVec 32) (l m : List UInt8) : run c (l ++ m) = run (run c l) m := by
  unfold run; rw [List.foldl_append]

theorem run_zeros (n : Nat) : run 0#32 (List.replicate n 0) = 0#32 := by
  induction n with
  | zero => rfl
  | succ n ih =>
    rw [List.replicate_succ]
    have : upd 0#32 0 = 0#32 := by unfold upd; rw [wide_zero, BitVec.xor_self, sh_zero]
    have h2 : run 0#32 (0 :: List.replicate n 0) = run (upd 0#32 0) (List.replicate n 0) := rfl
    rw [h2, this, ih]

theorem run_zeros_inj0 (n : Nat) : ∀ {c : BitVec 32}, run c (List.replicate n 0) = 0#32 → c = 0#32 := by
  induction n with
  | zero => intro c h; exact h
  | succ n ih =>
    intro c h
    rw [List.replicate_succ] at h
    have h1 : upd c 0 = 0#32 := ih h
    unfold upd at h1
    rw [wide_zero, BitVec.xor_zero] at h1
    exact sh_inj0 h1

theorem xors_self (l : List UInt8) : xors l l = List.replicate l.length 0 := by
  induction l with
  | nil => rfl
  | cons x l ih => show (x ^^^ x) :: xors l l = _; rw [ih, UInt8.xor_self]; rfl

/-- Two texts of one length have the same sum just where their difference has none. -/
theorem sum_eq_iff {l m : List UInt8} (h : l.length = m.length) : sum l = sum m ↔ run 0#32 (xors l m) = 0#32 := by
  have h1 := run_xor l m ones ones h
  rw [BitVec.xor_self] at h1
  rw [h1]
  constructor
  · intro e
    have : run ones l = run ones m := by
      have := congrArg (~~~ ·) e
      simpa [sum] using this
    rw [this, BitVec.xor_self]
  · intro e
    unfold sum
    rw [xor_eq_zero e]

/-- A difference within a piece shows, if it shows in the piece alone. -/
theorem sum_piece {p a b q : List UInt8} (h : a.length = b.length) (hd : run 0#32 (xors a b) ≠ 0#32) : sum (p ++ a ++ q) ≠ sum (p ++ b ++ q) := by
  intro e
  have hx : xors (p ++ a ++ q) (p ++ b ++ q) = List.replicate p.length 0 ++ xors a b ++ List.replicate q.length 0 := by
    unfold xors
    rw [List.zipWith_append (by simp [h]), List.zipWith_append rfl]
    rw [← xors_self p, ← xors_self q]
    rfl
  have := (sum_eq_iff (by simp [h])).1 e
  rw [hx, run_app, run_app, run_zeros] at this
  exact hd (run_zeros_inj0 _ this)

/-- One byte's change shows. -/
theorem sum_byte {p q : List UInt8} {a b : UInt8} (h : a ≠ b) : sum (p ++ [a] ++ q) ≠ sum (p ++ [b] ++ q) := by
  refine sum_piece (a := [a]) (b := [b]) rfl fun e => ?_
  apply h
  have h1 : sh (0#32 ^^^ wide (a ^^^ b)) = 0#32 := e
  rw [BitVec.zero_xor] at h1
  have h2 := wide_inj0 (sh_inj0 h1)
  have h3 := congrArg (· ^^^ b) h2
  simpa [UInt8.xor_assoc] using h3
end Go.Proofs.Ytmbpkbdaakchiaa.Cr
