/- A disk with a log on it, and perhaps its base: plain reckoning, no program. -/
import Derived.Test.YtmbpkbdaakchiaaPlainW8
namespace Go.Proofs.Ytmbpkbdaakchiaa.Fr
/-- What is broken stays broken, whatever stands behind it. -/
theorem one_broken {b : List UInt8} (h : one b = .error 2) (t : List UInt8) : one (b ++ t) = .error 2 := by
  have hl : ¬ b.length < 12 := fun h2 => by unfold one at h; rw [if_pos h2] at h; cases h
  have e1 : (b ++ t).take 4 = b.take 4 := List.take_append_of_le_length (by omega)
  have e2 : ((b ++ t).drop 4).take 4 = (b.drop 4).take 4 := by
    rw [List.drop_append_of_le_length (by omega), List.take_append_of_le_length (by rw [List.length_drop]; omega)]
  unfold one at h ⊢
  rw [if_neg hl] at h
  rw [if_neg (by rw [List.length_append]; omega), e1, e2]
  by_cases h2 : Pk.val ((b.drop 4).take 4) ≠ 4294967295 - Pk.val (b.take 4) ∨ 20000 < Pk.val (b.take 4)
  · rw [if_pos h2]
  rw [if_neg h2] at h ⊢
  by_cases h3 : b.length < 12 + Pk.val (b.take 4)
  · rw [if_pos h3] at h
    cases h
  rw [if_neg h3] at h
  rw [if_neg (by rw [List.length_append]; omega)]
  have e3 : ((b ++ t).drop 12).take (Pk.val (b.take 4)) = (b.drop 12).take (Pk.val (b.take 4)) := by
    rw [List.drop_append_of_le_length (by omega), List.take_append_of_le_length (by rw [List.length_drop]; omega)]
  have e4 : (b ++ t).take (12 + Pk.val (b.take 4)) = b.take (12 + Pk.val (b.take 4)) := List.take_append_of_le_length (by omega)
  rw [e3, e4]
  by_cases h4 : frame ((b.drop 12).take (Pk.val (b.take 4))) ≠ b.take (12 + Pk.val (b.take 4))
  · rw [if_pos h4]
  · rw [if_neg h4] at h
    cases h

theorem frames_len_take (l : List (List UInt8)) (w : Nat) : (frames (l.take w)).length ≤ (frames l).length := by
  have e : frames l = frames (l.take w) ++ frames (l.drop w) := by rw [← frames_app, List.take_append_drop]
  rw [e, List.length_append]
  omega
theorem frames_cons (r : List UInt8) (l : List (List UInt8)) : frames (r :: l) = frame r ++ frames l := rfl
theorem frames_take_eq (l : List (List UInt8)) (w : Nat) : (frames l).take (frames (l.take w)).length = frames (l.take w) := by
  have e : frames l = frames (l.take w) ++ frames (l.drop w) := by rw [← frames_app, List.take_append_drop]
  rw [e]
  exact List.take_left

/-- How many frames are whole ahead of a cut. -/
theorem whole_at : ∀ (l : List (List UInt8)) (c : Nat), c ≤ (frames l).length → ∃ w, w ≤ l.length ∧ (frames (l.take w)).length ≤ c ∧ (w < l.length → c < (frames (l.take (w + 1))).length)
  | [], c, _ => ⟨0, Nat.le_refl _, Nat.zero_le _, fun h => absurd h (by simp)⟩
  | r :: l, c, h => by
    rw [frames_cons, List.length_append] at h
    by_cases hc : c < (frame r).length
    · refine ⟨0, Nat.zero_le _, Nat.zero_le _, fun _ => ?_⟩
      show c < (frames [r]).length
      rw [frames_one]
      exact hc
    · obtain ⟨w, h1, h2, h3⟩ := whole_at l (c - (frame r).length) (by omega)
      refine ⟨w + 1, by simpa using h1, ?_, fun h4 => ?_⟩
      · rw [List.take_succ_cons, frames_cons, List.length_append]
        omega
      · rw [List.take_succ_cons, frames_cons, List.length_append]
        have := h3 (by simpa using h4)
        omega
theorem frames_mono (l : List (List UInt8)) {a b : Nat} (h : a ≤ b) : (frames (l.take a)).length ≤ (frames (l.take b)).length := by
  have e : l.take a = (l.take b).take a := by rw [List.take_take, Nat.min_eq_left h]
  rw [e]
  exact frames_len_take _ _
theorem frames_max (l : List (List UInt8)) (m : Nat) (h : ∀ r ∈ l, r.length ≤ m) : (frames l).length ≤ l.length * (12 + m) := by
  induction l with
  | nil => simp [frames]
  | cons r l ih =>
    rw [frames_cons, List.length_append, frame_len, List.length_cons, Nat.add_mul]
    have h1 := ih (fun x hx => h x (by simp [hx]))
    have h2 := h r (by simp)
    omega
theorem frames_exact (l : List (List UInt8)) (m : Nat) (h : ∀ r ∈ l, r.length = m) : (frames l).length = l.length * (12 + m) := by
  induction l with
  | nil => simp [frames]
  | cons r l ih =>
    rw [frames_cons, List.length_append, frame_len, List.length_cons, Nat.add_mul]
    have h1 := ih (fun x hx => h x (by simp [hx]))
    have h2 := h r (by simp)
    omega
/-- Frames with one byte changed are broken. -/
theorem scan_set : ∀ (l : List (List UInt8)) (i : Nat) (x y : UInt8), (∀ r ∈ l, r.length ≤ 20000) → (frames l)[i]? = some x → y ≠ x → (scan ((frames l).set i y)).2.2 = 2
  | [], i, x, _, _, h, _ => by simp [frames] at h
  | r :: l, i, x, y, hl, h, hne => by
    have hr := hl r (by simp)
    have ht : ∀ z ∈ l, z.length ≤ 20000 := fun z hz => hl z (by simp [hz])
    rw [frames_cons] at h ⊢
    by_cases hi : i < (frame r).length
    · rw [List.getElem?_append_left hi] at h
      rw [List.set_append_left _ _ hi]
      have ho := one_broken (one_set r i y hr (by rw [frame_len] at hi; exact hi) (fun z hz => by rw [h] at hz; obtain rfl := Option.some.inj hz; exact hne)) (frames l)
      rw [scan_bad (fun e => ?_) ho]
      have := congrArg List.length e
      rw [List.length_append, List.length_set, frame_len] at this
      simp at this
    · rw [List.getElem?_append_right (by omega)] at h
      rw [List.set_append_right _ _ (by omega)]
      have h1 := scan_frames [r] (by simpa using hr) ((frames l).set (i - (frame r).length) y)
      rw [frames_one] at h1
      rw [h1]
      exact scan_set l _ x y ht h hne
end Go.Proofs.Ytmbpkbdaakchiaa.Fr
namespace Go.Proofs.Ytmbpkbdaakchiaa.Wq

/-- Names ahead of the log's. -/
def Low (bs : List Dq.Fl) : Prop := ∀ f ∈ bs, Dq.less f.name logN = true
theorem Low.ne {bs : List Dq.Fl} (h : Low bs) : ∀ f ∈ bs, f.name ≠ logN := fun f hf e => by
  have := h f hf
  rw [e, Dq.less_irrefl] at this
  cases this

/-- The files: what stands ahead, and the log's, if it is there. -/
def Fs (bs : List Dq.Fl) (has : Bool) (b : List UInt8) (k : Nat) : List Dq.Fl := if has then bs ++ [⟨logN, b, k⟩] else bs

theorem may_log : Dq.may logN = true := by decide
theorem may_base : Dq.may baseN = true := by decide
theorem may_new : Dq.may newN = true := by decide

theorem get_low {bs : List Dq.Fl} (h : Low bs) : Dq.get logN bs = none := by
  unfold Dq.get
  exact List.find?_eq_none.2 fun f hf => by simpa using h.ne f hf
theorem get_log {bs : List Dq.Fl} (h : Low bs) (b : List UInt8) (k : Nat) : Dq.get logN (bs ++ [⟨logN, b, k⟩]) = some ⟨logN, b, k⟩ := by
  have h1 := get_low h
  unfold Dq.get at h1 ⊢
  rw [List.find?_append, h1]
  simp
theorem upd_log {bs : List Dq.Fl} (h : Low bs) (g : Dq.Fl → Dq.Fl) (b : List UInt8) (k : Nat) : Dq.upd logN g (bs ++ [⟨logN, b, k⟩]) = bs ++ [g ⟨logN, b, k⟩] := by
  have h1 := Dq.upd_none (g := g) h.ne
  unfold Dq.upd at h1 ⊢
  rw [List.map_append, h1]
  simp
theorem lay_log : ∀ {bs : List Dq.Fl}, Low bs → ∀ (b : List UInt8) (k : Nat), Dq.lay ⟨logN, b, k⟩ bs = bs ++ [⟨logN, b, k⟩]
  | [], _, _, _ => rfl
  | a :: bs, h, b, k => by
    unfold Dq.lay
    rw [if_pos (h a (by simp)), lay_log (fun f hf => h f (by simp [hf])) b k]
    rfl
theorem size_app (a b : List Dq.Fl) : Dq.size (a ++ b) = Dq.size a + Dq.size b := by simp [Dq.size]
theorem size_fs (bs : List Dq.Fl) (has : Bool) (b : List UInt8) (k : Nat) (hh : has = false → b = [] ∧ k = 0) : Dq.size (Fs bs has b k) = Dq.size bs + b.length := by
  cases has with
  | false => rw [(hh rfl).1]; rfl
  | true => unfold Fs; rw [if_pos rfl, size_app]; simp [Dq.size]

section
variable {R lv : Nat} {bs : List Dq.Fl} {has : Bool} {b : List UInt8} {k : Nat}

theorem err_log (h : Low bs) : Dq.err ⟨R, Fs bs has b k, false, lv⟩ logN = if has then 0 else 4 := by
  unfold Dq.err Fs
  cases has with
  | false => simp [may_log, get_low h]
  | true => simp [may_log, get_log h]

theorem append_log (h : Low bs) (hh : has = false → b = [] ∧ k = 0) (x : List UInt8) (hs : Dq.size bs + b.length + x.length ≤ R) : Dq.append ⟨R, Fs bs has b k, false, lv⟩ logN x = (0, ⟨R, Fs bs true (b ++ x) k, false, lv⟩) := by
  unfold Dq.append
  rw [err_log h]
  simp only [size_fs bs has b k hh]
  cases has with
  | false =>
    obtain ⟨rfl, rfl⟩ := hh rfl
    rw [if_neg (by decide), if_neg (by omega)]
    simp [Fs, lay_log h]
  | true =>
    rw [if_neg (by decide), if_neg (by omega)]
    simp [Fs, upd_log h]
theorem append_full (h : Low bs) (hh : has = false → b = [] ∧ k = 0) (x : List UInt8) (hs : R < Dq.size bs + b.length + x.length) : Dq.append ⟨R, Fs bs has b k, false, lv⟩ logN x = (9, ⟨R, Fs bs has b k, false, lv⟩) := by
  unfold Dq.append
  rw [err_log h]
  simp only [size_fs bs has b k hh]
  cases has <;> rw [if_neg (by decide), if_pos (by omega)]
theorem sync_log (h : Low bs) : (Dq.sync ⟨R, Fs bs has b k, false, lv⟩ logN).2 = ⟨R, Fs bs has b (if has then b.length else k), false, lv⟩ := by
  unfold Dq.sync
  rw [err_log h]
  cases has with
  | false => simp [Fs]
  | true => simp [Fs, upd_log h]
theorem read_log (h : Low bs) : Dq.read ⟨R, Fs bs has b k, false, lv⟩ logN = if has then (b, 0) else ([], 4) := by
  unfold Dq.read
  rw [err_log h]
  cases has with
  | false => simp
  | true => simp [Fs, get_log h]
theorem cut_log (h : Low bs) (n : Nat) (hn : n ≤ b.length) : Dq.cut ⟨R, Fs bs true b k, false, lv⟩ logN (n : Int) = (0, ⟨R, Fs bs true (b.take n) (min k n), false, lv⟩) := by
  unfold Dq.cut
  rw [err_log h]
  have h1 : ¬ ((b.length : Int) < (n : Int)) := by omega
  have h2 : ¬ ((n : Int) < 0) := by omega
  simp [Fs, get_log h, upd_log h, h1, h2]
theorem cut_none (h : Low bs) (n : Int) : Dq.cut ⟨R, Fs bs false b k, false, lv⟩ logN n = (4, ⟨R, Fs bs false b k, false, lv⟩) := by
  unfold Dq.cut
  rw [err_log h]
  simp
theorem crash_fs (hsafe : ∀ f ∈ bs, f.safe = f.b.length) (off : Bool) (keep : Int) : Dq.crash ⟨R, Fs bs has b k, off, lv⟩ keep = ⟨R, Fs bs has (b.take (k + min keep.toNat (b.length - k))) (k + min keep.toNat (b.length - k)), true, lv⟩ := by
  have e : ∀ l : List Dq.Fl, (∀ f ∈ l, f.safe = f.b.length) → l.map (fun f => { f with b := f.b.take (Dq.kept f keep), safe := Dq.kept f keep }) = l := fun l hl => by
    conv => rhs; rw [← List.map_id l]
    apply List.map_congr_left
    intro f hf
    have h1 : Dq.kept f keep = f.b.length := by unfold Dq.kept; rw [hl f hf]; omega
    rw [h1, List.take_length]
    cases f
    simp only [id_eq, Dq.Fl.mk.injEq, true_and]
    exact (hl _ hf).symm
  unfold Dq.crash Fs
  cases has with
  | false => simp [e bs hsafe]
  | true =>
    simp only [if_true, List.map_append, e bs hsafe]
    simp [Dq.kept]
theorem crash_synced (hsafe : ∀ f ∈ bs, f.safe = f.b.length) (off : Bool) (keep : Int) : Dq.crash ⟨R, Fs bs has b b.length, off, lv⟩ keep = ⟨R, Fs bs has b b.length, true, lv⟩ := by
  rw [crash_fs hsafe]
  simp
theorem on_fs (fs : List Dq.Fl) (off : Bool) : Dq.on ⟨R, fs, off, lv⟩ = ⟨R, fs, false, lv + 1⟩ := rfl

/-- What the base tells. -/
def BaseIs (bs : List Dq.Fl) (n : Int) : Prop := (bs = [] ∧ n = 1) ∨ (bs = [⟨baseN, Fr.frame (Pk.be8 n), 20⟩] ∧ 1 ≤ n ∧ n ≤ 1099511627776)
theorem BaseIs.low {n : Int} (h : BaseIs bs n) : Low bs := by
  rcases h with ⟨rfl, _⟩ | ⟨rfl, _⟩
  · intro f hf; cases hf
  · intro f hf
    simp only [List.mem_singleton] at hf
    rw [hf]
    show Dq.less baseN logN = true
    rw [Dq.less_eq]
    decide
theorem BaseIs.safe {n : Int} (h : BaseIs bs n) : ∀ f ∈ bs, f.safe = f.b.length := by
  rcases h with ⟨rfl, _⟩ | ⟨rfl, _⟩
  · intro f hf; cases hf
  · intro f hf
    simp only [List.mem_singleton] at hf
    rw [hf]
    show 20 = (Fr.frame (Pk.be8 n)).length
    rw [Fr.frame_len, Pk.be8_len]
theorem BaseIs.size {n : Int} (h : BaseIs bs n) : Dq.size bs ≤ 20 := by
  rcases h with ⟨rfl, _⟩ | ⟨rfl, _⟩
  · simp [Dq.size]
  · simp [Dq.size, Fr.frame_len, Pk.be8_len]
theorem BaseIs.bounds {n : Int} (h : BaseIs bs n) : 1 ≤ n ∧ n ≤ 1099511627776 := by
  rcases h with ⟨_, rfl⟩ | ⟨_, h⟩
  · decide
  · exact h

theorem base_fs {n : Int} (h : BaseIs bs n) : base ⟨R, Fs bs has b k, false, lv⟩ = some n := by
  have hne : logN ≠ baseN := by decide
  rcases h with ⟨rfl, rfl⟩ | ⟨rfl, h1, h2⟩
  · have hr : Dq.read ⟨R, Fs [] has b k, false, lv⟩ baseN = ([], 4) := by
      unfold Dq.read Dq.err Fs
      cases has <;> simp [may_base, Dq.get, hne]
    unfold base
    rw [hr]
    rfl
  · have hr : Dq.read ⟨R, Fs [⟨baseN, Fr.frame (Pk.be8 n), 20⟩] has b k, false, lv⟩ baseN = (Fr.frame (Pk.be8 n), 0) := by
      unfold Dq.read Dq.err Fs
      cases has <;> simp [may_base, Dq.get]
    have hs := Fr.scan_whole [Pk.be8 n] (by intro r hr; simp only [List.mem_singleton] at hr; rw [hr, Pk.be8_len]; decide)
    rw [Fr.frames_one] at hs
    have hi := Pk.rI_be8 n [] false (by omega) (by omega)
    rw [List.append_nil] at hi
    unfold base
    rw [hr, hs]
    simp only [hi, Pk.be8_len]
    simp [h1, h2]

theorem opn_none {n : Int} (h : BaseIs bs n) : opn ⟨R, Fs bs false b k, false, lv⟩ = (0, some ⟨n, [], lv, false⟩, ⟨R, Fs bs false b k, false, lv⟩) := by
  unfold opn
  rw [base_fs h, read_log h.low]
  simp
/-- A log that was cut off at whatever place is opened: what is whole. -/
theorem opn_cut {n : Int} (h : BaseIs bs n) {l : List (List UInt8)} (hl : ∀ r ∈ l, r.length ≤ 20000) {c w : Nat} (hc : c ≤ (Fr.frames l).length) (hw : w ≤ l.length) (h1 : (Fr.frames (l.take w)).length ≤ c) (h2 : w < l.length → c < (Fr.frames (l.take (w + 1))).length) :
    opn ⟨R, Fs bs true ((Fr.frames l).take c) c, false, lv⟩ = (0, some ⟨n, l.take w, lv, false⟩, ⟨R, Fs bs true (Fr.frames (l.take w)) (Fr.frames (l.take w)).length, false, lv⟩) := by
  have hs := Fr.scan_cut l hl c w hw hc h1 h2
  unfold opn
  rw [base_fs h, read_log h.low]
  simp only [if_true, hs, Bool.false_eq_true, if_false]
  by_cases e : c = (Fr.frames (l.take w)).length
  · simp only [if_pos e]
    rw [e, Fr.frames_take_eq]
    simp
  · simp only [if_neg e]
    rw [cut_log h.low _ (by rw [List.length_take]; omega), List.take_take, Nat.min_eq_left h1, Fr.frames_take_eq, Nat.min_eq_right h1]
    simp
theorem opn_whole {n : Int} (h : BaseIs bs n) {l : List (List UInt8)} (hl : ∀ r ∈ l, r.length ≤ 20000) :
    opn ⟨R, Fs bs true (Fr.frames l) k, false, lv⟩ = (0, some ⟨n, l, lv, false⟩, ⟨R, Fs bs true (Fr.frames l) k, false, lv⟩) := by
  unfold opn
  rw [base_fs h, read_log h.low]
  simp only [if_true, Fr.scan_whole l hl]
  simp

theorem add_fs {n : Int} (h : Low bs) {l : List (List UInt8)} (hh : has = false → Fr.frames l = [] ∧ k = 0) {r : List UInt8} (hr : r.length ≤ 20000) (hs : Dq.size bs + (Fr.frames l).length + (12 + r.length) ≤ R) :
    add ⟨n, l, lv, false⟩ ⟨R, Fs bs has (Fr.frames l) k, false, lv⟩ r = (0, ⟨n, l ++ [r], lv, false⟩, ⟨R, Fs bs true (Fr.frames (l ++ [r])) k, false, lv⟩) := by
  unfold add
  rw [append_log h hh _ (by rw [Fr.frame_len]; exact hs)]
  simp [off, Fr.frames_snoc, Nat.not_lt.2 hr]
theorem add_full {n : Int} (h : Low bs) {l : List (List UInt8)} (hh : has = false → Fr.frames l = [] ∧ k = 0) {r : List UInt8} (hr : r.length ≤ 20000) (hs : R < Dq.size bs + (Fr.frames l).length + (12 + r.length)) :
    add ⟨n, l, lv, false⟩ ⟨R, Fs bs has (Fr.frames l) k, false, lv⟩ r = (9, ⟨n, l, lv, true⟩, ⟨R, Fs bs has (Fr.frames l) k, false, lv⟩) := by
  unfold add
  rw [append_full h hh _ (by rw [Fr.frame_len]; exact hs)]
  simp [off, Nat.not_lt.2 hr]
theorem add_long {g : Lg} {st : Dq.St} (ho : off g st = false) {r : List UInt8} (hr : 20000 < r.length) : add g st r = (2, g, st) := by
  unfold add
  rw [ho]
  simp [hr]
theorem sync_fs {n : Int} (h : Low bs) {l : List (List UInt8)} :
    sync ⟨n, l, lv, false⟩ ⟨R, Fs bs has b k, false, lv⟩ = (0, ⟨n, l, lv, false⟩, ⟨R, Fs bs has b (if has then b.length else k), false, lv⟩) := by
  unfold sync
  rw [sync_log h]
  simp [off]
theorem at_fs {n z : Int} {l : List (List UInt8)} {fs : List Dq.Fl} {r : List UInt8} (j : Nat) (hz : z = n + j) (hr : l[j]? = some r) : at_ ⟨n, l, lv, false⟩ ⟨R, fs, false, lv⟩ z = (r, 0, ⟨n, l, lv, false⟩) := by
  have hj := (List.getElem?_eq_some_iff.1 hr).1
  have e : (z - n).toNat = j := by omega
  unfold at_
  simp only [off, e, hr]
  have h1 : ¬ z < n := by omega
  have h2 : ¬ ((l.length : Int) ≤ z - n) := by omega
  simp [h1, h2]
theorem at_none {n z : Int} {l : List (List UInt8)} {fs : List Dq.Fl} (hz : z < n ∨ (l.length : Int) ≤ z - n) : at_ ⟨n, l, lv, false⟩ ⟨R, fs, false, lv⟩ z = ([], 4, ⟨n, l, lv, false⟩) := by
  unfold at_
  simp only [off]
  simp [hz]

theorem ne_log_base : logN ≠ baseN := by decide
theorem ne_log_new : logN ≠ newN := by decide
theorem ne_new_base : newN ≠ baseN := by decide
theorem less_new_log : Dq.less newN logN = true := by rw [Dq.less_eq]; decide
theorem less_base_log : Dq.less baseN logN = true := by rw [Dq.less_eq]; decide
theorem less_base_new : Dq.less baseN newN = true := by rw [Dq.less_eq]; decide
theorem less_log_new : Dq.less logN newN = false := by rw [Dq.less_eq]; decide
theorem less_log_base : Dq.less logN baseN = false := by rw [Dq.less_eq]; decide

/-- Begun anew. -/
theorem restart_fs {n0 n : Int} (h : BaseIs bs n0) {l : List (List UInt8)} (hh : has = false → b = [] ∧ k = 0) (hn : 1 ≤ n ∧ n ≤ 1099511627776) (hR : 64 ≤ R) :
    restart ⟨n0, l, lv, false⟩ ⟨R, Fs bs has b k, false, lv⟩ n = (0, ⟨n, [], lv, false⟩, ⟨R, Fs [⟨baseN, Fr.frame (Pk.be8 n), 20⟩] has [] 0, false, lv⟩) := by
  have hfl : (Fr.frame (Pk.be8 n)).length = 20 := by rw [Fr.frame_len, Pk.be8_len]
  have hcut : (Dq.cut ⟨R, Fs bs has b k, false, lv⟩ logN 0).2 = ⟨R, Fs bs has [] 0, false, lv⟩ := by
    cases has with
    | false =>
      obtain ⟨rfl, rfl⟩ := hh rfl
      rw [cut_none h.low]
    | true =>
      have := cut_log (R := R) (lv := lv) (b := b) (k := k) h.low 0 (Nat.zero_le _)
      simp only [List.take_zero, Nat.min_zero] at this
      exact congrArg (·.2) this
  have hdrop : (Dq.drop ⟨R, Fs bs has [] 0, false, lv⟩ newN).2 = ⟨R, Fs bs has [] 0, false, lv⟩ := by
    have he : Dq.err ⟨R, Fs bs has [] 0, false, lv⟩ newN = 4 := by
      unfold Dq.err Fs
      rcases h with ⟨rfl, _⟩ | ⟨rfl, _⟩ <;> cases has <;> simp [may_new, Dq.get, ne_log_new, Ne.symm ne_new_base]
    unfold Dq.drop
    rw [he]
    rfl
  have happ : based ⟨R, Fs bs has b k, false, lv⟩ n = (0, ⟨R, bs ++ ⟨newN, Fr.frame (Pk.be8 n), 0⟩ :: Fs [] has [] 0, false, lv⟩) := by
    unfold based wiped
    rw [hcut, hdrop]
    unfold Dq.append
    have he : Dq.err ⟨R, Fs bs has [] 0, false, lv⟩ newN = 4 := by
      unfold Dq.err Fs
      rcases h with ⟨rfl, _⟩ | ⟨rfl, _⟩ <;> cases has <;> simp [may_new, Dq.get, ne_log_new, Ne.symm ne_new_base]
    have hsz := h.size
    rw [he, if_neg (by decide)]
    simp only [size_fs bs has [] 0 (fun _ => ⟨rfl, rfl⟩), hfl, List.length_nil]
    rw [if_neg (by omega)]
    simp only [if_true]
    unfold Fs
    rcases h with ⟨rfl, _⟩ | ⟨rfl, _⟩ <;> cases has <;> simp [Dq.lay, less_log_new, less_base_new]
  have hend : (Dq.rename (Dq.sync (based ⟨R, Fs bs has b k, false, lv⟩ n).2 newN).2 newN baseN).2 = ⟨R, Fs [⟨baseN, Fr.frame (Pk.be8 n), 20⟩] has [] 0, false, lv⟩ := by
    rw [happ]
    unfold Fs
    rcases h with ⟨rfl, _⟩ | ⟨rfl, _⟩ <;> cases has <;>
      simp [Dq.sync, Dq.err, Dq.rename, Dq.get, Dq.upd, Dq.del, Dq.lay, may_new, may_base, ne_log_new, ne_new_base, ne_log_base, Ne.symm ne_new_base, less_log_base, hfl]
  unfold restart
  rw [hend, happ]
  simp only [off]
  simp [Int.not_lt.2 hn.1, Int.not_lt.2 hn.2]
theorem restart_no {g : Lg} {st : Dq.St} (ho : off g st = false) {n : Int} (hn : n < 1 ∨ 1099511627776 < n) : restart g st n = (1, g, st) := by
  unfold restart
  rw [ho]
  simp [hn]

/-- The records from one on go. -/
theorem cutTo_fs {n : Int} (h : Low bs) {l : List (List UInt8)} (hh : has = false → l = []) (j : Nat) (hj : j ≤ l.length) {z : Int} (hz : z = n + j) (hk : j = l.length ∨ k = 0) :
    cutTo ⟨n, l, lv, false⟩ ⟨R, Fs bs has (Fr.frames l) k, false, lv⟩ z = (0, ⟨n, l.take j, lv, false⟩, ⟨R, Fs bs has (Fr.frames (l.take j)) k, false, lv⟩) := by
  have e : (z - n).toNat = j := by omega
  have h1 : ¬ z < n := by omega
  have h2 : ¬ ((l.length : Int) < z - n) := by omega
  unfold cutTo
  simp only [off, next, e]
  by_cases e2 : j = l.length
  · have h3 : z = n + (l.length : Int) := by omega
    simp [h3, e2]
    omega
  · have h3 : ¬ z = n + (l.length : Int) := by omega
    have hh2 : has = true := by
      cases has with
      | true => rfl
      | false => rw [hh rfl] at hj e2; simp at hj; exact absurd hj e2
    subst hh2
    have hk0 : k = 0 := hk.resolve_left e2
    subst hk0
    rw [cut_log h _ (Fr.frames_len_take l j), Fr.frames_take_eq]
    simp [h1, h2, h3]
theorem cutTo_no {g : Lg} {st : Dq.St} (ho : off g st = false) {n : Int} (hn : n < g.first ∨ (g.recs.length : Int) < n - g.first) : cutTo g st n = (1, g, st) := by
  unfold cutTo
  rw [ho]
  simp [hn]

theorem crash_all (hsafe : ∀ f ∈ bs, f.safe = f.b.length) (off : Bool) (keep : Int) (hk : k ≤ b.length) (hb : b.length - k ≤ keep.toNat) : Dq.crash ⟨R, Fs bs has b k, off, lv⟩ keep = ⟨R, Fs bs has b b.length, true, lv⟩ := by
  rw [crash_fs hsafe]
  have e : k + min keep.toNat (b.length - k) = b.length := by omega
  rw [e, List.take_length]
theorem off_lives {g : Lg} {st : Dq.St} (h : st.lives ≠ g.lives) : off g st = true := by unfold off; simp [h]
theorem off_power {g : Lg} {st : Dq.St} (h : st.off = true) : off g st = true := by unfold off; simp [h]
theorem add_dead {g : Lg} {st : Dq.St} (h : off g st = true) (r : List UInt8) : add g st r = (10, { g with done := true }, st) := by unfold add; rw [if_pos h]
theorem sync_dead {g : Lg} {st : Dq.St} (h : off g st = true) : sync g st = (10, { g with done := true }, st) := by unfold sync; rw [if_pos h]

theorem append_base {x y : List UInt8} {j : Nat} (hh : has = false → b = [] ∧ k = 0) (hs : x.length + b.length + y.length ≤ R) :
    Dq.append ⟨R, Fs [⟨baseN, x, j⟩] has b k, false, lv⟩ baseN y = (0, ⟨R, Fs [⟨baseN, x ++ y, j⟩] has b k, false, lv⟩) := by
  have he : Dq.err ⟨R, Fs [⟨baseN, x, j⟩] has b k, false, lv⟩ baseN = 0 := by
    unfold Dq.err Fs
    cases has <;> simp [may_base, Dq.get]
  have h1 : Dq.size [⟨baseN, x, j⟩] = x.length := by simp [Dq.size]
  unfold Dq.append
  rw [he, if_neg (by decide)]
  simp only [size_fs _ has b k hh, h1]
  rw [if_neg (by omega), if_neg (by decide)]
  unfold Fs
  cases has <;> simp [Dq.upd, ne_log_base]
/-- A base with more behind it has no form. -/
theorem opn_more {n : Int} {y : List UInt8} {j : Nat} (hy : y ≠ []) (hl : y.length < 12) :
    opn ⟨R, Fs [⟨baseN, Fr.frame (Pk.be8 n) ++ y, j⟩] has b k, false, lv⟩ = (3, none, ⟨R, Fs [⟨baseN, Fr.frame (Pk.be8 n) ++ y, j⟩] has b k, false, lv⟩) := by
  have hr : Dq.read ⟨R, Fs [⟨baseN, Fr.frame (Pk.be8 n) ++ y, j⟩] has b k, false, lv⟩ baseN = (Fr.frame (Pk.be8 n) ++ y, 0) := by
    unfold Dq.read Dq.err Fs
    cases has <;> simp [may_base, Dq.get]
  have hs := Fr.scan_frames [Pk.be8 n] (by intro r hr; simp only [List.mem_singleton] at hr; rw [hr, Pk.be8_len]; decide) y
  have ho : Fr.one y = .error 1 := by unfold Fr.one; rw [if_pos hl]
  rw [Fr.frames_one, Fr.scan_bad hy ho] at hs
  have hb : base ⟨R, Fs [⟨baseN, Fr.frame (Pk.be8 n) ++ y, j⟩] has b k, false, lv⟩ = none := by
    unfold base
    rw [hr, hs]
    simp
  unfold opn
  rw [hb]
  simp

/-- A log that a crash has cut off is opened: it has a beginning, at least what was synced. -/
theorem opn_any {n : Int} (h : BaseIs bs n) {l : List (List UInt8)} (hl : ∀ r ∈ l, r.length ≤ 20000) (hh : has = false → l = []) {c sy : Nat} (hc : c ≤ (Fr.frames l).length) (hs : sy ≤ l.length) (hsc : (Fr.frames (l.take sy)).length ≤ c) :
    ∃ w, sy ≤ w ∧ w ≤ l.length ∧ opn ⟨R, Fs bs has ((Fr.frames l).take c) c, false, lv⟩ = (0, some ⟨n, l.take w, lv, false⟩, ⟨R, Fs bs has (Fr.frames (l.take w)) (Fr.frames (l.take w)).length, false, lv⟩) := by
  cases has with
  | false =>
    obtain rfl := hh rfl
    refine ⟨0, by simpa using hs, Nat.le_refl _, ?_⟩
    have := opn_none (R := R) (lv := lv) (b := []) (k := 0) h
    simp only [Fs] at this ⊢
    exact this
  | true =>
    obtain ⟨w, h1, h2, h3⟩ := Fr.whole_at l c hc
    refine ⟨w, ?_, h1, opn_cut h hl hc h1 h2 h3⟩
    refine Nat.le_of_not_lt fun hlt => ?_
    have h4 := h3 (by omega)
    have h5 := Fr.frames_mono l (show w + 1 ≤ sy by omega)
    omega

theorem opn_broken {n : Int} (h : BaseIs bs n) (hs : (Fr.scan b).2.2 = 2) : opn ⟨R, Fs bs true b k, false, lv⟩ = (3, none, ⟨R, Fs bs true b k, false, lv⟩) := by
  unfold opn
  rw [base_fs h, read_log h.low]
  simp [hs]
theorem drop_log (h : Low bs) : Dq.drop ⟨R, Fs bs true b k, false, lv⟩ logN = (0, ⟨R, Fs bs false [] 0, false, lv⟩) := by
  unfold Dq.drop
  rw [err_log h]
  have e : Dq.del logN (bs ++ [⟨logN, b, k⟩]) = bs := by
    unfold Dq.del
    rw [List.filter_append]
    have h1 : bs.filter (fun f => decide (¬ f.name = logN)) = bs := by
      rw [List.filter_eq_self]
      intro f hf
      simpa using h.ne f hf
    rw [h1]
    simp
  simp [Fs, e]
end
end Go.Proofs.Ytmbpkbdaakchiaa.Wq
