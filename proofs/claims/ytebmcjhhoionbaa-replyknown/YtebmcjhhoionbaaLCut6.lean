/- The walk of the statement ReplyCut, over what reply's calls answer: it answers true. -/
import Derived.Test.YtebmcjhhoionbaaLAwake6
namespace Go.Proofs.Ytebmcjhhoionbaa
open Go.RowKit
namespace Rq

theorem flat_app : ∀ {xs ys : List X} {t t' : List UInt8}, xs.length = ys.length → (∀ x ∈ xs, Fit x) → (∀ x ∈ ys, Fit x) → xs.flatMap xbytes ++ t = ys.flatMap xbytes ++ t' → xs = ys ∧ t = t'
  | [], [], _, _, _, _, _, h => ⟨rfl, by simpa using h⟩
  | x :: xs, y :: ys, t, t', hl, hf, hf', h => by
    rw [List.flatMap_cons, List.flatMap_cons, List.append_assoc, List.append_assoc] at h
    obtain ⟨rfl, h2⟩ := xbytes_app h (hf x (by simp)) (hf' y (by simp))
    obtain ⟨e, h3⟩ := flat_app (by simpa using hl) (fun z hz => hf z (by simp [hz])) (fun z hz => hf' z (by simp [hz])) h2
    exact ⟨by rw [e], h3⟩

/-- Where two replies' bytes begin alike, they are one reply's, and what follows is alike. -/
theorem bytes_app {r q : Rp} {t t' : List UInt8} (h : bytes r ++ t = bytes q ++ t') (hr : FitR r) (hq : FitR q) : t = t' := by
  unfold bytes at h
  simp only [List.append_assoc] at h
  obtain ⟨_, h⟩ := be8_app h hr.num hq.num
  obtain ⟨_, h⟩ := be8_app h hr.zxid hq.zxid
  obtain ⟨_, h⟩ := be8_app h hr.err hq.err
  obtain ⟨_, h⟩ := be8_app h hr.at_ hq.at_
  have c1 := hr.count
  have c2 := hq.count
  obtain ⟨e5, h⟩ := be8_app h ⟨by omega, by omega⟩ ⟨by omega, by omega⟩
  exact (flat_app (by omega) hr.xs hq.xs h).2

theorem cut_none {r : Rp} {k : Nat} (hr : FitR r) (hk : k < (bytes r).length) (q : Rp) : ¬ Is ((bytes r).take k) q := fun h => by
  have e : bytes q ++ (bytes r).drop k = bytes r ++ [] := by rw [h.eq, List.take_append_drop, List.append_nil]
  have e2 := bytes_app e h.fit hr
  have e3 := congrArg List.length e2
  rw [List.length_drop] at e3
  simp only [List.length_nil] at e3
  omega

theorem more_none {r : Rp} (hr : FitR r) (q : Rp) : ¬ Is (bytes r ++ [0]) q := fun h => by
  have e : bytes q ++ [] = bytes r ++ [0] := by rw [h.eq, List.append_nil]
  have e2 := bytes_app e h.fit hr
  cases e2
end Rq

set_option maxRecDepth 20000 in
set_option maxHeartbeats 4000000 in
theorem cut_any6 (hs : Specs6) (r : Rp) (u : Value) (cut : Int) (w : World) (hu : Rl w u r.xs) (hl : r.xs.length ≤ maxLen) (hf : Rq.FitR r) :
    Calls Try.prog 8 #[rv r u, .int .i64 cut] w fun e w' => e = .returned (.bool true) ∧ Below w.heap.size w w' := by
  have HS : Hid Specs6 := hs
  have HU : Hid (Rl w u r.xs) := hu
  have HF : Hid (r.xs.length ≤ maxLen ∧ Rq.FitR r) := ⟨hl, hf⟩
  obtain ⟨au, m, cu, rfl, hm, hX⟩ := hu
  have HM : Hid (m = r.xs.length) := hm
  have hm1 : m ≤ 9223372036854775807 := by unfold maxLen at hl; omega
  clear hs hl hf hm hX
  unfold rv
  have HX1 : Hid (BoxR (w.alloc (.cells #[.int .i64 r.num, .int .i64 r.zxid, .int .i64 r.err, .int .i64 r.at_, .slice au m cu] 26)) w.heap.size r (.slice au m cu)) := BoxR.made w r _ _
  have HB1 : Hid (Below w.heap.size w (w.alloc (.cells #[.int .i64 r.num, .int .i64 r.zxid, .int .i64 r.err, .int .i64 r.at_, .slice au m cu] 26))) := (Below.refl _ w).alloc (Nat.le_refl _) _
  go_enter Try.func8, Try.ntmps8
  go_wp2_with fail
  generalize w.alloc (.cells #[.int .i64 r.num, .int .i64 r.zxid, .int .i64 r.err, .int .i64 r.at_, .slice au m cu] 26) = w1 at *
  refine (awake_any6 HS.out _).mono ?_
  rintro e w2 ⟨rfl, hb⟩
  have HB2 : Hid (Below w.heap.size w w2) := HB1.out.trans (hb.mono HB1.out.size)
  have HX2 : Hid (BoxR w2 w.heap.size r (.slice au m cu)) := HX1.out.below hb
  clear hb
  obtain ⟨x0, x1, x2, x3, x4⟩ := HX2.out
  go_wp2_with fail
  refine (heavy_any _ r.xs _ (HU.out.below HB2.out) HF.out.1 HF.out.2.xs).mono ?_
  rintro e w3 ⟨rfl, hb⟩
  have HB3 : Hid (Below w.heap.size w w3) := HB2.out.trans (hb.mono HB2.out.size)
  have HX3 : Hid (BoxR w3 w.heap.size r (.slice au m cu)) := HX2.out.below hb
  clear hb x0 x1 x2 x3 x4
  cases hgr : heavyB r.xs with
  | true =>
    clear hgr
    go_wp2
    go_ret
    exact ⟨rfl, HB3.out⟩
  | false =>
    have HLT : Hid (r.xs.length ≤ 20 ∧ ∀ x ∈ r.xs, Light x) := heavy_light hgr
    clear hgr
    obtain ⟨x0, x1, x2, x3, x4⟩ := HX3.out
    by_cases h16 : 16 < m
    · have h16' : (16 : Int) < (m : Int) := by omega
      go_wp2
      go_ret
      exact ⟨rfl, HB3.out⟩
    · have h16' : ¬ (16 : Int) < (m : Int) := by omega
      go_wp2_with fail
      refine (HS.out.put r _ _ (HU.out.below HB3.out) HLT.out.1 HLT.out.2).mono ?_
      rintro e w4 ⟨v4, rfl, hbs, hb⟩
      have HB4 : Hid (Below w.heap.size w w4) := HB3.out.trans (hb.mono HB3.out.size)
      have HV4 : Hid (Bs w4 v4 (Rq.bytes r)) := hbs
      have HLB : Hid ((Rq.bytes r).length ≤ 103000) := bytes_light HLT.out.1 HLT.out.2
      clear hb x0 x1 x2 x3 x4
      obtain ⟨g, o, n, cv, rfl, hn, hcap, hsl⟩ := hbs.plain (by unfold Rq.bytes; simp only [List.length_append, Pk.be8_len]; omega)
      have HN : Hid (n = (Rq.bytes r).length) := hn
      have hn3 : n ≤ 103000 := by have := HLB.out; omega
      clear hn hsl
      by_cases hc0 : cut < 0
      · go_wp2
        go_ret
        exact ⟨rfl, HB4.out⟩
      by_cases hcn : (n : Int) ≤ cut
      · go_wp2
        go_ret
        exact ⟨rfl, HB4.out⟩
      obtain ⟨k, rfl⟩ : ∃ k : Nat, cut = k := ⟨cut.toNat, by omega⟩
      have hkc : (k : Int) ≤ (cv : Int) := by omega
      have HS4 : Hid (Bs w4 (.slice (some ⟨g, o, none⟩) k cv) ((Rq.bytes r).take k)) := HV4.out.cut (by omega)
      have HK : Hid (k < (Rq.bytes r).length) := by have := HN.out; exact (by omega : k < (Rq.bytes r).length)
      go_wp2_with fail
      refine (HS.out.get _ _ _ HS4.out (by rw [List.length_take]; have := HLB.out; omega)).mono ?_
      rintro e w5 ⟨hb, hcase⟩
      have HB5 : Hid (Below w.heap.size w w5) := HB4.out.trans (hb.mono HB4.out.size)
      have HV5 : Hid (Bs w5 (.slice (some ⟨g, o, none⟩) n cv) (Rq.bytes r)) := HV4.out.below hb
      obtain ⟨u5, rfl, hu5⟩ : ∃ u5, e = .returned (.tuple #[rv Rq.zero u5, .int .i64 3]) ∧ Rl w5 u5 [] := by
        rcases hcase with ⟨r', u', he, hu', his'⟩ | ⟨u', he, hu', _⟩
        · exact absurd his' (Rq.cut_none HF.out.2 HK.out _)
        · exact ⟨u', he, hu'⟩
      clear hcase hb
      obtain ⟨a5, m5, c5, rfl, hXX⟩ := hu5
      clear hXX
      unfold rv
      have hal : Below w5.heap.size w5 (w5.alloc (.cells #[.int .i64 Rq.zero.num, .int .i64 Rq.zero.zxid, .int .i64 Rq.zero.err, .int .i64 Rq.zero.at_, .slice a5 m5 c5] 26)) := (Below.refl _ w5).alloc (Nat.le_refl _) _
      have HB5a : Hid (Below w.heap.size w (w5.alloc (.cells #[.int .i64 Rq.zero.num, .int .i64 Rq.zero.zxid, .int .i64 Rq.zero.err, .int .i64 Rq.zero.at_, .slice a5 m5 c5] 26))) := HB5.out.trans (hal.mono HB5.out.size)
      have HV5a : Hid (Bs (w5.alloc (.cells #[.int .i64 Rq.zero.num, .int .i64 Rq.zero.zxid, .int .i64 Rq.zero.err, .int .i64 Rq.zero.at_, .slice a5 m5 c5] 26)) (.slice (some ⟨g, o, none⟩) n cv) (Rq.bytes r)) := HV5.out.below hal
      clear hal
      go_wp2_with (at_builtin; refine append_copy rfl _ _ rfl (.slice (some ⟨g, o, none⟩) n cv) (Rq.bytes r) (w5.alloc (.cells #[.int .i64 Rq.zero.num, .int .i64 Rq.zero.zxid, .int .i64 Rq.zero.err, .int .i64 Rq.zero.at_, .slice a5 m5 c5] 26)) (by rw [World.size_alloc]; rfl) rfl HV5a.out (by have := HLB.out; omega) ?_)
      have HSZ : Hid ((w5.alloc (.cells #[.int .i64 Rq.zero.num, .int .i64 Rq.zero.zxid, .int .i64 Rq.zero.err, .int .i64 Rq.zero.at_, .slice a5 m5 c5] 26)).heap.size = w5.heap.size + 1) := World.size_alloc _ _
      generalize (w5.alloc (.cells #[.int .i64 Rq.zero.num, .int .i64 Rq.zero.zxid, .int .i64 Rq.zero.err, .int .i64 Rq.zero.at_, .slice a5 m5 c5] 26)) = w5a at *
      intro v6 w6 ho hb
      have HO6 : Hid (w6.ownsRow (w5.heap.size + 1) 5 1 v6 (Rq.bytes r).length (bc (Rq.bytes r))) := ho
      have HB6 : Hid (Below w5a.heap.size w5a w6) := by rw [HSZ.out]; exact hb
      clear ho hb
      have HZ : Hid (∀ fz, Bs (w6.alloc (.cells #[.int .u8 0] 5 fz)) (.slice (some ⟨w6.heap.size, 0, none⟩) 1 1) [0]) := fun fz => Bs.made w6 [0] _ fz
      go_wp2_with (at_builtin; refine append_bs rfl _ _ rfl (w5.heap.size + 1) v6 (.slice (some ⟨w6.heap.size, 0, none⟩) 1 1) (Rq.bytes r).length (Rq.bytes r) [0] _ rfl rfl (HO6.out.alloc _) (by rw [World.size_alloc]; have := HB6.out.size; have := HSZ.out; omega) (HZ.out _) (by have := HLB.out; simp only [List.length_cons, List.length_nil]; omega) ?_)
      intro v7 w7 ho hb
      have HV7 : Hid (Bs w7 v7 (Rq.bytes r ++ [0])) := Bs.own ho
      have HB7 : Hid (Below w.heap.size w w7) := by
        rw [← HSZ.out] at hb
        exact HB5a.out.trans (((HB6.out.alloc HB6.out.size _).trans hb).mono HB5a.out.size)
      clear ho hb
      go_wp2_with fail
      refine (HS.out.get _ _ _ HV7.out (by rw [List.length_append]; have := HLB.out; simp only [List.length_cons, List.length_nil]; omega)).mono ?_
      rintro e w8 ⟨hb, hcase⟩
      have HB8 : Hid (Below w.heap.size w w8) := HB7.out.trans (hb.mono HB7.out.size)
      obtain ⟨u8, rfl, hu8⟩ : ∃ u8, e = .returned (.tuple #[rv Rq.zero u8, .int .i64 3]) ∧ Rl w8 u8 [] := by
        rcases hcase with ⟨r', u', he, hu', his'⟩ | ⟨u', he, hu', _⟩
        · exact absurd his' (Rq.more_none HF.out.2 _)
        · exact ⟨u', he, hu'⟩
      clear hcase hb
      obtain ⟨a8, m8, c8, rfl, hXX⟩ := hu8
      clear hXX
      unfold rv
      have HB9 : Hid (Below w.heap.size w (w8.alloc (.cells #[.int .i64 Rq.zero.num, .int .i64 Rq.zero.zxid, .int .i64 Rq.zero.err, .int .i64 Rq.zero.at_, .slice a8 m8 c8] 26))) := HB8.out.alloc HB8.out.size _
      go_wp2
      go_ret
      exact ⟨rfl, HB9.out⟩
end Go.Proofs.Ytebmcjhhoionbaa
