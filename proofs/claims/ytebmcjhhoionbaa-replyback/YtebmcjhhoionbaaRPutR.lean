/- What the reference's PutReply answers. -/
import Derived.Test.YtebmcjhhoionbaaBox6
import Derived.Test.YtebmcjhhoionbaaLibV
import Derived.Test.YtebmcjhhoionbaaTakeAt
import Derived.Deep.DeepCutAuto
namespace Go.Proofs.Ytebmcjhhoionbaa
open Go.RowKit

set_option linter.unusedSimpArgs false in
set_option maxRecDepth 20000 in
set_option maxHeartbeats 8000000 in
theorem refPutR_any (r : Rp) (u : Value) (w : World) (hu : Rl w u r.xs) (hn : r.xs.length ≤ 20) (hl : ∀ x ∈ r.xs, Light x) :
    Calls Try.prog 15 #[rv r u] w fun e w' => ∃ v', e = .returned v' ∧ Bs w' v' (Rq.bytes r) ∧ Below w.heap.size w w' := by
  have HU : Hid (Rl w u r.xs ∧ ∀ x ∈ r.xs, Light x) := ⟨hu, hl⟩
  have HX1 : Hid (BoxR (w.alloc (.cells #[.int .i64 r.num, .int .i64 r.zxid, .int .i64 r.err, .int .i64 r.at_, u] 40)) w.heap.size r u) := BoxR.made w r u _
  have HB1 : Hid (Below w.heap.size w (w.alloc (.cells #[.int .i64 r.num, .int .i64 r.zxid, .int .i64 r.err, .int .i64 r.at_, u] 40))) := (Below.refl _ w).alloc (Nat.le_refl _) _
  obtain ⟨au, m, cu, rfl, hm, hX⟩ := hu
  have HM : Hid (m = r.xs.length) := hm
  have hm20 : m ≤ 20 := by omega
  clear hX hm hn hl
  unfold rv
  go_enter Try.func15, Try.ntmps15
  go_upto_region 1 with fail
  generalize w.alloc (.cells #[.int .i64 r.num, .int .i64 r.zxid, .int .i64 r.err, .int .i64 r.at_, .slice au m cu] 40) = w1 at *
  have kk1 := HX1.out.all
  go_wp2
  go_region_held3 (fun w' => w'.cell? ⟨w.heap.size, 0, none⟩ = some (.int .i64 r.num) ∧ w'.cell? ⟨w.heap.size, 1, none⟩ = some (.int .i64 r.zxid) ∧ w'.cell? ⟨w.heap.size, 2, none⟩ = some (.int .i64 r.err) ∧ w'.cell? ⟨w.heap.size, 3, none⟩ = some (.int .i64 r.at_) ∧ w'.cell? ⟨w.heap.size, 4, none⟩ = some (.slice au m cu)) (first | exact kk1 | exact kk2 | exact kk3) (first
    | (go_at_call_of 31 (Value.slice none 0 0); refine (Pw.refI64_bs _ ([]) r.num _ (Bs.nil _) (by simp [Pk.be8_len])).mono ?_; rintro e w2 ⟨v2, rfl, hbs2, hb0⟩; have hb2 := below_drew hb0; have HS2 : Hid (Bs w2 v2 (Pk.be8 r.num)) := hbs2; have HX2 : Hid (BoxR w2 w.heap.size r (.slice au m cu)) := HX1.out.below hb2; have HB2 : Hid (Below w.heap.size w w2) := HB1.out.trans (hb2.mono HB1.out.size); have kk2 := HX2.out.all; clear hbs2 hb0 hb2)
    | (go_at_call_of 31 v2; refine (Pw.refI64_bs v2 (Pk.be8 r.num) r.zxid _ HS2.out (by simp [Pk.be8_len])).mono ?_; rintro e w3 ⟨v3, rfl, hbs3, hb0⟩; have hb3 := hb0; have HS3 : Hid (Bs w3 v3 (Pk.be8 r.num ++ Pk.be8 r.zxid)) := hbs3; have HX3 : Hid (BoxR w3 w.heap.size r (.slice au m cu)) := HX2.out.below hb3; have HB3 : Hid (Below w.heap.size w w3) := HB2.out.trans (hb3.mono HB2.out.size); have kk3 := HX3.out.all; clear hbs3 hb0 hb3))
  clear kk1 kk2 kk3
  have kk3 := HX3.out.all
  go_wp2
  go_region_held3 (fun w' => w'.cell? ⟨w.heap.size, 0, none⟩ = some (.int .i64 r.num) ∧ w'.cell? ⟨w.heap.size, 1, none⟩ = some (.int .i64 r.zxid) ∧ w'.cell? ⟨w.heap.size, 2, none⟩ = some (.int .i64 r.err) ∧ w'.cell? ⟨w.heap.size, 3, none⟩ = some (.int .i64 r.at_) ∧ w'.cell? ⟨w.heap.size, 4, none⟩ = some (.slice au m cu)) (first | exact kk3 | exact kk4 | exact kk5 | exact kk6) (first
    | (go_at_call_of 31 v3; refine (Pw.refI64_bs v3 (Pk.be8 r.num ++ Pk.be8 r.zxid) r.err _ (HS3.out.below (Below.refl _ _).drew) (by simp [Pk.be8_len])).mono ?_; rintro e w4 ⟨v4, rfl, hbs4, hb0⟩; have hb4 := below_drew hb0; have HS4 : Hid (Bs w4 v4 (Pk.be8 r.num ++ Pk.be8 r.zxid ++ Pk.be8 r.err)) := hbs4; have HX4 : Hid (BoxR w4 w.heap.size r (.slice au m cu)) := HX3.out.below hb4; have HB4 : Hid (Below w.heap.size w w4) := HB3.out.trans (hb4.mono HB3.out.size); have kk4 := HX4.out.all; clear hbs4 hb0 hb4)
    | (go_at_call_of 31 v4; refine (Pw.refI64_bs v4 (Pk.be8 r.num ++ Pk.be8 r.zxid ++ Pk.be8 r.err) r.at_ _ HS4.out (by simp [Pk.be8_len])).mono ?_; rintro e w5 ⟨v5, rfl, hbs5, hb0⟩; have hb5 := hb0; have HS5 : Hid (Bs w5 v5 (Pk.be8 r.num ++ Pk.be8 r.zxid ++ Pk.be8 r.err ++ Pk.be8 r.at_)) := hbs5; have HX5 : Hid (BoxR w5 w.heap.size r (.slice au m cu)) := HX4.out.below hb5; have HB5 : Hid (Below w.heap.size w w5) := HB4.out.trans (hb5.mono HB4.out.size); have kk5 := HX5.out.all; clear hbs5 hb0 hb5)
    | (go_at_call_of 31 v5; refine (Pw.refI64_bs v5 (Pk.be8 r.num ++ Pk.be8 r.zxid ++ Pk.be8 r.err ++ Pk.be8 r.at_) (m : Int) _ HS5.out (by simp [Pk.be8_len])).mono ?_; rintro e w6 ⟨v6, rfl, hbs6, hb0⟩; have hb6 := hb0; have HS6 : Hid (Bs w6 v6 (Pk.be8 r.num ++ Pk.be8 r.zxid ++ Pk.be8 r.err ++ Pk.be8 r.at_ ++ Pk.be8 (m : Int))) := hbs6; have HX6 : Hid (BoxR w6 w.heap.size r (.slice au m cu)) := HX5.out.below hb6; have HB6 : Hid (Below w.heap.size w w6) := HB5.out.trans (hb6.mono HB5.out.size); have kk6 := HX6.out.all; clear hbs6 hb0 hb6))
  clear kk3 kk4 kk5 kk6
  obtain ⟨P, hP⟩ : ∃ P, P = Pk.be8 r.num ++ Pk.be8 r.zxid ++ Pk.be8 r.err ++ Pk.be8 r.at_ ++ Pk.be8 (m : Int) := ⟨_, rfl⟩
  have HP : Hid (P = Pk.be8 r.num ++ Pk.be8 r.zxid ++ Pk.be8 r.err ++ Pk.be8 r.at_ ++ Pk.be8 (m : Int) ∧ P.length = 40) := ⟨hP, by rw [hP]; simp [Pk.be8_len]⟩
  rw [← hP] at HS6
  clear hP
  obtain ⟨c0, c1, c2, c3, c4⟩ := HX6.out
  have HBK : Hid (∀ k ≤ m, (P ++ (r.xs.take k).flatMap Rq.xbytes).length ≤ 101000) := fun k hk => by
    have h1 := flatx_len (xs := r.xs.take k) (fun x hx => HU.out.2 x (List.mem_of_mem_take hx))
    have h2 : (r.xs.take k).length ≤ k := List.length_take_le k r.xs
    rw [List.length_append, HP.out.2]
    omega
  go_wp2
  go_loopw [3, 4] (fun f i wr => ∃ k : Nat, k ≤ m ∧ i = .int .i64 (k : Int) ∧ Bs wr f (P ++ (r.xs.take k).flatMap Rq.xbytes) ∧ Below w6.heap.size w6 wr) (fun _ i _ => ((m : Int) - intOf i).toNat)
  case atStart => exact ⟨0, Nat.zero_le _, rfl, by simpa using HS6.out, Below.refl _ _⟩
  case round =>
    obtain ⟨k, hk, rfl, hf, hb⟩ := hrel
    have HF : Hid (Bs wr u3 (P ++ (r.xs.take k).flatMap Rq.xbytes)) := hf
    have HBW : Hid (Below w6.heap.size w6 wr) := hb
    have HB : Hid (Below w.heap.size w wr) := HB6.out.trans (hb.mono HB6.out.size)
    obtain ⟨d0, d1, d2, d3, d4⟩ := HX6.out.below hb
    clear hf hb c0 c1 c2 c3 c4
    by_cases hlt : k < m
    · have hlt' : (k : Int) < (m : Int) := by omega
      have hkl : k < r.xs.length := by rw [← HM.out]; exact hlt
      obtain ⟨g, b, c', hv', _, hcs⟩ := (HU.out.1.below HB.out).at (by omega)
      simp only [Value.slice.injEq] at hv'
      obtain ⟨rfl, hq, rfl⟩ := hv'
      obtain ⟨nv, hnv, hat⟩ := hcs k r.xs[k] (List.getElem?_eq_getElem hkl)
      have HK : Hid (r.xs[k]? = some r.xs[k] ∧ Light r.xs[k]) := ⟨List.getElem?_eq_getElem hkl, HU.out.2 _ (List.getElem_mem hkl)⟩
      generalize r.xs[k] = x at *
      clear hcs hq hkl
      have HNV : Hid (Sq wr nv x.names) := hnv
      obtain ⟨an, kn, cn, rfl, hkn, hY⟩ := hnv
      have HKN : Hid (kn = x.names.length) := hkn
      have hn40 : kn ≤ 40 := by rw [hkn]; exact HK.out.2.count
      clear hkn hY
      obtain ⟨e0, e1, e2, e3, e4, e5, e6, e7, e8, e9, e10⟩ := hat
      obtain ⟨G, hGe⟩ : ∃ G, G = P ++ (r.xs.take k).flatMap Rq.xbytes := ⟨_, rfl⟩
      have hG : G.length ≤ 101000 := by rw [hGe]; exact HBK.out k (by omega)
      have HGE : Hid (G = P ++ (r.xs.take k).flatMap Rq.xbytes) := hGe
      rw [← hGe] at HF
      clear hGe
      obtain ⟨q, hq⟩ : ∃ q, q = wr.heap.size := ⟨_, rfl⟩
      have hal : Below wr.heap.size wr (wr.alloc (.cells #[.int .i64 x.err, .string x.path, .string x.data, .slice an kn cn, .int .i64 x.made, .int .i64 x.changed, .int .i64 x.ver, .int .i64 x.kids, .int .i64 x.owner, .int .i64 x.len, .int .i64 x.cnt] 35)) := (Below.refl _ wr).alloc (Nat.le_refl _) _
      have HX7 : Hid (BoxX (wr.alloc (.cells #[.int .i64 x.err, .string x.path, .string x.data, .slice an kn cn, .int .i64 x.made, .int .i64 x.changed, .int .i64 x.ver, .int .i64 x.kids, .int .i64 x.owner, .int .i64 x.len, .int .i64 x.cnt] 35)) q x (.slice an kn cn)) := by rw [hq]; exact BoxX.made wr x _ _
      have HB7 : Hid (Below w.heap.size w (wr.alloc (.cells #[.int .i64 x.err, .string x.path, .string x.data, .slice an kn cn, .int .i64 x.made, .int .i64 x.changed, .int .i64 x.ver, .int .i64 x.kids, .int .i64 x.owner, .int .i64 x.len, .int .i64 x.cnt] 35))) := HB.out.trans (hal.mono HB.out.size)
      have HCW : Hid (Below w6.heap.size w6 (wr.alloc (.cells #[.int .i64 x.err, .string x.path, .string x.data, .slice an kn cn, .int .i64 x.made, .int .i64 x.changed, .int .i64 x.ver, .int .i64 x.kids, .int .i64 x.owner, .int .i64 x.len, .int .i64 x.cnt] 35))) := HBW.out.trans (hal.mono HBW.out.size)
      have HS7 : Hid (Bs (wr.alloc (.cells #[.int .i64 x.err, .string x.path, .string x.data, .slice an kn cn, .int .i64 x.made, .int .i64 x.changed, .int .i64 x.ver, .int .i64 x.kids, .int .i64 x.owner, .int .i64 x.len, .int .i64 x.cnt] 35)) u3 G) := HF.out.below hal
      have HNA : Hid (Sq (wr.alloc (.cells #[.int .i64 x.err, .string x.path, .string x.data, .slice an kn cn, .int .i64 x.made, .int .i64 x.changed, .int .i64 x.ver, .int .i64 x.kids, .int .i64 x.owner, .int .i64 x.len, .int .i64 x.cnt] 35)) (.slice an kn cn) x.names) := HNV.out.below hal
      go_upto_region 7 with fail
      rw [← hq]
      clear hq hal d0 d1 d2 d3 d4 e0 e1 e2 e3 e4 e5 e6 e7 e8 e9 e10
      generalize wr.alloc (.cells #[.int .i64 x.err, .string x.path, .string x.data, .slice an kn cn, .int .i64 x.made, .int .i64 x.changed, .int .i64 x.ver, .int .i64 x.kids, .int .i64 x.owner, .int .i64 x.len, .int .i64 x.cnt] 35) = w7 at *
      have HC7 : Hid (Below w7.heap.size w7 w7) := Below.refl _ _
      have kk7 := HX7.out.all
      go_wp2
      go_region_held3 (fun w' => w'.cell? ⟨q, 0, none⟩ = some (.int .i64 x.err) ∧ w'.cell? ⟨q, 1, none⟩ = some (.string x.path) ∧ w'.cell? ⟨q, 2, none⟩ = some (.string x.data) ∧ w'.cell? ⟨q, 4, none⟩ = some (.int .i64 x.made) ∧ w'.cell? ⟨q, 5, none⟩ = some (.int .i64 x.changed) ∧ w'.cell? ⟨q, 6, none⟩ = some (.int .i64 x.ver) ∧ w'.cell? ⟨q, 7, none⟩ = some (.int .i64 x.kids) ∧ w'.cell? ⟨q, 8, none⟩ = some (.int .i64 x.owner) ∧ w'.cell? ⟨q, 9, none⟩ = some (.int .i64 x.len) ∧ w'.cell? ⟨q, 10, none⟩ = some (.int .i64 x.cnt)) (first | exact kk7 | exact kk8 | exact kk9 | exact kk10) (first
        | (go_at_call_of 31 u3; refine (Pw.refI64_bs u3 (G) x.err _ (HS7.out.below (Below.refl _ _).drew) (by (try simp only [List.length_append, Pk.be8_len, Pk.txt]); have := HK.out.2; have h1 := this.path; have h2 := this.data; have h3 : x.path.data.toList.length = x.path.size := rfl; have h4 : x.data.data.toList.length = x.data.size := rfl; omega)).mono ?_; rintro e w8 ⟨v8, rfl, hbs8, hb0⟩; have hb8 := below_drew hb0; have HS8 : Hid (Bs w8 v8 (G ++ Pk.be8 x.err)) := hbs8; have HX8 : Hid (BoxX w8 q x (.slice an kn cn)) := HX7.out.below hb8; have HB8 : Hid (Below w.heap.size w w8) := HB7.out.trans (hb8.mono HB7.out.size); have HC8 : Hid (Below w7.heap.size w7 w8) := HC7.out.trans (hb8.mono HC7.out.size); have kk8 := HX8.out.all; clear hbs8 hb0 hb8)
        | (go_at_call_of 32 v8; refine (Pw.refTxt_any v8 (G ++ Pk.be8 x.err) x.path _ HS8.out (by (try simp only [List.length_append, Pk.be8_len, Pk.txt]); have := HK.out.2; have h1 := this.path; have h2 := this.data; have h3 : x.path.data.toList.length = x.path.size := rfl; have h4 : x.data.data.toList.length = x.data.size := rfl; omega) (by have := HK.out.2; have h1 := this.path; have h2 := this.data; omega)).mono ?_; rintro e w9 ⟨v9, rfl, hbs9, hb0⟩; have hb9 := hb0; have HS9 : Hid (Bs w9 v9 (G ++ Pk.be8 x.err ++ Pk.txt x.path.data.toList)) := hbs9; have HX9 : Hid (BoxX w9 q x (.slice an kn cn)) := HX8.out.below hb9; have HB9 : Hid (Below w.heap.size w w9) := HB8.out.trans (hb9.mono HB8.out.size); have HC9 : Hid (Below w7.heap.size w7 w9) := HC8.out.trans (hb9.mono HC8.out.size); have kk9 := HX9.out.all; clear hbs9 hb0 hb9)
        | (go_at_call_of 32 v9; refine (Pw.refTxt_any v9 (G ++ Pk.be8 x.err ++ Pk.txt x.path.data.toList) x.data _ HS9.out (by (try simp only [List.length_append, Pk.be8_len, Pk.txt]); have := HK.out.2; have h1 := this.path; have h2 := this.data; have h3 : x.path.data.toList.length = x.path.size := rfl; have h4 : x.data.data.toList.length = x.data.size := rfl; omega) (by have := HK.out.2; have h1 := this.path; have h2 := this.data; omega)).mono ?_; rintro e w10 ⟨v10, rfl, hbs10, hb0⟩; have hb10 := hb0; have HS10 : Hid (Bs w10 v10 (G ++ Pk.be8 x.err ++ Pk.txt x.path.data.toList ++ Pk.txt x.data.data.toList)) := hbs10; have HX10 : Hid (BoxX w10 q x (.slice an kn cn)) := HX9.out.below hb10; have HB10 : Hid (Below w.heap.size w w10) := HB9.out.trans (hb10.mono HB9.out.size); have HC10 : Hid (Below w7.heap.size w7 w10) := HC9.out.trans (hb10.mono HC9.out.size); have kk10 := HX10.out.all; clear hbs10 hb0 hb10))
      clear kk7 kk8 kk9 kk10
      obtain ⟨b0, b1, b2, b3, b4, b5, b6, b7, b8, b9, b10⟩ := HX10.out
      go_wp2_with fail
      refine (Pw.refI64_bs v10 (G ++ Pk.be8 x.err ++ Pk.txt x.path.data.toList ++ Pk.txt x.data.data.toList) (kn : Int) _ HS10.out (by (try simp only [List.length_append, Pk.be8_len, Pk.txt]); have := HK.out.2; have h1 := this.path; have h2 := this.data; have h3 : x.path.data.toList.length = x.path.size := rfl; have h4 : x.data.data.toList.length = x.data.size := rfl; omega)).mono ?_
      rintro e w11 ⟨v11, rfl, hbs, hb⟩
      obtain ⟨J, hJe⟩ : ∃ J, J = G ++ Pk.be8 x.err ++ Pk.txt x.path.data.toList ++ Pk.txt x.data.data.toList ++ Pk.be8 (kn : Int) := ⟨_, rfl⟩
      have hJ : J.length ≤ 102000 := by
        rw [hJe]
        exact (by (try simp only [List.length_append, Pk.be8_len, Pk.txt]); have := HK.out.2; have h1 := this.path; have h2 := this.data; have h3 : x.path.data.toList.length = x.path.size := rfl; have h4 : x.data.data.toList.length = x.data.size := rfl; omega)
      have HJE : Hid (J = G ++ Pk.be8 x.err ++ Pk.txt x.path.data.toList ++ Pk.txt x.data.data.toList ++ Pk.be8 (kn : Int)) := hJe
      rw [← hJe] at hbs
      have HS11 : Hid (Bs w11 v11 J) := hbs
      have HX11 : Hid (BoxX w11 q x (.slice an kn cn)) := HX10.out.below hb
      have HB11 : Hid (Below w.heap.size w w11) := HB10.out.trans (hb.mono HB10.out.size)
      have HC11 : Hid (Below w7.heap.size w7 w11) := HC10.out.trans (hb.mono HC10.out.size)
      clear hbs hb hJe b0 b1 b2 b3 b4 b5 b6 b7 b8 b9 b10
      obtain ⟨b0, b1, b2, b3, b4, b5, b6, b7, b8, b9, b10⟩ := HX11.out
      have HTB : Hid (∀ j ≤ kn, (Rq.tbytes (x.names.take j)).length ≤ 4320) := fun j hj => by
        have h1 := tbytes_len (ts := x.names.take j) (fun t ht => HK.out.2.texts t (List.mem_of_mem_take ht))
        have h2 : (x.names.take j).length ≤ j := List.length_take_le j _
        omega
      go_wp2
      go_loopw [3, 6] (fun f i wr => ∃ j : Nat, j ≤ kn ∧ i = .int .i64 (j : Int) ∧ Bs wr f (J ++ Rq.tbytes (x.names.take j)) ∧ Below w11.heap.size w11 wr) (fun _ i _ => ((kn : Int) - intOf i).toNat)
      case atStart => exact ⟨0, Nat.zero_le _, rfl, by simpa [Rq.tbytes] using HS11.out, Below.refl _ _⟩
      case round =>
        obtain ⟨j, hj, rfl, hf, hb⟩ := hrel
        have HT : Hid (Bs wr u3 (J ++ Rq.tbytes (x.names.take j))) := hf
        have HBj : Hid (Below w11.heap.size w11 wr) := hb
        have HX : Hid (BoxX wr q x (.slice an kn cn)) := HX11.out.below hb
        have HC : Hid (Below w7.heap.size w7 wr) := HC11.out.trans (hb.mono HC11.out.size)
        have HBB : Hid (Below w.heap.size w wr) := HB11.out.trans (hb.mono HB11.out.size)
        clear hf hb b0 b1 b2 b3 b4 b5 b6 b7 b8 b9 b10
        by_cases hlt2 : j < kn
        · have hlt2' : (j : Int) < (kn : Int) := by omega
          have hjl : j < x.names.length := by rw [← HKN.out]; exact hlt2
          obtain ⟨g2, o2, c2, hv2, _, hcs⟩ := (HNA.out.below HC.out).at (by omega)
          simp only [Value.slice.injEq] at hv2
          obtain ⟨rfl, hq2, rfl⟩ := hv2
          have ht := hcs j x.names[j] (List.getElem?_eq_getElem hjl)
          have HJ : Hid (x.names[j]? = some x.names[j] ∧ x.names[j].size ≤ 100) := ⟨List.getElem?_eq_getElem hjl, HK.out.2.texts _ (List.getElem_mem hjl)⟩
          generalize x.names[j] = tx at *
          clear hcs hq2 hjl
          have b3 := HX.out.c3
          go_wp2_with fail
          refine (Pw.refTxt_any u3 (J ++ Rq.tbytes (x.names.take j)) tx _ HT.out (by rw [List.length_append]; have := HTB.out j (by omega); omega) (by have := HJ.out.2; omega)).mono ?_
          rintro e w20 ⟨v20, rfl, hbs, hb⟩
          have HE : Hid (Bs w20 v20 (J ++ Rq.tbytes (x.names.take (j + 1))) ∧ Below w11.heap.size w11 w20) := by
            refine ⟨?_, HBj.out.trans (hb.mono HBj.out.size)⟩
            have e : J ++ Rq.tbytes (x.names.take (j + 1)) = J ++ Rq.tbytes (x.names.take j) ++ Pk.txt tx.data.toList := by
              unfold Rq.tbytes
              rw [List.take_add_one, HJ.out.1, List.flatMap_append]
              simp
            rw [e]
            exact hbs
          clear hbs hb b3 ht
          go_wp2
          go_roundw
          case rel => exact ⟨j + 1, by omega, by go_num, HE.out.1, HE.out.2⟩
          case measure => simp [intOf]; omega
        · have hlt2' : ¬ (j : Int) < (kn : Int) := by omega
          obtain ⟨Y, hYe⟩ : ∃ Y, Y = J ++ Rq.tbytes x.names := ⟨_, rfl⟩
          have hY : Y.length ≤ 107000 := by
            rw [hYe, List.length_append]
            have := HTB.out kn (Nat.le_refl _)
            rw [List.take_of_length_le (by rw [HKN.out]; exact Nat.le_refl _)] at this
            omega
          have HYE : Hid (Y = J ++ Rq.tbytes x.names) := hYe
          have HS30 : Hid (Bs wr u3 Y) := by
            have h := HT.out
            rw [List.take_of_length_le (by rw [← HKN.out]; omega), ← hYe] at h
            exact h
          clear hYe
          have HX30 : Hid (BoxX wr q x (.slice an kn cn)) := HX.out
          have HB30 : Hid (Below w.heap.size w wr) := HBB.out
          have HC30 : Hid (Below w7.heap.size w7 wr) := HC.out
          have b3 := HX.out.c3
          go_upto_region 13 with fail
          clear b3
          obtain ⟨w30, hw30⟩ : ∃ x, x = wr := ⟨_, rfl⟩
          subst hw30
          have kk30 := HX30.out.all
          go_wp2
          go_region_held3 (fun w' => w'.cell? ⟨q, 0, none⟩ = some (.int .i64 x.err) ∧ w'.cell? ⟨q, 1, none⟩ = some (.string x.path) ∧ w'.cell? ⟨q, 2, none⟩ = some (.string x.data) ∧ w'.cell? ⟨q, 4, none⟩ = some (.int .i64 x.made) ∧ w'.cell? ⟨q, 5, none⟩ = some (.int .i64 x.changed) ∧ w'.cell? ⟨q, 6, none⟩ = some (.int .i64 x.ver) ∧ w'.cell? ⟨q, 7, none⟩ = some (.int .i64 x.kids) ∧ w'.cell? ⟨q, 8, none⟩ = some (.int .i64 x.owner) ∧ w'.cell? ⟨q, 9, none⟩ = some (.int .i64 x.len) ∧ w'.cell? ⟨q, 10, none⟩ = some (.int .i64 x.cnt)) (first | exact kk30 | exact kk31 | exact kk32) (first
            | (go_at_call_of 31 u3; refine (Pw.refI64_bs u3 (Y) x.made _ (HS30.out.below (Below.refl _ _).drew) (by (try simp only [List.length_append, Pk.be8_len]); omega)).mono ?_; rintro e w31 ⟨v31, rfl, hbs31, hb0⟩; have hb31 := below_drew hb0; have HS31 : Hid (Bs w31 v31 (Y ++ Pk.be8 x.made)) := hbs31; have HX31 : Hid (BoxX w31 q x (.slice an kn cn)) := HX30.out.below hb31; have HB31 : Hid (Below w.heap.size w w31) := HB30.out.trans (hb31.mono HB30.out.size); have HC31 : Hid (Below w7.heap.size w7 w31) := HC30.out.trans (hb31.mono HC30.out.size); have kk31 := HX31.out.all; clear hbs31 hb0 hb31)
            | (go_at_call_of 31 v31; refine (Pw.refI64_bs v31 (Y ++ Pk.be8 x.made) x.changed _ HS31.out (by (try simp only [List.length_append, Pk.be8_len]); omega)).mono ?_; rintro e w32 ⟨v32, rfl, hbs32, hb0⟩; have hb32 := hb0; have HS32 : Hid (Bs w32 v32 (Y ++ Pk.be8 x.made ++ Pk.be8 x.changed)) := hbs32; have HX32 : Hid (BoxX w32 q x (.slice an kn cn)) := HX31.out.below hb32; have HB32 : Hid (Below w.heap.size w w32) := HB31.out.trans (hb32.mono HB31.out.size); have HC32 : Hid (Below w7.heap.size w7 w32) := HC31.out.trans (hb32.mono HC31.out.size); have kk32 := HX32.out.all; clear hbs32 hb0 hb32))
          clear kk30 kk31 kk32
          have kk32 := HX32.out.all
          go_wp2
          go_region_held3 (fun w' => w'.cell? ⟨q, 0, none⟩ = some (.int .i64 x.err) ∧ w'.cell? ⟨q, 1, none⟩ = some (.string x.path) ∧ w'.cell? ⟨q, 2, none⟩ = some (.string x.data) ∧ w'.cell? ⟨q, 4, none⟩ = some (.int .i64 x.made) ∧ w'.cell? ⟨q, 5, none⟩ = some (.int .i64 x.changed) ∧ w'.cell? ⟨q, 6, none⟩ = some (.int .i64 x.ver) ∧ w'.cell? ⟨q, 7, none⟩ = some (.int .i64 x.kids) ∧ w'.cell? ⟨q, 8, none⟩ = some (.int .i64 x.owner) ∧ w'.cell? ⟨q, 9, none⟩ = some (.int .i64 x.len) ∧ w'.cell? ⟨q, 10, none⟩ = some (.int .i64 x.cnt)) (first | exact kk32 | exact kk33 | exact kk34) (first
            | (go_at_call_of 31 v32; refine (Pw.refI64_bs v32 (Y ++ Pk.be8 x.made ++ Pk.be8 x.changed) x.ver _ (HS32.out.below (Below.refl _ _).drew) (by (try simp only [List.length_append, Pk.be8_len]); omega)).mono ?_; rintro e w33 ⟨v33, rfl, hbs33, hb0⟩; have hb33 := below_drew hb0; have HS33 : Hid (Bs w33 v33 (Y ++ Pk.be8 x.made ++ Pk.be8 x.changed ++ Pk.be8 x.ver)) := hbs33; have HX33 : Hid (BoxX w33 q x (.slice an kn cn)) := HX32.out.below hb33; have HB33 : Hid (Below w.heap.size w w33) := HB32.out.trans (hb33.mono HB32.out.size); have HC33 : Hid (Below w7.heap.size w7 w33) := HC32.out.trans (hb33.mono HC32.out.size); have kk33 := HX33.out.all; clear hbs33 hb0 hb33)
            | (go_at_call_of 31 v33; refine (Pw.refI64_bs v33 (Y ++ Pk.be8 x.made ++ Pk.be8 x.changed ++ Pk.be8 x.ver) x.kids _ HS33.out (by (try simp only [List.length_append, Pk.be8_len]); omega)).mono ?_; rintro e w34 ⟨v34, rfl, hbs34, hb0⟩; have hb34 := hb0; have HS34 : Hid (Bs w34 v34 (Y ++ Pk.be8 x.made ++ Pk.be8 x.changed ++ Pk.be8 x.ver ++ Pk.be8 x.kids)) := hbs34; have HX34 : Hid (BoxX w34 q x (.slice an kn cn)) := HX33.out.below hb34; have HB34 : Hid (Below w.heap.size w w34) := HB33.out.trans (hb34.mono HB33.out.size); have HC34 : Hid (Below w7.heap.size w7 w34) := HC33.out.trans (hb34.mono HC33.out.size); have kk34 := HX34.out.all; clear hbs34 hb0 hb34))
          clear kk32 kk33 kk34
          have kk34 := HX34.out.all
          go_wp2
          go_region_held3 (fun w' => w'.cell? ⟨q, 0, none⟩ = some (.int .i64 x.err) ∧ w'.cell? ⟨q, 1, none⟩ = some (.string x.path) ∧ w'.cell? ⟨q, 2, none⟩ = some (.string x.data) ∧ w'.cell? ⟨q, 4, none⟩ = some (.int .i64 x.made) ∧ w'.cell? ⟨q, 5, none⟩ = some (.int .i64 x.changed) ∧ w'.cell? ⟨q, 6, none⟩ = some (.int .i64 x.ver) ∧ w'.cell? ⟨q, 7, none⟩ = some (.int .i64 x.kids) ∧ w'.cell? ⟨q, 8, none⟩ = some (.int .i64 x.owner) ∧ w'.cell? ⟨q, 9, none⟩ = some (.int .i64 x.len) ∧ w'.cell? ⟨q, 10, none⟩ = some (.int .i64 x.cnt)) (first | exact kk34 | exact kk35 | exact kk36 | exact kk37) (first
            | (go_at_call_of 31 v34; refine (Pw.refI64_bs v34 (Y ++ Pk.be8 x.made ++ Pk.be8 x.changed ++ Pk.be8 x.ver ++ Pk.be8 x.kids) x.owner _ (HS34.out.below (Below.refl _ _).drew) (by (try simp only [List.length_append, Pk.be8_len]); omega)).mono ?_; rintro e w35 ⟨v35, rfl, hbs35, hb0⟩; have hb35 := below_drew hb0; have HS35 : Hid (Bs w35 v35 (Y ++ Pk.be8 x.made ++ Pk.be8 x.changed ++ Pk.be8 x.ver ++ Pk.be8 x.kids ++ Pk.be8 x.owner)) := hbs35; have HX35 : Hid (BoxX w35 q x (.slice an kn cn)) := HX34.out.below hb35; have HB35 : Hid (Below w.heap.size w w35) := HB34.out.trans (hb35.mono HB34.out.size); have HC35 : Hid (Below w7.heap.size w7 w35) := HC34.out.trans (hb35.mono HC34.out.size); have kk35 := HX35.out.all; clear hbs35 hb0 hb35)
            | (go_at_call_of 31 v35; refine (Pw.refI64_bs v35 (Y ++ Pk.be8 x.made ++ Pk.be8 x.changed ++ Pk.be8 x.ver ++ Pk.be8 x.kids ++ Pk.be8 x.owner) x.len _ HS35.out (by (try simp only [List.length_append, Pk.be8_len]); omega)).mono ?_; rintro e w36 ⟨v36, rfl, hbs36, hb0⟩; have hb36 := hb0; have HS36 : Hid (Bs w36 v36 (Y ++ Pk.be8 x.made ++ Pk.be8 x.changed ++ Pk.be8 x.ver ++ Pk.be8 x.kids ++ Pk.be8 x.owner ++ Pk.be8 x.len)) := hbs36; have HX36 : Hid (BoxX w36 q x (.slice an kn cn)) := HX35.out.below hb36; have HB36 : Hid (Below w.heap.size w w36) := HB35.out.trans (hb36.mono HB35.out.size); have HC36 : Hid (Below w7.heap.size w7 w36) := HC35.out.trans (hb36.mono HC35.out.size); have kk36 := HX36.out.all; clear hbs36 hb0 hb36)
            | (go_at_call_of 31 v36; refine (Pw.refI64_bs v36 (Y ++ Pk.be8 x.made ++ Pk.be8 x.changed ++ Pk.be8 x.ver ++ Pk.be8 x.kids ++ Pk.be8 x.owner ++ Pk.be8 x.len) x.cnt _ HS36.out (by (try simp only [List.length_append, Pk.be8_len]); omega)).mono ?_; rintro e w37 ⟨v37, rfl, hbs37, hb0⟩; have hb37 := hb0; have HS37 : Hid (Bs w37 v37 (Y ++ Pk.be8 x.made ++ Pk.be8 x.changed ++ Pk.be8 x.ver ++ Pk.be8 x.kids ++ Pk.be8 x.owner ++ Pk.be8 x.len ++ Pk.be8 x.cnt)) := hbs37; have HX37 : Hid (BoxX w37 q x (.slice an kn cn)) := HX36.out.below hb37; have HB37 : Hid (Below w.heap.size w w37) := HB36.out.trans (hb37.mono HB36.out.size); have HC37 : Hid (Below w7.heap.size w7 w37) := HC36.out.trans (hb37.mono HC36.out.size); have kk37 := HX37.out.all; clear hbs37 hb0 hb37))
          clear kk34 kk35 kk36 kk37
          have HE : Hid (Bs w37 v37 (P ++ (r.xs.take (k + 1)).flatMap Rq.xbytes) ∧ Below w6.heap.size w6 w37) := by
            refine ⟨?_, HCW.out.trans (HC37.out.mono HCW.out.size)⟩
            have e : P ++ (r.xs.take (k + 1)).flatMap Rq.xbytes = Y ++ Pk.be8 x.made ++ Pk.be8 x.changed ++ Pk.be8 x.ver ++ Pk.be8 x.kids ++ Pk.be8 x.owner ++ Pk.be8 x.len ++ Pk.be8 x.cnt := by
              rw [List.take_add_one, HK.out.1, List.flatMap_append, HYE.out, HJE.out, HGE.out, HKN.out]
              simp [Rq.xbytes, Rq.sbytes]
            rw [e]
            exact HS37.out
          go_wp2
          go_roundw
          case rel => exact ⟨k + 1, by omega, by go_num, HE.out.1, HE.out.2⟩
          case measure => simp [intOf]; omega
    · have hlt' : ¬ (k : Int) < (m : Int) := by omega
      have HE : Hid (Bs wr u3 (Rq.bytes r)) := by
        have h := HF.out
        rw [List.take_of_length_le (by rw [← HM.out]; omega), HP.out.1] at h
        unfold Rq.bytes
        rw [← HM.out]
        exact h
      go_wp2
      go_ret
      exact ⟨_, rfl, HE.out, HB.out⟩
end Go.Proofs.Ytebmcjhhoionbaa
