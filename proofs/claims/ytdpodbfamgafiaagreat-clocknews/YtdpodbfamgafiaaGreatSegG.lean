/-
 The reference's greatest and Label of layer 14.
-/
import Derived.Test.YtdpodbfamgafiaaGreatSegM
namespace Go.Proofs.YtdpodbfamgafiaaGreat
open Go.RowKit
set_option maxRecDepth 100000

/-- An instant of a segment that may be is no great number. -/
theorem may_t {l : List Sg} {day off : Int} (h : mayS l day off = true) {i : Nat} {x : Sg} (hx : l[i]? = some x) {t : Int} (h0 : begS x ≤ t) (h1 : t < endS l day off i) : (-1048576 ≤ untS l day i ∧ untS l day i ≤ 1048576) ∧ -91000000000000000000000000000 ≤ t ∧ t ≤ 91000000000000000000000000000 := by
 have hm := may_at h hx
 have hs := sgIn_iff.1 hm.1
 have hu := unt_in (may_spec.1 h).2.1 (may0_iff.1 (may_spec.1 h).1).2.1 i
 have n1 := fZ_near hm.1 (u := cnt x.d 0 0) (by unfold cnt; omega) (by unfold cnt; omega)
 have n2 := fZ_near hm.1 (u := cnt (untS l day i) 1 0) (by unfold cnt; omega) (by unfold cnt; omega)
 unfold begS at h0
 generalize fZ x (cnt x.d 0 0) = f1 at *
 have h2 := hm.2.2.2.2.1
 generalize fZ x (cnt (untS l day i) 1 0) = f2 at *
 unfold cnt at n1 n2
 omega
theorem p2_80 : p2 80 = 1208925819614629174706176 := by decide
theorem rgreat_any {s : Sg} (hg : sgIn s = true) (h64 : Sg64 s) {m : Nat} {t : Int} {v : Value} {w : World} (ht : IsBig m t v w) (hmm : m ≤ 80) (hb : -91000000000000000000000000000 ≤ t ∧ t ≤ 91000000000000000000000000000) : Calls Tryz.prog 75 #[.agg #[.int .i64 s.d, .int .i64 s.b, .int .i64 s.f, .int .i64 s.r], v] w fun e w' => ∃ r, e = .returned r ∧ IsBig 8 (gZ s t) r w' ∧ Below w.heap.size w w' := by
 obtain ⟨ta, tl, tc, rfl, -⟩ := id ht
 have hr := (sgIn_iff.1 hg).2.2.2
 have e80 := p2_80
 have pz : Later w w ∧ True := ⟨Later.refl w, trivial⟩
 refine calls_Wp (args := [_, _]) (n := 27) Tryz.func75 rfl rfl (by simp) ?_
 refine Wp.seq ?_
 refine wR [0, 1, 2] ?_
 refine sE (fun bk1 w1 kb1 lw1 => ?_)
 have kz2 := Nat.le_trans pz.1.size kb1
 replace pz := And.intro (pz.1.trans lw1) trivial
 refine sE (fun bk2 w2 kb2 lw2 => ?_)
 have kz3 := Nat.le_trans pz.1.size kb2
 replace pz := And.intro (pz.1.trans lw2) trivial
 refine sO (fun bk3 w3 kb3 lw3 => ?_)
 have kz4 := Nat.le_trans pz.1.size kb3
 replace pz := And.intro (pz.1.trans lw3) trivial
 refine vOrd_nil ?_
 refine Wp.seq ?_
 refine wD [0, 3, 1, 2, 4] [10, 7, 0, 0, 0] (fun | 1 => IsBig 6 (p2 80) | 2 => IsBig (max m 6 + 1) (t - p2 80) | _ => fun _ _ => True) (fun wd ld => ?_)
 replace pz := And.intro (pz.1.trans ld) trivial
 refine sL ?_
 refine sO (fun bk5 wk5 kb5 lk5 => ?_)
 have kz5 := Nat.le_trans pz.1.size kb5
 replace pz := And.intro (pz.1.trans lk5) trivial
 refine s_callD rfl rfl rfl (by kernel_rfl) rfl (fun wc lc => c_pow2 80 rfl (by decide) wc) ?_
 rintro v w7 u7 h1 lw7 mw7
 replace pz := And.intro (pz.1.trans lw7) trivial
 replace pz := And.intro (pz.1.trans mw7) trivial
 refine s_callD rfl rfl rfl (by kernel_rfl) rfl (fun wc lc => c_rsub (ht.kp) (h1.kp) (by omega) (by decide)) ?_
 rintro v w8 u8 h2 lw8 mw8
 replace pz := And.intro (pz.1.trans lw8) trivial
 replace pz := And.intro (pz.1.trans mw8) trivial
 have h3 : IsBig 8 (t - p2 80) _ _ := IsBig.tight (n := max m 6 + 1) h2 (by omega) (by omega)
 obtain ⟨h2a, h2l, h2c, rfl, -⟩ := id h2
 refine sS (fun w9 sw9 vw9 => ?_)
 replace pz := And.intro (pz.1.sto sw9 kz5) trivial
 refine vOrd_nil ?_
 refine Wp.seq ?_
 refine qZ ?_
 have nb1 := fZ_near hg (u := t - p2 80) (by omega) (by omega)
 have nb2 := fZ_near hg (u := t + p2 80) (by omega) (by omega)
 have e81 : p2 81 = 2417851639229258349412352 := by decide
 have e82 : t - p2 80 + p2 81 = t + p2 80 := by omega
 refine Wp.block ?_
 refine Wp.loop (fun k st W => ∃ (n : Nat) (p L : Int) (xa : Option Addr) (xl xc : Nat), st = St.of [(2, .p 2 bk1 0), (3, .p 3 bk2 0), (4, .p 4 bk3 0), (5, .p 5 bk5 0), (6, .v (.int .i64 p))] [(2, bk1, [.int .i64 s.d, .int .i64 s.b, .int .i64 s.f, .int .i64 s.r]), (3, bk2, [.bool (sg t), .slice ta tl tc]), (4, bk3, [.bool false, .slice none 0 0]), (5, bk5, [.bool (sg L), .slice xa xl xc])] ∧ p = (n : Int) - 1 ∧ n ≤ 81 ∧ IsBig 8 L (.agg #[.bool (sg L), .slice xa xl xc]) W ∧ t - p2 80 ≤ L ∧ L + p2 n ≤ t + p2 80 ∧ fZ s L ≤ t ∧ t < fZ s (L + p2 n) ∧ k = n) ?_ ?_
 ·exact ⟨_, _, (St.of_le' (env := [(2, .p 2 _ 0), (3, .p 3 _ 0), (4, .p 4 _ 0), (5, .p 5 _ 0), (6, .v _)]) (mem := [(2, _, [_, _, _, _]), (3, _, [_, _]), (4, _, [_, _]), (5, _, [_, _])]) ⟨rfl, rfl, rfl, rfl, rfl, trivial⟩ ⟨rfl, rfl, rfl, rfl, trivial⟩), 81, 80, _, _, _, _, rfl, rfl, by decide, h3.kp, by omega, by rw [e81]; omega, by omega, by rw [e82]; omega, rfl⟩
 ·rintro k st w10 ⟨n1, p, L, xa, xl, xc, rfl, hp, hn, hL, b1, b2, f1, f2, rfl⟩
  refine Wp.seq ?_
  refine Wp.seq ?_
  refine Wp.old (fun lq => ?_)
  replace pz := And.intro lq trivial
  clear lq
  have htw := ht.later pz.1
  refine wQ 1 ?_
  refine p_geq rfl rfl rfl rfl rfl (fun h12 => ?_) (fun h12 => ?_)
  ·refine vOrd_nil ?_
   refine Wp.condT rfl rfl ?_
   refine Wp.skip ?_
   refine Wp.seq ?_
   refine Wp.block ?_
   refine Wp.seq ?_
   obtain ⟨n, rfl⟩ : ∃ n, k = n + 1 := ⟨k - 1, by omega⟩
   have e2 := p2_succ n
   have e3 := p2_pos n
   have e4 := p2_pos (n + 1)
   refine wD [0, 1, 4, 2, 3, 5] [22, 17, 15, 0, 0, 0] (fun | 2 => IsBig (n / 16 + 1) (p2 n) | 3 => IsBig (max 8 (n / 16 + 1) + 1) (L + p2 n) | _ => fun _ _ => True) (fun wd ld => ?_)
   replace pz := And.intro (pz.1.trans ld) trivial
   refine sQ 2 ?_
   refine sO (fun bk11 w11 kb11 lw11 => ?_)
   have kz7 := Nat.le_trans pz.1.size kb11
   replace pz := And.intro (pz.1.trans lw11) trivial
   refine s_callD rfl rfl rfl (by kernel_rfl) rfl (fun wc lc => c_pow2 n (by omega) (by omega) wc) ?_
   rintro v w12 u12 h4 lw12 mw12
   replace pz := And.intro (pz.1.trans lw12) trivial
   replace pz := And.intro (pz.1.trans mw12) trivial
   refine s_callD rfl rfl rfl (by kernel_rfl) rfl (fun wc lc => c_add (hL.kp) (h4.kp) (by decide) (by omega)) ?_
   rintro v w13 u13 h5w lw13 mw13
   replace pz := And.intro (pz.1.trans lw13) trivial
   replace pz := And.intro (pz.1.trans mw13) trivial
   have h5 : IsBig 8 (L + p2 n) _ _ := IsBig.tight (n := max 8 (n / 16 + 1) + 1) h5w (by omega) (by omega)
   clear h5w
   obtain ⟨h5a, h5l, h5c, rfl, -⟩ := id h5
   refine sS (fun w14 sw14 vw14 => ?_)
   replace pz := And.intro (pz.1.sto sw14 kz7) trivial
   refine vOrd_nil ?_
   refine Wp.seq ?_
   have c1 := cmpI_le (x := fZ s (L + p2 n)) (y := t)
   have c3 := cmpI_in (fZ s (L + p2 n)) t
   refine wD [0, 1, 3, 2, 4, 5] [10, 9, 7, 0, 0, 0] (fun | 2 => IsBig 120 (fZ s (L + p2 n)) | 4 => fun v _ => v = .int .i64 (cmpI (fZ s (L + p2 n)) t) | _ => fun _ _ => True) (fun wd ld => ?_)
   replace pz := And.intro (pz.1.trans ld) trivial
   refine sQ 3 ?_
   refine s_callD rfl rfl rfl (by kernel_rfl) rfl (fun wc lc => rF_any h64 (h5.kp) (by decide)) ?_
   rintro v w15 u15 h6 lw15 mw15
   replace pz := And.intro (pz.1.trans lw15) trivial
   replace pz := And.intro (pz.1.trans mw15) trivial
   refine s_callD rfl rfl rfl (by kernel_rfl) rfl (fun wc lc => c_cmp (h6.kp) (htw.kp) (by decide) (by omega)) ?_
   rintro v w16 u16 rfl lw16 mw16
   replace pz := And.intro (pz.1.trans lw16) trivial
   replace pz := And.intro (pz.1.trans mw16) trivial
   refine p_leq rfl rfl rfl rfl rfl (fun h24 => ?_) (fun h24 => ?_)
   ·refine vOrd_nil ?_
    refine Wp.condT rfl rfl ?_
    refine wQ 1 ?_
    refine sS (fun w17 sw17 vw17 => ?_)
    replace pz := And.intro (pz.1.sto sw17 kz5) trivial
    refine vOrd_nil ?_
    refine wQ 1 ?_
    refine aM (-9223372036854775808) 9223372036854775807 ?_
    refine sZ 1 ?_
    refine ⟨_, _, by omega, (St.of_le' (env := [(2, .p 2 _ 0), (3, .p 3 _ 0), (4, .p 4 _ 0), (5, .p 5 _ 0), (6, .v _)]) (mem := [(2, _, [_, _, _, _]), (3, _, [_, _]), (4, _, [_, _]), (5, _, [_, _])]) ⟨rfl, rfl, rfl, rfl, rfl, trivial⟩ ⟨rfl, rfl, rfl, rfl, trivial⟩), n, _, L + p2 n, _, _, _, rfl, by omega, by omega, h5.kp, by omega, by omega, by omega, by rw [Int.add_assoc, show p2 n + p2 n = p2 (n + 1) by omega]; exact f2, rfl⟩
   ·refine vOrd_nil ?_
    refine Wp.condF rfl rfl ?_
    refine Wp.skip ?_
    refine wQ 1 ?_
    refine aM (-9223372036854775808) 9223372036854775807 ?_
    refine sZ 1 ?_
    refine ⟨_, _, by omega, (St.of_le' (env := [(2, .p 2 _ 0), (3, .p 3 _ 0), (4, .p 4 _ 0), (5, .p 5 _ 0), (6, .v _)]) (mem := [(2, _, [_, _, _, _]), (3, _, [_, _]), (4, _, [_, _]), (5, _, [_, _])]) ⟨rfl, rfl, rfl, rfl, rfl, trivial⟩ ⟨rfl, rfl, rfl, rfl, trivial⟩), n, _, L, _, _, _, rfl, by omega, by omega, hL.kp, by omega, by omega, f1, by omega, rfl⟩
  ·refine vOrd_nil ?_
   refine Wp.condF rfl rfl ?_
   refine Wp.exit ?_
   refine qQ 1 ?_
   refine sS (fun w18 sw18 vw18 => ?_)
   replace pz := And.intro (pz.1.sto sw18 kz4) trivial
   refine vOrd_nil ?_
   refine Wp.ret ⟨.inr rfl, fun lW => ⟨_, res_cell rfl rfl rfl rfl, _, rfl, ?_, lW⟩⟩
   clear lW
   obtain rfl : k = 0 := by omega
   rw [gZ_only hr f1 f2]
   exact hL.kp
theorem rrlabel_any (l : List Sg) {a0 : Option Addr} {c0 : Nat} {w : World} (hv : SegAt w (.slice a0 l.length c0) l) (hlc : l.length ≤ 9223372036854775807) {day off : Int} (hd : I64 day) (ho : I64 off) (hm : mayS l day off = true) {m : Nat} {t : Int} {v : Value} (ht : IsBig m t v w) (hmm : m ≤ 80) {K : Nat} (hcut : CutP (pSB t) l K) : Calls Tryz.prog 46 #[(.slice a0 l.length c0), .int .i64 day, .int .i64 off, v] w fun e w' => ∃ r, e = .returned r ∧ r = .tuple #[lU l day off K t, .int .i64 (lE l day off K t)] ∧ Below w.heap.size w w' := by
 obtain ⟨ta, tl, tc, rfl, -⟩ := id ht
 have hlen := (may0_iff.1 (may_spec.1 hm).1).1
 have hdin := (may0_iff.1 (may_spec.1 hm).1).2.1
 have hun := unt_in (may_spec.1 hm).2.1 hdin
 obtain ⟨ab, ao, rfl, hcell⟩ := seg_at hv (by omega)
 have pz : Later w w ∧ True := ⟨Later.refl w, trivial⟩
 obtain ⟨x0, hx0⟩ : ∃ x, l[0]? = some x := ⟨_, List.getElem?_eq_getElem (by omega)⟩
 obtain ⟨kx01, kx02, kx03, kx04⟩ := hcell _ x0 hx0
 have hx064 := hv.all hx0
 have hs0 := sgIn_iff.1 (may_at hm hx0).1
 have hp0 := hcut.2 0 x0 hx0
 unfold pSB begS at hp0
 rw [decide_eq_decide] at hp0
 have cc0 := cmpI_low (x := t) (y := fZ x0 (cnt x0.d 0 0))
 have cc1 := cmpI_in t (fZ x0 (cnt x0.d 0 0))
 refine calls_Wp (args := [_, _, _, _]) (n := 68) Tryz.func46 rfl rfl (by simp) ?_
 refine Wp.seq ?_
 refine wR [0, 1, 2] ?_
 refine sE (fun bk1 w1 kb1 lw1 => ?_)
 have kz7 := Nat.le_trans pz.1.size kb1
 replace pz := And.intro (pz.1.trans lw1) trivial
 refine sO (fun bk2 w2 kb2 lw2 => ?_)
 have kz8 := Nat.le_trans pz.1.size kb2
 replace pz := And.intro (pz.1.trans lw2) trivial
 refine sZ 1 ?_
 refine Wp.seq ?_
 refine Wp.seq ?_
 refine wD [0, 1, 2, 3, 4, 5, 6, 7, 8, 9, 10, 11, 12] [2046, 1009, 1011, 1015, 0, 0, 0, 0, 0, 0, 0, 0, 0] (fun | 9 => IsBig 17 (cnt x0.d 0 0) | 10 => IsBig 120 (fZ x0 (cnt x0.d 0 0)) | 11 => fun v _ => v = .int .i64 (cmpI t (fZ x0 (cnt x0.d 0 0))) | _ => fun _ _ => True) (fun wd ld => ?_)
 replace pz := And.intro (pz.1.trans ld) trivial
 refine sQ 2 ?_
 refine sI (sz := 4) (ao + (0) * 4) ?_
 refine x_ldA [.int .i64 x0.d, .int .i64 x0.b, .int .i64 x0.f, .int .i64 x0.r] rfl rfl rfl rfl rfl rfl (World.block_lt_of_cell? _ _ (cell_later pz.1 kx01)) (fun j u hj => ?_) ?_
 ·match j, hj with
  | 0, hj => cases hj; exact cell_later pz.1 kx01
  | 1, hj => cases hj; exact cell_later pz.1 kx02
  | 2, hj => cases hj; exact cell_later pz.1 kx03
  | 3, hj => cases hj; exact cell_later pz.1 kx04
 refine sM ?_
 refine sI (sz := 4) (ao + (0) * 4) ?_
 refine s_fieldV (ao + (0) * 4) rfl rfl rfl rfl 0 rfl rfl ?_
 refine xC (cell_later pz.1 kx01) ?_
 refine sB ?_
 refine sD (fun wc lc => rjoin_any (d := x0.d) (s := 0) (a := 0) ⟨by omega, by omega⟩ ⟨by decide, by decide⟩ ⟨by decide, by decide⟩ wc) ?_
 rintro v w13 u13 h1 lw13 mw13
 replace pz := And.intro (pz.1.trans lw13) trivial
 replace pz := And.intro (pz.1.trans mw13) trivial
 refine s_callD rfl rfl rfl (by kernel_rfl) rfl (fun wc lc => rF_any hx064 (h1.kp) (by decide)) ?_
 rintro v w14 u14 h2 lw14 mw14
 replace pz := And.intro (pz.1.trans lw14) trivial
 replace pz := And.intro (pz.1.trans mw14) trivial
 refine s_callD rfl rfl rfl (by kernel_rfl) rfl (fun wc lc => c_cmp (ht.kp) (h2.kp) (by omega) (by decide)) ?_
 rintro v w15 u15 rfl lw15 mw15
 replace pz := And.intro (pz.1.trans lw15) trivial
 replace pz := And.intro (pz.1.trans mw15) trivial
 refine p_lss rfl rfl rfl rfl rfl (fun h25 => ?_) (fun h25 => ?_)
 ·refine vOrd_nil ?_
  refine Wp.condT rfl rfl ?_
  refine Wp.seq ?_
  refine wR [0, 1, 2] ?_
  refine sB ?_
  refine sS (fun w16 sw16 vw16 => ?_)
  replace pz := And.intro (pz.1.sto sw16 kz8) trivial
  refine sZ 1 ?_
  refine Wp.ret ⟨.inr rfl, fun lW => ⟨_, ⟨_, _, res_cell rfl rfl rfl rfl, res_tmp (P := Tryz.prog) rfl rfl, rfl⟩, _, rfl, ?_, lW⟩⟩
  clear lW
  obtain rfl : K = 0 := by omega
  rw [lE_early.1, lE_early.2]
 ·refine vOrd_nil ?_
  refine Wp.condF rfl rfl ?_
  refine Wp.skip ?_
  refine Wp.seq ?_
  refine Wp.seq ?_
  have hK : 0 < K := by omega
  refine wZ ?_
  refine Wp.block ?_
  refine Wp.loop (fun k st W => ∃ (i : Nat) (p : Int), st = St.of [(0, .v (.slice (some ⟨ab, ao, none⟩) l.length c0)), (1, .v (.int .i64 day)), (2, .v (.int .i64 off)), (7, .p 7 bk1 0), (8, .p 8 bk2 0), (9, .v (.int .i64 0)), (10, .v (.int .i64 p))] [(7, bk1, [.bool (sg t), .slice ta tl tc]), (8, bk2, [.int .i64 0, .int .i64 0, .int .i64 0])] ∧ p = i ∧ i ≤ l.length ∧ (∀ j, j < i → endS l day off j ≤ t) ∧ k = l.length - i) ?_ ?_
  ·exact ⟨_, _, (St.of_le' (env := [(0, .v _), (1, .v _), (2, .v _), (7, .p 7 _ 0), (8, .p 8 _ 0), (9, .v _), (10, .v _)]) (mem := [(7, _, [_, _]), (8, _, [_, _, _])]) ⟨rfl, rfl, rfl, rfl, rfl, rfl, rfl, trivial⟩ ⟨rfl, rfl, trivial⟩), 0, _, rfl, rfl, Nat.zero_le _, fun j hj => by omega, rfl⟩
  ·rintro k st w17 ⟨i, p, rfl, hp, hi, hall, rfl⟩
   refine Wp.seq ?_
   refine Wp.seq ?_
   refine Wp.old (fun lq => ?_)
   replace pz := And.intro lq trivial
   clear lq
   have htw := ht.later pz.1
   refine wQ 2 ?_
   refine x_len rfl rfl rfl rfl rfl ?_
   refine p_lss rfl rfl rfl rfl rfl (fun h30 => ?_) (fun h30 => ?_)
   ·refine vOrd_nil ?_
    refine Wp.condT rfl rfl ?_
    refine Wp.skip ?_
    refine Wp.seq ?_
    refine Wp.block ?_
    refine Wp.seq ?_
    refine Wp.seq ?_
    subst hp
    obtain ⟨x, hx⟩ : ∃ x, l[i]? = some x := ⟨_, List.getElem?_eq_getElem (by omega)⟩
    obtain ⟨kx1, kx2, kx3, kx4⟩ := hcell _ x hx
    have hx64 := hv.all hx
    obtain ⟨⟨_, _⟩, ⟨_, _⟩, ⟨_, _⟩, ⟨_, _⟩⟩ := id hx64
    have c1 := cmpI_low (x := t) (y := endS l day off i)
    have c3 := cmpI_in t (endS l day off i)
    refine wD [0, 1, 2, 3, 4, 5, 6, 7] [62, 29, 27, 23, 0, 0, 0, 0] (fun | 5 => IsBig 120 (endS l day off i) | 6 => fun v _ => v = .int .i64 (cmpI t (endS l day off i)) | _ => fun _ _ => True) (fun wd ld => ?_)
    replace pz := And.intro (pz.1.trans ld) trivial
    refine sQ 5 ?_
    refine s_callD rfl rfl rfl (by kernel_rfl) rfl (fun wc lc => rend_any l (hv.later (pz.1.trans lc)) hlc hd ho (i := i) (by omega)) ?_
    rintro v w18 u18 he lw18 mw18
    replace pz := And.intro (pz.1.trans lw18) trivial
    replace pz := And.intro (pz.1.trans mw18) trivial
    refine s_callD rfl rfl rfl (by kernel_rfl) rfl (fun wc lc => c_cmp (htw.kp) (he.kp) (by omega) (by decide)) ?_
    rintro v w19 u19 rfl lw19 mw19
    replace pz := And.intro (pz.1.trans lw19) trivial
    replace pz := And.intro (pz.1.trans mw19) trivial
    refine p_geq rfl rfl rfl rfl rfl (fun h40 => ?_) (fun h40 => ?_)
    ·refine vOrd_nil ?_
     refine Wp.condT rfl rfl ?_
     refine Wp.exit ?_
     refine wQ 1 ?_
     refine aP (-9223372036854775808) 9223372036854775807 ?_
     refine sZ 1 ?_
     exact ⟨_, _, by omega, (St.of_le' (env := [(0, .v _), (1, .v _), (2, .v _), (7, .p 7 _ 0), (8, .p 8 _ 0), (9, .v _), (10, .v _)]) (mem := [(7, _, [_, _]), (8, _, [_, _, _])]) ⟨rfl, rfl, rfl, rfl, rfl, rfl, rfl, trivial⟩ ⟨rfl, rfl, trivial⟩), i + 1, _, rfl, by omega, by omega, fun j hj => by rcases Nat.lt_or_ge j i with z | z; exact hall j z; rw [show j = i by omega]; omega, rfl⟩
    ·refine vOrd_nil ?_
     refine Wp.condF rfl rfl ?_
     refine Wp.skip ?_
     refine Wp.seq ?_
     have hxm := may_at hm hx
     have hbeg : begS x ≤ t := by
      rcases Nat.eq_zero_or_pos i with q | q
      ·subst q; rw [hx0] at hx; cases hx; unfold begS; omega
      ·have := hall (i - 1) (by omega)
       rw [end_some (y := x) (by rw [show i - 1 + 1 = i by omega]; exact hx)] at this
       exact this
     have hc2 := cutS_of hm hx hbeg (by omega)
     obtain rfl : K = i + 1 := cutP_one hcut hc2
     have hmt := may_t hm hx hbeg (by omega)
     obtain ⟨k1, k2⟩ := lE_ok (l := l) (day := day) (off := off) (K := i + 1) (t := t) hK (by show t < endS l day off i; omega)
     obtain ⟨x2, hx2, hA, q1, q2, q3, q4⟩ := gZ_in hm hcut k1
     have : x2 = x := by rw [show i + 1 - 1 = i from rfl, hx] at hx2; cases hx2; rfl
     subst this
     rw [show i + 1 - 1 = i from rfl] at q2
     have hxs := sgIn_iff.1 hxm.1
     have hdz : -1048576 ≤ dayZ (gZ x2 t) ∧ dayZ (gZ x2 t) ≤ 1048576 ∧ 0 ≤ secZ (gZ x2 t) ∧ secZ (gZ x2 t) < 86400 := by unfold cnt at q1 q2; unfold dayZ secZ; omega
     have hB : inB (dayZ (gZ x2 t)) = true := inB_iff.2 (by omega)
     obtain ⟨sp1, sp2, sp3⟩ := spl_yes hB
     refine wD [0, 1, 2, 3, 4, 10, 5, 6, 7, 8, 9, 11, 12] [1042, 1041, 1043, 1047, 1039, 1023, 0, 0, 0, 1791, 3583, 0, 0] (fun | 5 => IsBig 8 (gZ x2 t) | 6 => fun v _ => v = .tuple #[.agg #[.int .i64 (splD (gZ x2 t)), .int .i64 (splS (gZ x2 t)), .int .i64 (splA (gZ x2 t))], .bool (inB (dayZ (gZ x2 t)))] | _ => fun _ _ => True) (fun wd ld => ?_)
     replace pz := And.intro (pz.1.trans ld) trivial
     refine sQ 2 ?_
     refine sI (sz := 4) (ao + (i) * 4) ?_
     refine x_ldA [.int .i64 x2.d, .int .i64 x2.b, .int .i64 x2.f, .int .i64 x2.r] rfl rfl rfl rfl rfl rfl (World.block_lt_of_cell? _ _ (cell_later pz.1 kx1)) (fun j u hj => ?_) ?_
     ·match j, hj with
      | 0, hj => cases hj; exact cell_later pz.1 kx1
      | 1, hj => cases hj; exact cell_later pz.1 kx2
      | 2, hj => cases hj; exact cell_later pz.1 kx3
      | 3, hj => cases hj; exact cell_later pz.1 kx4
     refine sL ?_
     refine sO (fun bk27 w27 kb27 lw27 => ?_)
     have kz11 := Nat.le_trans pz.1.size kb27
     replace pz := And.intro (pz.1.trans lw27) trivial
     refine s_callD rfl rfl rfl (by kernel_rfl) rfl (fun wc lc => rgreat_any hxm.1 hx64 (htw.kp) hmm hmt.2) ?_
     rintro v w28 u28 hg lw28 mw28
     replace pz := And.intro (pz.1.trans lw28) trivial
     replace pz := And.intro (pz.1.trans mw28) trivial
     refine s_callD rfl rfl rfl (by kernel_rfl) rfl (fun wc lc => rsplit_any (hg.kp) (by decide)) ?_
     rintro v w29 u29 rfl lw29 mw29
     replace pz := And.intro (pz.1.trans lw29) trivial
     replace pz := And.intro (pz.1.trans mw29) trivial
     rw [sp1, sp2, sp3]
     refine sQ 3 ?_
     refine sS (fun w30 sw30 vw30 => ?_)
     replace pz := And.intro (pz.1.sto sw30 kz11) trivial
     refine sZ 1 ?_
     refine Wp.seq ?_
     refine Wp.seq ?_
     refine wD [0, 1, 2, 3, 4, 5, 6] [60, 61, 27, 23, 0, 0, 0] (fun | 5 => fun v _ => v = .int .i64 (untS l day i) | _ => fun _ _ => True) (fun wd ld => ?_)
     replace pz := And.intro (pz.1.trans ld) trivial
     refine sQ 5 ?_
     refine s_callD rfl rfl rfl (by kernel_rfl) rfl (fun wc lc => runtil_any l (hv.later (pz.1.trans lc)) hlc (i := i) (by omega)) ?_
     rintro v w31 u31 rfl lw31 mw31
     replace pz := And.intro (pz.1.trans lw31) trivial
     replace pz := And.intro (pz.1.trans mw31) trivial
     refine p_geq rfl rfl rfl rfl rfl (fun h57 => ?_) (fun h57 => ?_)
     ·refine vOrd_nil ?_
      refine Wp.condT rfl rfl ?_
      refine wQ 2 ?_
      refine aM (-9223372036854775808) 9223372036854775807 ?_
      refine sQ 2 ?_
      refine aP (-9223372036854775808) 9223372036854775807 ?_
      refine sF 0 ?_
      refine sS (fun w32 sw32 vw32 => ?_)
      replace pz := And.intro (pz.1.sto sw32 kz11) trivial
      refine sF 1 ?_
      refine sS (fun w33 sw33 vw33 => ?_)
      replace pz := And.intro (pz.1.sto sw33 kz11) trivial
      refine vOrd_nil ?_
      refine qQ 1 ?_
      refine sS (fun w34 sw34 vw34 => ?_)
      replace pz := And.intro (pz.1.sto sw34 kz8) trivial
      refine sZ 1 ?_
      refine Wp.ret ⟨.inr rfl, fun lW => ⟨_, ⟨_, _, res_cell rfl rfl rfl rfl, res_tmp (P := Tryz.prog) rfl rfl, rfl⟩, _, rfl, ?_, lW⟩⟩
      clear lW
      obtain ⟨m1, m2⟩ := l_hit (l := l) (day := day) (K := i + 1) (t := t) (by rw [hA]; show untS l day i ≤ _; omega)
      rw [k1, k2, m1, m2, hA]
     ·refine vOrd_nil ?_
      refine Wp.condF rfl rfl ?_
      refine Wp.skip ?_
      refine qQ 1 ?_
      refine sS (fun w35 sw35 vw35 => ?_)
      replace pz := And.intro (pz.1.sto sw35 kz8) trivial
      refine sZ 1 ?_
      refine Wp.ret ⟨.inr rfl, fun lW => ⟨_, ⟨_, _, res_cell rfl rfl rfl rfl, res_tmp (P := Tryz.prog) rfl rfl, rfl⟩, _, rfl, ?_, lW⟩⟩
      clear lW
      obtain ⟨m1, m2⟩ := l_miss (l := l) (day := day) (K := i + 1) (t := t) (by rw [hA]; show _ < untS l day i; omega)
      rw [k1, k2, m1, m2, hA]
   ·refine vOrd_nil ?_
    refine Wp.condF rfl rfl ?_
    refine Wp.exit ?_
    refine Wp.seq ?_
    refine wR [0, 1, 2] ?_
    refine sB ?_
    refine sS (fun w36 sw36 vw36 => ?_)
    replace pz := And.intro (pz.1.sto sw36 kz8) trivial
    refine sZ 1 ?_
    refine Wp.ret ⟨.inr rfl, fun lW => ⟨_, ⟨_, _, res_cell rfl rfl rfl rfl, res_tmp (P := Tryz.prog) rfl rfl, rfl⟩, _, rfl, ?_, lW⟩⟩
    clear lW
    have hl9 := lE_late (l := l) (day := day) (off := off) (t := t) hK (hall (K - 1) (by have := hcut.1; omega))
    rw [hl9.1, hl9.2]
end Go.Proofs.YtdpodbfamgafiaaGreat
