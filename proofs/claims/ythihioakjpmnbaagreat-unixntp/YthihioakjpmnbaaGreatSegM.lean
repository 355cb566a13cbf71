/-
 The reference's May and Tai of layer 14.
-/
import Derived.Test.YthihioakjpmnbaaGreatSegR
namespace Go.Proofs.YthihioakjpmnbaaGreat
open Go.RowKit
set_option maxRecDepth 100000

theorem may1_iff {l : List Sg} {day : Int} {i : Nat} {x : Sg} (hx : l[i]? = some x) : may1 l day i = true ↔ ((-1048576 ≤ x.d ∧ x.d ≤ 1048576) ∧ (-1048576 ≤ x.f ∧ x.f ≤ 1048576) ∧ (-1000000000 ≤ x.b ∧ x.b ≤ 1000000000) ∧ (0 ≤ x.r ∧ x.r ≤ 1000000)) ∧ x.d < untS l day i := by
 unfold may1; rw [hx]
 simp only [Bool.and_eq_true, decide_eq_true_eq, sgIn_iff]
theorem unt_in {l : List Sg} {day : Int} (h : ∀ j, j < l.length → may1 l day j = true) (hd : -1048576 ≤ day ∧ day ≤ 1048576) (i : Nat) : -1048576 ≤ untS l day i ∧ untS l day i ≤ 1048576 := by
 rcases Nat.lt_or_ge (i + 1) l.length with q | q
 ·obtain ⟨y, hy⟩ : ∃ y, l[i + 1]? = some y := ⟨_, List.getElem?_eq_getElem q⟩
  rw [unt_some hy]
  exact ((may1_iff hy).1 (h _ q)).1.1
 ·rw [unt_none q]; exact hd
set_option maxHeartbeats 2000000 in
theorem rrtai_any (l : List Sg) {a0 : Option Addr} {c0 : Nat} {w : World} (hv : SegAt w (.slice a0 l.length c0) l) (hlc : l.length ≤ 9223372036854775807) {day off : Int} (hd : I64 day) (ho : I64 off) (hm : mayS l day off = true) {d s a : Int} (hd64 : I64 d) (hs64 : I64 s) (ha64 : I64 a) {K : Nat} (hcut : CutP (pSD d) l K) : Calls Tryz.prog 70 #[(.slice a0 l.length c0), .int .i64 day, .int .i64 off, .agg #[.int .i64 d, .int .i64 s, .int .i64 a]] w fun e w' => ∃ r, e = .returned r ∧ (∃ sb ua ul uc, r = .tuple #[.agg #[.bool sb, .slice ua ul uc], .int .i64 (rE l day off K d s a)] ∧ (rE l day off K d s a = 0 → IsBig 120 (rT l day off K d s a) (.agg #[.bool sb, .slice ua ul uc]) w')) ∧ Below w.heap.size w w' := by
 have hlen := (may0_iff.1 (may_spec.1 hm).1).1
 have hdin := (may0_iff.1 (may_spec.1 hm).1).2.1
 have hun := unt_in (may_spec.1 hm).2.1 hdin
 obtain ⟨hd0, hd1⟩ := id hd64
 obtain ⟨ab, ao, rfl, hcell⟩ := seg_at hv (by omega)
 have pz : Later w w ∧ True := ⟨Later.refl w, trivial⟩
 obtain ⟨x0, hx0⟩ : ∃ x, l[0]? = some x := ⟨_, List.getElem?_eq_getElem (by omega)⟩
 obtain ⟨kx01, kx02, kx03, kx04⟩ := hcell _ x0 hx0
 have hp0 := hcut.2 0 x0 hx0
 unfold pSD at hp0
 rw [decide_eq_decide] at hp0
 refine calls_Wp (args := [_, _, _, _]) (n := 92) Tryz.func70 rfl rfl (by simp) ?_
 refine Wp.seq ?_
 refine wR [0, 1, 2] ?_
 refine sE (fun bk1 w1 kb1 lw1 => ?_)
 have kz7 := Nat.le_trans pz.1.size kb1
 replace pz := And.intro (pz.1.trans lw1) trivial
 refine sO (fun bk2 w2 kb2 lw2 => ?_)
 have kz8 := Nat.le_trans pz.1.size kb2
 replace pz := And.intro (pz.1.trans lw2) trivial
 refine sZ 1 ?_
 refine Wp.seq ?_
 refine qQ 2 ?_
 refine p_lss rfl rfl rfl rfl rfl (fun h15 => ?_) (fun h15 => ?_)
 ·refine sZ 15 ?_
  refine Wp.condT rfl rfl ?_
  refine Wp.seq ?_
  refine wR [0, 1, 2] ?_
  refine sB ?_
  refine sS (fun w3 sw3 vw3 => ?_)
  replace pz := And.intro (pz.1.sto sw3 kz8) trivial
  refine sZ 1 ?_
  refine Wp.ret ⟨.inr rfl, fun lW => ⟨_, ⟨_, _, res_cell rfl rfl rfl rfl, res_tmp (P := Tryz.prog) rfl rfl, rfl⟩, _, rfl, ?_, lW⟩⟩
  clear lW
  have hU : isU s a = false := isU_no.2 (by omega)
  exact ⟨_, _, _, _, by rw [rE_arg hU], fun q => by rw [rE_arg hU] at q; exact absurd q (by decide)⟩
 ·refine sQ 3 ?_
  refine p_gtr rfl rfl rfl rfl rfl (fun h19 => ?_) (fun h19 => ?_)
  ·refine sZ 11 ?_
   refine Wp.condT rfl rfl ?_
   refine Wp.seq ?_
   refine wR [0, 1, 2] ?_
   refine sB ?_
   refine sS (fun w4 sw4 vw4 => ?_)
   replace pz := And.intro (pz.1.sto sw4 kz8) trivial
   refine sZ 1 ?_
   refine Wp.ret ⟨.inr rfl, fun lW => ⟨_, ⟨_, _, res_cell rfl rfl rfl rfl, res_tmp (P := Tryz.prog) rfl rfl, rfl⟩, _, rfl, ?_, lW⟩⟩
   clear lW
   have hU : isU s a = false := isU_no.2 (by omega)
   exact ⟨_, _, _, _, by rw [rE_arg hU], fun q => by rw [rE_arg hU] at q; exact absurd q (by decide)⟩
  ·refine sQ 4 ?_
   refine p_lss rfl rfl rfl rfl rfl (fun h24 => ?_) (fun h24 => ?_)
   ·refine sZ 6 ?_
    refine Wp.condT rfl rfl ?_
    refine Wp.seq ?_
    refine wR [0, 1, 2] ?_
    refine sB ?_
    refine sS (fun w5 sw5 vw5 => ?_)
    replace pz := And.intro (pz.1.sto sw5 kz8) trivial
    refine sZ 1 ?_
    refine Wp.ret ⟨.inr rfl, fun lW => ⟨_, ⟨_, _, res_cell rfl rfl rfl rfl, res_tmp (P := Tryz.prog) rfl rfl, rfl⟩, _, rfl, ?_, lW⟩⟩
    clear lW
    have hU : isU s a = false := isU_no.2 (by omega)
    exact ⟨_, _, _, _, by rw [rE_arg hU], fun q => by rw [rE_arg hU] at q; exact absurd q (by decide)⟩
   ·refine sQ 4 ?_
    refine p_geq rfl rfl rfl rfl rfl (fun h29 => ?_) (fun h29 => ?_)
    ·refine sZ 1 ?_
     refine Wp.condT rfl rfl ?_
     refine Wp.seq ?_
     refine wR [0, 1, 2] ?_
     refine sB ?_
     refine sS (fun w6 sw6 vw6 => ?_)
     replace pz := And.intro (pz.1.sto sw6 kz8) trivial
     refine sZ 1 ?_
     refine Wp.ret ⟨.inr rfl, fun lW => ⟨_, ⟨_, _, res_cell rfl rfl rfl rfl, res_tmp (P := Tryz.prog) rfl rfl, rfl⟩, _, rfl, ?_, lW⟩⟩
     clear lW
     have hU : isU s a = false := isU_no.2 (by omega)
     exact ⟨_, _, _, _, by rw [rE_arg hU], fun q => by rw [rE_arg hU] at q; exact absurd q (by decide)⟩
    ·refine sZ 1 ?_
     refine Wp.condF rfl rfl ?_
     refine Wp.skip ?_
     refine Wp.seq ?_
     refine Wp.seq ?_
     have hU : isU s a = true := isU_iff.2 (by omega)
     refine wD [0, 1, 2, 3, 4, 5, 6] [60, 61, 0, 0, 0, 0, 0] (fun _ _ _ => True) (fun wd ld => ?_)
     replace pz := And.intro (pz.1.trans ld) trivial
     refine sQ 3 ?_
     refine sI (sz := 4) (ao + (0) * 4) ?_
     refine s_fieldV (ao + (0) * 4) rfl rfl rfl rfl 0 rfl rfl ?_
     refine xC (cell_later pz.1 kx01) ?_
     refine p_lss rfl rfl rfl rfl rfl (fun h38 => ?_) (fun h38 => ?_)
     ·refine vOrd_nil ?_
      refine Wp.condT rfl rfl ?_
      refine Wp.seq ?_
      refine wR [0, 1, 2] ?_
      refine sB ?_
      refine sS (fun w10 sw10 vw10 => ?_)
      replace pz := And.intro (pz.1.sto sw10 kz8) trivial
      refine sZ 1 ?_
      refine Wp.ret ⟨.inr rfl, fun lW => ⟨_, ⟨_, _, res_cell rfl rfl rfl rfl, res_tmp (P := Tryz.prog) rfl rfl, rfl⟩, _, rfl, ?_, lW⟩⟩
      clear lW
      have hK : K = 0 := by omega
      exact ⟨_, _, _, _, by rw [rE_early hU hK], fun q => by rw [rE_early hU hK] at q; exact absurd q (by decide)⟩
     ·refine vOrd_nil ?_
      refine Wp.condF rfl rfl ?_
      refine Wp.skip ?_
      refine Wp.seq ?_
      refine Wp.seq ?_
      have hK : 0 < K := by omega
      obtain ⟨x, hx, -⟩ := cutP_in hcut hK
      obtain ⟨kx1, kx2, kx3, kx4⟩ := hcell _ x hx
      have hx64 := hv.all hx
      have hKl : K - 1 < l.length := (List.getElem?_eq_some_iff.1 hx).1
      refine wQ 3 ?_
      refine p_geq rfl rfl rfl rfl rfl (fun h43 => ?_) (fun h43 => ?_)
      ·refine vOrd_nil ?_
       refine Wp.condT rfl rfl ?_
       refine Wp.seq ?_
       refine wR [0, 1, 2] ?_
       refine sB ?_
       refine sS (fun w11 sw11 vw11 => ?_)
       replace pz := And.intro (pz.1.sto sw11 kz8) trivial
       refine sZ 1 ?_
       refine Wp.ret ⟨.inr rfl, fun lW => ⟨_, ⟨_, _, res_cell rfl rfl rfl rfl, res_tmp (P := Tryz.prog) rfl rfl, rfl⟩, _, rfl, ?_, lW⟩⟩
       clear lW
       exact ⟨_, _, _, _, by rw [rE_late hU hK (by omega)], fun q => by rw [rE_late hU hK (by omega)] at q; exact absurd q (by decide)⟩
      ·refine vOrd_nil ?_
       refine Wp.condF rfl rfl ?_
       refine Wp.skip ?_
       refine qZ ?_
       refine Wp.seq ?_
       refine qZ ?_
       refine Wp.block ?_
       refine Wp.loop (fun k st W => ∃ (i : Nat) (p o : Int), st = St.of [(0, .v (.slice (some ⟨ab, ao, none⟩) l.length c0)), (1, .v (.int .i64 day)), (2, .v (.int .i64 off)), (7, .p 7 bk1 0), (8, .p 8 bk2 0), (9, .v (.int .i64 0)), (10, .v (.int .i64 o)), (11, .v (.int .i64 p))] [(7, bk1, [.int .i64 d, .int .i64 s, .int .i64 a]), (8, bk2, [.bool false, .slice none 0 0])] ∧ p = i ∧ i ≤ l.length ∧ o = ((min i K - 1 : Nat) : Int) ∧ k = l.length - i) ?_ ?_
       ·exact ⟨_, _, (St.of_le' (env := [(0, .v _), (1, .v _), (2, .v _), (7, .p 7 _ 0), (8, .p 8 _ 0), (9, .v _), (10, .v _), (11, .v _)]) (mem := [(7, _, [_, _, _]), (8, _, [_, _])]) ⟨rfl, rfl, rfl, rfl, rfl, rfl, rfl, rfl, trivial⟩ ⟨rfl, rfl, trivial⟩), 0, _, _, rfl, rfl, Nat.zero_le _, by omega, rfl⟩
       ·rintro k st w12 ⟨i, p, o, rfl, hp, hi, hoo, rfl⟩
        refine Wp.seq ?_
        refine Wp.seq ?_
        refine Wp.old (fun lq => ?_)
        replace pz := And.intro lq trivial
        clear lq
        refine wQ 2 ?_
        refine x_len rfl rfl rfl rfl rfl ?_
        refine p_lss rfl rfl rfl rfl rfl (fun h48 => ?_) (fun h48 => ?_)
        ·refine vOrd_nil ?_
         refine Wp.condT rfl rfl ?_
         refine Wp.skip ?_
         refine Wp.seq ?_
         refine Wp.block ?_
         refine Wp.seq ?_
         obtain ⟨y, hy⟩ : ∃ x, l[i]? = some x := ⟨_, List.getElem?_eq_getElem (by omega)⟩
         obtain ⟨ky1, ky2, ky3, ky4⟩ := hcell _ y hy
         have hy64 := hv.all hy
         obtain ⟨⟨_, _⟩, ⟨_, _⟩, ⟨_, _⟩, ⟨_, _⟩⟩ := id hy64
         have hpy := hcut.2 i y hy
         unfold pSD at hpy
         rw [decide_eq_decide] at hpy
         refine wD [0, 1, 2, 3, 4, 5, 6, 7] [98, 97, 99, 103, 111, 0, 0, 0] (fun _ _ _ => True) (fun wd ld => ?_)
         replace pz := And.intro (pz.1.trans ld) trivial
         refine sQ 2 ?_
         refine sI (sz := 4) (ao + (i) * 4) ?_
         refine s_fieldV (ao + (i) * 4) rfl rfl rfl rfl 0 rfl rfl ?_
         refine xC (cell_later pz.1 ky1) ?_
         refine sQ 2 ?_
         refine p_leq rfl rfl rfl rfl rfl (fun h58 => ?_) (fun h58 => ?_)
         ·refine vOrd_nil ?_
          refine Wp.condT rfl rfl ?_
          refine wZ ?_
          refine wQ 1 ?_
          refine aP (-9223372036854775808) 9223372036854775807 ?_
          refine sZ 1 ?_
          exact ⟨_, _, by omega, (St.of_le' (env := [(0, .v _), (1, .v _), (2, .v _), (7, .p 7 _ 0), (8, .p 8 _ 0), (9, .v _), (10, .v _), (11, .v _)]) (mem := [(7, _, [_, _, _]), (8, _, [_, _])]) ⟨rfl, rfl, rfl, rfl, rfl, rfl, rfl, rfl, trivial⟩ ⟨rfl, rfl, trivial⟩), i + 1, _, _, rfl, by omega, by omega, by omega, rfl⟩
         ·refine vOrd_nil ?_
          refine Wp.condF rfl rfl ?_
          refine Wp.skip ?_
          refine wQ 1 ?_
          refine aP (-9223372036854775808) 9223372036854775807 ?_
          refine sZ 1 ?_
          exact ⟨_, _, by omega, (St.of_le' (env := [(0, .v _), (1, .v _), (2, .v _), (7, .p 7 _ 0), (8, .p 8 _ 0), (9, .v _), (10, .v _), (11, .v _)]) (mem := [(7, _, [_, _, _]), (8, _, [_, _])]) ⟨rfl, rfl, rfl, rfl, rfl, rfl, rfl, rfl, trivial⟩ ⟨rfl, rfl, trivial⟩), i + 1, _, _, rfl, by omega, by omega, by omega, rfl⟩
        ·refine vOrd_nil ?_
         refine Wp.condF rfl rfl ?_
         refine Wp.exit ?_
         refine Wp.seq ?_
         obtain rfl : o = ((K - 1 : Nat) : Int) := by omega
         refine wD [0, 1, 2, 3, 4, 7, 5, 6, 8] [178, 177, 179, 183, 143, 127, 0, 0, 0] (fun | 5 => IsBig 17 (cnt d s a) | 6 => IsBig 120 (fZ x (cnt d s a)) | _ => fun _ _ => True) (fun wd ld => ?_)
         replace pz := And.intro (pz.1.trans ld) trivial
         refine sQ 2 ?_
         refine sI (sz := 4) (ao + (K - 1) * 4) ?_
         refine x_ldA [.int .i64 x.d, .int .i64 x.b, .int .i64 x.f, .int .i64 x.r] rfl rfl rfl rfl rfl rfl (World.block_lt_of_cell? _ _ (cell_later pz.1 kx1)) (fun j u hj => ?_) ?_
         ·match j, hj with
          | 0, hj => cases hj; exact cell_later pz.1 kx1
          | 1, hj => cases hj; exact cell_later pz.1 kx2
          | 2, hj => cases hj; exact cell_later pz.1 kx3
          | 3, hj => cases hj; exact cell_later pz.1 kx4
         refine sL ?_
         refine sO (fun bk23 w23 kb23 lw23 => ?_)
         have kz12 := Nat.le_trans pz.1.size kb23
         replace pz := And.intro (pz.1.trans lw23) trivial
         refine sD (fun wc lc => rjoin_any (d := d) (s := s) (a := a) hd64 hs64 ha64 wc) ?_
         rintro v w24 u24 h1 lw24 mw24
         replace pz := And.intro (pz.1.trans lw24) trivial
         replace pz := And.intro (pz.1.trans mw24) trivial
         refine s_callD rfl rfl rfl (by kernel_rfl) rfl (fun wc lc => rF_any hx64 (h1.kp) (by decide)) ?_
         rintro v w25 u25 ht lw25 mw25
         replace pz := And.intro (pz.1.trans lw25) trivial
         replace pz := And.intro (pz.1.trans mw25) trivial
         obtain ⟨hta, htl, htc, rfl, -⟩ := id ht
         refine sS (fun w26 sw26 vw26 => ?_)
         replace pz := And.intro (pz.1.sto sw26 kz12) trivial
         refine vOrd_nil ?_
         refine Wp.seq ?_
         refine Wp.seq ?_
         have c1 := cmpI_low (x := fZ x (cnt d s a)) (y := endS l day off (K - 1))
         have c3 := cmpI_in (fZ x (cnt d s a)) (endS l day off (K - 1))
         have hA := sgA_at hx
         refine wD [0, 1, 2, 3, 4, 5, 6, 7, 8, 9, 10, 11, 12, 13, 14, 15, 16, 17, 18, 19, 20, 21, 22] [0, 0, 0, 0, 1935, 1951, 1983, 895, 767, 0, 0, 0, 0, 0, 1032191, 491519, 458751, 393215, 0, 0, 0, 0, 0] (fun | 10 => fun v _ => v = .int .i64 (untS l day (K - 1)) | 19 => IsBig 120 (endS l day off (K - 1)) | 20 => fun v _ => v = .int .i64 (cmpI (fZ x (cnt d s a)) (endS l day off (K - 1))) | _ => fun _ _ => True) (fun wd ld => ?_)
         replace pz := And.intro (pz.1.trans ld) trivial
         refine sQ 2 ?_
         refine p_eql rfl rfl rfl rfl rfl (fun h69 => ?_) (fun h69 => ?_)
         ·refine sQ 3 ?_
          refine aP (-9223372036854775808) 9223372036854775807 ?_
          refine sQ 3 ?_
          refine sD (fun wc lc => runtil_any l (hv.later (pz.1.trans lc)) hlc (i := K - 1) hKl) ?_
          rintro v w27 u27 rfl lw27 mw27
          replace pz := And.intro (pz.1.trans lw27) trivial
          replace pz := And.intro (pz.1.trans mw27) trivial
          refine p_neq rfl rfl rfl rfl rfl (fun h78 => ?_) (fun h78 => ?_)
          ·refine sZ 11 ?_
           refine Wp.condT rfl rfl ?_
           refine Wp.seq ?_
           refine wR [0, 1, 2] ?_
           refine sB ?_
           refine sS (fun w28 sw28 vw28 => ?_)
           replace pz := And.intro (pz.1.sto sw28 kz8) trivial
           refine sZ 1 ?_
           refine Wp.ret ⟨.inr rfl, fun lW => ⟨_, ⟨_, _, res_cell rfl rfl rfl rfl, res_tmp (P := Tryz.prog) rfl rfl, rfl⟩, _, rfl, ?_, lW⟩⟩
           clear lW
           have hq : rE l day off K d s a = 6 := rE_none hU hK (by omega) (by rw [hA]; omega)
           exact ⟨_, _, _, _, by rw [hq], fun q => by rw [hq] at q; exact absurd q (by decide)⟩
          ·refine sQ 7 ?_
           refine sD (fun wc lc => rend_any l (hv.later (pz.1.trans lc)) hlc hd ho (i := K - 1) hKl) ?_
           rintro v w29 u29 he lw29 mw29
           replace pz := And.intro (pz.1.trans lw29) trivial
           replace pz := And.intro (pz.1.trans mw29) trivial
           refine s_callD rfl rfl rfl (by kernel_rfl) rfl (fun wc lc => c_cmp (ht.kp) (he.kp) (by decide) (by decide)) ?_
           rintro v w30 u30 rfl lw30 mw30
           replace pz := And.intro (pz.1.trans lw30) trivial
           replace pz := And.intro (pz.1.trans mw30) trivial
           refine p_geq rfl rfl rfl rfl rfl (fun h88 => ?_) (fun h88 => ?_)
           ·refine sZ 1 ?_
            refine Wp.condT rfl rfl ?_
            refine Wp.seq ?_
            refine wR [0, 1, 2] ?_
            refine sB ?_
            refine sS (fun w31 sw31 vw31 => ?_)
            replace pz := And.intro (pz.1.sto sw31 kz8) trivial
            refine sZ 1 ?_
            refine Wp.ret ⟨.inr rfl, fun lW => ⟨_, ⟨_, _, res_cell rfl rfl rfl rfl, res_tmp (P := Tryz.prog) rfl rfl, rfl⟩, _, rfl, ?_, lW⟩⟩
            clear lW
            have hq : rE l day off K d s a = 6 := rE_none hU hK (by omega) (by rw [hA]; omega)
            exact ⟨_, _, _, _, by rw [hq], fun q => by rw [hq] at q; exact absurd q (by decide)⟩
           ·refine sZ 1 ?_
            refine Wp.condF rfl rfl ?_
            refine Wp.skip ?_
            refine qQ 1 ?_
            refine sS (fun w32 sw32 vw32 => ?_)
            replace pz := And.intro (pz.1.sto sw32 kz8) trivial
            refine sZ 1 ?_
            refine Wp.ret ⟨.inr rfl, fun lW => ⟨_, ⟨_, _, res_cell rfl rfl rfl rfl, res_tmp (P := Tryz.prog) rfl rfl, rfl⟩, _, rfl, ?_, lW⟩⟩
            clear lW
            have hq : rE l day off K d s a = 0 := rE_ok hU hK (by omega) (by omega) (by rw [hA]; omega)
            exact ⟨_, _, _, _, by rw [hq], fun _ => by rw [rT_ok hq, hA]; exact ht.kp⟩
         ·refine sQ 16 ?_
          refine sD (fun wc lc => rend_any l (hv.later (pz.1.trans lc)) hlc hd ho (i := K - 1) hKl) ?_
          rintro v w33 u33 he lw33 mw33
          replace pz := And.intro (pz.1.trans lw33) trivial
          replace pz := And.intro (pz.1.trans mw33) trivial
          refine s_callD rfl rfl rfl (by kernel_rfl) rfl (fun wc lc => c_cmp (ht.kp) (he.kp) (by decide) (by decide)) ?_
          rintro v w34 u34 rfl lw34 mw34
          replace pz := And.intro (pz.1.trans lw34) trivial
          replace pz := And.intro (pz.1.trans mw34) trivial
          refine p_geq rfl rfl rfl rfl rfl (fun h88 => ?_) (fun h88 => ?_)
          ·refine sZ 1 ?_
           refine Wp.condT rfl rfl ?_
           refine Wp.seq ?_
           refine wR [0, 1, 2] ?_
           refine sB ?_
           refine sS (fun w35 sw35 vw35 => ?_)
           replace pz := And.intro (pz.1.sto sw35 kz8) trivial
           refine sZ 1 ?_
           refine Wp.ret ⟨.inr rfl, fun lW => ⟨_, ⟨_, _, res_cell rfl rfl rfl rfl, res_tmp (P := Tryz.prog) rfl rfl, rfl⟩, _, rfl, ?_, lW⟩⟩
           clear lW
           have hq : rE l day off K d s a = 6 := rE_none hU hK (by omega) (by rw [hA]; omega)
           exact ⟨_, _, _, _, by rw [hq], fun q => by rw [hq] at q; exact absurd q (by decide)⟩
          ·refine sZ 1 ?_
           refine Wp.condF rfl rfl ?_
           refine Wp.skip ?_
           refine qQ 1 ?_
           refine sS (fun w36 sw36 vw36 => ?_)
           replace pz := And.intro (pz.1.sto sw36 kz8) trivial
           refine sZ 1 ?_
           refine Wp.ret ⟨.inr rfl, fun lW => ⟨_, ⟨_, _, res_cell rfl rfl rfl rfl, res_tmp (P := Tryz.prog) rfl rfl, rfl⟩, _, rfl, ?_, lW⟩⟩
           clear lW
           have hq : rE l day off K d s a = 0 := rE_ok hU hK (by omega) (by omega) (by rw [hA]; omega)
           exact ⟨_, _, _, _, by rw [hq], fun _ => by rw [rT_ok hq, hA]; exact ht.kp⟩
end Go.Proofs.YthihioakjpmnbaaGreat
