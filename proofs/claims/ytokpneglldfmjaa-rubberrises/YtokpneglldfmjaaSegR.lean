/-
  The reference's unit, F, in, Until, End, May of layer 14.
-/
import Derived.Test.YtokpneglldfmjaaSegO
import Derived.Test.YtokpneglldfmjaaVcN
namespace Go.Proofs.Ytokpneglldfmjaa
open Go.RowKit
set_option maxRecDepth 100000

theorem c_pow2 (n : Nat) {z : Int} (hz : (n : Int) = z) (hn : n ≤ 1000000) (w : World) : Calls Try.prog 45 #[.int .i64 z] w fun e w' => ∃ u, e = .returned u ∧ IsBig (n / 16 + 1) (p2 n) u w' ∧ Below w.heap.size w w' := by
  refine (pow2_lit n z hz hn w).mono ?_
  rintro e w' ⟨a, l, c, rfl, h1, h2⟩
  exact ⟨_, rfl, ⟨_, _, _, rfl, h1⟩, h2⟩
theorem runit_any (n : Int) (h : I64 n) {w : World} : Calls Try.prog 64 #[.int .i64 n] w fun e w' => ∃ r, e = .returned r ∧ IsBig 10 (uZ n) r w' ∧ Below w.heap.size w w' := by
  obtain ⟨h0, h1⟩ := h
  refine calls_Wp (args := [_]) (n := 7) Try.func64 rfl rfl (by simp) ?_
  refine Wp.seq ?_
  refine Wp.region [0] (by kernel_rfl) (by kernel_rfl) ?_
  refine s_alloc rfl rfl rfl rfl rfl (fun bk1 w1 kb1 lw1 => ?_)
  refine vOrd_nil ?_
  refine Wp.seq ?_
  refine Wp.region [0, 1, 2, 3, 4] (by kernel_rfl) (by kernel_rfl) ?_
  refine s_move rfl rfl rfl rfl ?_
  refine s_callT rfl rfl rfl (by kernel_rfl) rfl (c_rint n (by omega) (by omega) _) ?_
  rintro v w2 h1 lw2
  refine s_callT rfl rfl rfl (by kernel_rfl) rfl (c_rint 100000000000 (by decide) (by decide) _) ?_
  rintro v w3 h2 lw3
  refine s_callT rfl rfl rfl (by kernel_rfl) rfl (c_mul (h1.keeps (by repeat (first | exact Keeps.refl _ | refine Keeps.trans ?_ (Keeps.later (by assumption)) | refine Keeps.trans ?_ (Keeps.stored (by assumption) (by assumption) rfl) | refine Keeps.trans ?_ (Keeps.fresh (by assumption) (by assumption) (by assumption))))) (h2.keeps (by repeat (first | exact Keeps.refl _ | refine Keeps.trans ?_ (Keeps.later (by assumption)) | refine Keeps.trans ?_ (Keeps.stored (by assumption) (by assumption) rfl) | refine Keeps.trans ?_ (Keeps.fresh (by assumption) (by assumption) (by assumption))))) (by decide) (by decide)) ?_
  rintro v w4 h3 lw4
  obtain ⟨h3a, h3l, h3c, rfl, -⟩ := id h3
  refine s_store rfl rfl rfl rfl rfl rfl rfl (fun w5 sw5 vw5 => ?_)
  refine vOrd_nil ?_
  refine Wp.ret ⟨.inr rfl, fun lW => ⟨_, res_cell rfl rfl rfl rfl, _, rfl, ?_, lW⟩⟩
  clear lW
  exact h3.keeps (by repeat (first | exact Keeps.refl _ | refine Keeps.trans ?_ (Keeps.later (by assumption)) | refine Keeps.trans ?_ (Keeps.stored (by assumption) (by assumption) rfl) | refine Keeps.trans ?_ (Keeps.fresh (by assumption) (by assumption) (by assumption))))
theorem rF_any {s : Sg} (hs : Sg64 s) {n : Nat} {u : Int} {v : Value} {w : World} (hu : IsBig n u v w) (hn : n ≤ 80) : Calls Try.prog 36 #[.agg #[.int .i64 s.d, .int .i64 s.b, .int .i64 s.f, .int .i64 s.r], v] w fun e w' => ∃ r, e = .returned r ∧ IsBig 120 (fZ s u) r w' ∧ Below w.heap.size w w' := by
  obtain ⟨va, vl, vc, rfl, -⟩ := id hu
  obtain ⟨_, hb, ⟨hf0, hf1⟩, hr⟩ := hs
  refine calls_Wp (args := [_, _]) (n := 32) Try.func36 rfl rfl (by simp) ?_
  refine Wp.seq ?_
  refine Wp.region [0, 1, 2] (by kernel_rfl) (by kernel_rfl) ?_
  refine s_box rfl rfl rfl rfl rfl rfl (fun bk1 w1 kb1 lw1 => ?_)
  refine s_box rfl rfl rfl rfl rfl rfl (fun bk2 w2 kb2 lw2 => ?_)
  refine s_alloc rfl rfl rfl rfl rfl (fun bk3 w3 kb3 lw3 => ?_)
  refine vOrd_nil ?_
  refine Wp.seq ?_
  refine Wp.region [0, 1, 2, 3] (by kernel_rfl) (by kernel_rfl) ?_
  refine s_build rfl rfl rfl rfl rfl (by kernel_rfl) ?_
  refine s_callT rfl rfl rfl (by kernel_rfl) rfl (rjoin_any (d := 1) (s := 0) (a := 0) ⟨by decide, by decide⟩ ⟨by decide, by decide⟩ ⟨by decide, by decide⟩ _) ?_
  rintro v w4 hd lw4
  obtain ⟨hda, hdl, hdc, rfl, -⟩ := id hd
  refine s_alloc rfl rfl rfl rfl rfl (fun bk5 w5 kb5 lw5 => ?_)
  refine s_store rfl rfl rfl rfl rfl rfl rfl (fun w6 sw6 vw6 => ?_)
  refine vOrd_nil ?_
  refine Wp.seq ?_
  refine (Wp.drawn (by kernel_rfl) (by kernel_rfl) [0, 1, 3, 4, 5, 6, 10, 15, 16, 2, 7, 8, 9, 11, 12, 13, 14, 17, 18] [99448, 99449, 99575, 99343, 99359, 99391, 99327, 98303, 65535, 0, 0, 0, 0, 0, 0, 122879, 245759, 0, 0] (by kernel_rfl) (by kernel_rfl) (fun | 2 => IsBig 10 (uZ s.r) | 7 => IsBig 17 (cnt s.f 0 0) | 8 => IsBig (max n 17 + 1) (u - cnt s.f 0 0) | 9 => IsBig (10 + (max n 17 + 1)) (uZ s.r * (u - cnt s.f 0 0)) | 11 => fun v w => ∃ x y, v = .tuple #[x, y] ∧ IsBig (max (10 + (max n 17 + 1)) 4 + 1) ((uZ s.r * (u - cnt s.f 0 0)) / cnt 1 0 0) x w ∧ IsBig 18 ((uZ s.r * (u - cnt s.f 0 0)) % cnt 1 0 0) y w | _ => fun _ _ => True) (fun _ _ => ?_))
  refine s_field 3 rfl rfl rfl rfl rfl ?_
  refine s_load rfl rfl rfl rfl rfl rfl rfl ?_
  refine s_load rfl rfl rfl rfl rfl rfl rfl ?_
  refine s_field 2 rfl rfl rfl rfl rfl ?_
  refine s_load rfl rfl rfl rfl rfl rfl rfl ?_
  refine s_build rfl rfl rfl rfl rfl (by kernel_rfl) ?_
  refine s_load rfl rfl rfl rfl rfl rfl rfl ?_
  refine s_alloc rfl rfl rfl rfl rfl (fun bk7 w7 kb7 lw7 => ?_)
  refine s_alloc rfl rfl rfl rfl rfl (fun bk8 w8 kb8 lw8 => ?_)
  refine s_callD rfl rfl rfl (by kernel_rfl) rfl (fun wc lc => runit_any s.r hr) ?_
  rintro v w9 u9 h1 lw9 mw9
  refine s_callD rfl rfl rfl (by kernel_rfl) rfl (fun wc lc => rjoin_any (d := s.f) (s := 0) (a := 0) ⟨hf0, hf1⟩ ⟨by decide, by decide⟩ ⟨by decide, by decide⟩ wc) ?_
  rintro v w10 u10 h2 lw10 mw10
  refine s_callD rfl rfl rfl (by kernel_rfl) rfl (fun wc lc => c_rsub (hu.keeps (by repeat (first | exact Keeps.refl _ | refine Keeps.trans ?_ (Keeps.later (by assumption)) | refine Keeps.trans ?_ (Keeps.stored (by assumption) (by assumption) rfl) | refine Keeps.trans ?_ (Keeps.fresh (by assumption) (by assumption) (by assumption))))) (h2.keeps (by repeat (first | exact Keeps.refl _ | refine Keeps.trans ?_ (Keeps.later (by assumption)) | refine Keeps.trans ?_ (Keeps.stored (by assumption) (by assumption) rfl) | refine Keeps.trans ?_ (Keeps.fresh (by assumption) (by assumption) (by assumption))))) (by omega) (by decide)) ?_
  rintro v w11 u11 h3 lw11 mw11
  refine s_callD rfl rfl rfl (by kernel_rfl) rfl (fun wc lc => c_mul (h1.keeps (by repeat (first | exact Keeps.refl _ | refine Keeps.trans ?_ (Keeps.later (by assumption)) | refine Keeps.trans ?_ (Keeps.stored (by assumption) (by assumption) rfl) | refine Keeps.trans ?_ (Keeps.fresh (by assumption) (by assumption) (by assumption))))) (h3.keeps (by repeat (first | exact Keeps.refl _ | refine Keeps.trans ?_ (Keeps.later (by assumption)) | refine Keeps.trans ?_ (Keeps.stored (by assumption) (by assumption) rfl) | refine Keeps.trans ?_ (Keeps.fresh (by assumption) (by assumption) (by assumption))))) (by decide) (by omega)) ?_
  rintro v w12 u12 h4 lw12 mw12
  refine s_callD rfl rfl rfl (by kernel_rfl) rfl (fun wc lc => c_div (h4.keeps (by repeat (first | exact Keeps.refl _ | refine Keeps.trans ?_ (Keeps.later (by assumption)) | refine Keeps.trans ?_ (Keeps.stored (by assumption) (by assumption) rfl) | refine Keeps.trans ?_ (Keeps.fresh (by assumption) (by assumption) (by assumption))))) (hd.keeps (by repeat (first | exact Keeps.refl _ | refine Keeps.trans ?_ (Keeps.later (by assumption)) | refine Keeps.trans ?_ (Keeps.stored (by assumption) (by assumption) rfl) | refine Keeps.trans ?_ (Keeps.fresh (by assumption) (by assumption) (by assumption))))) (by decide) (by omega) (by decide)) ?_
  rintro v w13 u13 ⟨x, y, rfl, hx, hy⟩ lw13 mw13
  obtain ⟨hxa, hxl, hxc, rfl, -⟩ := id hx
  obtain ⟨hya, hyl, hyc, rfl, -⟩ := id hy
  refine s_move rfl rfl rfl rfl ?_
  refine s_extract rfl rfl rfl rfl rfl ?_
  refine s_extract rfl rfl rfl rfl rfl ?_
  refine s_store rfl rfl rfl rfl rfl rfl rfl (fun w14 sw14 vw14 => ?_)
  refine s_store rfl rfl rfl rfl rfl rfl rfl (fun w15 sw15 vw15 => ?_)
  refine vOrd_nil ?_
  refine Wp.seq ?_
  refine (Wp.drawn (by kernel_rfl) (by kernel_rfl) [0, 1, 2, 5, 3, 4, 6, 7] [46, 33, 35, 31, 0, 0, 0, 0] (by kernel_rfl) (by kernel_rfl) (fun | 3 => IsBig 10 (uZ s.b) | 4 => IsBig (max n 10 + 1) (u + uZ s.b) | 6 => IsBig (max (max n 10 + 1) (max (10 + (max n 17 + 1)) 4 + 1) + 1) (fZ s u) | _ => fun _ _ => True) (fun _ _ => ?_))
  refine s_load rfl rfl rfl rfl rfl rfl rfl ?_
  refine s_field 1 rfl rfl rfl rfl rfl ?_
  refine s_load rfl rfl rfl rfl rfl rfl rfl ?_
  refine s_load rfl rfl rfl rfl rfl rfl rfl ?_
  refine s_callD rfl rfl rfl (by kernel_rfl) rfl (fun wc lc => runit_any s.b hb) ?_
  rintro v w16 u16 h5 lw16 mw16
  refine s_callD rfl rfl rfl (by kernel_rfl) rfl (fun wc lc => c_add (hu.keeps (by repeat (first | exact Keeps.refl _ | refine Keeps.trans ?_ (Keeps.later (by assumption)) | refine Keeps.trans ?_ (Keeps.stored (by assumption) (by assumption) rfl) | refine Keeps.trans ?_ (Keeps.fresh (by assumption) (by assumption) (by assumption))))) (h5.keeps (by repeat (first | exact Keeps.refl _ | refine Keeps.trans ?_ (Keeps.later (by assumption)) | refine Keeps.trans ?_ (Keeps.stored (by assumption) (by assumption) rfl) | refine Keeps.trans ?_ (Keeps.fresh (by assumption) (by assumption) (by assumption))))) (by omega) (by decide)) ?_
  rintro v w17 u17 h6 lw17 mw17
  refine s_callD rfl rfl rfl (by kernel_rfl) rfl (fun wc lc => c_add (h6.keeps (by repeat (first | exact Keeps.refl _ | refine Keeps.trans ?_ (Keeps.later (by assumption)) | refine Keeps.trans ?_ (Keeps.stored (by assumption) (by assumption) rfl) | refine Keeps.trans ?_ (Keeps.fresh (by assumption) (by assumption) (by assumption))))) (hx.keeps (by repeat (first | exact Keeps.refl _ | refine Keeps.trans ?_ (Keeps.later (by assumption)) | refine Keeps.trans ?_ (Keeps.stored (by assumption) (by assumption) rfl) | refine Keeps.trans ?_ (Keeps.fresh (by assumption) (by assumption) (by assumption))))) (by omega) (by omega)) ?_
  rintro v w18 u18 h7 lw18 mw18
  obtain ⟨h7a, h7l, h7c, rfl, -⟩ := id h7
  refine s_store rfl rfl rfl rfl rfl rfl rfl (fun w19 sw19 vw19 => ?_)
  refine vOrd_nil ?_
  refine Wp.ret ⟨.inr rfl, fun lW => ⟨_, res_cell rfl rfl rfl rfl, _, rfl, ?_, lW⟩⟩
  clear lW
  exact (h7.keeps (by repeat (first | exact Keeps.refl _ | refine Keeps.trans ?_ (Keeps.later (by assumption)) | refine Keeps.trans ?_ (Keeps.stored (by assumption) (by assumption) rfl) | refine Keeps.trans ?_ (Keeps.fresh (by assumption) (by assumption) (by assumption))))).upto (by omega)
theorem rin_any (n a b : Int) {w : World} : Calls Try.prog 33 #[.int .i64 n, .int .i64 a, .int .i64 b] w fun e w' => ∃ r, e = .returned r ∧ r = .bool (decide (a ≤ n ∧ n ≤ b)) ∧ Below w.heap.size w w' := by
  refine calls_Wp (args := [_, _, _]) (n := 15) Try.func33 rfl rfl (by simp) ?_
  refine Wp.seq ?_
  refine Wp.region [0] (by kernel_rfl) (by kernel_rfl) ?_
  refine s_assign rfl rfl rfl rfl ?_
  refine vOrd_nil ?_
  refine Wp.seq ?_
  refine Wp.region [0, 1, 2, 3, 4, 5, 6, 7, 8] (by kernel_rfl) (by kernel_rfl) ?_
  refine s_move rfl rfl rfl rfl ?_
  refine s_move rfl rfl rfl rfl ?_
  refine p_leq rfl rfl rfl rfl rfl (fun h9 => ?_) (fun h9 => ?_)
  · refine s_move rfl rfl rfl rfl ?_
    refine s_move rfl rfl rfl rfl ?_
    refine s_move rfl rfl rfl rfl ?_
    refine p_leq rfl rfl rfl rfl rfl (fun h13 => ?_) (fun h13 => ?_)
    · refine s_pick rfl rfl rfl rfl rfl ?_
      refine s_assign rfl rfl rfl rfl ?_
      refine vOrd_nil ?_
      refine Wp.ret ⟨.inr rfl, fun lW => ⟨_, res_tmp (P := Try.prog) rfl rfl, _, rfl, ?_, lW⟩⟩
      clear lW
      rw [decide_eq_true ⟨h9, h13⟩]
    · refine s_pick rfl rfl rfl rfl rfl ?_
      refine s_assign rfl rfl rfl rfl ?_
      refine vOrd_nil ?_
      refine Wp.ret ⟨.inr rfl, fun lW => ⟨_, res_tmp (P := Try.prog) rfl rfl, _, rfl, ?_, lW⟩⟩
      clear lW
      rw [decide_eq_false (by omega)]
  · refine s_move rfl rfl rfl rfl ?_
    refine s_skip rfl rfl rfl ?_
    refine s_skip rfl rfl rfl ?_
    refine s_skip rfl rfl rfl ?_
    refine s_pick rfl rfl rfl rfl rfl ?_
    refine s_assign rfl rfl rfl rfl ?_
    refine vOrd_nil ?_
    refine Wp.ret ⟨.inr rfl, fun lW => ⟨_, res_tmp (P := Try.prog) rfl rfl, _, rfl, ?_, lW⟩⟩
    clear lW
    rw [decide_eq_false (by omega)]
theorem runtil_any (l : List Sg) {a0 : Option Addr} {c0 : Nat} {w : World} (hv : SegAt w (.slice a0 l.length c0) l) (hlc : l.length ≤ 9223372036854775807) {day : Int} {i : Nat} (hi : i < l.length) : Calls Try.prog 34 #[(.slice a0 l.length c0), .int .i64 day, .int .i64 (i : Int)] w fun e w' => ∃ r, e = .returned r ∧ r = .int .i64 (untS l day i) ∧ Below w.heap.size w w' := by
  obtain ⟨ab, ao, rfl, hcell⟩ := seg_at hv (by omega)
  have pz : Later w w ∧ True := ⟨Later.refl w, trivial⟩
  refine calls_Wp (args := [_, _, _]) (n := 19) Try.func34 rfl rfl (by simp) ?_
  refine Wp.seq ?_
  refine Wp.region [0] (by kernel_rfl) (by kernel_rfl) ?_
  refine s_assign rfl rfl rfl rfl ?_
  refine vOrd_nil ?_
  refine Wp.seq ?_
  refine Wp.seq ?_
  refine Wp.region [0, 1, 2, 3, 4] (by kernel_rfl) (by kernel_rfl) ?_
  refine s_move rfl rfl rfl rfl ?_
  refine a_add (-9223372036854775808) 9223372036854775807 (by decide) rfl rfl rfl rfl rfl (by omega) (by omega) ?_
  refine s_move rfl rfl rfl rfl ?_
  refine x_len rfl rfl rfl rfl rfl ?_
  refine p_lss rfl rfl rfl rfl rfl (fun h11 => ?_) (fun h11 => ?_)
  · obtain ⟨y, hy⟩ : ∃ x, l[i + 1]? = some x := ⟨_, List.getElem?_eq_getElem (by omega)⟩
    obtain ⟨ky1, ky2, ky3, ky4⟩ := hcell _ y hy
    have hy64 := hv.all hy
    obtain ⟨⟨_, _⟩, ⟨_, _⟩, ⟨_, _⟩, ⟨_, _⟩⟩ := id hy64
    refine vOrd_nil ?_
    refine Wp.condT rfl rfl ?_
    refine Wp.seq ?_
    refine Wp.region [0, 1, 2, 3, 4, 5, 6] (by kernel_rfl) (by kernel_rfl) ?_
    refine s_move rfl rfl rfl rfl ?_
    refine s_move rfl rfl rfl rfl ?_
    refine a_add (-9223372036854775808) 9223372036854775807 (by decide) rfl rfl rfl rfl rfl (by omega) (by omega) ?_
    refine s_idx (sz := 4) (ao + (i + 1) * 4) rfl rfl rfl rfl rfl rfl rfl (by omega) (by omega) (by omega) ?_
    refine s_fieldV (ao + (i + 1) * 4) rfl rfl rfl rfl 0 rfl rfl ?_
    refine x_ldc rfl rfl rfl rfl rfl (cell_later pz.1 ky1) ?_
    refine s_assign rfl rfl rfl rfl ?_
    refine vOrd_nil ?_
    refine Wp.ret ⟨.inr rfl, fun lW => ⟨_, res_tmp (P := Try.prog) rfl rfl, _, rfl, ?_, lW⟩⟩
    clear lW
    rw [unt_some hy]
  · refine vOrd_nil ?_
    refine Wp.condF rfl rfl ?_
    refine Wp.skip ?_
    refine Wp.seq ?_
    refine Wp.region [0, 1] (by kernel_rfl) (by kernel_rfl) ?_
    refine s_move rfl rfl rfl rfl ?_
    refine s_assign rfl rfl rfl rfl ?_
    refine vOrd_nil ?_
    refine Wp.ret ⟨.inr rfl, fun lW => ⟨_, res_tmp (P := Try.prog) rfl rfl, _, rfl, ?_, lW⟩⟩
    clear lW
    rw [unt_none (by omega)]
theorem rend_any (l : List Sg) {a0 : Option Addr} {c0 : Nat} {w : World} (hv : SegAt w (.slice a0 l.length c0) l) (hlc : l.length ≤ 9223372036854775807) {day off : Int} (hd : I64 day) (ho : I64 off) {i : Nat} (hi : i < l.length) : Calls Try.prog 35 #[(.slice a0 l.length c0), .int .i64 day, .int .i64 off, .int .i64 (i : Int)] w fun e w' => ∃ r, e = .returned r ∧ IsBig 120 (endS l day off i) r w' ∧ Below w.heap.size w w' := by
  obtain ⟨ab, ao, rfl, hcell⟩ := seg_at hv (by omega)
  have pz : Later w w ∧ True := ⟨Later.refl w, trivial⟩
  refine calls_Wp (args := [_, _, _, _]) (n := 32) Try.func35 rfl rfl (by simp) ?_
  refine Wp.seq ?_
  refine Wp.region [0] (by kernel_rfl) (by kernel_rfl) ?_
  refine s_alloc rfl rfl rfl rfl rfl (fun bk1 w1 kb1 lw1 => ?_)
  have kz8 := Nat.le_trans pz.1.size kb1
  replace pz := And.intro (pz.1.trans lw1) trivial
  refine vOrd_nil ?_
  refine Wp.seq ?_
  refine Wp.seq ?_
  refine Wp.region [0, 1, 2, 3, 4] (by kernel_rfl) (by kernel_rfl) ?_
  refine s_move rfl rfl rfl rfl ?_
  refine a_add (-9223372036854775808) 9223372036854775807 (by decide) rfl rfl rfl rfl rfl (by omega) (by omega) ?_
  refine s_move rfl rfl rfl rfl ?_
  refine x_len rfl rfl rfl rfl rfl ?_
  refine p_lss rfl rfl rfl rfl rfl (fun h13 => ?_) (fun h13 => ?_)
  · obtain ⟨y, hy⟩ : ∃ x, l[i + 1]? = some x := ⟨_, List.getElem?_eq_getElem (by omega)⟩
    obtain ⟨ky1, ky2, ky3, ky4⟩ := hcell _ y hy
    have hy64 := hv.all hy
    obtain ⟨⟨_, _⟩, ⟨_, _⟩, ⟨_, _⟩, ⟨_, _⟩⟩ := id hy64
    refine vOrd_nil ?_
    refine Wp.condT rfl rfl ?_
    refine Wp.seq ?_
    refine (Wp.drawn (by kernel_rfl) (by kernel_rfl) [0, 1, 2, 3, 4, 5, 6, 7, 8, 9, 10, 11, 12, 13, 14] [8166, 8161, 8163, 8167, 8175, 223, 0, 0, 0, 0, 0, 0, 0, 0, 0] (by kernel_rfl) (by kernel_rfl) (fun | 12 => IsBig 17 (cnt (y.d) (0) 0) | 13 => IsBig 120 (fZ y (cnt y.d 0 0)) | _ => fun _ _ => True) (fun wd ld => ?_))
    replace pz := And.intro (pz.1.trans ld) trivial
    refine s_move rfl rfl rfl rfl ?_
    refine s_move rfl rfl rfl rfl ?_
    refine a_add (-9223372036854775808) 9223372036854775807 (by decide) rfl rfl rfl rfl rfl (by omega) (by omega) ?_
    refine s_idx (sz := 4) (ao + (i + 1) * 4) rfl rfl rfl rfl rfl rfl rfl (by omega) (by omega) (by omega) ?_
    refine x_ldA [.int .i64 y.d, .int .i64 y.b, .int .i64 y.f, .int .i64 y.r] rfl rfl rfl rfl rfl rfl (World.block_lt_of_cell? _ _ (cell_later pz.1 ky1)) (fun j u hj => ?_) ?_
    · match j, hj with
      | 0, hj => cases hj; exact cell_later pz.1 ky1
      | 1, hj => cases hj; exact cell_later pz.1 ky2
      | 2, hj => cases hj; exact cell_later pz.1 ky3
      | 3, hj => cases hj; exact cell_later pz.1 ky4
    refine s_move rfl rfl rfl rfl ?_
    refine s_move rfl rfl rfl rfl ?_
    refine a_add (-9223372036854775808) 9223372036854775807 (by decide) rfl rfl rfl rfl rfl (by omega) (by omega) ?_
    refine s_idx (sz := 4) (ao + (i + 1) * 4) rfl rfl rfl rfl rfl rfl rfl (by omega) (by omega) (by omega) ?_
    refine s_fieldV (ao + (i + 1) * 4) rfl rfl rfl rfl 0 rfl rfl ?_
    refine x_ldc rfl rfl rfl rfl rfl (cell_later pz.1 ky1) ?_
    refine s_build rfl rfl rfl rfl rfl (by kernel_rfl) ?_
    refine s_callD rfl rfl rfl (by kernel_rfl) rfl (fun wc lc => rjoin_any (d := y.d) (s := 0) (a := 0) ⟨by omega, by omega⟩ ⟨by omega, by omega⟩ ⟨by decide, by decide⟩ wc) ?_
    rintro v w12 u12 h1 lw12 mw12
    replace pz := And.intro (pz.1.trans lw12) trivial
    replace pz := And.intro (pz.1.trans mw12) trivial
    refine s_callD rfl rfl rfl (by kernel_rfl) rfl (fun wc lc => rF_any hy64 (h1.keeps (by repeat (first | exact Keeps.refl _ | refine Keeps.trans ?_ (Keeps.later (by assumption)) | refine Keeps.trans ?_ (Keeps.stored (by assumption) (by assumption) rfl) | refine Keeps.trans ?_ (Keeps.fresh (by assumption) (by assumption) (by assumption))))) (by decide)) ?_
    rintro v w13 u13 h2 lw13 mw13
    replace pz := And.intro (pz.1.trans lw13) trivial
    replace pz := And.intro (pz.1.trans mw13) trivial
    obtain ⟨h2a, h2l, h2c, rfl, -⟩ := id h2
    refine s_store rfl rfl rfl rfl rfl rfl rfl (fun w14 sw14 vw14 => ?_)
    replace pz := And.intro (pz.1.sto sw14 kz8) trivial
    refine vOrd_nil ?_
    refine Wp.ret ⟨.inr rfl, fun lW => ⟨_, res_cell rfl rfl rfl rfl, _, rfl, ?_, lW⟩⟩
    clear lW
    rw [show endS l day off i = fZ y (cnt y.d 0 0) from end_some hy]
    exact h2.keeps (by repeat (first | exact Keeps.refl _ | refine Keeps.trans ?_ (Keeps.later (by assumption)) | refine Keeps.trans ?_ (Keeps.stored (by assumption) (by assumption) rfl) | refine Keeps.trans ?_ (Keeps.fresh (by assumption) (by assumption) (by assumption))))
  · refine vOrd_nil ?_
    refine Wp.condF rfl rfl ?_
    refine Wp.skip ?_
    refine Wp.seq ?_
    refine Wp.region [0, 1, 2, 3, 4] (by kernel_rfl) (by kernel_rfl) ?_
    refine s_move rfl rfl rfl rfl ?_
    refine s_move rfl rfl rfl rfl ?_
    refine s_build rfl rfl rfl rfl rfl (by kernel_rfl) ?_
    refine s_callT rfl rfl rfl (by kernel_rfl) rfl (rjoin_any (d := day) (s := off) (a := 0) hd ho ⟨by decide, by decide⟩ _) ?_
    rintro v w15 h3 lw15
    replace pz := And.intro (pz.1.trans lw15) trivial
    obtain ⟨h3a, h3l, h3c, rfl, -⟩ := id h3
    refine s_store rfl rfl rfl rfl rfl rfl rfl (fun w16 sw16 vw16 => ?_)
    replace pz := And.intro (pz.1.sto sw16 kz8) trivial
    refine vOrd_nil ?_
    refine Wp.ret ⟨.inr rfl, fun lW => ⟨_, res_cell rfl rfl rfl rfl, _, rfl, ?_, lW⟩⟩
    clear lW
    rw [end_none (by omega)]
    exact (h3.keeps (by repeat (first | exact Keeps.refl _ | refine Keeps.trans ?_ (Keeps.later (by assumption)) | refine Keeps.trans ?_ (Keeps.stored (by assumption) (by assumption) rfl) | refine Keeps.trans ?_ (Keeps.fresh (by assumption) (by assumption) (by assumption))))).upto (by decide)
end Go.Proofs.Ytokpneglldfmjaa
