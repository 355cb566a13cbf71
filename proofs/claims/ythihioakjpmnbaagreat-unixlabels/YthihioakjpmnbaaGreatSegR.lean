/-
 The reference's unit, F, in, Until, End, May of layer 14.
-/
import Derived.Test.YthihioakjpmnbaaGreatSegA
import Derived.Test.YthihioakjpmnbaaGreatOnc
import Derived.Test.YthihioakjpmnbaaGreatEntA
namespace Go.Proofs.YthihioakjpmnbaaGreat
open Go.RowKit
set_option maxRecDepth 100000

def sgV (s : Sg) : Value := .agg #[.int .i64 s.d, .int .i64 s.b, .int .i64 s.f, .int .i64 s.r]
def Sg64 (s : Sg) : Prop := I64 s.d ∧ I64 s.b ∧ I64 s.f ∧ I64 s.r
def SegAt (w : World) (v : Value) (l : List Sg) : Prop :=
 ∃ a c, v = .slice a l.length c ∧ l.length ≤ c ∧ ∀ j x, l[j]? = some x → Sg64 x ∧ ∃ b off, a = some ⟨b, off, none⟩ ∧ w.cell? ⟨b, off + j * 4, none⟩ = some (.int .i64 x.d) ∧ w.cell? ⟨b, off + j * 4 + 1, none⟩ = some (.int .i64 x.b) ∧ w.cell? ⟨b, off + j * 4 + 2, none⟩ = some (.int .i64 x.f) ∧ w.cell? ⟨b, off + j * 4 + 3, none⟩ = some (.int .i64 x.r)
theorem SegAt.later {w w' : World} {v : Value} {l : List Sg} (h : SegAt w v l) (g : Later w w') : SegAt w' v l := by
 obtain ⟨a, c, h1, h2, h3⟩ := h
 refine ⟨a, c, h1, h2, fun j x hj => ?_⟩
 obtain ⟨i1, b, off, e, k1, k2, k3, k4⟩ := h3 j x hj
 exact ⟨i1, b, off, e, cell_later g k1, cell_later g k2, cell_later g k3, cell_later g k4⟩
theorem SegAt.nil (w : World) : SegAt w (.slice none 0 0) [] := ⟨none, 0, rfl, Nat.le_refl _, fun j x hj => by simp at hj⟩
theorem SegAt.form {w : World} {v : Value} {l : List Sg} (h : SegAt w v l) : ∃ a c, v = .slice a l.length c := by
 obtain ⟨a, c, h1, _⟩ := h
 exact ⟨a, c, h1⟩
theorem SegAt.all {w : World} {v : Value} {l : List Sg} (h : SegAt w v l) {j : Nat} {x : Sg} (hx : l[j]? = some x) : Sg64 x := by
 obtain ⟨a, c, _, _, h3⟩ := h
 exact (h3 j x hx).1
theorem seg_at {w : World} {a : Option Addr} {c0 : Nat} {l : List Sg} (hv : SegAt w (.slice a l.length c0) l) (h0 : 0 < l.length) : ∃ ab ao, a = some ⟨ab, ao, none⟩ ∧ ∀ j x, l[j]? = some x → w.cell? ⟨ab, ao + j * 4, none⟩ = some (.int .i64 x.d) ∧ w.cell? ⟨ab, ao + j * 4 + 1, none⟩ = some (.int .i64 x.b) ∧ w.cell? ⟨ab, ao + j * 4 + 2, none⟩ = some (.int .i64 x.f) ∧ w.cell? ⟨ab, ao + j * 4 + 3, none⟩ = some (.int .i64 x.r) := by
 obtain ⟨a', c', h1, h2, h3⟩ := hv
 cases h1
 obtain ⟨x, hx⟩ : ∃ x, l[0]? = some x := ⟨_, List.getElem?_eq_getElem h0⟩
 obtain ⟨_, b, off, e, _⟩ := h3 0 x hx
 refine ⟨b, off, e, fun j y hy => ?_⟩
 obtain ⟨_, b', off', e', k⟩ := h3 j y hy
 rw [e] at e'
 cases e'
 exact k
/-- The cells of a list of segments. -/
def segC (l : List Sg) : List Value := (l.map fun s => [.int .i64 s.d, .int .i64 s.b, .int .i64 s.f, .int .i64 s.r]).flatten
theorem segC_app (l : List Sg) (s : Sg) : segC (l ++ [s]) = segC l ++ [.int .i64 s.d, .int .i64 s.b, .int .i64 s.f, .int .i64 s.r] := by simp [segC]
theorem segC_at : ∀ (l : List Sg) (j : Nat) (x : Sg), l[j]? = some x → (segC l)[j * 4]? = some (.int .i64 x.d) ∧ (segC l)[j * 4 + 1]? = some (.int .i64 x.b) ∧ (segC l)[j * 4 + 2]? = some (.int .i64 x.f) ∧ (segC l)[j * 4 + 3]? = some (.int .i64 x.r)
 | [], j, x, h => by simp at h
 | a :: l, 0, x, h => by
  simp only [List.getElem?_cons_zero, Option.some.injEq] at h
  subst h
  exact ⟨rfl, rfl, rfl, rfl⟩
 | a :: l, j + 1, x, h => by
  have := segC_at l j x (by simpa using h)
  rw [show (j + 1) * 4 = j * 4 + 1 + 1 + 1 + 1 by omega]
  exact this
theorem seg_row {w : World} {g : Nat} {n c : Nat} {cs : List Value} {l : List Sg} (hv : Var w g cs) (hc : cs.take (n * 4) = segC l) (hn : l.length = n) (hnc : n ≤ c) (hi : ∀ (j : Nat) (x : Sg), l[j]? = some x → Sg64 x) : SegAt w (.slice (some ⟨g, 0, none⟩) n c) l := by
 subst hn
 refine ⟨_, _, rfl, hnc, fun j x hx => ⟨hi j x hx, g, 0, rfl, ?_⟩⟩
 have hl := (List.getElem?_eq_some_iff.1 hx).1
 have h := segC_at l j x hx
 rw [← hc] at h
 rw [List.getElem?_take_of_lt (by omega), List.getElem?_take_of_lt (by omega), List.getElem?_take_of_lt (by omega), List.getElem?_take_of_lt (by omega)] at h
 rw [Nat.zero_add, cell_var hv, cell_var hv, cell_var hv, cell_var hv]
 exact h
end Go.Proofs.YthihioakjpmnbaaGreat

namespace Go.Proofs.YthihioakjpmnbaaGreat
open Go.RowKit
set_option maxRecDepth 100000

theorem runit_any (n : Int) (h : I64 n) {w : World} : Calls Tryz.prog 126 #[.int .i64 n] w fun e w' => ∃ r, e = .returned r ∧ IsBig 10 (uZ n) r w' ∧ Below w.heap.size w w' := by
 obtain ⟨h0, h1⟩ := h
 refine calls_Wp (args := [_]) (n := 7) Tryz.func126 rfl rfl (by simp) ?_
 refine Wp.seq ?_
 refine wR [0] ?_
 refine sO (fun bk1 w1 kb1 lw1 => ?_)
 refine vOrd_nil ?_
 refine qQ 1 ?_
 refine s_callT rfl rfl rfl (by kernel_rfl) rfl (c_rint n (by omega) (by omega) _) ?_
 rintro v w2 h1 lw2
 refine s_callT rfl rfl rfl (by kernel_rfl) rfl (c_rint 100000000000 (by decide) (by decide) _) ?_
 rintro v w3 h2 lw3
 refine s_callT rfl rfl rfl (by kernel_rfl) rfl (c_mul (h1.kp) (h2.kp) (by decide) (by decide)) ?_
 rintro v w4 h3 lw4
 obtain ⟨h3a, h3l, h3c, rfl, -⟩ := id h3
 refine sS (fun w5 sw5 vw5 => ?_)
 refine vOrd_nil ?_
 refine Wp.ret ⟨.inr rfl, fun lW => ⟨_, res_cell rfl rfl rfl rfl, _, rfl, ?_, lW⟩⟩
 clear lW
 exact h3.kp
theorem rF_any {s : Sg} (hs : Sg64 s) {n : Nat} {u : Int} {v : Value} {w : World} (hu : IsBig n u v w) (hn : n ≤ 80) : Calls Tryz.prog 104 #[.agg #[.int .i64 s.d, .int .i64 s.b, .int .i64 s.f, .int .i64 s.r], v] w fun e w' => ∃ r, e = .returned r ∧ IsBig 120 (fZ s u) r w' ∧ Below w.heap.size w w' := by
 obtain ⟨va, vl, vc, rfl, -⟩ := id hu
 obtain ⟨_, hb, ⟨hf0, hf1⟩, hr⟩ := hs
 refine calls_Wp (args := [_, _]) (n := 32) Tryz.func104 rfl rfl (by simp) ?_
 refine Wp.seq ?_
 refine wR [0, 1, 2] ?_
 refine sE (fun bk1 w1 kb1 lw1 => ?_)
 refine sE (fun bk2 w2 kb2 lw2 => ?_)
 refine sO (fun bk3 w3 kb3 lw3 => ?_)
 refine vOrd_nil ?_
 refine Wp.seq ?_
 refine wR [0, 1, 2, 3] ?_
 refine sB ?_
 refine sT (rjoin_any (d := 1) (s := 0) (a := 0) ⟨by decide, by decide⟩ ⟨by decide, by decide⟩ ⟨by decide, by decide⟩ _) ?_
 rintro v w4 hd lw4
 obtain ⟨hda, hdl, hdc, rfl, -⟩ := id hd
 refine sO (fun bk5 w5 kb5 lw5 => ?_)
 refine sS (fun w6 sw6 vw6 => ?_)
 refine vOrd_nil ?_
 refine Wp.seq ?_
 refine wD [0, 1, 3, 4, 5, 6, 10, 15, 16, 2, 7, 8, 9, 11, 12, 13, 14, 17, 18] [99448, 99449, 99575, 99343, 99359, 99391, 99327, 98303, 65535, 0, 0, 0, 0, 0, 0, 122879, 245759, 0, 0] (fun | 2 => IsBig 10 (uZ s.r) | 7 => IsBig 17 (cnt s.f 0 0) | 8 => IsBig (max n 17 + 1) (u - cnt s.f 0 0) | 9 => IsBig (10 + (max n 17 + 1)) (uZ s.r * (u - cnt s.f 0 0)) | 11 => fun v w => ∃ x y, v = .tuple #[x, y] ∧ IsBig (max (10 + (max n 17 + 1)) 4 + 1) ((uZ s.r * (u - cnt s.f 0 0)) / cnt 1 0 0) x w ∧ IsBig 18 ((uZ s.r * (u - cnt s.f 0 0)) % cnt 1 0 0) y w | _ => fun _ _ => True) (fun _ _ => ?_)
 refine sQ 5 ?_
 refine sB ?_
 refine sL ?_
 refine sO (fun bk7 w7 kb7 lw7 => ?_)
 refine sO (fun bk8 w8 kb8 lw8 => ?_)
 refine sD (fun wc lc => runit_any s.r hr) ?_
 rintro v w9 u9 h1 lw9 mw9
 refine sD (fun wc lc => rjoin_any (d := s.f) (s := 0) (a := 0) ⟨hf0, hf1⟩ ⟨by decide, by decide⟩ ⟨by decide, by decide⟩ wc) ?_
 rintro v w10 u10 h2 lw10 mw10
 refine s_callD rfl rfl rfl (by kernel_rfl) rfl (fun wc lc => c_rsub (hu.kp) (h2.kp) (by omega) (by decide)) ?_
 rintro v w11 u11 h3 lw11 mw11
 refine s_callD rfl rfl rfl (by kernel_rfl) rfl (fun wc lc => c_mul (h1.kp) (h3.kp) (by decide) (by omega)) ?_
 rintro v w12 u12 h4 lw12 mw12
 refine s_callD rfl rfl rfl (by kernel_rfl) rfl (fun wc lc => c_div (h4.kp) (hd.kp) (by decide) (by omega) (by decide)) ?_
 rintro v w13 u13 ⟨x, y, rfl, hx, hy⟩ lw13 mw13
 obtain ⟨hxa, hxl, hxc, rfl, -⟩ := id hx
 obtain ⟨hya, hyl, hyc, rfl, -⟩ := id hy
 refine sQ 3 ?_
 refine sS (fun w14 sw14 vw14 => ?_)
 refine sS (fun w15 sw15 vw15 => ?_)
 refine vOrd_nil ?_
 refine Wp.seq ?_
 refine wD [0, 1, 2, 5, 3, 4, 6, 7] [46, 33, 35, 31, 0, 0, 0, 0] (fun | 3 => IsBig 10 (uZ s.b) | 4 => IsBig (max n 10 + 1) (u + uZ s.b) | 6 => IsBig (max (max n 10 + 1) (max (10 + (max n 17 + 1)) 4 + 1) + 1) (fZ s u) | _ => fun _ _ => True) (fun _ _ => ?_)
 refine sQ 4 ?_
 refine sD (fun wc lc => runit_any s.b hb) ?_
 rintro v w16 u16 h5 lw16 mw16
 refine s_callD rfl rfl rfl (by kernel_rfl) rfl (fun wc lc => c_add (hu.kp) (h5.kp) (by omega) (by decide)) ?_
 rintro v w17 u17 h6 lw17 mw17
 refine s_callD rfl rfl rfl (by kernel_rfl) rfl (fun wc lc => c_add (h6.kp) (hx.kp) (by omega) (by omega)) ?_
 rintro v w18 u18 h7 lw18 mw18
 obtain ⟨h7a, h7l, h7c, rfl, -⟩ := id h7
 refine sS (fun w19 sw19 vw19 => ?_)
 refine vOrd_nil ?_
 refine Wp.ret ⟨.inr rfl, fun lW => ⟨_, res_cell rfl rfl rfl rfl, _, rfl, ?_, lW⟩⟩
 clear lW
 exact (h7.kp).upto (by omega)
theorem runtil_any (l : List Sg) {a0 : Option Addr} {c0 : Nat} {w : World} (hv : SegAt w (.slice a0 l.length c0) l) (hlc : l.length ≤ 9223372036854775807) {day : Int} {i : Nat} (hi : i < l.length) : Calls Tryz.prog 105 #[(.slice a0 l.length c0), .int .i64 day, .int .i64 (i : Int)] w fun e w' => ∃ r, e = .returned r ∧ r = .int .i64 (untS l day i) ∧ Below w.heap.size w w' := by
 obtain ⟨ab, ao, rfl, hcell⟩ := seg_at hv (by omega)
 have pz : Later w w ∧ True := ⟨Later.refl w, trivial⟩
 refine calls_Wp (args := [_, _, _]) (n := 19) Tryz.func105 rfl rfl (by simp) ?_
 refine qZ ?_
 refine Wp.seq ?_
 refine qQ 1 ?_
 refine aP (-9223372036854775808) 9223372036854775807 ?_
 refine sM ?_
 refine x_len rfl rfl rfl rfl rfl ?_
 refine p_lss rfl rfl rfl rfl rfl (fun h11 => ?_) (fun h11 => ?_)
 ·obtain ⟨y, hy⟩ : ∃ x, l[i + 1]? = some x := ⟨_, List.getElem?_eq_getElem (by omega)⟩
  obtain ⟨ky1, ky2, ky3, ky4⟩ := hcell _ y hy
  have hy64 := hv.all hy
  obtain ⟨⟨_, _⟩, ⟨_, _⟩, ⟨_, _⟩, ⟨_, _⟩⟩ := id hy64
  refine vOrd_nil ?_
  refine Wp.condT rfl rfl ?_
  refine qQ 2 ?_
  refine aP (-9223372036854775808) 9223372036854775807 ?_
  refine sI (sz := 4) (ao + (i + 1) * 4) ?_
  refine s_fieldV (ao + (i + 1) * 4) rfl rfl rfl rfl 0 rfl rfl ?_
  refine xC (cell_later pz.1 ky1) ?_
  refine sZ 1 ?_
  refine Wp.ret ⟨.inr rfl, fun lW => ⟨_, res_tmp (P := Tryz.prog) rfl rfl, _, rfl, ?_, lW⟩⟩
  clear lW
  rw [unt_some hy]
 ·refine vOrd_nil ?_
  refine Wp.condF rfl rfl ?_
  refine Wp.skip ?_
  refine qZ ?_
  refine Wp.ret ⟨.inr rfl, fun lW => ⟨_, res_tmp (P := Tryz.prog) rfl rfl, _, rfl, ?_, lW⟩⟩
  clear lW
  rw [unt_none (by omega)]
theorem rend_any (l : List Sg) {a0 : Option Addr} {c0 : Nat} {w : World} (hv : SegAt w (.slice a0 l.length c0) l) (hlc : l.length ≤ 9223372036854775807) {day off : Int} (hd : I64 day) (ho : I64 off) {i : Nat} (hi : i < l.length) : Calls Tryz.prog 106 #[(.slice a0 l.length c0), .int .i64 day, .int .i64 off, .int .i64 (i : Int)] w fun e w' => ∃ r, e = .returned r ∧ IsBig 120 (endS l day off i) r w' ∧ Below w.heap.size w w' := by
 obtain ⟨ab, ao, rfl, hcell⟩ := seg_at hv (by omega)
 have pz : Later w w ∧ True := ⟨Later.refl w, trivial⟩
 refine calls_Wp (args := [_, _, _, _]) (n := 32) Tryz.func106 rfl rfl (by simp) ?_
 refine Wp.seq ?_
 refine wR [0] ?_
 refine sO (fun bk1 w1 kb1 lw1 => ?_)
 have kz8 := Nat.le_trans pz.1.size kb1
 replace pz := And.intro (pz.1.trans lw1) trivial
 refine vOrd_nil ?_
 refine Wp.seq ?_
 refine qQ 1 ?_
 refine aP (-9223372036854775808) 9223372036854775807 ?_
 refine sM ?_
 refine x_len rfl rfl rfl rfl rfl ?_
 refine p_lss rfl rfl rfl rfl rfl (fun h13 => ?_) (fun h13 => ?_)
 ·obtain ⟨y, hy⟩ : ∃ x, l[i + 1]? = some x := ⟨_, List.getElem?_eq_getElem (by omega)⟩
  obtain ⟨ky1, ky2, ky3, ky4⟩ := hcell _ y hy
  have hy64 := hv.all hy
  obtain ⟨⟨_, _⟩, ⟨_, _⟩, ⟨_, _⟩, ⟨_, _⟩⟩ := id hy64
  refine vOrd_nil ?_
  refine Wp.condT rfl rfl ?_
  refine Wp.seq ?_
  refine wD [0, 1, 2, 3, 4, 5, 6, 7, 8, 9, 10, 11, 12, 13, 14] [8166, 8161, 8163, 8167, 8175, 223, 0, 0, 0, 0, 0, 0, 0, 0, 0] (fun | 12 => IsBig 17 (cnt (y.d) (0) 0) | 13 => IsBig 120 (fZ y (cnt y.d 0 0)) | _ => fun _ _ => True) (fun wd ld => ?_)
  replace pz := And.intro (pz.1.trans ld) trivial
  refine sQ 2 ?_
  refine aP (-9223372036854775808) 9223372036854775807 ?_
  refine sI (sz := 4) (ao + (i + 1) * 4) ?_
  refine x_ldA [.int .i64 y.d, .int .i64 y.b, .int .i64 y.f, .int .i64 y.r] rfl rfl rfl rfl rfl rfl (World.block_lt_of_cell? _ _ (cell_later pz.1 ky1)) (fun j u hj => ?_) ?_
  ·match j, hj with
   | 0, hj => cases hj; exact cell_later pz.1 ky1
   | 1, hj => cases hj; exact cell_later pz.1 ky2
   | 2, hj => cases hj; exact cell_later pz.1 ky3
   | 3, hj => cases hj; exact cell_later pz.1 ky4
  refine sQ 2 ?_
  refine aP (-9223372036854775808) 9223372036854775807 ?_
  refine sI (sz := 4) (ao + (i + 1) * 4) ?_
  refine s_fieldV (ao + (i + 1) * 4) rfl rfl rfl rfl 0 rfl rfl ?_
  refine xC (cell_later pz.1 ky1) ?_
  refine sB ?_
  refine sD (fun wc lc => rjoin_any (d := y.d) (s := 0) (a := 0) ⟨by omega, by omega⟩ ⟨by omega, by omega⟩ ⟨by decide, by decide⟩ wc) ?_
  rintro v w12 u12 h1 lw12 mw12
  replace pz := And.intro (pz.1.trans lw12) trivial
  replace pz := And.intro (pz.1.trans mw12) trivial
  refine s_callD rfl rfl rfl (by kernel_rfl) rfl (fun wc lc => rF_any hy64 (h1.kp) (by decide)) ?_
  rintro v w13 u13 h2 lw13 mw13
  replace pz := And.intro (pz.1.trans lw13) trivial
  replace pz := And.intro (pz.1.trans mw13) trivial
  obtain ⟨h2a, h2l, h2c, rfl, -⟩ := id h2
  refine sS (fun w14 sw14 vw14 => ?_)
  replace pz := And.intro (pz.1.sto sw14 kz8) trivial
  refine vOrd_nil ?_
  refine Wp.ret ⟨.inr rfl, fun lW => ⟨_, res_cell rfl rfl rfl rfl, _, rfl, ?_, lW⟩⟩
  clear lW
  rw [show endS l day off i = fZ y (cnt y.d 0 0) from end_some hy]
  exact h2.kp
 ·refine vOrd_nil ?_
  refine Wp.condF rfl rfl ?_
  refine Wp.skip ?_
  refine qQ 2 ?_
  refine sB ?_
  refine sT (rjoin_any (d := day) (s := off) (a := 0) hd ho ⟨by decide, by decide⟩ _) ?_
  rintro v w15 h3 lw15
  replace pz := And.intro (pz.1.trans lw15) trivial
  obtain ⟨h3a, h3l, h3c, rfl, -⟩ := id h3
  refine sS (fun w16 sw16 vw16 => ?_)
  replace pz := And.intro (pz.1.sto sw16 kz8) trivial
  refine vOrd_nil ?_
  refine Wp.ret ⟨.inr rfl, fun lW => ⟨_, res_cell rfl rfl rfl rfl, _, rfl, ?_, lW⟩⟩
  clear lW
  rw [end_none (by omega)]
  exact (h3.kp).upto (by decide)
end Go.Proofs.YthihioakjpmnbaaGreat
