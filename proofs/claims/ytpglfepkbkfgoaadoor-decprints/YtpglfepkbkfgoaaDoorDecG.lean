/-
  The walks of the laws DecPrints (the text of any number; it is read again) and DecParses (what any text is the number of, or why of none; of texts of at most 1,048,576 bytes).
-/
import Derived.Test.YtpglfepkbkfgoaaDoorDecF
namespace Go.Proofs.YtpglfepkbkfgoaaDoor
open Go.RowKit
set_option maxRecDepth 100000

theorem danswers_any (w : World) : Calls Tryd.prog 8 #[] w fun e w' => ∃ r, e = .returned r ∧ r = .bool true ∧ Below w.heap.size w w' := by
  have e1 : parseE [45, 49, 50] = 0 := by decide
  have v1 : parseV [45, 49, 50] = -12 := by decide
  have e2 : parseE [45, 48] = 4 := by decide
  have t1 : decText (-12) = [45, 49, 50] := by decide
  refine calls_Wp (args := []) (n := 29) Tryd.func8 rfl rfl (by simp) ?_
  refine Wp.seq ?_
  refine Wp.region [0] (by kernel_rfl) (by kernel_rfl) ?_
  refine s_assign rfl rfl rfl rfl ?_
  refine vOrd_nil ?_
  refine Wp.seq ?_
  refine Wp.region [0, 1, 2, 3, 4, 5, 6] (by kernel_rfl) (by kernel_rfl) ?_
  refine s_callT rfl rfl rfl (by kernel_rfl) rfl (parse_any [45, 49, 50] (by decide) _) ?_
  rintro v w1 ⟨s, rfl, ah, al, rfl, ha⟩ lw1
  rw [v1] at ha
  rw [e1]
  refine s_move rfl rfl rfl rfl ?_
  refine s_extract rfl rfl rfl rfl rfl ?_
  refine s_extract rfl rfl rfl rfl rfl ?_
  refine s_alloc rfl rfl rfl rfl rfl (fun bk2 w2 kb2 lw2 => ?_)
  refine s_store rfl rfl rfl rfl rfl rfl rfl (fun w3 sw3 vw3 => ?_)
  refine s_assign rfl rfl rfl rfl ?_
  refine vOrd_nil ?_
  refine Wp.seq ?_
  refine Wp.region [0, 1, 2, 3, 4, 5, 6] (by kernel_rfl) (by kernel_rfl) ?_
  refine s_callT rfl rfl rfl (by kernel_rfl) rfl (parse_any [45, 48] (by decide) _) ?_
  rintro v w4 ⟨s, rfl, fh, fl, rfl, hf⟩ lw4
  rw [e2]
  refine s_move rfl rfl rfl rfl ?_
  refine s_extract rfl rfl rfl rfl rfl ?_
  refine s_extract rfl rfl rfl rfl rfl ?_
  refine s_alloc rfl rfl rfl rfl rfl (fun bk5 w5 kb5 lw5 => ?_)
  refine s_store rfl rfl rfl rfl rfl rfl rfl (fun w6 sw6 vw6 => ?_)
  refine s_assign rfl rfl rfl rfl ?_
  refine vOrd_nil ?_
  refine Wp.seq ?_
  refine Wp.region [0, 1, 2, 3, 4, 5, 6, 7, 8, 9, 10, 11, 12, 13, 14, 15, 16] (by kernel_rfl) (by kernel_rfl) ?_
  refine s_move rfl rfl rfl rfl ?_
  refine t_eql rfl rfl rfl rfl rfl (by decide) ?_
  refine s_move rfl rfl rfl rfl ?_
  refine s_load rfl rfl rfl rfl rfl rfl rfl ?_
  refine s_build rfl rfl rfl rfl rfl (by kernel_rfl) ?_
  refine s_eqv (c := true) rfl rfl rfl rfl rfl (fun _ => by kernel_rfl) (fun w => by rw [run_eql_wide, eqW_same ha (show WideIs (-1) 18446744073709551604 (-12) by unfold WideIs; omega)]) ?_
  refine s_pick rfl rfl rfl rfl rfl ?_
  refine s_move rfl rfl rfl rfl ?_
  refine s_move rfl rfl rfl rfl ?_
  refine t_eql rfl rfl rfl rfl rfl (by decide) ?_
  refine s_pick rfl rfl rfl rfl rfl ?_
  refine s_move rfl rfl rfl rfl ?_
  refine s_load rfl rfl rfl rfl rfl rfl rfl ?_
  refine s_callT rfl rfl rfl (by kernel_rfl) rfl (print_any ⟨_, _, rfl, ha⟩ _) ?_
  rintro v w8 rfl lw8
  rw [t1]
  refine b_eqT rfl rfl rfl rfl rfl (rfl) ?_
  refine s_pick rfl rfl rfl rfl rfl ?_
  refine s_assign rfl rfl rfl rfl ?_
  refine vOrd_nil ?_
  refine Wp.ret ⟨.inr rfl, fun lW => ⟨_, res_tmp (P := Tryd.prog) rfl rfl, _, rfl, ?_, lW⟩⟩
  clear lW
  rfl
theorem fits_is {z : Int} (h0 : -170141183460469231731687303715884105728 ≤ z) (h1 : z < 170141183460469231731687303715884105728) : parseE (decText z) = 0 ∧ parseV (decText z) = z := by
  have hN : z.natAbs < 10 ^ 39 := by have := pow39; omega
  have hd := decText_is hN
  have hi := inW_yes h0 h1
  unfold parseE parseV
  rw [if_pos hd.1, if_pos hd.1, hd.2]
  exact ⟨hi.2.2, hi.2.1⟩
theorem decText_len (z : Int) : (decText z).length ≤ 40 := by
  have := decN_len z.natAbs
  unfold decText; split
  · rw [List.length_cons]; omega
  · omega
theorem law_prints {z : Int} {u : Value} (hu : IsW z u) (w : World) :
    Calls Tryd.prog 3 #[u] w fun e w' => ∃ r, e = .returned r ∧ r = .bool true ∧ Below w.heap.size w w' := by
  obtain ⟨h, l, rfl, k⟩ := hu
  have kr := k.range
  have hf := fits_is kr.1 kr.2
  have hl := decText_len z
  have hp : ∀ w, Calls Tryd.prog 6 #[.agg #[.int .i64 h, .int .u64 l]] w fun e w' => ∃ r, e = .returned r ∧ r = .string ⟨⟨decText z⟩⟩ ∧ Below w.heap.size w w' := fun w => print_any ⟨_, _, rfl, k⟩ w
  have ht : ∀ {n : Nat} {u : Value} {w : World}, IsBig n z u w → Calls Tryd.prog 9 #[u] w fun e w' => ∃ r, e = .returned r ∧ r = .string ⟨⟨decText z⟩⟩ ∧ Below w.heap.size w w' := fun hu => rtext_any hu kr.1 kr.2
  obtain ⟨T, hT⟩ : ∃ T, T = decText z := ⟨_, rfl⟩
  rw [← hT] at hf hl
  simp only [← hT] at hp ht
  refine calls_Wp (args := [_]) (n := 30) Tryd.func3 rfl rfl (by simp) ?_
  refine Wp.seq ?_
  refine Wp.region [0, 1] (by kernel_rfl) (by kernel_rfl) ?_
  refine s_box rfl rfl rfl rfl rfl rfl (fun bk1 w1 kb1 lw1 => ?_)
  refine s_assign rfl rfl rfl rfl ?_
  refine vOrd_nil ?_
  refine Wp.seq ?_
  refine Wp.region [0, 1, 2] (by kernel_rfl) (by kernel_rfl) ?_
  refine s_load rfl rfl rfl rfl rfl rfl rfl ?_
  refine s_callT rfl rfl rfl (by kernel_rfl) rfl (hp _) ?_
  rintro v w2 rfl lw2
  refine s_assign rfl rfl rfl rfl ?_
  refine vOrd_nil ?_
  refine Wp.seq ?_
  refine Wp.region [0, 1, 2, 3, 4, 5, 6, 7] (by kernel_rfl) (by kernel_rfl) ?_
  refine s_move rfl rfl rfl rfl ?_
  refine s_callT rfl rfl rfl (by kernel_rfl) rfl (parse_any T (by omega) _) ?_
  rintro v w3 ⟨s, rfl, bh, bl, rfl, hb⟩ lw3
  rw [hf.2] at hb
  rw [hf.1]
  refine s_move rfl rfl rfl rfl ?_
  refine s_extract rfl rfl rfl rfl rfl ?_
  refine s_extract rfl rfl rfl rfl rfl ?_
  refine s_alloc rfl rfl rfl rfl rfl (fun bk4 w4 kb4 lw4 => ?_)
  refine s_store rfl rfl rfl rfl rfl rfl rfl (fun w5 sw5 vw5 => ?_)
  refine s_assign rfl rfl rfl rfl ?_
  refine vOrd_nil ?_
  refine Wp.seq ?_
  refine Wp.region [0, 1, 2, 3, 4, 5, 6, 7, 8, 9, 10, 11, 12, 13, 14, 15, 16, 17] (by kernel_rfl) (by kernel_rfl) ?_
  refine s_callT rfl rfl rfl (by kernel_rfl) rfl (danswers_any _) ?_
  rintro v w6 rfl lw6
  refine s_move rfl rfl rfl rfl ?_
  refine s_move rfl rfl rfl rfl ?_
  refine s_load rfl rfl rfl rfl rfl rfl rfl ?_
  refine s_callT rfl rfl rfl (by kernel_rfl) rfl (c_rof ⟨_, _, rfl, k⟩ _) ?_
  rintro v w7 hr lw7
  refine s_callT rfl rfl rfl (by kernel_rfl) rfl (ht (hr.keeps (by repeat (first | exact Keeps.refl _ | refine Keeps.trans ?_ (Keeps.later (by assumption)) | refine Keeps.trans ?_ (Keeps.stored (by assumption) (by assumption) rfl) | refine Keeps.trans ?_ (Keeps.fresh (by assumption) (by assumption) (by assumption)))))) ?_
  rintro v w8 rfl lw8
  refine b_eqT rfl rfl rfl rfl rfl (rfl) ?_
  refine s_pick rfl rfl rfl rfl rfl ?_
  refine s_move rfl rfl rfl rfl ?_
  refine s_move rfl rfl rfl rfl ?_
  refine t_eql rfl rfl rfl rfl rfl (by decide) ?_
  refine s_pick rfl rfl rfl rfl rfl ?_
  refine s_move rfl rfl rfl rfl ?_
  refine s_load rfl rfl rfl rfl rfl rfl rfl ?_
  refine s_load rfl rfl rfl rfl rfl rfl rfl ?_
  refine s_eqv (c := true) rfl rfl rfl rfl rfl (fun _ => by kernel_rfl) (fun w => by rw [run_eql_wide, eqW_same hb k]) ?_
  refine s_pick rfl rfl rfl rfl rfl ?_
  refine s_assign rfl rfl rfl rfl ?_
  refine vOrd_nil ?_
  refine Wp.ret ⟨.inr rfl, fun lW => ⟨_, res_tmp (P := Tryd.prog) rfl rfl, _, rfl, ?_, lW⟩⟩
  clear lW
  rfl
theorem law_parses (t : List UInt8) (hl : t.length ≤ 1048576) (w : World) :
    Calls Tryd.prog 4 #[.string ⟨⟨t⟩⟩] w fun e w' => ∃ r, e = .returned r ∧ r = .bool true ∧ Below w.heap.size w w' := by
  refine calls_Wp (args := [_]) (n := 64) Tryd.func4 rfl rfl (by simp) ?_
  refine Wp.seq ?_
  refine Wp.region [0] (by kernel_rfl) (by kernel_rfl) ?_
  refine s_assign rfl rfl rfl rfl ?_
  refine vOrd_nil ?_
  refine Wp.seq ?_
  refine Wp.region [0, 1, 2, 3, 4, 5, 6, 7] (by kernel_rfl) (by kernel_rfl) ?_
  refine s_move rfl rfl rfl rfl ?_
  refine s_callT rfl rfl rfl (by kernel_rfl) rfl (parse_any t (by omega) _) ?_
  rintro v w1 ⟨s, rfl, ah, al, rfl, ha⟩ lw1
  refine s_move rfl rfl rfl rfl ?_
  refine s_extract rfl rfl rfl rfl rfl ?_
  refine s_extract rfl rfl rfl rfl rfl ?_
  refine s_alloc rfl rfl rfl rfl rfl (fun bk2 w2 kb2 lw2 => ?_)
  refine s_store rfl rfl rfl rfl rfl rfl rfl (fun w3 sw3 vw3 => ?_)
  refine s_assign rfl rfl rfl rfl ?_
  refine vOrd_nil ?_
  refine Wp.seq ?_
  refine Wp.region [0, 1, 2, 3, 4, 5, 6, 7] (by kernel_rfl) (by kernel_rfl) ?_
  refine s_move rfl rfl rfl rfl ?_
  refine s_callT rfl rfl rfl (by kernel_rfl) rfl (rnumber_any t (by omega) _) ?_
  rintro v w4 ⟨u, rfl, hn⟩ lw4
  obtain ⟨na, nl, nc, rfl, nb⟩ := id hn
  clear nb
  refine s_move rfl rfl rfl rfl ?_
  refine s_extract rfl rfl rfl rfl rfl ?_
  refine s_extract rfl rfl rfl rfl rfl ?_
  refine s_alloc rfl rfl rfl rfl rfl (fun bk5 w5 kb5 lw5 => ?_)
  refine s_store rfl rfl rfl rfl rfl rfl rfl (fun w6 sw6 vw6 => ?_)
  refine s_assign rfl rfl rfl rfl ?_
  refine vOrd_nil ?_
  refine Wp.seq ?_
  refine Wp.seq ?_
  refine Wp.region [0, 1] (by kernel_rfl) (by kernel_rfl) ?_
  refine s_move rfl rfl rfl rfl ?_
  refine s_not rfl rfl rfl rfl ?_
  refine vOrd_nil ?_
  refine Wp.cond rfl (okOpd_spec rfl) (fun c20 => ?_) (fun c20 => ?_)
  · have hN : isNum t = false := by simpa using c20
    have hE : parseE t = 4 := by unfold parseE; rw [hN]; rfl
    have hV : parseV t = 0 := by unfold parseV; rw [hN]; rfl
    rw [hV] at ha
    refine Wp.seq ?_
    refine Wp.region [0, 1, 2, 3, 4, 5, 6, 7, 8, 9, 10] (by kernel_rfl) (by kernel_rfl) ?_
    refine s_callT rfl rfl rfl (by kernel_rfl) rfl (danswers_any _) ?_
    rintro v w7 rfl lw7
    refine s_move rfl rfl rfl rfl ?_
    refine s_move rfl rfl rfl rfl ?_
    refine t_eql rfl rfl rfl rfl rfl (by exact hE) ?_
    refine s_pick rfl rfl rfl rfl rfl ?_
    refine s_move rfl rfl rfl rfl ?_
    refine s_load rfl rfl rfl rfl rfl rfl rfl ?_
    refine s_build rfl rfl rfl rfl rfl (by kernel_rfl) ?_
    refine s_eqv (c := true) rfl rfl rfl rfl rfl (fun _ => by kernel_rfl) (fun w => by rw [run_eql_wide, eqW_same ha wide_0]) ?_
    refine s_pick rfl rfl rfl rfl rfl ?_
    refine s_assign rfl rfl rfl rfl ?_
    refine vOrd_nil ?_
    refine Wp.ret ⟨.inr rfl, fun lW => ⟨_, res_tmp (P := Tryd.prog) rfl rfl, _, rfl, ?_, lW⟩⟩
    clear lW
    rfl
  · have hN : isNum t = true := by simpa using c20
    have hE : parseE t = fitE (numOf t) := by unfold parseE; rw [if_pos hN]
    have hV : parseV t = fitV (numOf t) := by unfold parseV; rw [if_pos hN]
    rw [hV] at ha
    refine Wp.skip ?_
    refine Wp.seq ?_
    refine Wp.region [0, 1, 2, 3, 4, 5, 6, 7] (by kernel_rfl) (by kernel_rfl) ?_
    refine s_load rfl rfl rfl rfl rfl rfl rfl ?_
    refine s_callT rfl rfl rfl (by kernel_rfl) rfl (c_rwide (n := t.length + 1) (hn.keeps (by repeat (first | exact Keeps.refl _ | refine Keeps.trans ?_ (Keeps.later (by assumption)) | refine Keeps.trans ?_ (Keeps.stored (by assumption) (by assumption) rfl) | refine Keeps.trans ?_ (Keeps.fresh (by assumption) (by assumption) (by assumption))))) (by omega)) ?_
    rintro v w9 ⟨s, rfl, wh, wl, rfl, hw⟩ lw9
    rw [numV_yes hN] at hw
    rw [numV_yes hN]
    refine s_move rfl rfl rfl rfl ?_
    refine s_extract rfl rfl rfl rfl rfl ?_
    refine s_extract rfl rfl rfl rfl rfl ?_
    refine s_alloc rfl rfl rfl rfl rfl (fun bk10 w10 kb10 lw10 => ?_)
    refine s_store rfl rfl rfl rfl rfl rfl rfl (fun w11 sw11 vw11 => ?_)
    refine s_assign rfl rfl rfl rfl ?_
    refine vOrd_nil ?_
    refine Wp.seq ?_
    refine Wp.seq ?_
    refine Wp.region [0, 1] (by kernel_rfl) (by kernel_rfl) ?_
    refine s_move rfl rfl rfl rfl ?_
    refine s_not rfl rfl rfl rfl ?_
    refine vOrd_nil ?_
    refine Wp.cond rfl (okOpd_spec rfl) (fun c37 => ?_) (fun c37 => ?_)
    · have hI : inW (numOf t) = false := by simpa using c37
      have hE2 : fitE (numOf t) = 2 := by unfold fitE; rw [hI]; rfl
      have hV2 : fitV (numOf t) = 0 := by unfold fitV; rw [hI]; rfl
      rw [hV2] at ha
      refine Wp.seq ?_
      refine Wp.region [0, 1, 2, 3, 4, 5, 6, 7, 8, 9, 10] (by kernel_rfl) (by kernel_rfl) ?_
      refine s_callT rfl rfl rfl (by kernel_rfl) rfl (danswers_any _) ?_
      rintro v w12 rfl lw12
      refine s_move rfl rfl rfl rfl ?_
      refine s_move rfl rfl rfl rfl ?_
      refine t_eql rfl rfl rfl rfl rfl (by rw [hE, hE2]) ?_
      refine s_pick rfl rfl rfl rfl rfl ?_
      refine s_move rfl rfl rfl rfl ?_
      refine s_load rfl rfl rfl rfl rfl rfl rfl ?_
      refine s_build rfl rfl rfl rfl rfl (by kernel_rfl) ?_
      refine s_eqv (c := true) rfl rfl rfl rfl rfl (fun _ => by kernel_rfl) (fun w => by rw [run_eql_wide, eqW_same ha wide_0]) ?_
      refine s_pick rfl rfl rfl rfl rfl ?_
      refine s_assign rfl rfl rfl rfl ?_
      refine vOrd_nil ?_
      refine Wp.ret ⟨.inr rfl, fun lW => ⟨_, res_tmp (P := Tryd.prog) rfl rfl, _, rfl, ?_, lW⟩⟩
      clear lW
      rfl
    · have hI : inW (numOf t) = true := by simpa using c37
      have hE2 : fitE (numOf t) = 0 := by unfold fitE; rw [if_pos hI]
      have hV2 : fitV (numOf t) = numOf t := by unfold fitV; rw [if_pos hI]
      rw [hV2] at ha hw
      have hr := ha.range
      have hT := decText_of hN (by have := pow39; omega)
      refine Wp.skip ?_
      refine Wp.seq ?_
      refine Wp.region [0, 1, 2, 3, 4, 5, 6, 7, 8, 9, 10, 11, 12, 13, 14, 15, 16] (by kernel_rfl) (by kernel_rfl) ?_
      refine s_callT rfl rfl rfl (by kernel_rfl) rfl (danswers_any _) ?_
      rintro v w14 rfl lw14
      refine s_move rfl rfl rfl rfl ?_
      refine s_move rfl rfl rfl rfl ?_
      refine t_eql rfl rfl rfl rfl rfl (by rw [hE, hE2]) ?_
      refine s_pick rfl rfl rfl rfl rfl ?_
      refine s_move rfl rfl rfl rfl ?_
      refine s_load rfl rfl rfl rfl rfl rfl rfl ?_
      refine s_load rfl rfl rfl rfl rfl rfl rfl ?_
      refine s_eqv (c := true) rfl rfl rfl rfl rfl (fun _ => by kernel_rfl) (fun w => by rw [run_eql_wide, eqW_same ha hw]) ?_
      refine s_pick rfl rfl rfl rfl rfl ?_
      refine s_move rfl rfl rfl rfl ?_
      refine s_load rfl rfl rfl rfl rfl rfl rfl ?_
      refine s_callT rfl rfl rfl (by kernel_rfl) rfl (print_any ⟨_, _, rfl, ha⟩ _) ?_
      rintro v w16 rfl lw16
      rw [hT]
      refine s_move rfl rfl rfl rfl ?_
      refine b_eqT rfl rfl rfl rfl rfl (rfl) ?_
      refine s_pick rfl rfl rfl rfl rfl ?_
      refine s_assign rfl rfl rfl rfl ?_
      refine vOrd_nil ?_
      refine Wp.ret ⟨.inr rfl, fun lW => ⟨_, res_tmp (P := Tryd.prog) rfl rfl, _, rfl, ?_, lW⟩⟩
      clear lW
      rfl
end Go.Proofs.YtpglfepkbkfgoaaDoor
