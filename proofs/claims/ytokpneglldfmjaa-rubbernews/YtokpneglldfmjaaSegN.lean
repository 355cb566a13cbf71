/-
  Rates of old: the walks of the laws RubberNews, RubberTais, RubberLabels of layer 14.
-/
import Derived.Test.YtokpneglldfmjaaSegL
namespace Go.Proofs.Ytokpneglldfmjaa
open Go.RowKit
set_option maxRecDepth 100000

set_option maxHeartbeats 2000000 in
theorem law_rbnews (l : List Sg) (hlc : l.length ≤ 9223372036854775807) {day off : Int} (hd : I64 day) (ho : I64 off) {v : Value} {w : World} (hv : SegAt w v l) : Calls Try.prog 4 #[.agg #[v, .int .i64 day, .int .i64 off]] w fun e w' => ∃ r, e = .returned r ∧ r = .bool true ∧ Below w.heap.size w w' := by
  obtain ⟨a0, c0, rfl⟩ := hv.form
  have pz : Later w w ∧ True := ⟨Later.refl w, trivial⟩
  cases hm : mayS l day off with
  | false =>
    refine calls_Wp (args := [_]) (n := 51) Try.func4 rfl rfl (by simp) ?_
    refine Wp.seq ?_
    refine Wp.region [0, 1] (by kernel_rfl) (by kernel_rfl) ?_
    refine s_box rfl rfl rfl rfl rfl rfl (fun bk1 w1 kb1 lw1 => ?_)
    have kz1 := Nat.le_trans pz.1.size kb1
    replace pz := And.intro (pz.1.trans lw1) trivial
    try have nR1 := hR.ne kb1
    try replace hR := hR.later lw1
    refine s_assign rfl rfl rfl rfl ?_
    refine vOrd_nil ?_
    refine Wp.seq ?_
    refine Wp.region [0, 1, 2, 3, 4, 5, 6, 7, 8, 9, 10, 11] (by kernel_rfl) (by kernel_rfl) ?_
    refine s_field 0 rfl rfl rfl rfl rfl ?_
    refine s_load rfl rfl rfl rfl rfl rfl rfl ?_
    refine s_field 1 rfl rfl rfl rfl rfl ?_
    refine s_load rfl rfl rfl rfl rfl rfl rfl ?_
    refine s_field 2 rfl rfl rfl rfl rfl ?_
    refine s_load rfl rfl rfl rfl rfl rfl rfl ?_
    refine s_callT rfl rfl rfl (by kernel_rfl) rfl (pnew_no l hlc hd ho hm (hv.later pz.1)) ?_
    rintro v w2 rfl lw2
    replace pz := And.intro (pz.1.trans lw2) trivial
    try replace hR := hR.later lw2
    refine s_move rfl rfl rfl rfl ?_
    refine s_extract rfl rfl rfl rfl rfl ?_
    refine s_extract rfl rfl rfl rfl rfl ?_
    refine s_assign rfl rfl rfl rfl ?_
    refine s_assign rfl rfl rfl rfl ?_
    refine vOrd_nil ?_
    refine Wp.seq ?_
    refine Wp.seq ?_
    refine Wp.region [0, 1, 2, 3, 4, 5, 6, 7] (by kernel_rfl) (by kernel_rfl) ?_
    refine s_field 0 rfl rfl rfl rfl rfl ?_
    refine s_load rfl rfl rfl rfl rfl rfl rfl ?_
    refine s_field 1 rfl rfl rfl rfl rfl ?_
    refine s_load rfl rfl rfl rfl rfl rfl rfl ?_
    refine s_field 2 rfl rfl rfl rfl rfl ?_
    refine s_load rfl rfl rfl rfl rfl rfl rfl ?_
    refine s_callT rfl rfl rfl (by kernel_rfl) rfl (rmay_any l (hv.later pz.1) hlc hd ho) ?_
    rintro v w3 rfl lw3
    replace pz := And.intro (pz.1.trans lw3) trivial
    try replace hR := hR.later lw3
    rw [hm]
    refine s_not rfl rfl rfl rfl ?_
    refine vOrd_nil ?_
    refine Wp.condT rfl rfl ?_
    refine Wp.seq ?_
    refine Wp.region [0, 1, 2, 3, 4, 5, 6, 7, 8, 9] (by kernel_rfl) (by kernel_rfl) ?_
    refine s_callT rfl rfl rfl (by kernel_rfl) rfl (rbanswers_any) ?_
    rintro v w4 rfl lw4
    replace pz := And.intro (pz.1.trans lw4) trivial
    try replace hR := hR.later lw4
    refine s_move rfl rfl rfl rfl ?_
    refine s_move rfl rfl rfl rfl ?_
    refine s_nilEq none rfl rfl rfl rfl rfl ?_
    refine s_pick rfl rfl rfl rfl rfl ?_
    refine s_move rfl rfl rfl rfl ?_
    refine s_move rfl rfl rfl rfl ?_
    refine t_eql rfl rfl rfl rfl rfl (by omega) ?_
    refine s_pick rfl rfl rfl rfl rfl ?_
    refine s_assign rfl rfl rfl rfl ?_
    refine vOrd_nil ?_
    refine Wp.ret ⟨.inr rfl, fun lW => ⟨_, res_tmp (P := Try.prog) rfl rfl, _, rfl, ?_, lW⟩⟩
    clear lW
    rfl
  | true =>
    obtain ⟨x, hx⟩ := may_first hm
    obtain ⟨ab, ao, rfl, hcell⟩ := seg_at hv (by have := (List.getElem?_eq_some_iff.1 hx).1; omega)
    have hl0 := (List.getElem?_eq_some_iff.1 hx).1
    obtain ⟨kx1, -, -, -⟩ := hcell 0 x hx
    refine calls_Wp (args := [_]) (n := 51) Try.func4 rfl rfl (by simp) ?_
    refine Wp.seq ?_
    refine Wp.region [0, 1] (by kernel_rfl) (by kernel_rfl) ?_
    refine s_box rfl rfl rfl rfl rfl rfl (fun bk1 w1 kb1 lw1 => ?_)
    have kz1 := Nat.le_trans pz.1.size kb1
    replace pz := And.intro (pz.1.trans lw1) trivial
    try have nR1 := hR.ne kb1
    try replace hR := hR.later lw1
    refine s_assign rfl rfl rfl rfl ?_
    refine vOrd_nil ?_
    refine Wp.seq ?_
    refine Wp.region [0, 1, 2, 3, 4, 5, 6, 7, 8, 9, 10, 11] (by kernel_rfl) (by kernel_rfl) ?_
    refine s_field 0 rfl rfl rfl rfl rfl ?_
    refine s_load rfl rfl rfl rfl rfl rfl rfl ?_
    refine s_field 1 rfl rfl rfl rfl rfl ?_
    refine s_load rfl rfl rfl rfl rfl rfl rfl ?_
    refine s_field 2 rfl rfl rfl rfl rfl ?_
    refine s_load rfl rfl rfl rfl rfl rfl rfl ?_
    refine s_callT rfl rfl rfl (by kernel_rfl) rfl (pnew_yes l hlc hd ho hm (hv.later pz.1)) ?_
    rintro v w2 ⟨b1, bs1, rfl, hb1, hR⟩ lw2
    replace pz := And.intro (pz.1.trans lw2) trivial
    try replace hR := hR.later lw2
    refine s_move rfl rfl rfl rfl ?_
    refine s_extract rfl rfl rfl rfl rfl ?_
    refine s_extract rfl rfl rfl rfl rfl ?_
    refine s_assign rfl rfl rfl rfl ?_
    refine s_assign rfl rfl rfl rfl ?_
    refine vOrd_nil ?_
    refine Wp.seq ?_
    refine Wp.seq ?_
    refine Wp.region [0, 1, 2, 3, 4, 5, 6, 7] (by kernel_rfl) (by kernel_rfl) ?_
    refine s_field 0 rfl rfl rfl rfl rfl ?_
    refine s_load rfl rfl rfl rfl rfl rfl rfl ?_
    refine s_field 1 rfl rfl rfl rfl rfl ?_
    refine s_load rfl rfl rfl rfl rfl rfl rfl ?_
    refine s_field 2 rfl rfl rfl rfl rfl ?_
    refine s_load rfl rfl rfl rfl rfl rfl rfl ?_
    refine s_callT rfl rfl rfl (by kernel_rfl) rfl (rmay_any l (hv.later pz.1) hlc hd ho) ?_
    rintro v w3 rfl lw3
    replace pz := And.intro (pz.1.trans lw3) trivial
    try replace hR := hR.later lw3
    rw [hm]
    refine s_not rfl rfl rfl rfl ?_
    refine vOrd_nil ?_
    refine Wp.condF rfl rfl ?_
    refine Wp.skip ?_
    refine Wp.seq ?_
    refine Wp.drawnX (by kernel_rfl) (by kernel_rfl) (by kernel_rfl) [] 20 #[false, false, false, false, false, false, false, false, false, false, false, false, false, false, false, false, false, false, false, false] rfl (by kernel_rfl) (by kernel_rfl) (fun wd ld => ?_)
    replace pz := And.intro (pz.1.trans ld) trivial
    try replace hR := hR.later ld
    refine vOrd_nil ?_
    refine vTree_one (i := 0) (L := #[true, false, false, false, false, false, false, false, false, false, false, false, false, false, false, false, false, false, false, false]) (by kernel_rfl) (by kernel_rfl) ?_
    refine s_callT rfl rfl rfl (by kernel_rfl) rfl (rbanswers_any) ?_
    rintro v w4 rfl lw4
    replace pz := And.intro (pz.1.trans lw4) trivial
    try replace hR := hR.later lw4
    refine vOrd_nil ?_
    refine vTree_one (i := 1) (L := #[true, true, false, false, false, false, false, false, false, false, false, false, false, false, false, false, false, false, false, false]) (by kernel_rfl) (by kernel_rfl) ?_
    refine s_move rfl rfl rfl rfl ?_
    refine vOrd_nil ?_
    refine vTree_one (i := 2) (L := #[true, true, true, false, false, false, false, false, false, false, false, false, false, false, false, false, false, false, false, false]) (by kernel_rfl) (by kernel_rfl) ?_
    refine s_move rfl rfl rfl rfl ?_
    refine vOrd_nil ?_
    refine vTree_one (i := 3) (L := #[true, true, true, true, false, false, false, false, false, false, false, false, false, false, false, false, false, false, false, false]) (by kernel_rfl) (by kernel_rfl) ?_
    refine t_eql rfl rfl rfl rfl rfl (by omega) ?_
    refine vOrd_nil ?_
    refine vTree_one (i := 4) (L := #[true, true, true, true, true, false, false, false, false, false, false, false, false, false, false, false, false, false, false, false]) (by kernel_rfl) (by kernel_rfl) ?_
    refine s_pick rfl rfl rfl rfl rfl ?_
    refine vOrd_nil ?_
    refine vTree_one (i := 5) (L := #[true, true, true, true, true, true, false, false, false, false, false, false, false, false, false, false, false, false, false, false]) (by kernel_rfl) (by kernel_rfl) ?_
    refine s_move rfl rfl rfl rfl ?_
    refine vOrd_nil ?_
    refine vTree_one (i := 6) (L := #[true, true, true, true, true, true, true, false, false, false, false, false, false, false, false, false, false, false, false, false]) (by kernel_rfl) (by kernel_rfl) ?_
    refine s_move rfl rfl rfl rfl ?_
    refine vOrd_nil ?_
    refine vTree_one (i := 7) (L := #[true, true, true, true, true, true, true, true, false, false, false, false, false, false, false, false, false, false, false, false]) (by kernel_rfl) (by kernel_rfl) ?_
    refine s_nilNe (some ⟨b1, 0, none⟩) rfl rfl rfl rfl rfl ?_
    refine vOrd_nil ?_
    refine vTree_one (i := 8) (L := #[true, true, true, true, true, true, true, true, true, false, false, false, false, false, false, false, false, false, false, false]) (by kernel_rfl) (by kernel_rfl) ?_
    refine s_pick rfl rfl rfl rfl rfl ?_
    refine vOrd_nil ?_
    refine vTree_one (i := 9) (L := #[true, true, true, true, true, true, true, true, true, true, false, false, false, false, false, false, false, false, false, false]) (by kernel_rfl) (by kernel_rfl) ?_
    refine s_move rfl rfl rfl rfl ?_
    refine vOrd_nil ?_
    refine vTree_two (i := 10) (k := 12) (L1 := #[true, true, true, true, true, true, true, true, true, true, true, false, false, false, false, false, false, false, false, false]) (L2 := #[true, true, true, true, true, true, true, true, true, true, false, false, true, false, false, false, false, false, false, false]) (by kernel_rfl) (by kernel_rfl) (by kernel_rfl) ?_ ?_
    · refine s_move rfl rfl rfl rfl ?_
      refine vOrd_nil ?_
      refine vTree_two (i := 11) (k := 12) (L1 := #[true, true, true, true, true, true, true, true, true, true, true, true, false, false, false, false, false, false, false, false]) (L2 := #[true, true, true, true, true, true, true, true, true, true, true, false, true, false, false, false, false, false, false, false]) (by kernel_rfl) (by kernel_rfl) (by kernel_rfl) ?_ ?_
      · refine s_callT rfl rfl rfl (by kernel_rfl) rfl (pfirst_any hR hm hx) ?_
        rintro v w6 rfl lw6
        replace pz := And.intro (pz.1.trans lw6) trivial
        try replace hR := hR.later lw6
        refine vOrd_nil ?_
        refine vTree_one (i := 12) (L := #[true, true, true, true, true, true, true, true, true, true, true, true, true, false, false, false, false, false, false, false]) (by kernel_rfl) (by kernel_rfl) ?_
        refine s_field 0 rfl rfl rfl rfl rfl ?_
        refine vOrd_nil ?_
        refine vTree_one (i := 13) (L := #[true, true, true, true, true, true, true, true, true, true, true, true, true, true, false, false, false, false, false, false]) (by kernel_rfl) (by kernel_rfl) ?_
        refine s_load rfl rfl rfl rfl rfl rfl rfl ?_
        refine vOrd_nil ?_
        refine vTree_one (i := 14) (L := #[true, true, true, true, true, true, true, true, true, true, true, true, true, true, true, false, false, false, false, false]) (by kernel_rfl) (by kernel_rfl) ?_
        refine s_idx (sz := 4) (ao + (0) * 4) rfl rfl rfl rfl rfl rfl rfl (by omega) (by omega) (by omega) ?_
        refine vOrd_nil ?_
        refine vTree_one (i := 15) (L := #[true, true, true, true, true, true, true, true, true, true, true, true, true, true, true, true, false, false, false, false]) (by kernel_rfl) (by kernel_rfl) ?_
        refine s_fieldV (ao + (0) * 4) rfl rfl rfl rfl 0 rfl rfl ?_
        refine vOrd_nil ?_
        refine vTree_one (i := 16) (L := #[true, true, true, true, true, true, true, true, true, true, true, true, true, true, true, true, true, false, false, false]) (by kernel_rfl) (by kernel_rfl) ?_
        refine x_ldc rfl rfl rfl rfl rfl (cell_later pz.1 kx1) ?_
        refine vOrd_nil ?_
        refine vTree_one (i := 17) (L := #[true, true, true, true, true, true, true, true, true, true, true, true, true, true, true, true, true, true, false, false]) (by kernel_rfl) (by kernel_rfl) ?_
        refine t_eql rfl rfl rfl rfl rfl (by omega) ?_
        refine vOrd_nil ?_
        refine vTree_one (i := 18) (L := #[true, true, true, true, true, true, true, true, true, true, true, true, true, true, true, true, true, true, true, false]) (by kernel_rfl) (by kernel_rfl) ?_
        refine s_pick rfl rfl rfl rfl rfl ?_
        refine vOrd_nil ?_
        refine vTree_one (i := 19) (L := #[true, true, true, true, true, true, true, true, true, true, true, true, true, true, true, true, true, true, true, true]) (by kernel_rfl) (by kernel_rfl) ?_
        refine s_assign rfl rfl rfl rfl ?_
        refine vOrd_nil ?_
        refine vTree_end (by kernel_rfl) ?_
        refine Wp.ret ⟨.inr rfl, fun lW => ⟨_, res_tmp (P := Try.prog) rfl rfl, _, rfl, ?_, lW⟩⟩
        clear lW
        rfl
      · refine s_field 0 rfl rfl rfl rfl rfl ?_
        refine vOrd_nil ?_
        refine vTree_two (i := 11) (k := 13) (L1 := #[true, true, true, true, true, true, true, true, true, true, true, true, true, false, false, false, false, false, false, false]) (L2 := #[true, true, true, true, true, true, true, true, true, true, true, false, true, true, false, false, false, false, false, false]) (by kernel_rfl) (by kernel_rfl) (by kernel_rfl) ?_ ?_
        · refine s_callT rfl rfl rfl (by kernel_rfl) rfl (pfirst_any hR hm hx) ?_
          rintro v w10 rfl lw10
          replace pz := And.intro (pz.1.trans lw10) trivial
          try replace hR := hR.later lw10
          refine vOrd_nil ?_
          refine vTree_one (i := 13) (L := #[true, true, true, true, true, true, true, true, true, true, true, true, true, true, false, false, false, false, false, false]) (by kernel_rfl) (by kernel_rfl) ?_
          refine s_load rfl rfl rfl rfl rfl rfl rfl ?_
          refine vOrd_nil ?_
          refine vTree_one (i := 14) (L := #[true, true, true, true, true, true, true, true, true, true, true, true, true, true, true, false, false, false, false, false]) (by kernel_rfl) (by kernel_rfl) ?_
          refine s_idx (sz := 4) (ao + (0) * 4) rfl rfl rfl rfl rfl rfl rfl (by omega) (by omega) (by omega) ?_
          refine vOrd_nil ?_
          refine vTree_one (i := 15) (L := #[true, true, true, true, true, true, true, true, true, true, true, true, true, true, true, true, false, false, false, false]) (by kernel_rfl) (by kernel_rfl) ?_
          refine s_fieldV (ao + (0) * 4) rfl rfl rfl rfl 0 rfl rfl ?_
          refine vOrd_nil ?_
          refine vTree_one (i := 16) (L := #[true, true, true, true, true, true, true, true, true, true, true, true, true, true, true, true, true, false, false, false]) (by kernel_rfl) (by kernel_rfl) ?_
          refine x_ldc rfl rfl rfl rfl rfl (cell_later pz.1 kx1) ?_
          refine vOrd_nil ?_
          refine vTree_one (i := 17) (L := #[true, true, true, true, true, true, true, true, true, true, true, true, true, true, true, true, true, true, false, false]) (by kernel_rfl) (by kernel_rfl) ?_
          refine t_eql rfl rfl rfl rfl rfl (by omega) ?_
          refine vOrd_nil ?_
          refine vTree_one (i := 18) (L := #[true, true, true, true, true, true, true, true, true, true, true, true, true, true, true, true, true, true, true, false]) (by kernel_rfl) (by kernel_rfl) ?_
          refine s_pick rfl rfl rfl rfl rfl ?_
          refine vOrd_nil ?_
          refine vTree_one (i := 19) (L := #[true, true, true, true, true, true, true, true, true, true, true, true, true, true, true, true, true, true, true, true]) (by kernel_rfl) (by kernel_rfl) ?_
          refine s_assign rfl rfl rfl rfl ?_
          refine vOrd_nil ?_
          refine vTree_end (by kernel_rfl) ?_
          refine Wp.ret ⟨.inr rfl, fun lW => ⟨_, res_tmp (P := Try.prog) rfl rfl, _, rfl, ?_, lW⟩⟩
          clear lW
          rfl
        · refine s_load rfl rfl rfl rfl rfl rfl rfl ?_
          refine vOrd_nil ?_
          refine vTree_two (i := 11) (k := 14) (L1 := #[true, true, true, true, true, true, true, true, true, true, true, true, true, true, false, false, false, false, false, false]) (L2 := #[true, true, true, true, true, true, true, true, true, true, true, false, true, true, true, false, false, false, false, false]) (by kernel_rfl) (by kernel_rfl) (by kernel_rfl) ?_ ?_
          · refine s_callT rfl rfl rfl (by kernel_rfl) rfl (pfirst_any hR hm hx) ?_
            rintro v w14 rfl lw14
            replace pz := And.intro (pz.1.trans lw14) trivial
            try replace hR := hR.later lw14
            refine vOrd_nil ?_
            refine vTree_one (i := 14) (L := #[true, true, true, true, true, true, true, true, true, true, true, true, true, true, true, false, false, false, false, false]) (by kernel_rfl) (by kernel_rfl) ?_
            refine s_idx (sz := 4) (ao + (0) * 4) rfl rfl rfl rfl rfl rfl rfl (by omega) (by omega) (by omega) ?_
            refine vOrd_nil ?_
            refine vTree_one (i := 15) (L := #[true, true, true, true, true, true, true, true, true, true, true, true, true, true, true, true, false, false, false, false]) (by kernel_rfl) (by kernel_rfl) ?_
            refine s_fieldV (ao + (0) * 4) rfl rfl rfl rfl 0 rfl rfl ?_
            refine vOrd_nil ?_
            refine vTree_one (i := 16) (L := #[true, true, true, true, true, true, true, true, true, true, true, true, true, true, true, true, true, false, false, false]) (by kernel_rfl) (by kernel_rfl) ?_
            refine x_ldc rfl rfl rfl rfl rfl (cell_later pz.1 kx1) ?_
            refine vOrd_nil ?_
            refine vTree_one (i := 17) (L := #[true, true, true, true, true, true, true, true, true, true, true, true, true, true, true, true, true, true, false, false]) (by kernel_rfl) (by kernel_rfl) ?_
            refine t_eql rfl rfl rfl rfl rfl (by omega) ?_
            refine vOrd_nil ?_
            refine vTree_one (i := 18) (L := #[true, true, true, true, true, true, true, true, true, true, true, true, true, true, true, true, true, true, true, false]) (by kernel_rfl) (by kernel_rfl) ?_
            refine s_pick rfl rfl rfl rfl rfl ?_
            refine vOrd_nil ?_
            refine vTree_one (i := 19) (L := #[true, true, true, true, true, true, true, true, true, true, true, true, true, true, true, true, true, true, true, true]) (by kernel_rfl) (by kernel_rfl) ?_
            refine s_assign rfl rfl rfl rfl ?_
            refine vOrd_nil ?_
            refine vTree_end (by kernel_rfl) ?_
            refine Wp.ret ⟨.inr rfl, fun lW => ⟨_, res_tmp (P := Try.prog) rfl rfl, _, rfl, ?_, lW⟩⟩
            clear lW
            rfl
          · refine s_idx (sz := 4) (ao + (0) * 4) rfl rfl rfl rfl rfl rfl rfl (by omega) (by omega) (by omega) ?_
            refine vOrd_nil ?_
            refine vTree_two (i := 11) (k := 15) (L1 := #[true, true, true, true, true, true, true, true, true, true, true, true, true, true, true, false, false, false, false, false]) (L2 := #[true, true, true, true, true, true, true, true, true, true, true, false, true, true, true, true, false, false, false, false]) (by kernel_rfl) (by kernel_rfl) (by kernel_rfl) ?_ ?_
            · refine s_callT rfl rfl rfl (by kernel_rfl) rfl (pfirst_any hR hm hx) ?_
              rintro v w19 rfl lw19
              replace pz := And.intro (pz.1.trans lw19) trivial
              try replace hR := hR.later lw19
              refine vOrd_nil ?_
              refine vTree_one (i := 15) (L := #[true, true, true, true, true, true, true, true, true, true, true, true, true, true, true, true, false, false, false, false]) (by kernel_rfl) (by kernel_rfl) ?_
              refine s_fieldV (ao + (0) * 4) rfl rfl rfl rfl 0 rfl rfl ?_
              refine vOrd_nil ?_
              refine vTree_one (i := 16) (L := #[true, true, true, true, true, true, true, true, true, true, true, true, true, true, true, true, true, false, false, false]) (by kernel_rfl) (by kernel_rfl) ?_
              refine x_ldc rfl rfl rfl rfl rfl (cell_later pz.1 kx1) ?_
              refine vOrd_nil ?_
              refine vTree_one (i := 17) (L := #[true, true, true, true, true, true, true, true, true, true, true, true, true, true, true, true, true, true, false, false]) (by kernel_rfl) (by kernel_rfl) ?_
              refine t_eql rfl rfl rfl rfl rfl (by omega) ?_
              refine vOrd_nil ?_
              refine vTree_one (i := 18) (L := #[true, true, true, true, true, true, true, true, true, true, true, true, true, true, true, true, true, true, true, false]) (by kernel_rfl) (by kernel_rfl) ?_
              refine s_pick rfl rfl rfl rfl rfl ?_
              refine vOrd_nil ?_
              refine vTree_one (i := 19) (L := #[true, true, true, true, true, true, true, true, true, true, true, true, true, true, true, true, true, true, true, true]) (by kernel_rfl) (by kernel_rfl) ?_
              refine s_assign rfl rfl rfl rfl ?_
              refine vOrd_nil ?_
              refine vTree_end (by kernel_rfl) ?_
              refine Wp.ret ⟨.inr rfl, fun lW => ⟨_, res_tmp (P := Try.prog) rfl rfl, _, rfl, ?_, lW⟩⟩
              clear lW
              rfl
            · refine s_fieldV (ao + (0) * 4) rfl rfl rfl rfl 0 rfl rfl ?_
              refine vOrd_nil ?_
              refine vTree_two (i := 11) (k := 16) (L1 := #[true, true, true, true, true, true, true, true, true, true, true, true, true, true, true, true, false, false, false, false]) (L2 := #[true, true, true, true, true, true, true, true, true, true, true, false, true, true, true, true, true, false, false, false]) (by kernel_rfl) (by kernel_rfl) (by kernel_rfl) ?_ ?_
              · refine s_callT rfl rfl rfl (by kernel_rfl) rfl (pfirst_any hR hm hx) ?_
                rintro v w23 rfl lw23
                replace pz := And.intro (pz.1.trans lw23) trivial
                try replace hR := hR.later lw23
                refine vOrd_nil ?_
                refine vTree_one (i := 16) (L := #[true, true, true, true, true, true, true, true, true, true, true, true, true, true, true, true, true, false, false, false]) (by kernel_rfl) (by kernel_rfl) ?_
                refine x_ldc rfl rfl rfl rfl rfl (cell_later pz.1 kx1) ?_
                refine vOrd_nil ?_
                refine vTree_one (i := 17) (L := #[true, true, true, true, true, true, true, true, true, true, true, true, true, true, true, true, true, true, false, false]) (by kernel_rfl) (by kernel_rfl) ?_
                refine t_eql rfl rfl rfl rfl rfl (by omega) ?_
                refine vOrd_nil ?_
                refine vTree_one (i := 18) (L := #[true, true, true, true, true, true, true, true, true, true, true, true, true, true, true, true, true, true, true, false]) (by kernel_rfl) (by kernel_rfl) ?_
                refine s_pick rfl rfl rfl rfl rfl ?_
                refine vOrd_nil ?_
                refine vTree_one (i := 19) (L := #[true, true, true, true, true, true, true, true, true, true, true, true, true, true, true, true, true, true, true, true]) (by kernel_rfl) (by kernel_rfl) ?_
                refine s_assign rfl rfl rfl rfl ?_
                refine vOrd_nil ?_
                refine vTree_end (by kernel_rfl) ?_
                refine Wp.ret ⟨.inr rfl, fun lW => ⟨_, res_tmp (P := Try.prog) rfl rfl, _, rfl, ?_, lW⟩⟩
                clear lW
                rfl
              · refine x_ldc rfl rfl rfl rfl rfl (cell_later pz.1 kx1) ?_
                refine vOrd_nil ?_
                refine vTree_one (i := 11) (L := #[true, true, true, true, true, true, true, true, true, true, true, true, true, true, true, true, true, false, false, false]) (by kernel_rfl) (by kernel_rfl) ?_
                refine s_callT rfl rfl rfl (by kernel_rfl) rfl (pfirst_any hR hm hx) ?_
                rintro v w26 rfl lw26
                replace pz := And.intro (pz.1.trans lw26) trivial
                try replace hR := hR.later lw26
                refine vOrd_nil ?_
                refine vTree_one (i := 17) (L := #[true, true, true, true, true, true, true, true, true, true, true, true, true, true, true, true, true, true, false, false]) (by kernel_rfl) (by kernel_rfl) ?_
                refine t_eql rfl rfl rfl rfl rfl (by omega) ?_
                refine vOrd_nil ?_
                refine vTree_one (i := 18) (L := #[true, true, true, true, true, true, true, true, true, true, true, true, true, true, true, true, true, true, true, false]) (by kernel_rfl) (by kernel_rfl) ?_
                refine s_pick rfl rfl rfl rfl rfl ?_
                refine vOrd_nil ?_
                refine vTree_one (i := 19) (L := #[true, true, true, true, true, true, true, true, true, true, true, true, true, true, true, true, true, true, true, true]) (by kernel_rfl) (by kernel_rfl) ?_
                refine s_assign rfl rfl rfl rfl ?_
                refine vOrd_nil ?_
                refine vTree_end (by kernel_rfl) ?_
                refine Wp.ret ⟨.inr rfl, fun lW => ⟨_, res_tmp (P := Try.prog) rfl rfl, _, rfl, ?_, lW⟩⟩
                clear lW
                rfl
    · refine s_field 0 rfl rfl rfl rfl rfl ?_
      refine vOrd_nil ?_
      refine vTree_two (i := 10) (k := 13) (L1 := #[true, true, true, true, true, true, true, true, true, true, true, false, true, false, false, false, false, false, false, false]) (L2 := #[true, true, true, true, true, true, true, true, true, true, false, false, true, true, false, false, false, false, false, false]) (by kernel_rfl) (by kernel_rfl) (by kernel_rfl) ?_ ?_
      · refine s_move rfl rfl rfl rfl ?_
        refine vOrd_nil ?_
        refine vTree_two (i := 11) (k := 13) (L1 := #[true, true, true, true, true, true, true, true, true, true, true, true, true, false, false, false, false, false, false, false]) (L2 := #[true, true, true, true, true, true, true, true, true, true, true, false, true, true, false, false, false, false, false, false]) (by kernel_rfl) (by kernel_rfl) (by kernel_rfl) ?_ ?_
        · refine s_callT rfl rfl rfl (by kernel_rfl) rfl (pfirst_any hR hm hx) ?_
          rintro v w27 rfl lw27
          replace pz := And.intro (pz.1.trans lw27) trivial
          try replace hR := hR.later lw27
          refine vOrd_nil ?_
          refine vTree_one (i := 13) (L := #[true, true, true, true, true, true, true, true, true, true, true, true, true, true, false, false, false, false, false, false]) (by kernel_rfl) (by kernel_rfl) ?_
          refine s_load rfl rfl rfl rfl rfl rfl rfl ?_
          refine vOrd_nil ?_
          refine vTree_one (i := 14) (L := #[true, true, true, true, true, true, true, true, true, true, true, true, true, true, true, false, false, false, false, false]) (by kernel_rfl) (by kernel_rfl) ?_
          refine s_idx (sz := 4) (ao + (0) * 4) rfl rfl rfl rfl rfl rfl rfl (by omega) (by omega) (by omega) ?_
          refine vOrd_nil ?_
          refine vTree_one (i := 15) (L := #[true, true, true, true, true, true, true, true, true, true, true, true, true, true, true, true, false, false, false, false]) (by kernel_rfl) (by kernel_rfl) ?_
          refine s_fieldV (ao + (0) * 4) rfl rfl rfl rfl 0 rfl rfl ?_
          refine vOrd_nil ?_
          refine vTree_one (i := 16) (L := #[true, true, true, true, true, true, true, true, true, true, true, true, true, true, true, true, true, false, false, false]) (by kernel_rfl) (by kernel_rfl) ?_
          refine x_ldc rfl rfl rfl rfl rfl (cell_later pz.1 kx1) ?_
          refine vOrd_nil ?_
          refine vTree_one (i := 17) (L := #[true, true, true, true, true, true, true, true, true, true, true, true, true, true, true, true, true, true, false, false]) (by kernel_rfl) (by kernel_rfl) ?_
          refine t_eql rfl rfl rfl rfl rfl (by omega) ?_
          refine vOrd_nil ?_
          refine vTree_one (i := 18) (L := #[true, true, true, true, true, true, true, true, true, true, true, true, true, true, true, true, true, true, true, false]) (by kernel_rfl) (by kernel_rfl) ?_
          refine s_pick rfl rfl rfl rfl rfl ?_
          refine vOrd_nil ?_
          refine vTree_one (i := 19) (L := #[true, true, true, true, true, true, true, true, true, true, true, true, true, true, true, true, true, true, true, true]) (by kernel_rfl) (by kernel_rfl) ?_
          refine s_assign rfl rfl rfl rfl ?_
          refine vOrd_nil ?_
          refine vTree_end (by kernel_rfl) ?_
          refine Wp.ret ⟨.inr rfl, fun lW => ⟨_, res_tmp (P := Try.prog) rfl rfl, _, rfl, ?_, lW⟩⟩
          clear lW
          rfl
        · refine s_load rfl rfl rfl rfl rfl rfl rfl ?_
          refine vOrd_nil ?_
          refine vTree_two (i := 11) (k := 14) (L1 := #[true, true, true, true, true, true, true, true, true, true, true, true, true, true, false, false, false, false, false, false]) (L2 := #[true, true, true, true, true, true, true, true, true, true, true, false, true, true, true, false, false, false, false, false]) (by kernel_rfl) (by kernel_rfl) (by kernel_rfl) ?_ ?_
          · refine s_callT rfl rfl rfl (by kernel_rfl) rfl (pfirst_any hR hm hx) ?_
            rintro v w31 rfl lw31
            replace pz := And.intro (pz.1.trans lw31) trivial
            try replace hR := hR.later lw31
            refine vOrd_nil ?_
            refine vTree_one (i := 14) (L := #[true, true, true, true, true, true, true, true, true, true, true, true, true, true, true, false, false, false, false, false]) (by kernel_rfl) (by kernel_rfl) ?_
            refine s_idx (sz := 4) (ao + (0) * 4) rfl rfl rfl rfl rfl rfl rfl (by omega) (by omega) (by omega) ?_
            refine vOrd_nil ?_
            refine vTree_one (i := 15) (L := #[true, true, true, true, true, true, true, true, true, true, true, true, true, true, true, true, false, false, false, false]) (by kernel_rfl) (by kernel_rfl) ?_
            refine s_fieldV (ao + (0) * 4) rfl rfl rfl rfl 0 rfl rfl ?_
            refine vOrd_nil ?_
            refine vTree_one (i := 16) (L := #[true, true, true, true, true, true, true, true, true, true, true, true, true, true, true, true, true, false, false, false]) (by kernel_rfl) (by kernel_rfl) ?_
            refine x_ldc rfl rfl rfl rfl rfl (cell_later pz.1 kx1) ?_
            refine vOrd_nil ?_
            refine vTree_one (i := 17) (L := #[true, true, true, true, true, true, true, true, true, true, true, true, true, true, true, true, true, true, false, false]) (by kernel_rfl) (by kernel_rfl) ?_
            refine t_eql rfl rfl rfl rfl rfl (by omega) ?_
            refine vOrd_nil ?_
            refine vTree_one (i := 18) (L := #[true, true, true, true, true, true, true, true, true, true, true, true, true, true, true, true, true, true, true, false]) (by kernel_rfl) (by kernel_rfl) ?_
            refine s_pick rfl rfl rfl rfl rfl ?_
            refine vOrd_nil ?_
            refine vTree_one (i := 19) (L := #[true, true, true, true, true, true, true, true, true, true, true, true, true, true, true, true, true, true, true, true]) (by kernel_rfl) (by kernel_rfl) ?_
            refine s_assign rfl rfl rfl rfl ?_
            refine vOrd_nil ?_
            refine vTree_end (by kernel_rfl) ?_
            refine Wp.ret ⟨.inr rfl, fun lW => ⟨_, res_tmp (P := Try.prog) rfl rfl, _, rfl, ?_, lW⟩⟩
            clear lW
            rfl
          · refine s_idx (sz := 4) (ao + (0) * 4) rfl rfl rfl rfl rfl rfl rfl (by omega) (by omega) (by omega) ?_
            refine vOrd_nil ?_
            refine vTree_two (i := 11) (k := 15) (L1 := #[true, true, true, true, true, true, true, true, true, true, true, true, true, true, true, false, false, false, false, false]) (L2 := #[true, true, true, true, true, true, true, true, true, true, true, false, true, true, true, true, false, false, false, false]) (by kernel_rfl) (by kernel_rfl) (by kernel_rfl) ?_ ?_
            · refine s_callT rfl rfl rfl (by kernel_rfl) rfl (pfirst_any hR hm hx) ?_
              rintro v w36 rfl lw36
              replace pz := And.intro (pz.1.trans lw36) trivial
              try replace hR := hR.later lw36
              refine vOrd_nil ?_
              refine vTree_one (i := 15) (L := #[true, true, true, true, true, true, true, true, true, true, true, true, true, true, true, true, false, false, false, false]) (by kernel_rfl) (by kernel_rfl) ?_
              refine s_fieldV (ao + (0) * 4) rfl rfl rfl rfl 0 rfl rfl ?_
              refine vOrd_nil ?_
              refine vTree_one (i := 16) (L := #[true, true, true, true, true, true, true, true, true, true, true, true, true, true, true, true, true, false, false, false]) (by kernel_rfl) (by kernel_rfl) ?_
              refine x_ldc rfl rfl rfl rfl rfl (cell_later pz.1 kx1) ?_
              refine vOrd_nil ?_
              refine vTree_one (i := 17) (L := #[true, true, true, true, true, true, true, true, true, true, true, true, true, true, true, true, true, true, false, false]) (by kernel_rfl) (by kernel_rfl) ?_
              refine t_eql rfl rfl rfl rfl rfl (by omega) ?_
              refine vOrd_nil ?_
              refine vTree_one (i := 18) (L := #[true, true, true, true, true, true, true, true, true, true, true, true, true, true, true, true, true, true, true, false]) (by kernel_rfl) (by kernel_rfl) ?_
              refine s_pick rfl rfl rfl rfl rfl ?_
              refine vOrd_nil ?_
              refine vTree_one (i := 19) (L := #[true, true, true, true, true, true, true, true, true, true, true, true, true, true, true, true, true, true, true, true]) (by kernel_rfl) (by kernel_rfl) ?_
              refine s_assign rfl rfl rfl rfl ?_
              refine vOrd_nil ?_
              refine vTree_end (by kernel_rfl) ?_
              refine Wp.ret ⟨.inr rfl, fun lW => ⟨_, res_tmp (P := Try.prog) rfl rfl, _, rfl, ?_, lW⟩⟩
              clear lW
              rfl
            · refine s_fieldV (ao + (0) * 4) rfl rfl rfl rfl 0 rfl rfl ?_
              refine vOrd_nil ?_
              refine vTree_two (i := 11) (k := 16) (L1 := #[true, true, true, true, true, true, true, true, true, true, true, true, true, true, true, true, false, false, false, false]) (L2 := #[true, true, true, true, true, true, true, true, true, true, true, false, true, true, true, true, true, false, false, false]) (by kernel_rfl) (by kernel_rfl) (by kernel_rfl) ?_ ?_
              · refine s_callT rfl rfl rfl (by kernel_rfl) rfl (pfirst_any hR hm hx) ?_
                rintro v w40 rfl lw40
                replace pz := And.intro (pz.1.trans lw40) trivial
                try replace hR := hR.later lw40
                refine vOrd_nil ?_
                refine vTree_one (i := 16) (L := #[true, true, true, true, true, true, true, true, true, true, true, true, true, true, true, true, true, false, false, false]) (by kernel_rfl) (by kernel_rfl) ?_
                refine x_ldc rfl rfl rfl rfl rfl (cell_later pz.1 kx1) ?_
                refine vOrd_nil ?_
                refine vTree_one (i := 17) (L := #[true, true, true, true, true, true, true, true, true, true, true, true, true, true, true, true, true, true, false, false]) (by kernel_rfl) (by kernel_rfl) ?_
                refine t_eql rfl rfl rfl rfl rfl (by omega) ?_
                refine vOrd_nil ?_
                refine vTree_one (i := 18) (L := #[true, true, true, true, true, true, true, true, true, true, true, true, true, true, true, true, true, true, true, false]) (by kernel_rfl) (by kernel_rfl) ?_
                refine s_pick rfl rfl rfl rfl rfl ?_
                refine vOrd_nil ?_
                refine vTree_one (i := 19) (L := #[true, true, true, true, true, true, true, true, true, true, true, true, true, true, true, true, true, true, true, true]) (by kernel_rfl) (by kernel_rfl) ?_
                refine s_assign rfl rfl rfl rfl ?_
                refine vOrd_nil ?_
                refine vTree_end (by kernel_rfl) ?_
                refine Wp.ret ⟨.inr rfl, fun lW => ⟨_, res_tmp (P := Try.prog) rfl rfl, _, rfl, ?_, lW⟩⟩
                clear lW
                rfl
              · refine x_ldc rfl rfl rfl rfl rfl (cell_later pz.1 kx1) ?_
                refine vOrd_nil ?_
                refine vTree_one (i := 11) (L := #[true, true, true, true, true, true, true, true, true, true, true, true, true, true, true, true, true, false, false, false]) (by kernel_rfl) (by kernel_rfl) ?_
                refine s_callT rfl rfl rfl (by kernel_rfl) rfl (pfirst_any hR hm hx) ?_
                rintro v w43 rfl lw43
                replace pz := And.intro (pz.1.trans lw43) trivial
                try replace hR := hR.later lw43
                refine vOrd_nil ?_
                refine vTree_one (i := 17) (L := #[true, true, true, true, true, true, true, true, true, true, true, true, true, true, true, true, true, true, false, false]) (by kernel_rfl) (by kernel_rfl) ?_
                refine t_eql rfl rfl rfl rfl rfl (by omega) ?_
                refine vOrd_nil ?_
                refine vTree_one (i := 18) (L := #[true, true, true, true, true, true, true, true, true, true, true, true, true, true, true, true, true, true, true, false]) (by kernel_rfl) (by kernel_rfl) ?_
                refine s_pick rfl rfl rfl rfl rfl ?_
                refine vOrd_nil ?_
                refine vTree_one (i := 19) (L := #[true, true, true, true, true, true, true, true, true, true, true, true, true, true, true, true, true, true, true, true]) (by kernel_rfl) (by kernel_rfl) ?_
                refine s_assign rfl rfl rfl rfl ?_
                refine vOrd_nil ?_
                refine vTree_end (by kernel_rfl) ?_
                refine Wp.ret ⟨.inr rfl, fun lW => ⟨_, res_tmp (P := Try.prog) rfl rfl, _, rfl, ?_, lW⟩⟩
                clear lW
                rfl
      · refine s_load rfl rfl rfl rfl rfl rfl rfl ?_
        refine vOrd_nil ?_
        refine vTree_two (i := 10) (k := 14) (L1 := #[true, true, true, true, true, true, true, true, true, true, true, false, true, true, false, false, false, false, false, false]) (L2 := #[true, true, true, true, true, true, true, true, true, true, false, false, true, true, true, false, false, false, false, false]) (by kernel_rfl) (by kernel_rfl) (by kernel_rfl) ?_ ?_
        · refine s_move rfl rfl rfl rfl ?_
          refine vOrd_nil ?_
          refine vTree_two (i := 11) (k := 14) (L1 := #[true, true, true, true, true, true, true, true, true, true, true, true, true, true, false, false, false, false, false, false]) (L2 := #[true, true, true, true, true, true, true, true, true, true, true, false, true, true, true, false, false, false, false, false]) (by kernel_rfl) (by kernel_rfl) (by kernel_rfl) ?_ ?_
          · refine s_callT rfl rfl rfl (by kernel_rfl) rfl (pfirst_any hR hm hx) ?_
            rintro v w44 rfl lw44
            replace pz := And.intro (pz.1.trans lw44) trivial
            try replace hR := hR.later lw44
            refine vOrd_nil ?_
            refine vTree_one (i := 14) (L := #[true, true, true, true, true, true, true, true, true, true, true, true, true, true, true, false, false, false, false, false]) (by kernel_rfl) (by kernel_rfl) ?_
            refine s_idx (sz := 4) (ao + (0) * 4) rfl rfl rfl rfl rfl rfl rfl (by omega) (by omega) (by omega) ?_
            refine vOrd_nil ?_
            refine vTree_one (i := 15) (L := #[true, true, true, true, true, true, true, true, true, true, true, true, true, true, true, true, false, false, false, false]) (by kernel_rfl) (by kernel_rfl) ?_
            refine s_fieldV (ao + (0) * 4) rfl rfl rfl rfl 0 rfl rfl ?_
            refine vOrd_nil ?_
            refine vTree_one (i := 16) (L := #[true, true, true, true, true, true, true, true, true, true, true, true, true, true, true, true, true, false, false, false]) (by kernel_rfl) (by kernel_rfl) ?_
            refine x_ldc rfl rfl rfl rfl rfl (cell_later pz.1 kx1) ?_
            refine vOrd_nil ?_
            refine vTree_one (i := 17) (L := #[true, true, true, true, true, true, true, true, true, true, true, true, true, true, true, true, true, true, false, false]) (by kernel_rfl) (by kernel_rfl) ?_
            refine t_eql rfl rfl rfl rfl rfl (by omega) ?_
            refine vOrd_nil ?_
            refine vTree_one (i := 18) (L := #[true, true, true, true, true, true, true, true, true, true, true, true, true, true, true, true, true, true, true, false]) (by kernel_rfl) (by kernel_rfl) ?_
            refine s_pick rfl rfl rfl rfl rfl ?_
            refine vOrd_nil ?_
            refine vTree_one (i := 19) (L := #[true, true, true, true, true, true, true, true, true, true, true, true, true, true, true, true, true, true, true, true]) (by kernel_rfl) (by kernel_rfl) ?_
            refine s_assign rfl rfl rfl rfl ?_
            refine vOrd_nil ?_
            refine vTree_end (by kernel_rfl) ?_
            refine Wp.ret ⟨.inr rfl, fun lW => ⟨_, res_tmp (P := Try.prog) rfl rfl, _, rfl, ?_, lW⟩⟩
            clear lW
            rfl
          · refine s_idx (sz := 4) (ao + (0) * 4) rfl rfl rfl rfl rfl rfl rfl (by omega) (by omega) (by omega) ?_
            refine vOrd_nil ?_
            refine vTree_two (i := 11) (k := 15) (L1 := #[true, true, true, true, true, true, true, true, true, true, true, true, true, true, true, false, false, false, false, false]) (L2 := #[true, true, true, true, true, true, true, true, true, true, true, false, true, true, true, true, false, false, false, false]) (by kernel_rfl) (by kernel_rfl) (by kernel_rfl) ?_ ?_
            · refine s_callT rfl rfl rfl (by kernel_rfl) rfl (pfirst_any hR hm hx) ?_
              rintro v w49 rfl lw49
              replace pz := And.intro (pz.1.trans lw49) trivial
              try replace hR := hR.later lw49
              refine vOrd_nil ?_
              refine vTree_one (i := 15) (L := #[true, true, true, true, true, true, true, true, true, true, true, true, true, true, true, true, false, false, false, false]) (by kernel_rfl) (by kernel_rfl) ?_
              refine s_fieldV (ao + (0) * 4) rfl rfl rfl rfl 0 rfl rfl ?_
              refine vOrd_nil ?_
              refine vTree_one (i := 16) (L := #[true, true, true, true, true, true, true, true, true, true, true, true, true, true, true, true, true, false, false, false]) (by kernel_rfl) (by kernel_rfl) ?_
              refine x_ldc rfl rfl rfl rfl rfl (cell_later pz.1 kx1) ?_
              refine vOrd_nil ?_
              refine vTree_one (i := 17) (L := #[true, true, true, true, true, true, true, true, true, true, true, true, true, true, true, true, true, true, false, false]) (by kernel_rfl) (by kernel_rfl) ?_
              refine t_eql rfl rfl rfl rfl rfl (by omega) ?_
              refine vOrd_nil ?_
              refine vTree_one (i := 18) (L := #[true, true, true, true, true, true, true, true, true, true, true, true, true, true, true, true, true, true, true, false]) (by kernel_rfl) (by kernel_rfl) ?_
              refine s_pick rfl rfl rfl rfl rfl ?_
              refine vOrd_nil ?_
              refine vTree_one (i := 19) (L := #[true, true, true, true, true, true, true, true, true, true, true, true, true, true, true, true, true, true, true, true]) (by kernel_rfl) (by kernel_rfl) ?_
              refine s_assign rfl rfl rfl rfl ?_
              refine vOrd_nil ?_
              refine vTree_end (by kernel_rfl) ?_
              refine Wp.ret ⟨.inr rfl, fun lW => ⟨_, res_tmp (P := Try.prog) rfl rfl, _, rfl, ?_, lW⟩⟩
              clear lW
              rfl
            · refine s_fieldV (ao + (0) * 4) rfl rfl rfl rfl 0 rfl rfl ?_
              refine vOrd_nil ?_
              refine vTree_two (i := 11) (k := 16) (L1 := #[true, true, true, true, true, true, true, true, true, true, true, true, true, true, true, true, false, false, false, false]) (L2 := #[true, true, true, true, true, true, true, true, true, true, true, false, true, true, true, true, true, false, false, false]) (by kernel_rfl) (by kernel_rfl) (by kernel_rfl) ?_ ?_
              · refine s_callT rfl rfl rfl (by kernel_rfl) rfl (pfirst_any hR hm hx) ?_
                rintro v w53 rfl lw53
                replace pz := And.intro (pz.1.trans lw53) trivial
                try replace hR := hR.later lw53
                refine vOrd_nil ?_
                refine vTree_one (i := 16) (L := #[true, true, true, true, true, true, true, true, true, true, true, true, true, true, true, true, true, false, false, false]) (by kernel_rfl) (by kernel_rfl) ?_
                refine x_ldc rfl rfl rfl rfl rfl (cell_later pz.1 kx1) ?_
                refine vOrd_nil ?_
                refine vTree_one (i := 17) (L := #[true, true, true, true, true, true, true, true, true, true, true, true, true, true, true, true, true, true, false, false]) (by kernel_rfl) (by kernel_rfl) ?_
                refine t_eql rfl rfl rfl rfl rfl (by omega) ?_
                refine vOrd_nil ?_
                refine vTree_one (i := 18) (L := #[true, true, true, true, true, true, true, true, true, true, true, true, true, true, true, true, true, true, true, false]) (by kernel_rfl) (by kernel_rfl) ?_
                refine s_pick rfl rfl rfl rfl rfl ?_
                refine vOrd_nil ?_
                refine vTree_one (i := 19) (L := #[true, true, true, true, true, true, true, true, true, true, true, true, true, true, true, true, true, true, true, true]) (by kernel_rfl) (by kernel_rfl) ?_
                refine s_assign rfl rfl rfl rfl ?_
                refine vOrd_nil ?_
                refine vTree_end (by kernel_rfl) ?_
                refine Wp.ret ⟨.inr rfl, fun lW => ⟨_, res_tmp (P := Try.prog) rfl rfl, _, rfl, ?_, lW⟩⟩
                clear lW
                rfl
              · refine x_ldc rfl rfl rfl rfl rfl (cell_later pz.1 kx1) ?_
                refine vOrd_nil ?_
                refine vTree_one (i := 11) (L := #[true, true, true, true, true, true, true, true, true, true, true, true, true, true, true, true, true, false, false, false]) (by kernel_rfl) (by kernel_rfl) ?_
                refine s_callT rfl rfl rfl (by kernel_rfl) rfl (pfirst_any hR hm hx) ?_
                rintro v w56 rfl lw56
                replace pz := And.intro (pz.1.trans lw56) trivial
                try replace hR := hR.later lw56
                refine vOrd_nil ?_
                refine vTree_one (i := 17) (L := #[true, true, true, true, true, true, true, true, true, true, true, true, true, true, true, true, true, true, false, false]) (by kernel_rfl) (by kernel_rfl) ?_
                refine t_eql rfl rfl rfl rfl rfl (by omega) ?_
                refine vOrd_nil ?_
                refine vTree_one (i := 18) (L := #[true, true, true, true, true, true, true, true, true, true, true, true, true, true, true, true, true, true, true, false]) (by kernel_rfl) (by kernel_rfl) ?_
                refine s_pick rfl rfl rfl rfl rfl ?_
                refine vOrd_nil ?_
                refine vTree_one (i := 19) (L := #[true, true, true, true, true, true, true, true, true, true, true, true, true, true, true, true, true, true, true, true]) (by kernel_rfl) (by kernel_rfl) ?_
                refine s_assign rfl rfl rfl rfl ?_
                refine vOrd_nil ?_
                refine vTree_end (by kernel_rfl) ?_
                refine Wp.ret ⟨.inr rfl, fun lW => ⟨_, res_tmp (P := Try.prog) rfl rfl, _, rfl, ?_, lW⟩⟩
                clear lW
                rfl
        · refine s_idx (sz := 4) (ao + (0) * 4) rfl rfl rfl rfl rfl rfl rfl (by omega) (by omega) (by omega) ?_
          refine vOrd_nil ?_
          refine vTree_two (i := 10) (k := 15) (L1 := #[true, true, true, true, true, true, true, true, true, true, true, false, true, true, true, false, false, false, false, false]) (L2 := #[true, true, true, true, true, true, true, true, true, true, false, false, true, true, true, true, false, false, false, false]) (by kernel_rfl) (by kernel_rfl) (by kernel_rfl) ?_ ?_
          · refine s_move rfl rfl rfl rfl ?_
            refine vOrd_nil ?_
            refine vTree_two (i := 11) (k := 15) (L1 := #[true, true, true, true, true, true, true, true, true, true, true, true, true, true, true, false, false, false, false, false]) (L2 := #[true, true, true, true, true, true, true, true, true, true, true, false, true, true, true, true, false, false, false, false]) (by kernel_rfl) (by kernel_rfl) (by kernel_rfl) ?_ ?_
            · refine s_callT rfl rfl rfl (by kernel_rfl) rfl (pfirst_any hR hm hx) ?_
              rintro v w58 rfl lw58
              replace pz := And.intro (pz.1.trans lw58) trivial
              try replace hR := hR.later lw58
              refine vOrd_nil ?_
              refine vTree_one (i := 15) (L := #[true, true, true, true, true, true, true, true, true, true, true, true, true, true, true, true, false, false, false, false]) (by kernel_rfl) (by kernel_rfl) ?_
              refine s_fieldV (ao + (0) * 4) rfl rfl rfl rfl 0 rfl rfl ?_
              refine vOrd_nil ?_
              refine vTree_one (i := 16) (L := #[true, true, true, true, true, true, true, true, true, true, true, true, true, true, true, true, true, false, false, false]) (by kernel_rfl) (by kernel_rfl) ?_
              refine x_ldc rfl rfl rfl rfl rfl (cell_later pz.1 kx1) ?_
              refine vOrd_nil ?_
              refine vTree_one (i := 17) (L := #[true, true, true, true, true, true, true, true, true, true, true, true, true, true, true, true, true, true, false, false]) (by kernel_rfl) (by kernel_rfl) ?_
              refine t_eql rfl rfl rfl rfl rfl (by omega) ?_
              refine vOrd_nil ?_
              refine vTree_one (i := 18) (L := #[true, true, true, true, true, true, true, true, true, true, true, true, true, true, true, true, true, true, true, false]) (by kernel_rfl) (by kernel_rfl) ?_
              refine s_pick rfl rfl rfl rfl rfl ?_
              refine vOrd_nil ?_
              refine vTree_one (i := 19) (L := #[true, true, true, true, true, true, true, true, true, true, true, true, true, true, true, true, true, true, true, true]) (by kernel_rfl) (by kernel_rfl) ?_
              refine s_assign rfl rfl rfl rfl ?_
              refine vOrd_nil ?_
              refine vTree_end (by kernel_rfl) ?_
              refine Wp.ret ⟨.inr rfl, fun lW => ⟨_, res_tmp (P := Try.prog) rfl rfl, _, rfl, ?_, lW⟩⟩
              clear lW
              rfl
            · refine s_fieldV (ao + (0) * 4) rfl rfl rfl rfl 0 rfl rfl ?_
              refine vOrd_nil ?_
              refine vTree_two (i := 11) (k := 16) (L1 := #[true, true, true, true, true, true, true, true, true, true, true, true, true, true, true, true, false, false, false, false]) (L2 := #[true, true, true, true, true, true, true, true, true, true, true, false, true, true, true, true, true, false, false, false]) (by kernel_rfl) (by kernel_rfl) (by kernel_rfl) ?_ ?_
              · refine s_callT rfl rfl rfl (by kernel_rfl) rfl (pfirst_any hR hm hx) ?_
                rintro v w62 rfl lw62
                replace pz := And.intro (pz.1.trans lw62) trivial
                try replace hR := hR.later lw62
                refine vOrd_nil ?_
                refine vTree_one (i := 16) (L := #[true, true, true, true, true, true, true, true, true, true, true, true, true, true, true, true, true, false, false, false]) (by kernel_rfl) (by kernel_rfl) ?_
                refine x_ldc rfl rfl rfl rfl rfl (cell_later pz.1 kx1) ?_
                refine vOrd_nil ?_
                refine vTree_one (i := 17) (L := #[true, true, true, true, true, true, true, true, true, true, true, true, true, true, true, true, true, true, false, false]) (by kernel_rfl) (by kernel_rfl) ?_
                refine t_eql rfl rfl rfl rfl rfl (by omega) ?_
                refine vOrd_nil ?_
                refine vTree_one (i := 18) (L := #[true, true, true, true, true, true, true, true, true, true, true, true, true, true, true, true, true, true, true, false]) (by kernel_rfl) (by kernel_rfl) ?_
                refine s_pick rfl rfl rfl rfl rfl ?_
                refine vOrd_nil ?_
                refine vTree_one (i := 19) (L := #[true, true, true, true, true, true, true, true, true, true, true, true, true, true, true, true, true, true, true, true]) (by kernel_rfl) (by kernel_rfl) ?_
                refine s_assign rfl rfl rfl rfl ?_
                refine vOrd_nil ?_
                refine vTree_end (by kernel_rfl) ?_
                refine Wp.ret ⟨.inr rfl, fun lW => ⟨_, res_tmp (P := Try.prog) rfl rfl, _, rfl, ?_, lW⟩⟩
                clear lW
                rfl
              · refine x_ldc rfl rfl rfl rfl rfl (cell_later pz.1 kx1) ?_
                refine vOrd_nil ?_
                refine vTree_one (i := 11) (L := #[true, true, true, true, true, true, true, true, true, true, true, true, true, true, true, true, true, false, false, false]) (by kernel_rfl) (by kernel_rfl) ?_
                refine s_callT rfl rfl rfl (by kernel_rfl) rfl (pfirst_any hR hm hx) ?_
                rintro v w65 rfl lw65
                replace pz := And.intro (pz.1.trans lw65) trivial
                try replace hR := hR.later lw65
                refine vOrd_nil ?_
                refine vTree_one (i := 17) (L := #[true, true, true, true, true, true, true, true, true, true, true, true, true, true, true, true, true, true, false, false]) (by kernel_rfl) (by kernel_rfl) ?_
                refine t_eql rfl rfl rfl rfl rfl (by omega) ?_
                refine vOrd_nil ?_
                refine vTree_one (i := 18) (L := #[true, true, true, true, true, true, true, true, true, true, true, true, true, true, true, true, true, true, true, false]) (by kernel_rfl) (by kernel_rfl) ?_
                refine s_pick rfl rfl rfl rfl rfl ?_
                refine vOrd_nil ?_
                refine vTree_one (i := 19) (L := #[true, true, true, true, true, true, true, true, true, true, true, true, true, true, true, true, true, true, true, true]) (by kernel_rfl) (by kernel_rfl) ?_
                refine s_assign rfl rfl rfl rfl ?_
                refine vOrd_nil ?_
                refine vTree_end (by kernel_rfl) ?_
                refine Wp.ret ⟨.inr rfl, fun lW => ⟨_, res_tmp (P := Try.prog) rfl rfl, _, rfl, ?_, lW⟩⟩
                clear lW
                rfl
          · refine s_fieldV (ao + (0) * 4) rfl rfl rfl rfl 0 rfl rfl ?_
            refine vOrd_nil ?_
            refine vTree_two (i := 10) (k := 16) (L1 := #[true, true, true, true, true, true, true, true, true, true, true, false, true, true, true, true, false, false, false, false]) (L2 := #[true, true, true, true, true, true, true, true, true, true, false, false, true, true, true, true, true, false, false, false]) (by kernel_rfl) (by kernel_rfl) (by kernel_rfl) ?_ ?_
            · refine s_move rfl rfl rfl rfl ?_
              refine vOrd_nil ?_
              refine vTree_two (i := 11) (k := 16) (L1 := #[true, true, true, true, true, true, true, true, true, true, true, true, true, true, true, true, false, false, false, false]) (L2 := #[true, true, true, true, true, true, true, true, true, true, true, false, true, true, true, true, true, false, false, false]) (by kernel_rfl) (by kernel_rfl) (by kernel_rfl) ?_ ?_
              · refine s_callT rfl rfl rfl (by kernel_rfl) rfl (pfirst_any hR hm hx) ?_
                rintro v w67 rfl lw67
                replace pz := And.intro (pz.1.trans lw67) trivial
                try replace hR := hR.later lw67
                refine vOrd_nil ?_
                refine vTree_one (i := 16) (L := #[true, true, true, true, true, true, true, true, true, true, true, true, true, true, true, true, true, false, false, false]) (by kernel_rfl) (by kernel_rfl) ?_
                refine x_ldc rfl rfl rfl rfl rfl (cell_later pz.1 kx1) ?_
                refine vOrd_nil ?_
                refine vTree_one (i := 17) (L := #[true, true, true, true, true, true, true, true, true, true, true, true, true, true, true, true, true, true, false, false]) (by kernel_rfl) (by kernel_rfl) ?_
                refine t_eql rfl rfl rfl rfl rfl (by omega) ?_
                refine vOrd_nil ?_
                refine vTree_one (i := 18) (L := #[true, true, true, true, true, true, true, true, true, true, true, true, true, true, true, true, true, true, true, false]) (by kernel_rfl) (by kernel_rfl) ?_
                refine s_pick rfl rfl rfl rfl rfl ?_
                refine vOrd_nil ?_
                refine vTree_one (i := 19) (L := #[true, true, true, true, true, true, true, true, true, true, true, true, true, true, true, true, true, true, true, true]) (by kernel_rfl) (by kernel_rfl) ?_
                refine s_assign rfl rfl rfl rfl ?_
                refine vOrd_nil ?_
                refine vTree_end (by kernel_rfl) ?_
                refine Wp.ret ⟨.inr rfl, fun lW => ⟨_, res_tmp (P := Try.prog) rfl rfl, _, rfl, ?_, lW⟩⟩
                clear lW
                rfl
              · refine x_ldc rfl rfl rfl rfl rfl (cell_later pz.1 kx1) ?_
                refine vOrd_nil ?_
                refine vTree_one (i := 11) (L := #[true, true, true, true, true, true, true, true, true, true, true, true, true, true, true, true, true, false, false, false]) (by kernel_rfl) (by kernel_rfl) ?_
                refine s_callT rfl rfl rfl (by kernel_rfl) rfl (pfirst_any hR hm hx) ?_
                rintro v w70 rfl lw70
                replace pz := And.intro (pz.1.trans lw70) trivial
                try replace hR := hR.later lw70
                refine vOrd_nil ?_
                refine vTree_one (i := 17) (L := #[true, true, true, true, true, true, true, true, true, true, true, true, true, true, true, true, true, true, false, false]) (by kernel_rfl) (by kernel_rfl) ?_
                refine t_eql rfl rfl rfl rfl rfl (by omega) ?_
                refine vOrd_nil ?_
                refine vTree_one (i := 18) (L := #[true, true, true, true, true, true, true, true, true, true, true, true, true, true, true, true, true, true, true, false]) (by kernel_rfl) (by kernel_rfl) ?_
                refine s_pick rfl rfl rfl rfl rfl ?_
                refine vOrd_nil ?_
                refine vTree_one (i := 19) (L := #[true, true, true, true, true, true, true, true, true, true, true, true, true, true, true, true, true, true, true, true]) (by kernel_rfl) (by kernel_rfl) ?_
                refine s_assign rfl rfl rfl rfl ?_
                refine vOrd_nil ?_
                refine vTree_end (by kernel_rfl) ?_
                refine Wp.ret ⟨.inr rfl, fun lW => ⟨_, res_tmp (P := Try.prog) rfl rfl, _, rfl, ?_, lW⟩⟩
                clear lW
                rfl
            · refine x_ldc rfl rfl rfl rfl rfl (cell_later pz.1 kx1) ?_
              refine vOrd_nil ?_
              refine vTree_one (i := 10) (L := #[true, true, true, true, true, true, true, true, true, true, true, false, true, true, true, true, true, false, false, false]) (by kernel_rfl) (by kernel_rfl) ?_
              refine s_move rfl rfl rfl rfl ?_
              refine vOrd_nil ?_
              refine vTree_one (i := 11) (L := #[true, true, true, true, true, true, true, true, true, true, true, true, true, true, true, true, true, false, false, false]) (by kernel_rfl) (by kernel_rfl) ?_
              refine s_callT rfl rfl rfl (by kernel_rfl) rfl (pfirst_any hR hm hx) ?_
              rintro v w72 rfl lw72
              replace pz := And.intro (pz.1.trans lw72) trivial
              try replace hR := hR.later lw72
              refine vOrd_nil ?_
              refine vTree_one (i := 17) (L := #[true, true, true, true, true, true, true, true, true, true, true, true, true, true, true, true, true, true, false, false]) (by kernel_rfl) (by kernel_rfl) ?_
              refine t_eql rfl rfl rfl rfl rfl (by omega) ?_
              refine vOrd_nil ?_
              refine vTree_one (i := 18) (L := #[true, true, true, true, true, true, true, true, true, true, true, true, true, true, true, true, true, true, true, false]) (by kernel_rfl) (by kernel_rfl) ?_
              refine s_pick rfl rfl rfl rfl rfl ?_
              refine vOrd_nil ?_
              refine vTree_one (i := 19) (L := #[true, true, true, true, true, true, true, true, true, true, true, true, true, true, true, true, true, true, true, true]) (by kernel_rfl) (by kernel_rfl) ?_
              refine s_assign rfl rfl rfl rfl ?_
              refine vOrd_nil ?_
              refine vTree_end (by kernel_rfl) ?_
              refine Wp.ret ⟨.inr rfl, fun lW => ⟨_, res_tmp (P := Try.prog) rfl rfl, _, rfl, ?_, lW⟩⟩
              clear lW
              rfl

set_option maxHeartbeats 2000000 in
theorem law_rbtais (l : List Sg) (hlc : l.length ≤ 9223372036854775807) {day off : Int} (hd : I64 day) (ho : I64 off) {v : Value} {w : World} (hv : SegAt w v l) {d s a : Int} (hd6 : I64 d) (hs6 : I64 s) (ha6 : I64 a) : Calls Try.prog 5 #[.agg #[v, .int .i64 day, .int .i64 off], .agg #[.int .i64 d, .int .i64 s, .int .i64 a]] w fun e w' => ∃ r, e = .returned r ∧ r = .bool true ∧ Below w.heap.size w w' := by
  obtain ⟨a0, c0, rfl⟩ := hv.form
  have pz : Later w w ∧ True := ⟨Later.refl w, trivial⟩
  cases hm : mayS l day off with
  | false =>
    refine calls_Wp (args := [_, _]) (n := 64) Try.func5 rfl rfl (by simp) ?_
    refine Wp.seq ?_
    refine Wp.region [0, 1, 2] (by kernel_rfl) (by kernel_rfl) ?_
    refine s_box rfl rfl rfl rfl rfl rfl (fun bk1 w1 kb1 lw1 => ?_)
    have kz2 := Nat.le_trans pz.1.size kb1
    replace pz := And.intro (pz.1.trans lw1) trivial
    try have nR2 := hR.ne kb1
    try replace hR := hR.later lw1
    refine s_box rfl rfl rfl rfl rfl rfl (fun bk2 w2 kb2 lw2 => ?_)
    have kz3 := Nat.le_trans pz.1.size kb2
    replace pz := And.intro (pz.1.trans lw2) trivial
    try have nR3 := hR.ne kb2
    try replace hR := hR.later lw2
    refine s_assign rfl rfl rfl rfl ?_
    refine vOrd_nil ?_
    refine Wp.seq ?_
    refine Wp.region [0, 1, 2, 3, 4, 5, 6, 7, 8, 9, 10, 11] (by kernel_rfl) (by kernel_rfl) ?_
    refine s_field 0 rfl rfl rfl rfl rfl ?_
    refine s_load rfl rfl rfl rfl rfl rfl rfl ?_
    refine s_field 1 rfl rfl rfl rfl rfl ?_
    refine s_load rfl rfl rfl rfl rfl rfl rfl ?_
    refine s_field 2 rfl rfl rfl rfl rfl ?_
    refine s_load rfl rfl rfl rfl rfl rfl rfl ?_
    refine s_callT rfl rfl rfl (by kernel_rfl) rfl (pnew_no l hlc hd ho hm (hv.later pz.1)) ?_
    rintro v w3 rfl lw3
    replace pz := And.intro (pz.1.trans lw3) trivial
    try replace hR := hR.later lw3
    refine s_move rfl rfl rfl rfl ?_
    refine s_extract rfl rfl rfl rfl rfl ?_
    refine s_extract rfl rfl rfl rfl rfl ?_
    refine s_assign rfl rfl rfl rfl ?_
    refine s_assign rfl rfl rfl rfl ?_
    refine vOrd_nil ?_
    refine Wp.seq ?_
    refine Wp.seq ?_
    refine Wp.region [0, 1] (by kernel_rfl) (by kernel_rfl) ?_
    refine s_move rfl rfl rfl rfl ?_
    refine t_neq rfl rfl rfl rfl rfl (by omega) ?_
    refine vOrd_nil ?_
    refine Wp.condT rfl rfl ?_
    refine Wp.seq ?_
    refine Wp.region [0, 1] (by kernel_rfl) (by kernel_rfl) ?_
    refine s_callT rfl rfl rfl (by kernel_rfl) rfl (rbanswers_any) ?_
    rintro v w4 rfl lw4
    replace pz := And.intro (pz.1.trans lw4) trivial
    try replace hR := hR.later lw4
    refine s_assign rfl rfl rfl rfl ?_
    refine vOrd_nil ?_
    refine Wp.ret ⟨.inr rfl, fun lW => ⟨_, res_tmp (P := Try.prog) rfl rfl, _, rfl, ?_, lW⟩⟩
    clear lW
    rfl
  | true =>
    obtain ⟨K, hcut⟩ := cutS_day hm d
    obtain ⟨E, hE⟩ : ∃ E, rE l day off K d s a = E := ⟨_, rfl⟩
    obtain ⟨Z, hZ⟩ : ∃ Z, rT l day off K d s a = Z := ⟨_, rfl⟩
    by_cases h0 : E = 0
    · refine calls_Wp (args := [_, _]) (n := 64) Try.func5 rfl rfl (by simp) ?_
      refine Wp.seq ?_
      refine Wp.region [0, 1, 2] (by kernel_rfl) (by kernel_rfl) ?_
      refine s_box rfl rfl rfl rfl rfl rfl (fun bk1 w1 kb1 lw1 => ?_)
      have kz2 := Nat.le_trans pz.1.size kb1
      replace pz := And.intro (pz.1.trans lw1) trivial
      try have nR2 := hR.ne kb1
      try replace hR := hR.later lw1
      refine s_box rfl rfl rfl rfl rfl rfl (fun bk2 w2 kb2 lw2 => ?_)
      have kz3 := Nat.le_trans pz.1.size kb2
      replace pz := And.intro (pz.1.trans lw2) trivial
      try have nR3 := hR.ne kb2
      try replace hR := hR.later lw2
      refine s_assign rfl rfl rfl rfl ?_
      refine vOrd_nil ?_
      refine Wp.seq ?_
      refine Wp.region [0, 1, 2, 3, 4, 5, 6, 7, 8, 9, 10, 11] (by kernel_rfl) (by kernel_rfl) ?_
      refine s_field 0 rfl rfl rfl rfl rfl ?_
      refine s_load rfl rfl rfl rfl rfl rfl rfl ?_
      refine s_field 1 rfl rfl rfl rfl rfl ?_
      refine s_load rfl rfl rfl rfl rfl rfl rfl ?_
      refine s_field 2 rfl rfl rfl rfl rfl ?_
      refine s_load rfl rfl rfl rfl rfl rfl rfl ?_
      refine s_callT rfl rfl rfl (by kernel_rfl) rfl (pnew_yes l hlc hd ho hm (hv.later pz.1)) ?_
      rintro v w3 ⟨b1, bs1, rfl, hb1, hR⟩ lw3
      replace pz := And.intro (pz.1.trans lw3) trivial
      try replace hR := hR.later lw3
      refine s_move rfl rfl rfl rfl ?_
      refine s_extract rfl rfl rfl rfl rfl ?_
      refine s_extract rfl rfl rfl rfl rfl ?_
      refine s_assign rfl rfl rfl rfl ?_
      refine s_assign rfl rfl rfl rfl ?_
      refine vOrd_nil ?_
      refine Wp.seq ?_
      refine Wp.seq ?_
      refine Wp.region [0, 1] (by kernel_rfl) (by kernel_rfl) ?_
      refine s_move rfl rfl rfl rfl ?_
      refine f_neq rfl rfl rfl rfl rfl (by omega) ?_
      refine vOrd_nil ?_
      refine Wp.condF rfl rfl ?_
      refine Wp.skip ?_
      refine Wp.seq ?_
      refine Wp.region [0, 1, 2, 3, 4, 5, 6, 7, 8] (by kernel_rfl) (by kernel_rfl) ?_
      refine s_move rfl rfl rfl rfl ?_
      refine s_load rfl rfl rfl rfl rfl rfl rfl ?_
      refine s_callT rfl rfl rfl (by kernel_rfl) rfl (ptai_any hR hm hd6 hs6 ha6 hcut) ?_
      rintro v w4 ⟨nu, rfl, nh4, nl4, rfl, hn⟩ lw4
      replace pz := And.intro (pz.1.trans lw4) trivial
      try replace hR := hR.later lw4
      rw [hE]
      rw [hZ] at hn
      refine s_move rfl rfl rfl rfl ?_
      refine s_extract rfl rfl rfl rfl rfl ?_
      refine s_extract rfl rfl rfl rfl rfl ?_
      refine s_alloc rfl rfl rfl rfl rfl (fun bk5 w5 kb5 lw5 => ?_)
      have kz7 := Nat.le_trans pz.1.size kb5
      replace pz := And.intro (pz.1.trans lw5) trivial
      try have nR7 := hR.ne kb5
      try replace hR := hR.later lw5
      refine s_store rfl rfl rfl rfl rfl rfl rfl (fun w6 sw6 vw6 => ?_)
      replace pz := And.intro (pz.1.sto sw6 kz7) trivial
      try replace hR := hR.sto sw6 nR7
      refine s_assign rfl rfl rfl rfl ?_
      refine vOrd_nil ?_
      refine Wp.seq ?_
      refine Wp.region [0, 1, 2, 3, 4, 5, 6, 7, 8, 9, 10, 11, 12, 13] (by kernel_rfl) (by kernel_rfl) ?_
      refine s_field 0 rfl rfl rfl rfl rfl ?_
      refine s_load rfl rfl rfl rfl rfl rfl rfl ?_
      refine s_field 1 rfl rfl rfl rfl rfl ?_
      refine s_load rfl rfl rfl rfl rfl rfl rfl ?_
      refine s_field 2 rfl rfl rfl rfl rfl ?_
      refine s_load rfl rfl rfl rfl rfl rfl rfl ?_
      refine s_load rfl rfl rfl rfl rfl rfl rfl ?_
      refine s_callT rfl rfl rfl (by kernel_rfl) rfl (rrtai_any l (hv.later pz.1) hlc hd ho hm hd6 hs6 ha6 hcut) ?_
      rintro v w7 ⟨gb, ga, gl, gc, rfl, hg⟩ lw7
      replace pz := And.intro (pz.1.trans lw7) trivial
      try replace hR := hR.later lw7
      rw [hE]
      rw [hE, hZ] at hg
      refine s_move rfl rfl rfl rfl ?_
      refine s_extract rfl rfl rfl rfl rfl ?_
      refine s_extract rfl rfl rfl rfl rfl ?_
      refine s_alloc rfl rfl rfl rfl rfl (fun bk8 w8 kb8 lw8 => ?_)
      have kz9 := Nat.le_trans pz.1.size kb8
      replace pz := And.intro (pz.1.trans lw8) trivial
      try have nR9 := hR.ne kb8
      try replace hR := hR.later lw8
      refine s_store rfl rfl rfl rfl rfl rfl rfl (fun w9 sw9 vw9 => ?_)
      replace pz := And.intro (pz.1.sto sw9 kz9) trivial
      try replace hR := hR.sto sw9 nR9
      refine s_assign rfl rfl rfl rfl ?_
      refine vOrd_nil ?_
      refine Wp.seq ?_
      refine Wp.seq ?_
      refine Wp.region [0, 1, 2] (by kernel_rfl) (by kernel_rfl) ?_
      refine s_move rfl rfl rfl rfl ?_
      refine s_move rfl rfl rfl rfl ?_
      refine f_neq rfl rfl rfl rfl rfl (by omega) ?_
      refine vOrd_nil ?_
      refine Wp.condF rfl rfl ?_
      refine Wp.skip ?_
      refine Wp.seq ?_
      have hg2 := hg h0
      refine (Wp.drawn (by kernel_rfl) (by kernel_rfl) [0, 1, 2, 3, 4, 5, 6, 7, 8, 9, 10, 11, 12, 13, 15, 14, 16, 17, 18, 19, 20] [0, 0, 0, 0, 0, 95, 0, 0, 0, 0, 0, 0, 0, 40959, 32767, 0, 0, 0, 0, 0, 0] (by kernel_rfl) (by kernel_rfl) (fun | 0 => fun v _ => v = .bool true | 14 => IsBig 11 Z | 16 => fun v _ => v = .bool true | _ => fun _ _ => True) (fun wd ld => ?_))
      replace pz := And.intro (pz.1.trans ld) trivial
      try replace hR := hR.later ld
      refine s_callD rfl rfl rfl (by kernel_rfl) rfl (fun wc lc => rbanswers_any) ?_
      rintro v w10 u10 rfl lw10 mw10
      replace pz := And.intro (pz.1.trans lw10) trivial
      try replace hR := hR.later lw10
      replace pz := And.intro (pz.1.trans mw10) trivial
      try replace hR := hR.later mw10
      refine s_move rfl rfl rfl rfl ?_
      refine s_move rfl rfl rfl rfl ?_
      refine f_neq rfl rfl rfl rfl rfl (by omega) ?_
      refine s_move rfl rfl rfl rfl ?_
      refine s_skip rfl rfl rfl ?_
      refine s_skip rfl rfl rfl ?_
      refine s_skip rfl rfl rfl ?_
      refine s_pick rfl rfl rfl rfl rfl ?_
      refine s_move rfl rfl rfl rfl ?_
      refine s_move rfl rfl rfl rfl ?_
      refine t_eql rfl rfl rfl rfl rfl (by omega) ?_
      refine s_move rfl rfl rfl rfl ?_
      refine s_load rfl rfl rfl rfl rfl rfl rfl ?_
      refine s_load rfl rfl rfl rfl rfl rfl rfl ?_
      refine s_callD rfl rfl rfl (by kernel_rfl) rfl (fun wc lc => c_rof ⟨_, _, rfl, hn⟩ wc) ?_
      rintro v w11 u11 hr lw11 mw11
      replace pz := And.intro (pz.1.trans lw11) trivial
      try replace hR := hR.later lw11
      replace pz := And.intro (pz.1.trans mw11) trivial
      try replace hR := hR.later mw11
      obtain ⟨hra, hrl, hrc, rfl, -⟩ := id hr
      refine s_callD rfl rfl rfl (by kernel_rfl) rfl (fun wc lc => c_same_yes (hr.keeps (by repeat (first | exact Keeps.refl _ | refine Keeps.trans ?_ (Keeps.later (by assumption)) | refine Keeps.trans ?_ (Keeps.stored (by assumption) (by assumption) rfl) | refine Keeps.trans ?_ (Keeps.fresh (by assumption) (by assumption) (by assumption))))) (hg2.keeps (by repeat (first | exact Keeps.refl _ | refine Keeps.trans ?_ (Keeps.later (by assumption)) | refine Keeps.trans ?_ (Keeps.stored (by assumption) (by assumption) rfl) | refine Keeps.trans ?_ (Keeps.fresh (by assumption) (by assumption) (by assumption))))) (by decide) (by decide)) ?_
      rintro v w12 u12 rfl lw12 mw12
      replace pz := And.intro (pz.1.trans lw12) trivial
      try replace hR := hR.later lw12
      replace pz := And.intro (pz.1.trans mw12) trivial
      try replace hR := hR.later mw12
      refine s_pick rfl rfl rfl rfl rfl ?_
      refine s_pick rfl rfl rfl rfl rfl ?_
      refine s_pick rfl rfl rfl rfl rfl ?_
      refine s_assign rfl rfl rfl rfl ?_
      refine vOrd_nil ?_
      refine Wp.ret ⟨.inr rfl, fun lW => ⟨_, res_tmp (P := Try.prog) rfl rfl, _, rfl, ?_, lW⟩⟩
      clear lW
      rfl
    · refine calls_Wp (args := [_, _]) (n := 64) Try.func5 rfl rfl (by simp) ?_
      refine Wp.seq ?_
      refine Wp.region [0, 1, 2] (by kernel_rfl) (by kernel_rfl) ?_
      refine s_box rfl rfl rfl rfl rfl rfl (fun bk1 w1 kb1 lw1 => ?_)
      have kz2 := Nat.le_trans pz.1.size kb1
      replace pz := And.intro (pz.1.trans lw1) trivial
      try have nR2 := hR.ne kb1
      try replace hR := hR.later lw1
      refine s_box rfl rfl rfl rfl rfl rfl (fun bk2 w2 kb2 lw2 => ?_)
      have kz3 := Nat.le_trans pz.1.size kb2
      replace pz := And.intro (pz.1.trans lw2) trivial
      try have nR3 := hR.ne kb2
      try replace hR := hR.later lw2
      refine s_assign rfl rfl rfl rfl ?_
      refine vOrd_nil ?_
      refine Wp.seq ?_
      refine Wp.region [0, 1, 2, 3, 4, 5, 6, 7, 8, 9, 10, 11] (by kernel_rfl) (by kernel_rfl) ?_
      refine s_field 0 rfl rfl rfl rfl rfl ?_
      refine s_load rfl rfl rfl rfl rfl rfl rfl ?_
      refine s_field 1 rfl rfl rfl rfl rfl ?_
      refine s_load rfl rfl rfl rfl rfl rfl rfl ?_
      refine s_field 2 rfl rfl rfl rfl rfl ?_
      refine s_load rfl rfl rfl rfl rfl rfl rfl ?_
      refine s_callT rfl rfl rfl (by kernel_rfl) rfl (pnew_yes l hlc hd ho hm (hv.later pz.1)) ?_
      rintro v w3 ⟨b1, bs1, rfl, hb1, hR⟩ lw3
      replace pz := And.intro (pz.1.trans lw3) trivial
      try replace hR := hR.later lw3
      refine s_move rfl rfl rfl rfl ?_
      refine s_extract rfl rfl rfl rfl rfl ?_
      refine s_extract rfl rfl rfl rfl rfl ?_
      refine s_assign rfl rfl rfl rfl ?_
      refine s_assign rfl rfl rfl rfl ?_
      refine vOrd_nil ?_
      refine Wp.seq ?_
      refine Wp.seq ?_
      refine Wp.region [0, 1] (by kernel_rfl) (by kernel_rfl) ?_
      refine s_move rfl rfl rfl rfl ?_
      refine f_neq rfl rfl rfl rfl rfl (by omega) ?_
      refine vOrd_nil ?_
      refine Wp.condF rfl rfl ?_
      refine Wp.skip ?_
      refine Wp.seq ?_
      refine Wp.region [0, 1, 2, 3, 4, 5, 6, 7, 8] (by kernel_rfl) (by kernel_rfl) ?_
      refine s_move rfl rfl rfl rfl ?_
      refine s_load rfl rfl rfl rfl rfl rfl rfl ?_
      refine s_callT rfl rfl rfl (by kernel_rfl) rfl (ptai_any hR hm hd6 hs6 ha6 hcut) ?_
      rintro v w4 ⟨nu, rfl, nh4, nl4, rfl, hn⟩ lw4
      replace pz := And.intro (pz.1.trans lw4) trivial
      try replace hR := hR.later lw4
      rw [hE]
      rw [hZ] at hn
      refine s_move rfl rfl rfl rfl ?_
      refine s_extract rfl rfl rfl rfl rfl ?_
      refine s_extract rfl rfl rfl rfl rfl ?_
      refine s_alloc rfl rfl rfl rfl rfl (fun bk5 w5 kb5 lw5 => ?_)
      have kz7 := Nat.le_trans pz.1.size kb5
      replace pz := And.intro (pz.1.trans lw5) trivial
      try have nR7 := hR.ne kb5
      try replace hR := hR.later lw5
      refine s_store rfl rfl rfl rfl rfl rfl rfl (fun w6 sw6 vw6 => ?_)
      replace pz := And.intro (pz.1.sto sw6 kz7) trivial
      try replace hR := hR.sto sw6 nR7
      refine s_assign rfl rfl rfl rfl ?_
      refine vOrd_nil ?_
      refine Wp.seq ?_
      refine Wp.region [0, 1, 2, 3, 4, 5, 6, 7, 8, 9, 10, 11, 12, 13] (by kernel_rfl) (by kernel_rfl) ?_
      refine s_field 0 rfl rfl rfl rfl rfl ?_
      refine s_load rfl rfl rfl rfl rfl rfl rfl ?_
      refine s_field 1 rfl rfl rfl rfl rfl ?_
      refine s_load rfl rfl rfl rfl rfl rfl rfl ?_
      refine s_field 2 rfl rfl rfl rfl rfl ?_
      refine s_load rfl rfl rfl rfl rfl rfl rfl ?_
      refine s_load rfl rfl rfl rfl rfl rfl rfl ?_
      refine s_callT rfl rfl rfl (by kernel_rfl) rfl (rrtai_any l (hv.later pz.1) hlc hd ho hm hd6 hs6 ha6 hcut) ?_
      rintro v w7 ⟨gb, ga, gl, gc, rfl, hg⟩ lw7
      replace pz := And.intro (pz.1.trans lw7) trivial
      try replace hR := hR.later lw7
      rw [hE]
      rw [hE, hZ] at hg
      refine s_move rfl rfl rfl rfl ?_
      refine s_extract rfl rfl rfl rfl rfl ?_
      refine s_extract rfl rfl rfl rfl rfl ?_
      refine s_alloc rfl rfl rfl rfl rfl (fun bk8 w8 kb8 lw8 => ?_)
      have kz9 := Nat.le_trans pz.1.size kb8
      replace pz := And.intro (pz.1.trans lw8) trivial
      try have nR9 := hR.ne kb8
      try replace hR := hR.later lw8
      refine s_store rfl rfl rfl rfl rfl rfl rfl (fun w9 sw9 vw9 => ?_)
      replace pz := And.intro (pz.1.sto sw9 kz9) trivial
      try replace hR := hR.sto sw9 nR9
      refine s_assign rfl rfl rfl rfl ?_
      refine vOrd_nil ?_
      refine Wp.seq ?_
      refine Wp.seq ?_
      refine Wp.region [0, 1, 2] (by kernel_rfl) (by kernel_rfl) ?_
      refine s_move rfl rfl rfl rfl ?_
      refine s_move rfl rfl rfl rfl ?_
      refine f_neq rfl rfl rfl rfl rfl (by omega) ?_
      refine vOrd_nil ?_
      refine Wp.condF rfl rfl ?_
      refine Wp.skip ?_
      refine Wp.seq ?_
      obtain rfl : Z = 0 := by rw [← hZ]; exact rT_no (by rw [hE]; exact h0)
      refine (Wp.drawn (by kernel_rfl) (by kernel_rfl) [0, 1, 2, 3, 4, 5, 6, 7, 8, 9, 10, 11, 12, 13, 15, 14, 16, 17, 18, 19, 20] [0, 0, 0, 0, 0, 95, 0, 0, 0, 0, 0, 0, 0, 40959, 32767, 0, 0, 0, 0, 0, 0] (by kernel_rfl) (by kernel_rfl) (fun | 0 => fun v _ => v = .bool true | _ => fun _ _ => True) (fun wd ld => ?_))
      replace pz := And.intro (pz.1.trans ld) trivial
      try replace hR := hR.later ld
      refine s_callD rfl rfl rfl (by kernel_rfl) rfl (fun wc lc => rbanswers_any) ?_
      rintro v w10 u10 rfl lw10 mw10
      replace pz := And.intro (pz.1.trans lw10) trivial
      try replace hR := hR.later lw10
      replace pz := And.intro (pz.1.trans mw10) trivial
      try replace hR := hR.later mw10
      refine s_move rfl rfl rfl rfl ?_
      refine s_move rfl rfl rfl rfl ?_
      refine t_neq rfl rfl rfl rfl rfl (by omega) ?_
      refine s_move rfl rfl rfl rfl ?_
      refine s_load rfl rfl rfl rfl rfl rfl rfl ?_
      refine s_build rfl rfl rfl rfl rfl (by kernel_rfl) ?_
      refine s_eqv (c := true) rfl rfl rfl rfl rfl (fun _ => by kernel_rfl) (fun w => by rw [run_eql_wide, eqW_same hn (show WideIs 0 0 0 by unfold WideIs; omega)]) ?_
      refine s_pick rfl rfl rfl rfl rfl ?_
      refine s_move rfl rfl rfl rfl ?_
      refine s_skip rfl rfl rfl ?_
      refine s_skip rfl rfl rfl ?_
      refine s_skip rfl rfl rfl ?_
      refine s_skip rfl rfl rfl ?_
      refine s_skip rfl rfl rfl ?_
      refine s_skip rfl rfl rfl ?_
      refine s_skip rfl rfl rfl ?_
      refine s_skip rfl rfl rfl ?_
      refine s_pick rfl rfl rfl rfl rfl ?_
      refine s_pick rfl rfl rfl rfl rfl ?_
      refine s_assign rfl rfl rfl rfl ?_
      refine vOrd_nil ?_
      refine Wp.ret ⟨.inr rfl, fun lW => ⟨_, res_tmp (P := Try.prog) rfl rfl, _, rfl, ?_, lW⟩⟩
      clear lW
      rfl

set_option maxHeartbeats 2000000 in
theorem law_rblabels (l : List Sg) (hlc : l.length ≤ 9223372036854775807) {day off : Int} (hd : I64 day) (ho : I64 off) {v : Value} {w : World} (hv : SegAt w v l) {nh nl t : Int} (hz : WideIs nh nl t) : Calls Try.prog 6 #[.agg #[v, .int .i64 day, .int .i64 off], .agg #[.int .i64 nh, .int .u64 nl]] w fun e w' => ∃ r, e = .returned r ∧ r = .bool true ∧ Below w.heap.size w w' := by
  obtain ⟨a0, c0, rfl⟩ := hv.form
  have pz : Later w w ∧ True := ⟨Later.refl w, trivial⟩
  cases hm : mayS l day off with
  | false =>
    refine calls_Wp (args := [_, _]) (n := 53) Try.func6 rfl rfl (by simp) ?_
    refine Wp.seq ?_
    refine Wp.region [0, 1, 2] (by kernel_rfl) (by kernel_rfl) ?_
    refine s_box rfl rfl rfl rfl rfl rfl (fun bk1 w1 kb1 lw1 => ?_)
    have kz2 := Nat.le_trans pz.1.size kb1
    replace pz := And.intro (pz.1.trans lw1) trivial
    try have nR2 := hR.ne kb1
    try replace hR := hR.later lw1
    refine s_box rfl rfl rfl rfl rfl rfl (fun bk2 w2 kb2 lw2 => ?_)
    have kz3 := Nat.le_trans pz.1.size kb2
    replace pz := And.intro (pz.1.trans lw2) trivial
    try have nR3 := hR.ne kb2
    try replace hR := hR.later lw2
    refine s_assign rfl rfl rfl rfl ?_
    refine vOrd_nil ?_
    refine Wp.seq ?_
    refine Wp.region [0, 1, 2, 3, 4, 5, 6, 7, 8, 9, 10, 11] (by kernel_rfl) (by kernel_rfl) ?_
    refine s_field 0 rfl rfl rfl rfl rfl ?_
    refine s_load rfl rfl rfl rfl rfl rfl rfl ?_
    refine s_field 1 rfl rfl rfl rfl rfl ?_
    refine s_load rfl rfl rfl rfl rfl rfl rfl ?_
    refine s_field 2 rfl rfl rfl rfl rfl ?_
    refine s_load rfl rfl rfl rfl rfl rfl rfl ?_
    refine s_callT rfl rfl rfl (by kernel_rfl) rfl (pnew_no l hlc hd ho hm (hv.later pz.1)) ?_
    rintro v w3 rfl lw3
    replace pz := And.intro (pz.1.trans lw3) trivial
    try replace hR := hR.later lw3
    refine s_move rfl rfl rfl rfl ?_
    refine s_extract rfl rfl rfl rfl rfl ?_
    refine s_extract rfl rfl rfl rfl rfl ?_
    refine s_assign rfl rfl rfl rfl ?_
    refine s_assign rfl rfl rfl rfl ?_
    refine vOrd_nil ?_
    refine Wp.seq ?_
    refine Wp.seq ?_
    refine Wp.region [0, 1] (by kernel_rfl) (by kernel_rfl) ?_
    refine s_move rfl rfl rfl rfl ?_
    refine t_neq rfl rfl rfl rfl rfl (by omega) ?_
    refine vOrd_nil ?_
    refine Wp.condT rfl rfl ?_
    refine Wp.seq ?_
    refine Wp.region [0, 1] (by kernel_rfl) (by kernel_rfl) ?_
    refine s_callT rfl rfl rfl (by kernel_rfl) rfl (rbanswers_any) ?_
    rintro v w4 rfl lw4
    replace pz := And.intro (pz.1.trans lw4) trivial
    try replace hR := hR.later lw4
    refine s_assign rfl rfl rfl rfl ?_
    refine vOrd_nil ?_
    refine Wp.ret ⟨.inr rfl, fun lW => ⟨_, res_tmp (P := Try.prog) rfl rfl, _, rfl, ?_, lW⟩⟩
    clear lW
    rfl
  | true =>
    obtain ⟨K, hcut⟩ := cutS_at hm t
    obtain ⟨lu, hlu⟩ : ∃ lu, lU l day off K t = lu := ⟨_, rfl⟩
    obtain ⟨x, y, q, hxyz⟩ : ∃ x y q, lu = .agg #[.int .i64 x, .int .i64 y, .int .i64 q] := ⟨_, _, _, hlu.symm⟩
    subst hxyz
    refine calls_Wp (args := [_, _]) (n := 53) Try.func6 rfl rfl (by simp) ?_
    refine Wp.seq ?_
    refine Wp.region [0, 1, 2] (by kernel_rfl) (by kernel_rfl) ?_
    refine s_box rfl rfl rfl rfl rfl rfl (fun bk1 w1 kb1 lw1 => ?_)
    have kz2 := Nat.le_trans pz.1.size kb1
    replace pz := And.intro (pz.1.trans lw1) trivial
    try have nR2 := hR.ne kb1
    try replace hR := hR.later lw1
    refine s_box rfl rfl rfl rfl rfl rfl (fun bk2 w2 kb2 lw2 => ?_)
    have kz3 := Nat.le_trans pz.1.size kb2
    replace pz := And.intro (pz.1.trans lw2) trivial
    try have nR3 := hR.ne kb2
    try replace hR := hR.later lw2
    refine s_assign rfl rfl rfl rfl ?_
    refine vOrd_nil ?_
    refine Wp.seq ?_
    refine Wp.region [0, 1, 2, 3, 4, 5, 6, 7, 8, 9, 10, 11] (by kernel_rfl) (by kernel_rfl) ?_
    refine s_field 0 rfl rfl rfl rfl rfl ?_
    refine s_load rfl rfl rfl rfl rfl rfl rfl ?_
    refine s_field 1 rfl rfl rfl rfl rfl ?_
    refine s_load rfl rfl rfl rfl rfl rfl rfl ?_
    refine s_field 2 rfl rfl rfl rfl rfl ?_
    refine s_load rfl rfl rfl rfl rfl rfl rfl ?_
    refine s_callT rfl rfl rfl (by kernel_rfl) rfl (pnew_yes l hlc hd ho hm (hv.later pz.1)) ?_
    rintro v w3 ⟨b1, bs1, rfl, hb1, hR⟩ lw3
    replace pz := And.intro (pz.1.trans lw3) trivial
    try replace hR := hR.later lw3
    refine s_move rfl rfl rfl rfl ?_
    refine s_extract rfl rfl rfl rfl rfl ?_
    refine s_extract rfl rfl rfl rfl rfl ?_
    refine s_assign rfl rfl rfl rfl ?_
    refine s_assign rfl rfl rfl rfl ?_
    refine vOrd_nil ?_
    refine Wp.seq ?_
    refine Wp.seq ?_
    refine Wp.region [0, 1] (by kernel_rfl) (by kernel_rfl) ?_
    refine s_move rfl rfl rfl rfl ?_
    refine f_neq rfl rfl rfl rfl rfl (by omega) ?_
    refine vOrd_nil ?_
    refine Wp.condF rfl rfl ?_
    refine Wp.skip ?_
    refine Wp.seq ?_
    refine Wp.region [0, 1, 2, 3, 4, 5, 6, 7, 8] (by kernel_rfl) (by kernel_rfl) ?_
    refine s_move rfl rfl rfl rfl ?_
    refine s_load rfl rfl rfl rfl rfl rfl rfl ?_
    refine s_callT rfl rfl rfl (by kernel_rfl) rfl (plabel_any hR hm ⟨_, _, rfl, hz⟩ hcut) ?_
    rintro v w4 rfl lw4
    replace pz := And.intro (pz.1.trans lw4) trivial
    try replace hR := hR.later lw4
    rw [hlu]
    refine s_move rfl rfl rfl rfl ?_
    refine s_extract rfl rfl rfl rfl rfl ?_
    refine s_extract rfl rfl rfl rfl rfl ?_
    refine s_alloc rfl rfl rfl rfl rfl (fun bk5 w5 kb5 lw5 => ?_)
    have kz7 := Nat.le_trans pz.1.size kb5
    replace pz := And.intro (pz.1.trans lw5) trivial
    try have nR7 := hR.ne kb5
    try replace hR := hR.later lw5
    refine s_store rfl rfl rfl rfl rfl rfl rfl (fun w6 sw6 vw6 => ?_)
    replace pz := And.intro (pz.1.sto sw6 kz7) trivial
    try replace hR := hR.sto sw6 nR7
    refine s_assign rfl rfl rfl rfl ?_
    refine vOrd_nil ?_
    refine Wp.seq ?_
    refine (Wp.drawn (by kernel_rfl) (by kernel_rfl) [0, 1, 2, 3, 4, 5, 6, 12, 7, 8, 9, 10, 11, 13, 14] [4348, 4349, 4339, 4343, 4303, 4319, 4159, 4095, 0, 0, 0, 7167, 14335, 0, 0] (by kernel_rfl) (by kernel_rfl) (fun | 7 => IsBig 11 t | 8 => fun v _ => v = .tuple #[lU l day off K t, .int .i64 (lE l day off K t)] | _ => fun _ _ => True) (fun wd ld => ?_))
    replace pz := And.intro (pz.1.trans ld) trivial
    try replace hR := hR.later ld
    refine s_field 0 rfl rfl rfl rfl rfl ?_
    refine s_load rfl rfl rfl rfl rfl rfl rfl ?_
    refine s_field 1 rfl rfl rfl rfl rfl ?_
    refine s_load rfl rfl rfl rfl rfl rfl rfl ?_
    refine s_field 2 rfl rfl rfl rfl rfl ?_
    refine s_load rfl rfl rfl rfl rfl rfl rfl ?_
    refine s_load rfl rfl rfl rfl rfl rfl rfl ?_
    refine s_alloc rfl rfl rfl rfl rfl (fun bk7 w7 kb7 lw7 => ?_)
    have kz9 := Nat.le_trans pz.1.size kb7
    replace pz := And.intro (pz.1.trans lw7) trivial
    try have nR9 := hR.ne kb7
    try replace hR := hR.later lw7
    refine s_callD rfl rfl rfl (by kernel_rfl) rfl (fun wc lc => c_rof ⟨_, _, rfl, hz⟩ wc) ?_
    rintro v w8 u8 hr lw8 mw8
    replace pz := And.intro (pz.1.trans lw8) trivial
    try replace hR := hR.later lw8
    replace pz := And.intro (pz.1.trans mw8) trivial
    try replace hR := hR.later mw8
    obtain ⟨hra, hrl, hrc, rfl, -⟩ := id hr
    refine s_callD rfl rfl rfl (by kernel_rfl) rfl (fun wc lc => rrlabel_any l (hv.later (pz.1.trans lc)) hlc hd ho hm (hr.keeps (by repeat (first | exact Keeps.refl _ | refine Keeps.trans ?_ (Keeps.later (by assumption)) | refine Keeps.trans ?_ (Keeps.stored (by assumption) (by assumption) rfl) | refine Keeps.trans ?_ (Keeps.fresh (by assumption) (by assumption) (by assumption))))) (by decide) hcut) ?_
    rintro v w9 u9 rfl lw9 mw9
    replace pz := And.intro (pz.1.trans lw9) trivial
    try replace hR := hR.later lw9
    replace pz := And.intro (pz.1.trans mw9) trivial
    try replace hR := hR.later mw9
    rw [hlu]
    refine s_move rfl rfl rfl rfl ?_
    refine s_extract rfl rfl rfl rfl rfl ?_
    refine s_extract rfl rfl rfl rfl rfl ?_
    refine s_store rfl rfl rfl rfl rfl rfl rfl (fun w10 sw10 vw10 => ?_)
    replace pz := And.intro (pz.1.sto sw10 kz9) trivial
    try replace hR := hR.sto sw10 nR9
    refine s_assign rfl rfl rfl rfl ?_
    refine vOrd_nil ?_
    refine Wp.seq ?_
    refine Wp.region [0, 1, 2, 3, 4, 5, 6, 7, 8, 9, 10, 11] (by kernel_rfl) (by kernel_rfl) ?_
    refine s_callT rfl rfl rfl (by kernel_rfl) rfl (rbanswers_any) ?_
    rintro v w11 rfl lw11
    replace pz := And.intro (pz.1.trans lw11) trivial
    try replace hR := hR.later lw11
    refine s_move rfl rfl rfl rfl ?_
    refine s_load rfl rfl rfl rfl rfl rfl rfl ?_
    refine s_load rfl rfl rfl rfl rfl rfl rfl ?_
    refine s_eqv (c := true) rfl rfl rfl rfl rfl (fun _ => by kernel_rfl) (fun w => by rw [run_eql_label, eqD_same]) ?_
    refine s_pick rfl rfl rfl rfl rfl ?_
    refine s_move rfl rfl rfl rfl ?_
    refine s_move rfl rfl rfl rfl ?_
    refine s_move rfl rfl rfl rfl ?_
    refine t_eql rfl rfl rfl rfl rfl (by rfl) ?_
    refine s_pick rfl rfl rfl rfl rfl ?_
    refine s_assign rfl rfl rfl rfl ?_
    refine vOrd_nil ?_
    refine Wp.ret ⟨.inr rfl, fun lW => ⟨_, res_tmp (P := Try.prog) rfl rfl, _, rfl, ?_, lW⟩⟩
    clear lW
    rfl

end Go.Proofs.Ytokpneglldfmjaa
