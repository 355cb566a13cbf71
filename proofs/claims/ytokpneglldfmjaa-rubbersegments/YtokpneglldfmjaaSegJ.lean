/-
  Rates of old: the walk of the law RubberSegments of layer 14.
-/
import Derived.Test.YtokpneglldfmjaaSegL
namespace Go.Proofs.Ytokpneglldfmjaa
open Go.RowKit
set_option maxRecDepth 100000

theorem run_neq_seg (a b c d : Int) (w : World) : (binOp .neq 25 (.agg #[.int .i64 a, .int .i64 b, .int .i64 c, .int .i64 d]) (.agg #[.int .i64 a, .int .i64 b, .int .i64 c, .int .i64 d])).run Try.prog w = .ok (.bool false) w := by
  simp [go_sem]

set_option maxHeartbeats 2000000 in
theorem law_rbsegs {day off : Int} (hd : I64 day) (ho : I64 off) {w : World} : Calls Try.prog 3 #[.int .i64 day, .int .i64 off] w fun e w' => ∃ r, e = .returned r ∧ r = .bool true ∧ Below w.heap.size w w' := by
  have pz : Later w w ∧ True := ⟨Later.refl w, trivial⟩
  cases hm : mayS pubS day off with
  | false =>
    refine calls_Wp (args := [_, _]) (n := 49) Try.func3 rfl rfl (by simp) ?_
    refine Wp.seq ?_
    refine Wp.region [0] (by kernel_rfl) (by kernel_rfl) ?_
    refine s_assign rfl rfl rfl rfl ?_
    refine vOrd_nil ?_
    refine Wp.seq ?_
    refine Wp.region [0, 1, 2, 3] (by kernel_rfl) (by kernel_rfl) ?_
    refine s_callT rfl rfl rfl (by kernel_rfl) rfl (psegs_any) ?_
    rintro v w1 ⟨sc, rfl, hsc, hsv⟩ lw1
    replace pz := And.intro (pz.1.trans lw1) trivial
    try replace hR := hR.later lw1
    try replace hA := hA.later lw1
    try replace hB := hB.later lw1
    have hA := pub_at hsv
    refine s_callT rfl rfl rfl (by kernel_rfl) rfl (rsegs_any) ?_
    rintro v w2 ⟨rc, rp, rfl, hB⟩ lw2
    replace pz := And.intro (pz.1.trans lw2) trivial
    try replace hR := hR.later lw2
    try replace hA := hA.later lw2
    try replace hB := hB.later lw2
    refine s_assign rfl rfl rfl rfl ?_
    refine s_assign rfl rfl rfl rfl ?_
    refine vOrd_nil ?_
    refine Wp.seq ?_
    refine Wp.seq ?_
    refine Wp.region [0, 1, 2, 3, 4] (by kernel_rfl) (by kernel_rfl) ?_
    refine s_move rfl rfl rfl rfl ?_
    refine x_len rfl rfl rfl rfl rfl ?_
    refine s_move rfl rfl rfl rfl ?_
    refine x_len rfl rfl rfl rfl rfl ?_
    refine f_neq rfl rfl rfl rfl rfl (by rfl) ?_
    refine vOrd_nil ?_
    refine Wp.condF rfl rfl ?_
    refine Wp.skip ?_
    refine Wp.seq ?_
    refine Wp.seq ?_
    refine Wp.region [0] (by kernel_rfl) (by kernel_rfl) ?_
    refine s_assign rfl rfl rfl rfl ?_
    refine vOrd_nil ?_
    refine Wp.block ?_
    refine Wp.loop (fun k st W => ∃ (i : Nat) (p : Int), st = St.of [(0, .v (.int .i64 day)), (1, .v (.int .i64 off)), (5, .v (.slice (some ⟨sc, 0, none⟩) 13 13)), (6, .v (.slice (some ⟨rc, 0, none⟩) 13 rp)), (7, .v (.int .i64 p))] [] ∧ p = i ∧ i ≤ 13 ∧ SegAt W (.slice (some ⟨sc, 0, none⟩) 13 13) pubS ∧ SegAt W (.slice (some ⟨rc, 0, none⟩) 13 rp) pubS ∧ k = 13 - i) ?_ ?_
    · exact ⟨_, _, (St.of_le' (env := [(0, .v _), (1, .v _), (5, .v _), (6, .v _), (7, .v _)]) (mem := []) ⟨rfl, rfl, rfl, rfl, rfl, trivial⟩ trivial), 0, _, rfl, rfl, Nat.zero_le _, hA, hB, rfl⟩
    · rintro k st w3 ⟨i, p, rfl, hp, hi, hA, hB, rfl⟩
      refine Wp.seq ?_
      refine Wp.seq ?_
      refine Wp.old (fun lq => ?_)
      replace pz := And.intro lq trivial
      clear lq
      refine Wp.region [0, 1, 2, 3] (by kernel_rfl) (by kernel_rfl) ?_
      refine s_move rfl rfl rfl rfl ?_
      refine s_move rfl rfl rfl rfl ?_
      refine x_len rfl rfl rfl rfl rfl ?_
      refine p_lss rfl rfl rfl rfl rfl (fun h20 => ?_) (fun h20 => ?_)
      · refine vOrd_nil ?_
        refine Wp.condT rfl rfl ?_
        refine Wp.skip ?_
        refine Wp.seq ?_
        refine Wp.block ?_
        refine Wp.seq ?_
        subst hp
        obtain ⟨x, hx⟩ : ∃ x, pubS[i]? = some x := ⟨_, List.getElem?_eq_getElem (by rw [pub_len]; omega)⟩
        refine (Wp.drawn (by kernel_rfl) (by kernel_rfl) [0, 1, 2, 3, 4, 5, 6, 7, 8] [242, 241, 243, 247, 47, 0, 0, 0, 0] (by kernel_rfl) (by kernel_rfl) (fun _ _ _ => True) (fun wd ld => ?_))
        replace pz := And.intro (pz.1.trans ld) trivial
        try replace hR := hR.later ld
        try replace hA := hA.later ld
        try replace hB := hB.later ld
        obtain ⟨_, _, ea, ka⟩ := seg_at (l := pubS) hA (by decide)
        cases ea
        obtain ⟨ka1, ka2, ka3, ka4⟩ := ka i x hx
        obtain ⟨_, _, eb, kb⟩ := seg_at (l := pubS) hB (by decide)
        cases eb
        obtain ⟨kb1, kb2, kb3, kb4⟩ := kb i x hx
        refine s_move rfl rfl rfl rfl ?_
        refine s_move rfl rfl rfl rfl ?_
        refine s_idx (sz := 4) (0 + i * 4) rfl rfl rfl rfl rfl rfl rfl (by omega) (by omega) (by omega) ?_
        refine x_ldA [.int .i64 x.d, .int .i64 x.b, .int .i64 x.f, .int .i64 x.r] rfl rfl rfl rfl rfl rfl (World.block_lt_of_cell? _ _ ka1) (fun j u hj => ?_) ?_
        · match j, hj with
          | 0, hj => cases hj; exact ka1
          | 1, hj => cases hj; exact ka2
          | 2, hj => cases hj; exact ka3
          | 3, hj => cases hj; exact ka4
        refine s_move rfl rfl rfl rfl ?_
        refine s_move rfl rfl rfl rfl ?_
        refine s_idx (sz := 4) (0 + i * 4) rfl rfl rfl rfl rfl rfl rfl (by omega) (by omega) (by omega) ?_
        refine x_ldA [.int .i64 x.d, .int .i64 x.b, .int .i64 x.f, .int .i64 x.r] rfl rfl rfl rfl rfl rfl (World.block_lt_of_cell? _ _ kb1) (fun j u hj => ?_) ?_
        · match j, hj with
          | 0, hj => cases hj; exact kb1
          | 1, hj => cases hj; exact kb2
          | 2, hj => cases hj; exact kb3
          | 3, hj => cases hj; exact kb4
        refine s_eqv (c := false) rfl rfl rfl rfl rfl (fun _ => by kernel_rfl) (fun w => run_neq_seg _ _ _ _ w) ?_
        refine vOrd_nil ?_
        refine Wp.condF rfl rfl ?_
        refine Wp.skip ?_
        refine Wp.region [0, 1, 2] (by kernel_rfl) (by kernel_rfl) ?_
        refine s_move rfl rfl rfl rfl ?_
        refine a_add (-9223372036854775808) 9223372036854775807 (by decide) rfl rfl rfl rfl rfl (by omega) (by omega) ?_
        refine s_assign rfl rfl rfl rfl ?_
        refine vOrd_nil ?_
        exact ⟨_, _, by omega, (St.of_le' (env := [(0, .v _), (1, .v _), (5, .v _), (6, .v _), (7, .v _)]) (mem := []) ⟨rfl, rfl, rfl, rfl, rfl, trivial⟩ trivial), i + 1, _, rfl, by omega, by omega, hA, hB, rfl⟩
      · refine vOrd_nil ?_
        refine Wp.condF rfl rfl ?_
        refine Wp.exit ?_
        refine Wp.seq ?_
        refine Wp.region [0, 1, 2, 3, 4, 5, 6, 7, 8] (by kernel_rfl) (by kernel_rfl) ?_
        refine s_move rfl rfl rfl rfl ?_
        refine s_move rfl rfl rfl rfl ?_
        refine s_move rfl rfl rfl rfl ?_
        refine s_callT rfl rfl rfl (by kernel_rfl) rfl (pnew_no pubS (by decide) hd ho hm hA) ?_
        rintro v w19 rfl lw19
        replace pz := And.intro (pz.1.trans lw19) trivial
        try replace hR := hR.later lw19
        try replace hA := hA.later lw19
        try replace hB := hB.later lw19
        refine s_move rfl rfl rfl rfl ?_
        refine s_extract rfl rfl rfl rfl rfl ?_
        refine s_extract rfl rfl rfl rfl rfl ?_
        refine s_assign rfl rfl rfl rfl ?_
        refine s_assign rfl rfl rfl rfl ?_
        refine vOrd_nil ?_
        refine Wp.seq ?_
        refine Wp.region [0, 1, 2, 3, 4, 5, 6, 7, 8, 9, 10] (by kernel_rfl) (by kernel_rfl) ?_
        refine s_callT rfl rfl rfl (by kernel_rfl) rfl (rbanswers_any) ?_
        rintro v w20 rfl lw20
        replace pz := And.intro (pz.1.trans lw20) trivial
        try replace hR := hR.later lw20
        try replace hA := hA.later lw20
        try replace hB := hB.later lw20
        refine s_move rfl rfl rfl rfl ?_
        refine s_move rfl rfl rfl rfl ?_
        refine f_eql rfl rfl rfl rfl rfl (by omega) ?_
        refine s_move rfl rfl rfl rfl ?_
        refine s_move rfl rfl rfl rfl ?_
        refine s_move rfl rfl rfl rfl ?_
        refine s_callT rfl rfl rfl (by kernel_rfl) rfl (rmay_any pubS hB (by decide) hd ho) ?_
        rintro v w21 rfl lw21
        replace pz := And.intro (pz.1.trans lw21) trivial
        try replace hR := hR.later lw21
        try replace hA := hA.later lw21
        try replace hB := hB.later lw21
        rw [hm]
        refine s_eqv (c := true) rfl rfl rfl rfl rfl (fun _ => by kernel_rfl) (fun w => by rw [run_eql_bool]; rfl) ?_
        refine s_pick rfl rfl rfl rfl rfl ?_
        refine s_assign rfl rfl rfl rfl ?_
        refine vOrd_nil ?_
        refine Wp.ret ⟨.inr rfl, fun lW => ⟨_, res_tmp (P := Try.prog) rfl rfl, _, rfl, ?_, lW⟩⟩
        clear lW
        rfl
  | true =>
    refine calls_Wp (args := [_, _]) (n := 49) Try.func3 rfl rfl (by simp) ?_
    refine Wp.seq ?_
    refine Wp.region [0] (by kernel_rfl) (by kernel_rfl) ?_
    refine s_assign rfl rfl rfl rfl ?_
    refine vOrd_nil ?_
    refine Wp.seq ?_
    refine Wp.region [0, 1, 2, 3] (by kernel_rfl) (by kernel_rfl) ?_
    refine s_callT rfl rfl rfl (by kernel_rfl) rfl (psegs_any) ?_
    rintro v w1 ⟨sc, rfl, hsc, hsv⟩ lw1
    replace pz := And.intro (pz.1.trans lw1) trivial
    try replace hR := hR.later lw1
    try replace hA := hA.later lw1
    try replace hB := hB.later lw1
    have hA := pub_at hsv
    refine s_callT rfl rfl rfl (by kernel_rfl) rfl (rsegs_any) ?_
    rintro v w2 ⟨rc, rp, rfl, hB⟩ lw2
    replace pz := And.intro (pz.1.trans lw2) trivial
    try replace hR := hR.later lw2
    try replace hA := hA.later lw2
    try replace hB := hB.later lw2
    refine s_assign rfl rfl rfl rfl ?_
    refine s_assign rfl rfl rfl rfl ?_
    refine vOrd_nil ?_
    refine Wp.seq ?_
    refine Wp.seq ?_
    refine Wp.region [0, 1, 2, 3, 4] (by kernel_rfl) (by kernel_rfl) ?_
    refine s_move rfl rfl rfl rfl ?_
    refine x_len rfl rfl rfl rfl rfl ?_
    refine s_move rfl rfl rfl rfl ?_
    refine x_len rfl rfl rfl rfl rfl ?_
    refine f_neq rfl rfl rfl rfl rfl (by rfl) ?_
    refine vOrd_nil ?_
    refine Wp.condF rfl rfl ?_
    refine Wp.skip ?_
    refine Wp.seq ?_
    refine Wp.seq ?_
    refine Wp.region [0] (by kernel_rfl) (by kernel_rfl) ?_
    refine s_assign rfl rfl rfl rfl ?_
    refine vOrd_nil ?_
    refine Wp.block ?_
    refine Wp.loop (fun k st W => ∃ (i : Nat) (p : Int), st = St.of [(0, .v (.int .i64 day)), (1, .v (.int .i64 off)), (5, .v (.slice (some ⟨sc, 0, none⟩) 13 13)), (6, .v (.slice (some ⟨rc, 0, none⟩) 13 rp)), (7, .v (.int .i64 p))] [] ∧ p = i ∧ i ≤ 13 ∧ SegAt W (.slice (some ⟨sc, 0, none⟩) 13 13) pubS ∧ SegAt W (.slice (some ⟨rc, 0, none⟩) 13 rp) pubS ∧ k = 13 - i) ?_ ?_
    · exact ⟨_, _, (St.of_le' (env := [(0, .v _), (1, .v _), (5, .v _), (6, .v _), (7, .v _)]) (mem := []) ⟨rfl, rfl, rfl, rfl, rfl, trivial⟩ trivial), 0, _, rfl, rfl, Nat.zero_le _, hA, hB, rfl⟩
    · rintro k st w3 ⟨i, p, rfl, hp, hi, hA, hB, rfl⟩
      refine Wp.seq ?_
      refine Wp.seq ?_
      refine Wp.old (fun lq => ?_)
      replace pz := And.intro lq trivial
      clear lq
      refine Wp.region [0, 1, 2, 3] (by kernel_rfl) (by kernel_rfl) ?_
      refine s_move rfl rfl rfl rfl ?_
      refine s_move rfl rfl rfl rfl ?_
      refine x_len rfl rfl rfl rfl rfl ?_
      refine p_lss rfl rfl rfl rfl rfl (fun h20 => ?_) (fun h20 => ?_)
      · refine vOrd_nil ?_
        refine Wp.condT rfl rfl ?_
        refine Wp.skip ?_
        refine Wp.seq ?_
        refine Wp.block ?_
        refine Wp.seq ?_
        subst hp
        obtain ⟨x, hx⟩ : ∃ x, pubS[i]? = some x := ⟨_, List.getElem?_eq_getElem (by rw [pub_len]; omega)⟩
        refine (Wp.drawn (by kernel_rfl) (by kernel_rfl) [0, 1, 2, 3, 4, 5, 6, 7, 8] [242, 241, 243, 247, 47, 0, 0, 0, 0] (by kernel_rfl) (by kernel_rfl) (fun _ _ _ => True) (fun wd ld => ?_))
        replace pz := And.intro (pz.1.trans ld) trivial
        try replace hR := hR.later ld
        try replace hA := hA.later ld
        try replace hB := hB.later ld
        obtain ⟨_, _, ea, ka⟩ := seg_at (l := pubS) hA (by decide)
        cases ea
        obtain ⟨ka1, ka2, ka3, ka4⟩ := ka i x hx
        obtain ⟨_, _, eb, kb⟩ := seg_at (l := pubS) hB (by decide)
        cases eb
        obtain ⟨kb1, kb2, kb3, kb4⟩ := kb i x hx
        refine s_move rfl rfl rfl rfl ?_
        refine s_move rfl rfl rfl rfl ?_
        refine s_idx (sz := 4) (0 + i * 4) rfl rfl rfl rfl rfl rfl rfl (by omega) (by omega) (by omega) ?_
        refine x_ldA [.int .i64 x.d, .int .i64 x.b, .int .i64 x.f, .int .i64 x.r] rfl rfl rfl rfl rfl rfl (World.block_lt_of_cell? _ _ ka1) (fun j u hj => ?_) ?_
        · match j, hj with
          | 0, hj => cases hj; exact ka1
          | 1, hj => cases hj; exact ka2
          | 2, hj => cases hj; exact ka3
          | 3, hj => cases hj; exact ka4
        refine s_move rfl rfl rfl rfl ?_
        refine s_move rfl rfl rfl rfl ?_
        refine s_idx (sz := 4) (0 + i * 4) rfl rfl rfl rfl rfl rfl rfl (by omega) (by omega) (by omega) ?_
        refine x_ldA [.int .i64 x.d, .int .i64 x.b, .int .i64 x.f, .int .i64 x.r] rfl rfl rfl rfl rfl rfl (World.block_lt_of_cell? _ _ kb1) (fun j u hj => ?_) ?_
        · match j, hj with
          | 0, hj => cases hj; exact kb1
          | 1, hj => cases hj; exact kb2
          | 2, hj => cases hj; exact kb3
          | 3, hj => cases hj; exact kb4
        refine s_eqv (c := false) rfl rfl rfl rfl rfl (fun _ => by kernel_rfl) (fun w => run_neq_seg _ _ _ _ w) ?_
        refine vOrd_nil ?_
        refine Wp.condF rfl rfl ?_
        refine Wp.skip ?_
        refine Wp.region [0, 1, 2] (by kernel_rfl) (by kernel_rfl) ?_
        refine s_move rfl rfl rfl rfl ?_
        refine a_add (-9223372036854775808) 9223372036854775807 (by decide) rfl rfl rfl rfl rfl (by omega) (by omega) ?_
        refine s_assign rfl rfl rfl rfl ?_
        refine vOrd_nil ?_
        exact ⟨_, _, by omega, (St.of_le' (env := [(0, .v _), (1, .v _), (5, .v _), (6, .v _), (7, .v _)]) (mem := []) ⟨rfl, rfl, rfl, rfl, rfl, trivial⟩ trivial), i + 1, _, rfl, by omega, by omega, hA, hB, rfl⟩
      · refine vOrd_nil ?_
        refine Wp.condF rfl rfl ?_
        refine Wp.exit ?_
        refine Wp.seq ?_
        refine Wp.region [0, 1, 2, 3, 4, 5, 6, 7, 8] (by kernel_rfl) (by kernel_rfl) ?_
        refine s_move rfl rfl rfl rfl ?_
        refine s_move rfl rfl rfl rfl ?_
        refine s_move rfl rfl rfl rfl ?_
        refine s_callT rfl rfl rfl (by kernel_rfl) rfl (pnew_yes pubS (by decide) hd ho hm hA) ?_
        rintro v w19 ⟨b1, bs1, rfl, hb1, hR⟩ lw19
        replace pz := And.intro (pz.1.trans lw19) trivial
        try replace hR := hR.later lw19
        try replace hA := hA.later lw19
        try replace hB := hB.later lw19
        refine s_move rfl rfl rfl rfl ?_
        refine s_extract rfl rfl rfl rfl rfl ?_
        refine s_extract rfl rfl rfl rfl rfl ?_
        refine s_assign rfl rfl rfl rfl ?_
        refine s_assign rfl rfl rfl rfl ?_
        refine vOrd_nil ?_
        refine Wp.seq ?_
        refine Wp.region [0, 1, 2, 3, 4, 5, 6, 7, 8, 9, 10] (by kernel_rfl) (by kernel_rfl) ?_
        refine s_callT rfl rfl rfl (by kernel_rfl) rfl (rbanswers_any) ?_
        rintro v w20 rfl lw20
        replace pz := And.intro (pz.1.trans lw20) trivial
        try replace hR := hR.later lw20
        try replace hA := hA.later lw20
        try replace hB := hB.later lw20
        refine s_move rfl rfl rfl rfl ?_
        refine s_move rfl rfl rfl rfl ?_
        refine t_eql rfl rfl rfl rfl rfl (by omega) ?_
        refine s_move rfl rfl rfl rfl ?_
        refine s_move rfl rfl rfl rfl ?_
        refine s_move rfl rfl rfl rfl ?_
        refine s_callT rfl rfl rfl (by kernel_rfl) rfl (rmay_any pubS hB (by decide) hd ho) ?_
        rintro v w21 rfl lw21
        replace pz := And.intro (pz.1.trans lw21) trivial
        try replace hR := hR.later lw21
        try replace hA := hA.later lw21
        try replace hB := hB.later lw21
        rw [hm]
        refine s_eqv (c := true) rfl rfl rfl rfl rfl (fun _ => by kernel_rfl) (fun w => by rw [run_eql_bool]; rfl) ?_
        refine s_pick rfl rfl rfl rfl rfl ?_
        refine s_assign rfl rfl rfl rfl ?_
        refine vOrd_nil ?_
        refine Wp.ret ⟨.inr rfl, fun lW => ⟨_, res_tmp (P := Try.prog) rfl rfl, _, rfl, ?_, lW⟩⟩
        clear lW
        rfl

end Go.Proofs.Ytokpneglldfmjaa
