/-
  Rates of old: the walk of the law RubberNone of layer 14.
-/
import Derived.Test.YtokpneglldfmjaaSegL
namespace Go.Proofs.Ytokpneglldfmjaa
open Go.RowKit
set_option maxRecDepth 100000

theorem write_len {P : Program} {t : TypeId} {cs : List Value} {off n : Nat} {v : Value} (hs : (P.info? t).map (·.size) = some n) (hv : v.cells.size = n) (h1 : v.cells.toList.all (·.oneCell') = true) (ho : off + n ≤ cs.length) : ∃ cs', writeOf P t cs off v = some cs' ∧ cs'.length = cs.length := by
  unfold writeOf
  cases hp : P.info? t with
  | none => rw [hp] at hs; cases hs
  | some i =>
    rw [hp] at hs
    simp only [Option.map_some, Option.some.injEq] at hs
    subst hs
    simp only
    rw [if_pos ⟨hv, ho, h1⟩]
    split
    · rename_i h
      exact ⟨_, rfl, by rw [Array.length_toList]; omega⟩
    · refine ⟨_, rfl, ?_⟩
      simp only [List.length_append, List.length_take, List.length_drop, Array.length_toList]
      omega
theorem may_nil (day off : Int) : mayS [] day off = false := by
  rw [Bool.eq_false_iff]
  intro q
  have := (may0_iff.1 (may_spec.1 q).1).1
  simp at this
theorem seg_src {w : World} {ab ao c0 : Nat} {l : List Sg} (hv : SegAt w (.slice (some ⟨ab, ao, none⟩) l.length c0) l) : ∀ j y, (segC l)[j]? = some y → w.cell? ⟨ab, ao + j, none⟩ = some y := fun j y hj => by
  have hl := (List.getElem?_eq_some_iff.1 hj).1
  rw [segC_len] at hl
  obtain ⟨x, hx⟩ : ∃ x, l[j / 4]? = some x := ⟨_, List.getElem?_eq_getElem (by omega)⟩
  obtain ⟨b, o, e, hc⟩ := seg_at hv (by omega)
  cases e
  obtain ⟨k1, k2, k3, k4⟩ := hc _ x hx
  obtain ⟨s1, s2, s3, s4⟩ := segC_at l _ x hx
  rcases (by omega : j = j / 4 * 4 ∨ j = j / 4 * 4 + 1 ∨ j = j / 4 * 4 + 2 ∨ j = j / 4 * 4 + 3) with q | q | q | q
  · rw [q] at hj ⊢; rw [s1] at hj; cases hj; exact k1
  · rw [q] at hj ⊢; rw [s2] at hj; cases hj; exact k2
  · rw [q] at hj ⊢; rw [s3] at hj; cases hj; exact k3
  · rw [q] at hj ⊢; rw [s4] at hj; cases hj; exact k4

set_option maxHeartbeats 4000000 in
theorem law_rbnone0 {day off : Int} (hd : I64 day) (ho : I64 off) {d s a : Int} {nh nl t : Int} (hz : WideIs nh nl t) {w : World} : Calls Try.prog 9 #[.agg #[.slice none 0 0, .int .i64 day, .int .i64 off], .agg #[.int .i64 d, .int .i64 s, .int .i64 a], .agg #[.int .i64 nh, .int .u64 nl]] w fun e w' => ∃ r, e = .returned r ∧ r = .bool true ∧ Below w.heap.size w w' := by
  have pz : Later w w ∧ True := ⟨Later.refl w, trivial⟩
  have hm := may_nil day off
  refine calls_Wp (args := [_, _, _]) (n := 115) Try.func9 rfl rfl (by simp) ?_
  refine Wp.seq ?_
  refine Wp.region [0, 1, 2, 3] (by kernel_rfl) (by kernel_rfl) ?_
  refine s_box rfl rfl rfl rfl rfl rfl (fun bs3 ws3 ks3 ls3 => ?_)
  have kz3 := Nat.le_trans pz.1.size ks3
  replace pz := And.intro (pz.1.trans ls3) trivial
  try have nR3 := hR.ne ks3
  try replace hR := hR.later ls3
  try replace hown := own_later hown ls3
  refine s_box rfl rfl rfl rfl rfl rfl (fun bs4 ws4 ks4 ls4 => ?_)
  have kz4 := Nat.le_trans pz.1.size ks4
  replace pz := And.intro (pz.1.trans ls4) trivial
  try have nR4 := hR.ne ks4
  try replace hR := hR.later ls4
  try replace hown := own_later hown ls4
  refine s_box rfl rfl rfl rfl rfl rfl (fun bs5 ws5 ks5 ls5 => ?_)
  have kz5 := Nat.le_trans pz.1.size ks5
  replace pz := And.intro (pz.1.trans ls5) trivial
  try have nR5 := hR.ne ks5
  try replace hR := hR.later ls5
  try replace hown := own_later hown ls5
  refine s_assign rfl rfl rfl rfl ?_
  refine vOrd_nil ?_
  refine Wp.seq ?_
  refine Wp.region [0] (by kernel_rfl) (by kernel_rfl) ?_
  refine s_assign rfl rfl rfl rfl ?_
  refine vOrd_nil ?_
  refine Wp.seq ?_
  refine Wp.region [0, 1, 2, 3, 4, 5, 6, 7, 8] (by kernel_rfl) (by kernel_rfl) ?_
  refine s_move rfl rfl rfl rfl ?_
  refine s_load rfl rfl rfl rfl rfl rfl rfl ?_
  refine s_callT rfl rfl rfl (by kernel_rfl) rfl (ptai_nil) ?_
  rintro v w19 rfl lw19
  replace pz := And.intro (pz.1.trans lw19) trivial
  try replace hR := hR.later lw19
  try replace hown := own_later hown lw19
  refine s_move rfl rfl rfl rfl ?_
  refine s_extract rfl rfl rfl rfl rfl ?_
  refine s_extract rfl rfl rfl rfl rfl ?_
  refine s_alloc rfl rfl rfl rfl rfl (fun bs8 ws8 ks8 ls8 => ?_)
  have kz8 := Nat.le_trans pz.1.size ks8
  replace pz := And.intro (pz.1.trans ls8) trivial
  try have nR8 := hR.ne ks8
  try replace hR := hR.later ls8
  try replace hown := own_later hown ls8
  refine s_store rfl rfl rfl rfl rfl rfl rfl (fun w26 sw26 vw26 => ?_)
  replace pz := And.intro (pz.1.sto sw26 kz8) trivial
  try replace hR := hR.sto sw26 nR8
  refine s_assign rfl rfl rfl rfl ?_
  refine vOrd_nil ?_
  refine Wp.seq ?_
  refine Wp.region [0, 1, 2, 3, 4, 5, 6, 7, 8] (by kernel_rfl) (by kernel_rfl) ?_
  refine s_move rfl rfl rfl rfl ?_
  refine s_load rfl rfl rfl rfl rfl rfl rfl ?_
  refine s_callT rfl rfl rfl (by kernel_rfl) rfl (plabel_nil ⟨_, _, rfl, hz⟩) ?_
  rintro v w27 rfl lw27
  replace pz := And.intro (pz.1.trans lw27) trivial
  try replace hR := hR.later lw27
  try replace hown := own_later hown lw27
  refine s_move rfl rfl rfl rfl ?_
  refine s_extract rfl rfl rfl rfl rfl ?_
  refine s_extract rfl rfl rfl rfl rfl ?_
  refine s_alloc rfl rfl rfl rfl rfl (fun bs10 ws10 ks10 ls10 => ?_)
  have kz10 := Nat.le_trans pz.1.size ks10
  replace pz := And.intro (pz.1.trans ls10) trivial
  try have nR10 := hR.ne ks10
  try replace hR := hR.later ls10
  try replace hown := own_later hown ls10
  refine s_store rfl rfl rfl rfl rfl rfl rfl (fun w34 sw34 vw34 => ?_)
  replace pz := And.intro (pz.1.sto sw34 kz10) trivial
  try replace hR := hR.sto sw34 nR10
  refine s_assign rfl rfl rfl rfl ?_
  refine vOrd_nil ?_
  refine Wp.seq ?_
  refine Wp.var (h := 3) rfl (fun v3 => ?_)
  have q3 := v3.lt
  refine Wp.var (h := 4) rfl (fun v4 => ?_)
  have q4 := v4.lt
  refine Wp.var (h := 5) rfl (fun v5 => ?_)
  have q5 := v5.lt
  refine Wp.var (h := 8) rfl (fun v8 => ?_)
  have q8 := v8.lt
  refine Wp.var (h := 10) rfl (fun v10 => ?_)
  have q10 := v10.lt
  refine Wp.region [0, 1, 2, 3, 4] (by kernel_rfl) (by kernel_rfl) ?_
  refine s_bs (e := 25) (cs := []) rfl rfl rfl (fun _ => by kernel_rfl) ?_
  intro cb wb hcb lb hrow
  have hcz := Nat.le_trans pz.1.size hcb
  replace pz := And.intro (pz.1.trans lb) trivial
  try replace hR := hR.later lb
  try replace hown := own_later hown lb
  have hown0 := own_of_row (base := cb) (n := 0) (sz := 4) hrow (Nat.le_refl _) rfl (by decide)
  have hcl := hrow.var.lt
  have n3 : some cb ≠ some bs3 := by simp only [ne_eq, Option.some.injEq]; omega
  have n4 : some cb ≠ some bs4 := by simp only [ne_eq, Option.some.injEq]; omega
  have n5 : some cb ≠ some bs5 := by simp only [ne_eq, Option.some.injEq]; omega
  have n8 : some cb ≠ some bs8 := by simp only [ne_eq, Option.some.injEq]; omega
  have n10 : some cb ≠ some bs10 := by simp only [ne_eq, Option.some.injEq]; omega
  refine s_field 0 rfl rfl rfl rfl rfl ?_
  refine s_load rfl rfl rfl rfl rfl rfl rfl ?_
  refine x_appendNil (base := cb) (sz := 4) (n := 0) (xs := []) rfl rfl rfl rfl rfl rfl rfl hown0 hcz (show AllMem (fun k => some cb ≠ some k) _ from (by repeat (first | exact AllMem.args | refine AllMem.put ?_ | refine AllMem.new ?_ n3 | refine AllMem.set ?_ n3 | refine AllMem.new ?_ n4 | refine AllMem.set ?_ n4 | refine AllMem.new ?_ n5 | refine AllMem.set ?_ n5 | refine AllMem.new ?_ n8 | refine AllMem.set ?_ n8 | refine AllMem.new ?_ n10 | refine AllMem.set ?_ n10 ))) ?_
  clear hown0
  refine s_assign rfl rfl rfl rfl ?_
  refine vOrd_nil ?_
  refine Wp.seq ?_
  refine Wp.region [0, 1, 2, 3, 4, 5, 6, 7, 8, 9, 10] (by kernel_rfl) (by kernel_rfl) ?_
  refine s_move rfl rfl rfl rfl ?_
  refine s_field 1 rfl rfl rfl rfl rfl ?_
  refine s_load rfl rfl rfl rfl rfl rfl rfl ?_
  refine s_field 2 rfl rfl rfl rfl rfl ?_
  refine s_load rfl rfl rfl rfl rfl rfl rfl ?_
  refine s_callT rfl rfl rfl (by kernel_rfl) rfl (pnew_no [] (by decide) hd ho hm ⟨_, _, rfl, Nat.le_refl _, fun j x hj => by simp at hj⟩) ?_
  rintro v w50 rfl lw50
  replace pz := And.intro (pz.1.trans lw50) trivial
  try replace hR := hR.later lw50
  try replace hown := own_later hown lw50
  refine s_move rfl rfl rfl rfl ?_
  refine s_extract rfl rfl rfl rfl rfl ?_
  refine s_extract rfl rfl rfl rfl rfl ?_
  refine s_assign rfl rfl rfl rfl ?_
  refine s_assign rfl rfl rfl rfl ?_
  refine vOrd_nil ?_
  refine Wp.seq ?_
  refine Wp.seq ?_
  refine Wp.region [0] (by kernel_rfl) (by kernel_rfl) ?_
  refine s_assign rfl rfl rfl rfl ?_
  refine vOrd_nil ?_
  refine Wp.block ?_
  refine Wp.loop (fun k st W => ∃ (i : Nat) (p : Int), st = St.of [(3, .p 3 bs3 0), (4, .p 4 bs4 0), (7, .v (.pointer none)), (9, .v (.int .i64 12)), (11, .v (.int .i64 12)), (12, .v (.slice (some ⟨cb, 0, none⟩) 0 0)), (13, .v (.pointer none)), (14, .v (.int .i64 10)), (15, .v (.int .i64 p))] [(3, bs3, [.slice none 0 0, .int .i64 day, .int .i64 off]), (4, bs4, [.int .i64 d, .int .i64 s, .int .i64 a])] ∧ p = i ∧ i ≤ 0 ∧ Later w W ∧ k = 0 - i) ?_ ?_
  · exact ⟨_, _, (St.of_le' (env := [(3, .p 3 _ 0), (4, .p 4 _ 0), (7, .v _), (9, .v _), (11, .v _), (12, .v _), (13, .v _), (14, .v _), (15, .v _)]) (mem := [(3, _, [_, _, _]), (4, _, [_, _, _])]) ⟨rfl, rfl, rfl, rfl, rfl, rfl, rfl, rfl, rfl, trivial⟩ ⟨rfl, rfl, trivial⟩), 0, _, rfl, rfl, Nat.le_refl _, pz.1, rfl⟩
  · rintro k st w51 ⟨i, p, rfl, hp, hi, lq, rfl⟩
    refine Wp.seq ?_
    refine Wp.seq ?_
    replace pz := And.intro lq trivial
    clear lq
    refine Wp.region [0, 1, 2, 3] (by kernel_rfl) (by kernel_rfl) ?_
    refine s_move rfl rfl rfl rfl ?_
    refine s_move rfl rfl rfl rfl ?_
    refine x_len rfl rfl rfl rfl rfl ?_
    refine f_lss rfl rfl rfl rfl rfl (by omega) ?_
    refine vOrd_nil ?_
    refine Wp.condF rfl rfl ?_
    refine Wp.exit ?_
    refine Wp.seq ?_
    refine Wp.var (h := 3) rfl (fun v3 => ?_)
    have q3 := v3.lt
    refine Wp.var (h := 4) rfl (fun v4 => ?_)
    have q4 := v4.lt
    refine Wp.region [0, 1] (by kernel_rfl) (by kernel_rfl) ?_
    refine s_callT rfl rfl rfl (by kernel_rfl) rfl (psegs_any) ?_
    rintro v w52 ⟨sc, rfl, hsc, hsv⟩ lw52
    replace pz := And.intro (pz.1.trans lw52) trivial
    try replace hR := hR.later lw52
    try replace hown := own_later hown lw52
    refine s_assign rfl rfl rfl rfl ?_
    refine vOrd_nil ?_
    refine Wp.seq ?_
    refine Wp.seq ?_
    have hsl := hsv.lt
    have hw1 := pz.1.size
    refine Wp.adopt 1006 hsv (by omega) rfl (show AllMem (fun d => d ≠ sc) _ from (by (repeat with_reducible refine AllMem.put ?_); exact AllMem.of ⟨(show bs3 ≠ sc by omega), (show bs4 ≠ sc by omega), trivial⟩)) ?_
    have hs52 : (segC pubS).length = 52 := segC_len pubS
    refine Wp.region [0] (by kernel_rfl) (by kernel_rfl) ?_
    refine s_assign rfl rfl rfl rfl ?_
    refine vOrd_nil ?_
    refine Wp.block ?_
    refine Wp.loop (fun k st W => ∃ (i : Nat) (p : Int) (cs : List Value), st = St.of [(3, .p 3 bs3 0), (4, .p 4 bs4 0), (7, .v (.pointer none)), (9, .v (.int .i64 12)), (11, .v (.int .i64 12)), (16, .v (.slice (some ⟨sc, 0, none⟩) 13 13)), (13, .v (.pointer none)), (14, .v (.int .i64 10)), (17, .v (.int .i64 p))] [(3, bs3, [.slice none 0 0, .int .i64 day, .int .i64 off]), (4, bs4, [.int .i64 d, .int .i64 s, .int .i64 a]), (1006, sc, cs)] ∧ p = i ∧ i ≤ 13 ∧ cs.length = 52 ∧ Later w W ∧ k = 13 - i) ?_ ?_
    · exact ⟨_, _, (St.of_le' (env := [(3, .p 3 _ 0), (4, .p 4 _ 0), (7, .v _), (9, .v _), (11, .v _), (16, .v _), (13, .v _), (14, .v _), (17, .v _)]) (mem := [(3, _, [_, _, _]), (4, _, [_, _, _]), (1006, _, _)]) ⟨rfl, rfl, rfl, rfl, rfl, rfl, rfl, rfl, rfl, trivial⟩ ⟨rfl, rfl, rfl, trivial⟩), 0, _, _, rfl, rfl, Nat.zero_le _, hs52, pz.1, rfl⟩
    · rintro k st w53 ⟨i, p, cs, rfl, hp, hi, hcs, lq, rfl⟩
      refine Wp.seq ?_
      refine Wp.seq ?_
      replace pz := And.intro lq trivial
      clear lq
      refine Wp.region [0, 1, 2, 3] (by kernel_rfl) (by kernel_rfl) ?_
      refine s_move rfl rfl rfl rfl ?_
      refine s_move rfl rfl rfl rfl ?_
      refine x_len rfl rfl rfl rfl rfl ?_
      refine p_lss rfl rfl rfl rfl rfl (fun h61 => ?_) (fun h61 => ?_)
      · refine vOrd_nil ?_
        refine Wp.condT rfl rfl ?_
        refine Wp.skip ?_
        refine Wp.seq ?_
        refine Wp.block ?_
        obtain ⟨cs2, hwr, hwl⟩ := write_len (P := Try.prog) (t := 25) (cs := cs) (off := i * 4) (v := .agg #[.int .i64 0, .int .i64 0, .int .i64 0, .int .i64 0]) (n := 4) rfl rfl rfl (by omega)
        refine Wp.region [0, 1, 2, 3, 4] (by kernel_rfl) (by kernel_rfl) ?_
        refine s_move rfl rfl rfl rfl ?_
        refine s_move rfl rfl rfl rfl ?_
        refine s_build rfl rfl rfl rfl rfl (by kernel_rfl) ?_
        refine s_idx (sz := 4) (i * 4) rfl rfl rfl rfl rfl rfl rfl (by omega) (by omega) (by omega) ?_
        refine s_storeR 1006 rfl rfl rfl rfl rfl rfl hwr (fun wr sr vr => ?_)
        replace pz := And.intro (pz.1.sto sr (by omega)) trivial
        replace hcs := hwl.trans hcs
        refine vOrd_nil ?_
        refine Wp.region [0, 1, 2] (by kernel_rfl) (by kernel_rfl) ?_
        refine s_move rfl rfl rfl rfl ?_
        refine a_add (-9223372036854775808) 9223372036854775807 (by decide) rfl rfl rfl rfl rfl (by omega) (by omega) ?_
        refine s_assign rfl rfl rfl rfl ?_
        refine vOrd_nil ?_
        exact ⟨_, _, by omega, (St.of_le' (env := [(3, .p 3 _ 0), (4, .p 4 _ 0), (7, .v _), (9, .v _), (11, .v _), (16, .v _), (13, .v _), (14, .v _), (17, .v _)]) (mem := [(3, _, [_, _, _]), (4, _, [_, _, _]), (1006, _, _)]) ⟨rfl, rfl, rfl, rfl, rfl, rfl, rfl, rfl, rfl, trivial⟩ ⟨rfl, rfl, rfl, trivial⟩), i + 1, _, _, rfl, by omega, by omega, hcs, pz.1, rfl⟩
      · refine vOrd_nil ?_
        refine Wp.condF rfl rfl ?_
        refine Wp.exit ?_
        refine Wp.seq ?_
        refine Wp.seq ?_
        refine Wp.region [0, 1] (by kernel_rfl) (by kernel_rfl) ?_
        refine s_move rfl rfl rfl rfl ?_
        refine f_eql rfl rfl rfl rfl rfl (by omega) ?_
        refine vOrd_nil ?_
        refine Wp.condF rfl rfl ?_
        refine Wp.skip ?_
        refine Wp.seq ?_
        refine Wp.region [0, 1, 2, 3, 4, 5, 6, 7, 8, 9, 10, 11, 12, 13, 14] (by kernel_rfl) (by kernel_rfl) ?_
        refine s_callT rfl rfl rfl (by kernel_rfl) rfl (rbanswers_any) ?_
        rintro v w58 rfl lw58
        replace pz := And.intro (pz.1.trans lw58) trivial
        try replace hR := hR.later lw58
        try replace hown := own_later hown lw58
        refine s_move rfl rfl rfl rfl ?_
        refine s_move rfl rfl rfl rfl ?_
        refine t_eql rfl rfl rfl rfl rfl (by omega) ?_
        refine s_pick rfl rfl rfl rfl rfl ?_
        refine s_move rfl rfl rfl rfl ?_
        refine s_move rfl rfl rfl rfl ?_
        refine t_eql rfl rfl rfl rfl rfl (by omega) ?_
        refine s_pick rfl rfl rfl rfl rfl ?_
        refine s_move rfl rfl rfl rfl ?_
        refine s_move rfl rfl rfl rfl ?_
        refine s_callT rfl rfl rfl (by kernel_rfl) rfl (pfirst_nil) ?_
        rintro v w59 rfl lw59
        replace pz := And.intro (pz.1.trans lw59) trivial
        try replace hR := hR.later lw59
        try replace hown := own_later hown lw59
        refine t_eql rfl rfl rfl rfl rfl (by omega) ?_
        refine s_pick rfl rfl rfl rfl rfl ?_
        refine s_assign rfl rfl rfl rfl ?_
        refine vOrd_nil ?_
        refine Wp.ret ⟨.inr rfl, fun lW => ⟨_, res_tmp (P := Try.prog) rfl rfl, _, rfl, ?_, lW⟩⟩
        clear lW
        rfl
set_option maxHeartbeats 4000000 in
theorem law_rbnone1 (l : List Sg) (hsz : l.length * 32 ≤ 140737488351232) {day off : Int} (hd : I64 day) (ho : I64 off) {ab ao c0 : Nat} {w : World} (hm : mayS l day off = false) (hv : SegAt w (.slice (some ⟨ab, ao, none⟩) l.length c0) l) {d s a : Int} {nh nl t : Int} (hz : WideIs nh nl t) : Calls Try.prog 9 #[.agg #[.slice (some ⟨ab, ao, none⟩) l.length c0, .int .i64 day, .int .i64 off], .agg #[.int .i64 d, .int .i64 s, .int .i64 a], .agg #[.int .i64 nh, .int .u64 nl]] w fun e w' => ∃ r, e = .returned r ∧ r = .bool true ∧ Below w.heap.size w w' := by
  have pz : Later w w ∧ True := ⟨Later.refl w, trivial⟩
  have hsrc := seg_src hv
  have hlc : l.length ≤ 9223372036854775807 := by omega
  refine calls_Wp (args := [_, _, _]) (n := 115) Try.func9 rfl rfl (by simp) ?_
  refine Wp.seq ?_
  refine Wp.region [0, 1, 2, 3] (by kernel_rfl) (by kernel_rfl) ?_
  refine s_box rfl rfl rfl rfl rfl rfl (fun bs3 ws3 ks3 ls3 => ?_)
  have kz3 := Nat.le_trans pz.1.size ks3
  replace pz := And.intro (pz.1.trans ls3) trivial
  try have nR3 := hR.ne ks3
  try replace hR := hR.later ls3
  try replace hown := own_later hown ls3
  refine s_box rfl rfl rfl rfl rfl rfl (fun bs4 ws4 ks4 ls4 => ?_)
  have kz4 := Nat.le_trans pz.1.size ks4
  replace pz := And.intro (pz.1.trans ls4) trivial
  try have nR4 := hR.ne ks4
  try replace hR := hR.later ls4
  try replace hown := own_later hown ls4
  refine s_box rfl rfl rfl rfl rfl rfl (fun bs5 ws5 ks5 ls5 => ?_)
  have kz5 := Nat.le_trans pz.1.size ks5
  replace pz := And.intro (pz.1.trans ls5) trivial
  try have nR5 := hR.ne ks5
  try replace hR := hR.later ls5
  try replace hown := own_later hown ls5
  refine s_assign rfl rfl rfl rfl ?_
  refine vOrd_nil ?_
  refine Wp.seq ?_
  refine Wp.region [0] (by kernel_rfl) (by kernel_rfl) ?_
  refine s_assign rfl rfl rfl rfl ?_
  refine vOrd_nil ?_
  refine Wp.seq ?_
  refine Wp.region [0, 1, 2, 3, 4, 5, 6, 7, 8] (by kernel_rfl) (by kernel_rfl) ?_
  refine s_move rfl rfl rfl rfl ?_
  refine s_load rfl rfl rfl rfl rfl rfl rfl ?_
  refine s_callT rfl rfl rfl (by kernel_rfl) rfl (ptai_nil) ?_
  rintro v w19 rfl lw19
  replace pz := And.intro (pz.1.trans lw19) trivial
  try replace hR := hR.later lw19
  try replace hown := own_later hown lw19
  refine s_move rfl rfl rfl rfl ?_
  refine s_extract rfl rfl rfl rfl rfl ?_
  refine s_extract rfl rfl rfl rfl rfl ?_
  refine s_alloc rfl rfl rfl rfl rfl (fun bs8 ws8 ks8 ls8 => ?_)
  have kz8 := Nat.le_trans pz.1.size ks8
  replace pz := And.intro (pz.1.trans ls8) trivial
  try have nR8 := hR.ne ks8
  try replace hR := hR.later ls8
  try replace hown := own_later hown ls8
  refine s_store rfl rfl rfl rfl rfl rfl rfl (fun w26 sw26 vw26 => ?_)
  replace pz := And.intro (pz.1.sto sw26 kz8) trivial
  try replace hR := hR.sto sw26 nR8
  refine s_assign rfl rfl rfl rfl ?_
  refine vOrd_nil ?_
  refine Wp.seq ?_
  refine Wp.region [0, 1, 2, 3, 4, 5, 6, 7, 8] (by kernel_rfl) (by kernel_rfl) ?_
  refine s_move rfl rfl rfl rfl ?_
  refine s_load rfl rfl rfl rfl rfl rfl rfl ?_
  refine s_callT rfl rfl rfl (by kernel_rfl) rfl (plabel_nil ⟨_, _, rfl, hz⟩) ?_
  rintro v w27 rfl lw27
  replace pz := And.intro (pz.1.trans lw27) trivial
  try replace hR := hR.later lw27
  try replace hown := own_later hown lw27
  refine s_move rfl rfl rfl rfl ?_
  refine s_extract rfl rfl rfl rfl rfl ?_
  refine s_extract rfl rfl rfl rfl rfl ?_
  refine s_alloc rfl rfl rfl rfl rfl (fun bs10 ws10 ks10 ls10 => ?_)
  have kz10 := Nat.le_trans pz.1.size ks10
  replace pz := And.intro (pz.1.trans ls10) trivial
  try have nR10 := hR.ne ks10
  try replace hR := hR.later ls10
  try replace hown := own_later hown ls10
  refine s_store rfl rfl rfl rfl rfl rfl rfl (fun w34 sw34 vw34 => ?_)
  replace pz := And.intro (pz.1.sto sw34 kz10) trivial
  try replace hR := hR.sto sw34 nR10
  refine s_assign rfl rfl rfl rfl ?_
  refine vOrd_nil ?_
  refine Wp.seq ?_
  refine Wp.var (h := 3) rfl (fun v3 => ?_)
  have q3 := v3.lt
  refine Wp.var (h := 4) rfl (fun v4 => ?_)
  have q4 := v4.lt
  refine Wp.var (h := 5) rfl (fun v5 => ?_)
  have q5 := v5.lt
  refine Wp.var (h := 8) rfl (fun v8 => ?_)
  have q8 := v8.lt
  refine Wp.var (h := 10) rfl (fun v10 => ?_)
  have q10 := v10.lt
  refine Wp.region [0, 1, 2, 3, 4] (by kernel_rfl) (by kernel_rfl) ?_
  refine s_bs (e := 25) (cs := []) rfl rfl rfl (fun _ => by kernel_rfl) ?_
  intro cb wb hcb lb hrow
  have hcz := Nat.le_trans pz.1.size hcb
  replace pz := And.intro (pz.1.trans lb) trivial
  try replace hR := hR.later lb
  try replace hown := own_later hown lb
  have hown0 := own_of_row (base := cb) (n := 0) (sz := 4) hrow (Nat.le_refl _) rfl (by decide)
  have hcl := hrow.var.lt
  have n3 : some cb ≠ some bs3 := by simp only [ne_eq, Option.some.injEq]; omega
  have n4 : some cb ≠ some bs4 := by simp only [ne_eq, Option.some.injEq]; omega
  have n5 : some cb ≠ some bs5 := by simp only [ne_eq, Option.some.injEq]; omega
  have n8 : some cb ≠ some bs8 := by simp only [ne_eq, Option.some.injEq]; omega
  have n10 : some cb ≠ some bs10 := by simp only [ne_eq, Option.some.injEq]; omega
  refine s_field 0 rfl rfl rfl rfl rfl ?_
  refine s_load rfl rfl rfl rfl rfl rfl rfl ?_
  refine x_appendE (base := cb) (sz := 4) (bs := 32) (n := 0) (m := l.length) (news := segC l) rfl rfl rfl rfl rfl rfl rfl rfl rfl rfl rfl (by decide) hown0 (fun j y hj => cell_later pz.1 (hsrc j y hj)) (segC_len _) (List.all_eq_true.1 (segC_one _)) (by omega) (by omega) (by omega) hcz (show AllMem (fun k => some cb ≠ some k) _ from (by repeat (first | exact AllMem.args | refine AllMem.put ?_ | refine AllMem.new ?_ n3 | refine AllMem.set ?_ n3 | refine AllMem.new ?_ n4 | refine AllMem.set ?_ n4 | refine AllMem.new ?_ n5 | refine AllMem.set ?_ n5 | refine AllMem.new ?_ n8 | refine AllMem.set ?_ n8 | refine AllMem.new ?_ n10 | refine AllMem.set ?_ n10 ))) ?_
  intro v2 w2 hown hgr2
  rw [Nat.zero_add, List.nil_append] at hown
  replace pz := And.intro (pz.1.past (b := cb) hgr2 hcz) trivial
  obtain ⟨la, lc, rfl⟩ := own_sliceK hown
  have hvl := segs_own hown (fun j x h => hv.all h)
  refine s_assign rfl rfl rfl rfl ?_
  refine vOrd_nil ?_
  refine Wp.seq ?_
  refine Wp.region [0, 1, 2, 3, 4, 5, 6, 7, 8, 9, 10] (by kernel_rfl) (by kernel_rfl) ?_
  refine s_move rfl rfl rfl rfl ?_
  refine s_field 1 rfl rfl rfl rfl rfl ?_
  refine s_load rfl rfl rfl rfl rfl rfl rfl ?_
  refine s_field 2 rfl rfl rfl rfl rfl ?_
  refine s_load rfl rfl rfl rfl rfl rfl rfl ?_
  refine s_callT rfl rfl rfl (by kernel_rfl) rfl (pnew_no l hlc hd ho hm hvl) ?_
  rintro v w54 rfl lw54
  replace pz := And.intro (pz.1.trans lw54) trivial
  try replace hR := hR.later lw54
  try replace hown := own_later hown lw54
  refine s_move rfl rfl rfl rfl ?_
  refine s_extract rfl rfl rfl rfl rfl ?_
  refine s_extract rfl rfl rfl rfl rfl ?_
  refine s_assign rfl rfl rfl rfl ?_
  refine s_assign rfl rfl rfl rfl ?_
  refine vOrd_nil ?_
  refine Wp.seq ?_
  refine Wp.seq ?_
  refine Wp.region [0] (by kernel_rfl) (by kernel_rfl) ?_
  refine s_assign rfl rfl rfl rfl ?_
  refine vOrd_nil ?_
  refine Wp.block ?_
  refine Wp.loop (fun k st W => ∃ (i : Nat) (p : Int) (xs : List Value), st = St.of [(3, .p 3 bs3 0), (4, .p 4 bs4 0), (7, .v (.pointer none)), (9, .v (.int .i64 12)), (11, .v (.int .i64 12)), (12, .v (.slice la l.length lc)), (13, .v (.pointer none)), (14, .v (.int .i64 10)), (15, .v (.int .i64 p))] [(3, bs3, [.slice (some ⟨ab, ao, none⟩) l.length c0, .int .i64 day, .int .i64 off]), (4, bs4, [.int .i64 d, .int .i64 s, .int .i64 a])] ∧ p = i ∧ i ≤ l.length ∧ W.ownsRow cb 25 4 (.slice la l.length lc) l.length xs ∧ Later w W ∧ k = l.length - i) ?_ ?_
  · exact ⟨_, _, (St.of_le' (env := [(3, .p 3 _ 0), (4, .p 4 _ 0), (7, .v _), (9, .v _), (11, .v _), (12, .v _), (13, .v _), (14, .v _), (15, .v _)]) (mem := [(3, _, [_, _, _]), (4, _, [_, _, _])]) ⟨rfl, rfl, rfl, rfl, rfl, rfl, rfl, rfl, rfl, trivial⟩ ⟨rfl, rfl, trivial⟩), 0, _, _, rfl, rfl, Nat.zero_le _, hown, pz.1, rfl⟩
  · rintro k st w55 ⟨i, p, xs, rfl, hp, hi, hown, lq, rfl⟩
    refine Wp.seq ?_
    refine Wp.seq ?_
    replace pz := And.intro lq trivial
    clear lq
    refine Wp.region [0, 1, 2, 3] (by kernel_rfl) (by kernel_rfl) ?_
    refine s_move rfl rfl rfl rfl ?_
    refine s_move rfl rfl rfl rfl ?_
    refine x_len rfl rfl rfl rfl rfl ?_
    refine p_lss rfl rfl rfl rfl rfl (fun h50 => ?_) (fun h50 => ?_)
    · refine vOrd_nil ?_
      refine Wp.condT rfl rfl ?_
      refine Wp.skip ?_
      refine Wp.seq ?_
      refine Wp.block ?_
      obtain ⟨g1, cap, cs0, hve, hgb, hrw, hic, hcl2, _, hre⟩ := own_rowK hown (by omega)
      cases hve
      have hgl := hrw.var.lt
      refine Wp.adopt 1005 hrw.var (by omega) rfl (show AllMem (fun d => d ≠ g1) _ from (by (repeat with_reducible refine AllMem.put ?_); exact AllMem.of ⟨(show bs3 ≠ g1 by omega), (show bs4 ≠ g1 by omega), trivial⟩)) ?_
      obtain ⟨cs2, hwr, hwl⟩ := write_len (P := Try.prog) (t := 25) (cs := cs0) (off := i * 4) (v := .agg #[.int .i64 0, .int .i64 0, .int .i64 0, .int .i64 0]) (n := 4) rfl rfl rfl (by omega)
      refine Wp.region [0, 1, 2, 3, 4] (by kernel_rfl) (by kernel_rfl) ?_
      refine s_move rfl rfl rfl rfl ?_
      refine s_move rfl rfl rfl rfl ?_
      refine s_build rfl rfl rfl rfl rfl (by kernel_rfl) ?_
      refine s_idx (sz := 4) (i * 4) rfl rfl rfl rfl rfl rfl rfl (by omega) (by omega) (by omega) ?_
      refine s_storeR 1005 rfl rfl rfl rfl rfl rfl hwr (fun wr sr vr => ?_)
      replace pz := And.intro (pz.1.sto sr (by omega)) trivial
      refine vOrd_nil ?_
      refine Wp.var (h := 1005) rfl (fun v7 => ?_)
      replace hown := hre _ _ (hrw.turn sr v7) (by rw [hwl]; exact hcl2)
      refine Wp.region [0, 1, 2] (by kernel_rfl) (by kernel_rfl) ?_
      refine s_move rfl rfl rfl rfl ?_
      refine a_add (-9223372036854775808) 9223372036854775807 (by decide) rfl rfl rfl rfl rfl (by omega) (by omega) ?_
      refine s_assign rfl rfl rfl rfl ?_
      refine vOrd_nil ?_
      exact ⟨_, _, by omega, (St.of_le' (env := [(3, .p 3 _ 0), (4, .p 4 _ 0), (7, .v _), (9, .v _), (11, .v _), (12, .v _), (13, .v _), (14, .v _), (15, .v _)]) (mem := [(3, _, [_, _, _]), (4, _, [_, _, _])]) ⟨rfl, rfl, rfl, rfl, rfl, rfl, rfl, rfl, rfl, trivial⟩ ⟨rfl, rfl, trivial⟩), i + 1, _, _, rfl, by omega, by omega, hown, pz.1, rfl⟩
    · refine vOrd_nil ?_
      refine Wp.condF rfl rfl ?_
      refine Wp.exit ?_
      refine Wp.seq ?_
      refine Wp.var (h := 3) rfl (fun v3 => ?_)
      have q3 := v3.lt
      refine Wp.var (h := 4) rfl (fun v4 => ?_)
      have q4 := v4.lt
      refine Wp.region [0, 1] (by kernel_rfl) (by kernel_rfl) ?_
      refine s_callT rfl rfl rfl (by kernel_rfl) rfl (psegs_any) ?_
      rintro v w59 ⟨sc, rfl, hsc, hsv⟩ lw59
      replace pz := And.intro (pz.1.trans lw59) trivial
      try replace hR := hR.later lw59
      try replace hown := own_later hown lw59
      refine s_assign rfl rfl rfl rfl ?_
      refine vOrd_nil ?_
      refine Wp.seq ?_
      refine Wp.seq ?_
      have hsl := hsv.lt
      have hw1 := pz.1.size
      refine Wp.adopt 1006 hsv (by omega) rfl (show AllMem (fun d => d ≠ sc) _ from (by (repeat with_reducible refine AllMem.put ?_); exact AllMem.of ⟨(show bs3 ≠ sc by omega), (show bs4 ≠ sc by omega), trivial⟩)) ?_
      have hs52 : (segC pubS).length = 52 := segC_len pubS
      refine Wp.region [0] (by kernel_rfl) (by kernel_rfl) ?_
      refine s_assign rfl rfl rfl rfl ?_
      refine vOrd_nil ?_
      refine Wp.block ?_
      refine Wp.loop (fun k st W => ∃ (i : Nat) (p : Int) (cs : List Value), st = St.of [(3, .p 3 bs3 0), (4, .p 4 bs4 0), (7, .v (.pointer none)), (9, .v (.int .i64 12)), (11, .v (.int .i64 12)), (16, .v (.slice (some ⟨sc, 0, none⟩) 13 13)), (13, .v (.pointer none)), (14, .v (.int .i64 10)), (17, .v (.int .i64 p))] [(3, bs3, [.slice (some ⟨ab, ao, none⟩) l.length c0, .int .i64 day, .int .i64 off]), (4, bs4, [.int .i64 d, .int .i64 s, .int .i64 a]), (1006, sc, cs)] ∧ p = i ∧ i ≤ 13 ∧ cs.length = 52 ∧ Later w W ∧ k = 13 - i) ?_ ?_
      · exact ⟨_, _, (St.of_le' (env := [(3, .p 3 _ 0), (4, .p 4 _ 0), (7, .v _), (9, .v _), (11, .v _), (16, .v _), (13, .v _), (14, .v _), (17, .v _)]) (mem := [(3, _, [_, _, _]), (4, _, [_, _, _]), (1006, _, _)]) ⟨rfl, rfl, rfl, rfl, rfl, rfl, rfl, rfl, rfl, trivial⟩ ⟨rfl, rfl, rfl, trivial⟩), 0, _, _, rfl, rfl, Nat.zero_le _, hs52, pz.1, rfl⟩
      · rintro k st w60 ⟨i, p, cs, rfl, hp, hi, hcs, lq, rfl⟩
        refine Wp.seq ?_
        refine Wp.seq ?_
        replace pz := And.intro lq trivial
        clear lq
        refine Wp.region [0, 1, 2, 3] (by kernel_rfl) (by kernel_rfl) ?_
        refine s_move rfl rfl rfl rfl ?_
        refine s_move rfl rfl rfl rfl ?_
        refine x_len rfl rfl rfl rfl rfl ?_
        refine p_lss rfl rfl rfl rfl rfl (fun h61 => ?_) (fun h61 => ?_)
        · refine vOrd_nil ?_
          refine Wp.condT rfl rfl ?_
          refine Wp.skip ?_
          refine Wp.seq ?_
          refine Wp.block ?_
          obtain ⟨cs2, hwr, hwl⟩ := write_len (P := Try.prog) (t := 25) (cs := cs) (off := i * 4) (v := .agg #[.int .i64 0, .int .i64 0, .int .i64 0, .int .i64 0]) (n := 4) rfl rfl rfl (by omega)
          refine Wp.region [0, 1, 2, 3, 4] (by kernel_rfl) (by kernel_rfl) ?_
          refine s_move rfl rfl rfl rfl ?_
          refine s_move rfl rfl rfl rfl ?_
          refine s_build rfl rfl rfl rfl rfl (by kernel_rfl) ?_
          refine s_idx (sz := 4) (i * 4) rfl rfl rfl rfl rfl rfl rfl (by omega) (by omega) (by omega) ?_
          refine s_storeR 1006 rfl rfl rfl rfl rfl rfl hwr (fun wr sr vr => ?_)
          replace pz := And.intro (pz.1.sto sr (by omega)) trivial
          replace hcs := hwl.trans hcs
          refine vOrd_nil ?_
          refine Wp.region [0, 1, 2] (by kernel_rfl) (by kernel_rfl) ?_
          refine s_move rfl rfl rfl rfl ?_
          refine a_add (-9223372036854775808) 9223372036854775807 (by decide) rfl rfl rfl rfl rfl (by omega) (by omega) ?_
          refine s_assign rfl rfl rfl rfl ?_
          refine vOrd_nil ?_
          exact ⟨_, _, by omega, (St.of_le' (env := [(3, .p 3 _ 0), (4, .p 4 _ 0), (7, .v _), (9, .v _), (11, .v _), (16, .v _), (13, .v _), (14, .v _), (17, .v _)]) (mem := [(3, _, [_, _, _]), (4, _, [_, _, _]), (1006, _, _)]) ⟨rfl, rfl, rfl, rfl, rfl, rfl, rfl, rfl, rfl, trivial⟩ ⟨rfl, rfl, rfl, trivial⟩), i + 1, _, _, rfl, by omega, by omega, hcs, pz.1, rfl⟩
        · refine vOrd_nil ?_
          refine Wp.condF rfl rfl ?_
          refine Wp.exit ?_
          refine Wp.seq ?_
          refine Wp.seq ?_
          refine Wp.region [0, 1] (by kernel_rfl) (by kernel_rfl) ?_
          refine s_move rfl rfl rfl rfl ?_
          refine f_eql rfl rfl rfl rfl rfl (by omega) ?_
          refine vOrd_nil ?_
          refine Wp.condF rfl rfl ?_
          refine Wp.skip ?_
          refine Wp.seq ?_
          refine Wp.region [0, 1, 2, 3, 4, 5, 6, 7, 8, 9, 10, 11, 12, 13, 14] (by kernel_rfl) (by kernel_rfl) ?_
          refine s_callT rfl rfl rfl (by kernel_rfl) rfl (rbanswers_any) ?_
          rintro v w65 rfl lw65
          replace pz := And.intro (pz.1.trans lw65) trivial
          try replace hR := hR.later lw65
          try replace hown := own_later hown lw65
          refine s_move rfl rfl rfl rfl ?_
          refine s_move rfl rfl rfl rfl ?_
          refine t_eql rfl rfl rfl rfl rfl (by omega) ?_
          refine s_pick rfl rfl rfl rfl rfl ?_
          refine s_move rfl rfl rfl rfl ?_
          refine s_move rfl rfl rfl rfl ?_
          refine t_eql rfl rfl rfl rfl rfl (by omega) ?_
          refine s_pick rfl rfl rfl rfl rfl ?_
          refine s_move rfl rfl rfl rfl ?_
          refine s_move rfl rfl rfl rfl ?_
          refine s_callT rfl rfl rfl (by kernel_rfl) rfl (pfirst_nil) ?_
          rintro v w66 rfl lw66
          replace pz := And.intro (pz.1.trans lw66) trivial
          try replace hR := hR.later lw66
          try replace hown := own_later hown lw66
          refine t_eql rfl rfl rfl rfl rfl (by omega) ?_
          refine s_pick rfl rfl rfl rfl rfl ?_
          refine s_assign rfl rfl rfl rfl ?_
          refine vOrd_nil ?_
          refine Wp.ret ⟨.inr rfl, fun lW => ⟨_, res_tmp (P := Try.prog) rfl rfl, _, rfl, ?_, lW⟩⟩
          clear lW
          rfl
set_option maxHeartbeats 4000000 in
theorem law_rbnone2 (l : List Sg) (hsz : l.length * 32 ≤ 140737488351232) {day off : Int} (hd : I64 day) (ho : I64 off) {ab ao c0 : Nat} {w : World} (hm : mayS l day off = true) (hv : SegAt w (.slice (some ⟨ab, ao, none⟩) l.length c0) l) {d s a : Int} (hd6 : I64 d) (hs6 : I64 s) (ha6 : I64 a) {nh nl t : Int} (hz : WideIs nh nl t) : Calls Try.prog 9 #[.agg #[.slice (some ⟨ab, ao, none⟩) l.length c0, .int .i64 day, .int .i64 off], .agg #[.int .i64 d, .int .i64 s, .int .i64 a], .agg #[.int .i64 nh, .int .u64 nl]] w fun e w' => ∃ r, e = .returned r ∧ r = .bool true ∧ Below w.heap.size w w' := by
  have pz : Later w w ∧ True := ⟨Later.refl w, trivial⟩
  have hsrc := seg_src hv
  have hlc : l.length ≤ 9223372036854775807 := by omega
  obtain ⟨K, hcut⟩ := cutS_day hm d
  obtain ⟨E, hE⟩ : ∃ E, rE l day off K d s a = E := ⟨_, rfl⟩
  obtain ⟨Z, hZ⟩ : ∃ Z, rT l day off K d s a = Z := ⟨_, rfl⟩
  refine calls_Wp (args := [_, _, _]) (n := 115) Try.func9 rfl rfl (by simp) ?_
  refine Wp.seq ?_
  refine Wp.region [0, 1, 2, 3] (by kernel_rfl) (by kernel_rfl) ?_
  refine s_box rfl rfl rfl rfl rfl rfl (fun bs3 ws3 ks3 ls3 => ?_)
  have kz3 := Nat.le_trans pz.1.size ks3
  replace pz := And.intro (pz.1.trans ls3) trivial
  try have nR3 := hR.ne ks3
  try replace hR := hR.later ls3
  try replace hown := own_later hown ls3
  refine s_box rfl rfl rfl rfl rfl rfl (fun bs4 ws4 ks4 ls4 => ?_)
  have kz4 := Nat.le_trans pz.1.size ks4
  replace pz := And.intro (pz.1.trans ls4) trivial
  try have nR4 := hR.ne ks4
  try replace hR := hR.later ls4
  try replace hown := own_later hown ls4
  refine s_box rfl rfl rfl rfl rfl rfl (fun bs5 ws5 ks5 ls5 => ?_)
  have kz5 := Nat.le_trans pz.1.size ks5
  replace pz := And.intro (pz.1.trans ls5) trivial
  try have nR5 := hR.ne ks5
  try replace hR := hR.later ls5
  try replace hown := own_later hown ls5
  refine s_assign rfl rfl rfl rfl ?_
  refine vOrd_nil ?_
  refine Wp.seq ?_
  refine Wp.region [0] (by kernel_rfl) (by kernel_rfl) ?_
  refine s_assign rfl rfl rfl rfl ?_
  refine vOrd_nil ?_
  refine Wp.seq ?_
  refine Wp.region [0, 1, 2, 3, 4, 5, 6, 7, 8] (by kernel_rfl) (by kernel_rfl) ?_
  refine s_move rfl rfl rfl rfl ?_
  refine s_load rfl rfl rfl rfl rfl rfl rfl ?_
  refine s_callT rfl rfl rfl (by kernel_rfl) rfl (ptai_nil) ?_
  rintro v w19 rfl lw19
  replace pz := And.intro (pz.1.trans lw19) trivial
  try replace hR := hR.later lw19
  try replace hown := own_later hown lw19
  refine s_move rfl rfl rfl rfl ?_
  refine s_extract rfl rfl rfl rfl rfl ?_
  refine s_extract rfl rfl rfl rfl rfl ?_
  refine s_alloc rfl rfl rfl rfl rfl (fun bs8 ws8 ks8 ls8 => ?_)
  have kz8 := Nat.le_trans pz.1.size ks8
  replace pz := And.intro (pz.1.trans ls8) trivial
  try have nR8 := hR.ne ks8
  try replace hR := hR.later ls8
  try replace hown := own_later hown ls8
  refine s_store rfl rfl rfl rfl rfl rfl rfl (fun w26 sw26 vw26 => ?_)
  replace pz := And.intro (pz.1.sto sw26 kz8) trivial
  try replace hR := hR.sto sw26 nR8
  refine s_assign rfl rfl rfl rfl ?_
  refine vOrd_nil ?_
  refine Wp.seq ?_
  refine Wp.region [0, 1, 2, 3, 4, 5, 6, 7, 8] (by kernel_rfl) (by kernel_rfl) ?_
  refine s_move rfl rfl rfl rfl ?_
  refine s_load rfl rfl rfl rfl rfl rfl rfl ?_
  refine s_callT rfl rfl rfl (by kernel_rfl) rfl (plabel_nil ⟨_, _, rfl, hz⟩) ?_
  rintro v w27 rfl lw27
  replace pz := And.intro (pz.1.trans lw27) trivial
  try replace hR := hR.later lw27
  try replace hown := own_later hown lw27
  refine s_move rfl rfl rfl rfl ?_
  refine s_extract rfl rfl rfl rfl rfl ?_
  refine s_extract rfl rfl rfl rfl rfl ?_
  refine s_alloc rfl rfl rfl rfl rfl (fun bs10 ws10 ks10 ls10 => ?_)
  have kz10 := Nat.le_trans pz.1.size ks10
  replace pz := And.intro (pz.1.trans ls10) trivial
  try have nR10 := hR.ne ks10
  try replace hR := hR.later ls10
  try replace hown := own_later hown ls10
  refine s_store rfl rfl rfl rfl rfl rfl rfl (fun w34 sw34 vw34 => ?_)
  replace pz := And.intro (pz.1.sto sw34 kz10) trivial
  try replace hR := hR.sto sw34 nR10
  refine s_assign rfl rfl rfl rfl ?_
  refine vOrd_nil ?_
  refine Wp.seq ?_
  refine Wp.var (h := 3) rfl (fun v3 => ?_)
  have q3 := v3.lt
  refine Wp.var (h := 4) rfl (fun v4 => ?_)
  have q4 := v4.lt
  refine Wp.var (h := 5) rfl (fun v5 => ?_)
  have q5 := v5.lt
  refine Wp.var (h := 8) rfl (fun v8 => ?_)
  have q8 := v8.lt
  refine Wp.var (h := 10) rfl (fun v10 => ?_)
  have q10 := v10.lt
  refine Wp.region [0, 1, 2, 3, 4] (by kernel_rfl) (by kernel_rfl) ?_
  refine s_bs (e := 25) (cs := []) rfl rfl rfl (fun _ => by kernel_rfl) ?_
  intro cb wb hcb lb hrow
  have hcz := Nat.le_trans pz.1.size hcb
  replace pz := And.intro (pz.1.trans lb) trivial
  try replace hR := hR.later lb
  try replace hown := own_later hown lb
  have hown0 := own_of_row (base := cb) (n := 0) (sz := 4) hrow (Nat.le_refl _) rfl (by decide)
  have hcl := hrow.var.lt
  have n3 : some cb ≠ some bs3 := by simp only [ne_eq, Option.some.injEq]; omega
  have n4 : some cb ≠ some bs4 := by simp only [ne_eq, Option.some.injEq]; omega
  have n5 : some cb ≠ some bs5 := by simp only [ne_eq, Option.some.injEq]; omega
  have n8 : some cb ≠ some bs8 := by simp only [ne_eq, Option.some.injEq]; omega
  have n10 : some cb ≠ some bs10 := by simp only [ne_eq, Option.some.injEq]; omega
  refine s_field 0 rfl rfl rfl rfl rfl ?_
  refine s_load rfl rfl rfl rfl rfl rfl rfl ?_
  refine x_appendE (base := cb) (sz := 4) (bs := 32) (n := 0) (m := l.length) (news := segC l) rfl rfl rfl rfl rfl rfl rfl rfl rfl rfl rfl (by decide) hown0 (fun j y hj => cell_later pz.1 (hsrc j y hj)) (segC_len _) (List.all_eq_true.1 (segC_one _)) (by omega) (by omega) (by omega) hcz (show AllMem (fun k => some cb ≠ some k) _ from (by repeat (first | exact AllMem.args | refine AllMem.put ?_ | refine AllMem.new ?_ n3 | refine AllMem.set ?_ n3 | refine AllMem.new ?_ n4 | refine AllMem.set ?_ n4 | refine AllMem.new ?_ n5 | refine AllMem.set ?_ n5 | refine AllMem.new ?_ n8 | refine AllMem.set ?_ n8 | refine AllMem.new ?_ n10 | refine AllMem.set ?_ n10 ))) ?_
  intro v2 w2 hown hgr2
  rw [Nat.zero_add, List.nil_append] at hown
  replace pz := And.intro (pz.1.past (b := cb) hgr2 hcz) trivial
  obtain ⟨la, lc, rfl⟩ := own_sliceK hown
  have hvl := segs_own hown (fun j x h => hv.all h)
  refine s_assign rfl rfl rfl rfl ?_
  refine vOrd_nil ?_
  refine Wp.seq ?_
  have hlb : ∀ q, Value.ownBlock (.slice la l.length lc) = some q → q < _ := fun q h => (hown.lt q h).2
  refine Wp.region [0, 1, 2, 3, 4, 5, 6, 7, 8, 9, 10] (by kernel_rfl) (by kernel_rfl) ?_
  refine s_move rfl rfl rfl rfl ?_
  refine s_field 1 rfl rfl rfl rfl rfl ?_
  refine s_load rfl rfl rfl rfl rfl rfl rfl ?_
  refine s_field 2 rfl rfl rfl rfl rfl ?_
  refine s_load rfl rfl rfl rfl rfl rfl rfl ?_
  refine s_callT rfl rfl rfl (by kernel_rfl) rfl (pnew_yes l hlc hd ho hm hvl) ?_
  rintro v w54 ⟨b1, bs1, rfl, hb1, hR⟩ lw54
  replace pz := And.intro (pz.1.trans lw54) trivial
  try replace hR := hR.later lw54
  try replace hown := own_later hown lw54
  refine s_move rfl rfl rfl rfl ?_
  refine s_extract rfl rfl rfl rfl rfl ?_
  refine s_extract rfl rfl rfl rfl rfl ?_
  refine s_assign rfl rfl rfl rfl ?_
  refine s_assign rfl rfl rfl rfl ?_
  refine vOrd_nil ?_
  refine Wp.seq ?_
  refine Wp.seq ?_
  refine Wp.region [0] (by kernel_rfl) (by kernel_rfl) ?_
  refine s_assign rfl rfl rfl rfl ?_
  refine vOrd_nil ?_
  refine Wp.block ?_
  refine Wp.loop (fun k st W => ∃ (i : Nat) (p : Int) (xs : List Value), st = St.of [(3, .p 3 bs3 0), (4, .p 4 bs4 0), (7, .v (.pointer none)), (9, .v (.int .i64 12)), (11, .v (.int .i64 12)), (12, .v (.slice la l.length lc)), (13, .v (.pointer (some ⟨b1, 0, none⟩))), (14, .v (.int .i64 0)), (15, .v (.int .i64 p))] [(3, bs3, [.slice (some ⟨ab, ao, none⟩) l.length c0, .int .i64 day, .int .i64 off]), (4, bs4, [.int .i64 d, .int .i64 s, .int .i64 a])] ∧ p = i ∧ i ≤ l.length ∧ W.ownsRow cb 25 4 (.slice la l.length lc) l.length xs ∧ Rb W b1 bs1 l day off ∧ Later w W ∧ k = l.length - i) ?_ ?_
  · exact ⟨_, _, (St.of_le' (env := [(3, .p 3 _ 0), (4, .p 4 _ 0), (7, .v _), (9, .v _), (11, .v _), (12, .v _), (13, .v _), (14, .v _), (15, .v _)]) (mem := [(3, _, [_, _, _]), (4, _, [_, _, _])]) ⟨rfl, rfl, rfl, rfl, rfl, rfl, rfl, rfl, rfl, trivial⟩ ⟨rfl, rfl, trivial⟩), 0, _, _, rfl, rfl, Nat.zero_le _, hown, hR, pz.1, rfl⟩
  · rintro k st w55 ⟨i, p, xs, rfl, hp, hi, hown, hR, lq, rfl⟩
    refine Wp.seq ?_
    refine Wp.seq ?_
    replace pz := And.intro lq trivial
    clear lq
    refine Wp.region [0, 1, 2, 3] (by kernel_rfl) (by kernel_rfl) ?_
    refine s_move rfl rfl rfl rfl ?_
    refine s_move rfl rfl rfl rfl ?_
    refine x_len rfl rfl rfl rfl rfl ?_
    refine p_lss rfl rfl rfl rfl rfl (fun h50 => ?_) (fun h50 => ?_)
    · refine vOrd_nil ?_
      refine Wp.condT rfl rfl ?_
      refine Wp.skip ?_
      refine Wp.seq ?_
      refine Wp.block ?_
      obtain ⟨g1, cap, cs0, hve, hgb, hrw, hic, hcl2, _, hre⟩ := own_rowK hown (by omega)
      cases hve
      have hgl := hrw.var.lt
      refine Wp.adopt 1005 hrw.var (by omega) rfl (show AllMem (fun d => d ≠ g1) _ from (by (repeat with_reducible refine AllMem.put ?_); exact AllMem.of ⟨(show bs3 ≠ g1 by omega), (show bs4 ≠ g1 by omega), trivial⟩)) ?_
      obtain ⟨cs2, hwr, hwl⟩ := write_len (P := Try.prog) (t := 25) (cs := cs0) (off := i * 4) (v := .agg #[.int .i64 0, .int .i64 0, .int .i64 0, .int .i64 0]) (n := 4) rfl rfl rfl (by omega)
      refine Wp.region [0, 1, 2, 3, 4] (by kernel_rfl) (by kernel_rfl) ?_
      refine s_move rfl rfl rfl rfl ?_
      refine s_move rfl rfl rfl rfl ?_
      refine s_build rfl rfl rfl rfl rfl (by kernel_rfl) ?_
      refine s_idx (sz := 4) (i * 4) rfl rfl rfl rfl rfl rfl rfl (by omega) (by omega) (by omega) ?_
      refine s_storeR 1005 rfl rfl rfl rfl rfl rfl hwr (fun wr sr vr => ?_)
      replace pz := And.intro (pz.1.sto sr (by omega)) trivial
      replace hR := hR.sto sr (fun x hx => by have := hb1 x hx; have := hlb g1 rfl; omega)
      refine vOrd_nil ?_
      refine Wp.var (h := 1005) rfl (fun v7 => ?_)
      replace hown := hre _ _ (hrw.turn sr v7) (by rw [hwl]; exact hcl2)
      refine Wp.region [0, 1, 2] (by kernel_rfl) (by kernel_rfl) ?_
      refine s_move rfl rfl rfl rfl ?_
      refine a_add (-9223372036854775808) 9223372036854775807 (by decide) rfl rfl rfl rfl rfl (by omega) (by omega) ?_
      refine s_assign rfl rfl rfl rfl ?_
      refine vOrd_nil ?_
      exact ⟨_, _, by omega, (St.of_le' (env := [(3, .p 3 _ 0), (4, .p 4 _ 0), (7, .v _), (9, .v _), (11, .v _), (12, .v _), (13, .v _), (14, .v _), (15, .v _)]) (mem := [(3, _, [_, _, _]), (4, _, [_, _, _])]) ⟨rfl, rfl, rfl, rfl, rfl, rfl, rfl, rfl, rfl, trivial⟩ ⟨rfl, rfl, trivial⟩), i + 1, _, _, rfl, by omega, by omega, hown, hR, pz.1, rfl⟩
    · refine vOrd_nil ?_
      refine Wp.condF rfl rfl ?_
      refine Wp.exit ?_
      refine Wp.seq ?_
      refine Wp.var (h := 3) rfl (fun v3 => ?_)
      have q3 := v3.lt
      refine Wp.var (h := 4) rfl (fun v4 => ?_)
      have q4 := v4.lt
      have hRb := fun q hq => hR.ne (q := q) hq
      refine Wp.region [0, 1] (by kernel_rfl) (by kernel_rfl) ?_
      refine s_callT rfl rfl rfl (by kernel_rfl) rfl (psegs_any) ?_
      rintro v w60 ⟨sc, rfl, hsc, hsv⟩ lw60
      replace pz := And.intro (pz.1.trans lw60) trivial
      try replace hR := hR.later lw60
      try replace hown := own_later hown lw60
      have hRn := hRb sc hsc
      refine s_assign rfl rfl rfl rfl ?_
      refine vOrd_nil ?_
      refine Wp.seq ?_
      refine Wp.seq ?_
      have hsl := hsv.lt
      have hw1 := pz.1.size
      refine Wp.adopt 1006 hsv (by omega) rfl (show AllMem (fun d => d ≠ sc) _ from (by (repeat with_reducible refine AllMem.put ?_); exact AllMem.of ⟨(show bs3 ≠ sc by omega), (show bs4 ≠ sc by omega), trivial⟩)) ?_
      have hs52 : (segC pubS).length = 52 := segC_len pubS
      have hRs : ∀ x ∈ b1 :: bs1, x ≠ sc := hRn
      refine Wp.region [0] (by kernel_rfl) (by kernel_rfl) ?_
      refine s_assign rfl rfl rfl rfl ?_
      refine vOrd_nil ?_
      refine Wp.block ?_
      refine Wp.loop (fun k st W => ∃ (i : Nat) (p : Int) (cs : List Value), st = St.of [(3, .p 3 bs3 0), (4, .p 4 bs4 0), (7, .v (.pointer none)), (9, .v (.int .i64 12)), (11, .v (.int .i64 12)), (16, .v (.slice (some ⟨sc, 0, none⟩) 13 13)), (13, .v (.pointer (some ⟨b1, 0, none⟩))), (14, .v (.int .i64 0)), (17, .v (.int .i64 p))] [(3, bs3, [.slice (some ⟨ab, ao, none⟩) l.length c0, .int .i64 day, .int .i64 off]), (4, bs4, [.int .i64 d, .int .i64 s, .int .i64 a]), (1006, sc, cs)] ∧ p = i ∧ i ≤ 13 ∧ cs.length = 52 ∧ Rb W b1 bs1 l day off ∧ Later w W ∧ k = 13 - i) ?_ ?_
      · exact ⟨_, _, (St.of_le' (env := [(3, .p 3 _ 0), (4, .p 4 _ 0), (7, .v _), (9, .v _), (11, .v _), (16, .v _), (13, .v _), (14, .v _), (17, .v _)]) (mem := [(3, _, [_, _, _]), (4, _, [_, _, _]), (1006, _, _)]) ⟨rfl, rfl, rfl, rfl, rfl, rfl, rfl, rfl, rfl, trivial⟩ ⟨rfl, rfl, rfl, trivial⟩), 0, _, _, rfl, rfl, Nat.zero_le _, hs52, hR, pz.1, rfl⟩
      · rintro k st w61 ⟨i, p, cs, rfl, hp, hi, hcs, hR, lq, rfl⟩
        refine Wp.seq ?_
        refine Wp.seq ?_
        replace pz := And.intro lq trivial
        clear lq
        refine Wp.region [0, 1, 2, 3] (by kernel_rfl) (by kernel_rfl) ?_
        refine s_move rfl rfl rfl rfl ?_
        refine s_move rfl rfl rfl rfl ?_
        refine x_len rfl rfl rfl rfl rfl ?_
        refine p_lss rfl rfl rfl rfl rfl (fun h61 => ?_) (fun h61 => ?_)
        · refine vOrd_nil ?_
          refine Wp.condT rfl rfl ?_
          refine Wp.skip ?_
          refine Wp.seq ?_
          refine Wp.block ?_
          obtain ⟨cs2, hwr, hwl⟩ := write_len (P := Try.prog) (t := 25) (cs := cs) (off := i * 4) (v := .agg #[.int .i64 0, .int .i64 0, .int .i64 0, .int .i64 0]) (n := 4) rfl rfl rfl (by omega)
          refine Wp.region [0, 1, 2, 3, 4] (by kernel_rfl) (by kernel_rfl) ?_
          refine s_move rfl rfl rfl rfl ?_
          refine s_move rfl rfl rfl rfl ?_
          refine s_build rfl rfl rfl rfl rfl (by kernel_rfl) ?_
          refine s_idx (sz := 4) (i * 4) rfl rfl rfl rfl rfl rfl rfl (by omega) (by omega) (by omega) ?_
          refine s_storeR 1006 rfl rfl rfl rfl rfl rfl hwr (fun wr sr vr => ?_)
          replace pz := And.intro (pz.1.sto sr (by omega)) trivial
          replace hcs := hwl.trans hcs
          replace hR := hR.sto sr hRs
          refine vOrd_nil ?_
          refine Wp.region [0, 1, 2] (by kernel_rfl) (by kernel_rfl) ?_
          refine s_move rfl rfl rfl rfl ?_
          refine a_add (-9223372036854775808) 9223372036854775807 (by decide) rfl rfl rfl rfl rfl (by omega) (by omega) ?_
          refine s_assign rfl rfl rfl rfl ?_
          refine vOrd_nil ?_
          exact ⟨_, _, by omega, (St.of_le' (env := [(3, .p 3 _ 0), (4, .p 4 _ 0), (7, .v _), (9, .v _), (11, .v _), (16, .v _), (13, .v _), (14, .v _), (17, .v _)]) (mem := [(3, _, [_, _, _]), (4, _, [_, _, _]), (1006, _, _)]) ⟨rfl, rfl, rfl, rfl, rfl, rfl, rfl, rfl, rfl, trivial⟩ ⟨rfl, rfl, rfl, trivial⟩), i + 1, _, _, rfl, by omega, by omega, hcs, hR, pz.1, rfl⟩
        · refine vOrd_nil ?_
          refine Wp.condF rfl rfl ?_
          refine Wp.exit ?_
          refine Wp.seq ?_
          refine Wp.seq ?_
          refine Wp.region [0, 1] (by kernel_rfl) (by kernel_rfl) ?_
          refine s_move rfl rfl rfl rfl ?_
          refine t_eql rfl rfl rfl rfl rfl (by omega) ?_
          refine vOrd_nil ?_
          refine Wp.condT rfl rfl ?_
          refine Wp.seq ?_
          refine Wp.region [0, 1, 2, 3, 4, 5, 6, 7, 8] (by kernel_rfl) (by kernel_rfl) ?_
          refine s_move rfl rfl rfl rfl ?_
          refine s_load rfl rfl rfl rfl rfl rfl rfl ?_
          refine s_callT rfl rfl rfl (by kernel_rfl) rfl (ptai_any hR hm hd6 hs6 ha6 hcut) ?_
          rintro v w67 ⟨nu, rfl, mh, ml, rfl, hmm⟩ lw67
          replace pz := And.intro (pz.1.trans lw67) trivial
          try replace hR := hR.later lw67
          try replace hown := own_later hown lw67
          rw [hE]
          rw [hZ] at hmm
          refine s_move rfl rfl rfl rfl ?_
          refine s_extract rfl rfl rfl rfl rfl ?_
          refine s_extract rfl rfl rfl rfl rfl ?_
          refine s_alloc rfl rfl rfl rfl rfl (fun bk68 w68 kb68 lw68 => ?_)
          have kz18 := Nat.le_trans pz.1.size kb68
          replace pz := And.intro (pz.1.trans lw68) trivial
          try have nR18 := hR.ne kb68
          try replace hR := hR.later lw68
          try replace hown := own_later hown lw68
          refine s_store rfl rfl rfl rfl rfl rfl rfl (fun w69 sw69 vw69 => ?_)
          replace pz := And.intro (pz.1.sto sw69 kz18) trivial
          try replace hR := hR.sto sw69 nR18
          refine s_assign rfl rfl rfl rfl ?_
          refine vOrd_nil ?_
          refine Wp.seq ?_
          refine Wp.region [0, 1, 2, 3, 4, 5, 6, 7, 8, 9, 10, 11, 12, 13] (by kernel_rfl) (by kernel_rfl) ?_
          refine s_field 0 rfl rfl rfl rfl rfl ?_
          refine s_load rfl rfl rfl rfl rfl rfl rfl ?_
          refine s_field 1 rfl rfl rfl rfl rfl ?_
          refine s_load rfl rfl rfl rfl rfl rfl rfl ?_
          refine s_field 2 rfl rfl rfl rfl rfl ?_
          refine s_load rfl rfl rfl rfl rfl rfl rfl ?_
          refine s_load rfl rfl rfl rfl rfl rfl rfl ?_
          refine s_callT rfl rfl rfl (by kernel_rfl) rfl (rrtai_any l (hv.later pz.1) hlc hd ho hm hd6 hs6 ha6 hcut) ?_
          rintro v w70 ⟨gb, ga, gl, gc, rfl, hg⟩ lw70
          replace pz := And.intro (pz.1.trans lw70) trivial
          try replace hR := hR.later lw70
          try replace hown := own_later hown lw70
          rw [hE]
          rw [hE, hZ] at hg
          refine s_move rfl rfl rfl rfl ?_
          refine s_extract rfl rfl rfl rfl rfl ?_
          refine s_extract rfl rfl rfl rfl rfl ?_
          refine s_alloc rfl rfl rfl rfl rfl (fun bk71 w71 kb71 lw71 => ?_)
          have kz20 := Nat.le_trans pz.1.size kb71
          replace pz := And.intro (pz.1.trans lw71) trivial
          try have nR20 := hR.ne kb71
          try replace hR := hR.later lw71
          try replace hown := own_later hown lw71
          refine s_store rfl rfl rfl rfl rfl rfl rfl (fun w72 sw72 vw72 => ?_)
          replace pz := And.intro (pz.1.sto sw72 kz20) trivial
          try replace hR := hR.sto sw72 nR20
          refine s_assign rfl rfl rfl rfl ?_
          refine vOrd_nil ?_
          refine Wp.seq ?_
          refine (Wp.drawn (by kernel_rfl) (by kernel_rfl) [0, 1, 2, 3, 4, 5, 6, 7, 9, 8, 10, 11, 12, 13] [2, 0, 0, 0, 0, 0, 0, 639, 511, 0, 0, 0, 0, 0] (by kernel_rfl) (by kernel_rfl) (fun | 8 => IsBig 11 Z | 10 => fun v _ => v = .bool true | _ => fun _ _ => True) (fun wd ld => ?_))
          replace pz := And.intro (pz.1.trans ld) trivial
          try replace hR := hR.later ld
          try replace hown := own_later hown ld
          refine s_move rfl rfl rfl rfl ?_
          refine s_move rfl rfl rfl rfl ?_
          refine f_neq rfl rfl rfl rfl rfl (by rfl) ?_
          refine s_move rfl rfl rfl rfl ?_
          refine s_move rfl rfl rfl rfl ?_
          refine p_eql rfl rfl rfl rfl rfl (fun h92 => ?_) (fun h92 => ?_)
          · have hg2 := hg (by assumption)
            refine s_move rfl rfl rfl rfl ?_
            refine s_load rfl rfl rfl rfl rfl rfl rfl ?_
            refine s_load rfl rfl rfl rfl rfl rfl rfl ?_
            refine s_callD rfl rfl rfl (by kernel_rfl) rfl (fun wc lc => c_rof ⟨_, _, rfl, hmm⟩ wc) ?_
            rintro v w73 u73 hr lw73 mw73
            replace pz := And.intro (pz.1.trans lw73) trivial
            try replace hR := hR.later lw73
            try replace hown := own_later hown lw73
            replace pz := And.intro (pz.1.trans mw73) trivial
            try replace hR := hR.later mw73
            try replace hown := own_later hown mw73
            refine s_callD rfl rfl rfl (by kernel_rfl) rfl (fun wc lc => c_same_yes (hr.keeps (by repeat (first | exact Keeps.refl _ | refine Keeps.trans ?_ (Keeps.later (by assumption)) | refine Keeps.trans ?_ (Keeps.stored (by assumption) (by assumption) rfl) | refine Keeps.trans ?_ (Keeps.fresh (by assumption) (by assumption) (by assumption))))) ((hg (by assumption)).keeps (by repeat (first | exact Keeps.refl _ | refine Keeps.trans ?_ (Keeps.later (by assumption)) | refine Keeps.trans ?_ (Keeps.stored (by assumption) (by assumption) rfl) | refine Keeps.trans ?_ (Keeps.fresh (by assumption) (by assumption) (by assumption))))) (by decide) (by decide)) ?_
            rintro v w74 u74 rfl lw74 mw74
            replace pz := And.intro (pz.1.trans lw74) trivial
            try replace hR := hR.later lw74
            try replace hown := own_later hown lw74
            replace pz := And.intro (pz.1.trans mw74) trivial
            try replace hR := hR.later mw74
            try replace hown := own_later hown mw74
            refine s_not rfl rfl rfl rfl ?_
            refine s_pick rfl rfl rfl rfl rfl ?_
            refine s_pick rfl rfl rfl rfl rfl ?_
            refine vOrd_nil ?_
            refine Wp.condF rfl rfl ?_
            refine Wp.skip ?_
            refine Wp.seq ?_
            refine Wp.region [0, 1, 2, 3, 4, 5, 6, 7, 8, 9, 10, 11, 12, 13, 14] (by kernel_rfl) (by kernel_rfl) ?_
            refine s_callT rfl rfl rfl (by kernel_rfl) rfl (rbanswers_any) ?_
            rintro v w75 rfl lw75
            replace pz := And.intro (pz.1.trans lw75) trivial
            try replace hR := hR.later lw75
            try replace hown := own_later hown lw75
            refine s_move rfl rfl rfl rfl ?_
            refine s_move rfl rfl rfl rfl ?_
            refine t_eql rfl rfl rfl rfl rfl (by omega) ?_
            refine s_pick rfl rfl rfl rfl rfl ?_
            refine s_move rfl rfl rfl rfl ?_
            refine s_move rfl rfl rfl rfl ?_
            refine t_eql rfl rfl rfl rfl rfl (by omega) ?_
            refine s_pick rfl rfl rfl rfl rfl ?_
            refine s_move rfl rfl rfl rfl ?_
            refine s_move rfl rfl rfl rfl ?_
            refine s_callT rfl rfl rfl (by kernel_rfl) rfl (pfirst_nil) ?_
            rintro v w76 rfl lw76
            replace pz := And.intro (pz.1.trans lw76) trivial
            try replace hR := hR.later lw76
            try replace hown := own_later hown lw76
            refine t_eql rfl rfl rfl rfl rfl (by omega) ?_
            refine s_pick rfl rfl rfl rfl rfl ?_
            refine s_assign rfl rfl rfl rfl ?_
            refine vOrd_nil ?_
            refine Wp.ret ⟨.inr rfl, fun lW => ⟨_, res_tmp (P := Try.prog) rfl rfl, _, rfl, ?_, lW⟩⟩
            clear lW
            rfl
          · refine s_move rfl rfl rfl rfl ?_
            refine s_skip rfl rfl rfl ?_
            refine s_skip rfl rfl rfl ?_
            refine s_skip rfl rfl rfl ?_
            refine s_skip rfl rfl rfl ?_
            refine s_skip rfl rfl rfl ?_
            refine s_pick rfl rfl rfl rfl rfl ?_
            refine s_pick rfl rfl rfl rfl rfl ?_
            refine vOrd_nil ?_
            refine Wp.condF rfl rfl ?_
            refine Wp.skip ?_
            refine Wp.seq ?_
            refine Wp.region [0, 1, 2, 3, 4, 5, 6, 7, 8, 9, 10, 11, 12, 13, 14] (by kernel_rfl) (by kernel_rfl) ?_
            refine s_callT rfl rfl rfl (by kernel_rfl) rfl (rbanswers_any) ?_
            rintro v w77 rfl lw77
            replace pz := And.intro (pz.1.trans lw77) trivial
            try replace hR := hR.later lw77
            try replace hown := own_later hown lw77
            refine s_move rfl rfl rfl rfl ?_
            refine s_move rfl rfl rfl rfl ?_
            refine t_eql rfl rfl rfl rfl rfl (by omega) ?_
            refine s_pick rfl rfl rfl rfl rfl ?_
            refine s_move rfl rfl rfl rfl ?_
            refine s_move rfl rfl rfl rfl ?_
            refine t_eql rfl rfl rfl rfl rfl (by omega) ?_
            refine s_pick rfl rfl rfl rfl rfl ?_
            refine s_move rfl rfl rfl rfl ?_
            refine s_move rfl rfl rfl rfl ?_
            refine s_callT rfl rfl rfl (by kernel_rfl) rfl (pfirst_nil) ?_
            rintro v w78 rfl lw78
            replace pz := And.intro (pz.1.trans lw78) trivial
            try replace hR := hR.later lw78
            try replace hown := own_later hown lw78
            refine t_eql rfl rfl rfl rfl rfl (by omega) ?_
            refine s_pick rfl rfl rfl rfl rfl ?_
            refine s_assign rfl rfl rfl rfl ?_
            refine vOrd_nil ?_
            refine Wp.ret ⟨.inr rfl, fun lW => ⟨_, res_tmp (P := Try.prog) rfl rfl, _, rfl, ?_, lW⟩⟩
            clear lW
            rfl
theorem law_rbnone (l : List Sg) (hsz : l.length * 32 ≤ 140737488351232) {day off : Int} (hd : I64 day) (ho : I64 off) {v : Value} {w : World} (hv : SegAt w v l) (hf : (l = [] ∧ v = .slice none 0 0) ∨ ∃ b o c, v = .slice (some ⟨b, o, none⟩) l.length c) {d s a : Int} (hd6 : I64 d) (hs6 : I64 s) (ha6 : I64 a) {nh nl t : Int} (hz : WideIs nh nl t) : Calls Try.prog 9 #[.agg #[v, .int .i64 day, .int .i64 off], .agg #[.int .i64 d, .int .i64 s, .int .i64 a], .agg #[.int .i64 nh, .int .u64 nl]] w fun e w' => ∃ r, e = .returned r ∧ r = .bool true ∧ Below w.heap.size w w' := by
  rcases hf with ⟨rfl, rfl⟩ | ⟨b, o, c, rfl⟩
  · exact law_rbnone0 hd ho hz
  · cases hm : mayS l day off with
    | false => exact law_rbnone1 l hsz hd ho hm hv hz
    | true => exact law_rbnone2 l hsz hd ho hm hv hd6 hs6 ha6 hz

end Go.Proofs.Ytokpneglldfmjaa
