/-
  NTP: the walks of the laws of layer 20.
-/
import Derived.Test.YtlpenfganhaclaaNtB
namespace Go.Proofs.Ytlpenfganhaclaa
open Go.RowKit
set_option maxRecDepth 100000

theorem nt_c1 : ntE 64 1500000000000000000 = 0 ∧ ntL 64 1500000000000000000 = [0, 0, 0, 1, 128, 0, 0, 0] ∧ ndE 64 [0, 0, 0, 1, 128, 0, 0, 0] 0 = 0 ∧ ndZ 64 [0, 0, 0, 1, 128, 0, 0, 0] 0 = 1500000000000000000 ∧ ntE 48 1500000000000000000 = 1 := by decide +kernel
theorem nt_len (b n : Int) : (ntL b n).length ≤ 1000 := by
  unfold ntL
  split
  · rename_i h
    rw [ntO_len]
    have := ntK_cases (nt_zero h).1
    omega
  · exact Nat.zero_le _
theorem ntanswers_any {w : World} : Calls Try.prog 10 #[] w fun e w' => ∃ r, e = .returned r ∧ r = .bool true ∧ Below w.heap.size w w' := by
  obtain ⟨f1, f2, f3, f4, f5⟩ := nt_c1
  refine calls_Wp (args := []) (n := 43) Try.func10 rfl rfl (by simp) ?_
  refine qZ ?_
  refine Wp.seq ?_
  refine wR [0, 1, 2, 3, 4, 5, 6] ?_
  refine s_callT rfl rfl rfl (by kernel_rfl) rfl (c_wof 1500000000000000000 (by decide) (by decide) _) ?_
  rintro v w1 ⟨a1h, a1l, rfl, a1⟩ lw1
  try replace pz := And.intro (pz.1.trans lw1) trivial
  refine sT (nenc_any (b := 64) ⟨by decide, by decide⟩ ⟨_, _, rfl, a1⟩) ?_
  rintro v w2 ⟨sl, rfl, hb⟩ lw2
  try replace pz := And.intro (pz.1.trans lw2) trivial
  rw [f1]
  rw [f2] at hb
  have pz : Later w2 w2 ∧ True := ⟨Later.refl _, trivial⟩
  refine sZ 5 ?_
  refine qQ 1 ?_
  refine s_callT rfl rfl rfl (by kernel_rfl) rfl (c_wof 0 (by decide) (by decide) _) ?_
  rintro v w3 ⟨a2h, a2l, rfl, a2⟩ lw3
  try replace pz := And.intro (pz.1.trans lw3) trivial
  refine s_callT rfl rfl rfl (by kernel_rfl) rfl (ndec_any (b := 64) ⟨by decide, by decide⟩ (hb.later pz.1) (by decide) ⟨_, _, rfl, a2⟩) ?_
  rintro v w4 ⟨xu, rfl, xh, xl, rfl, x⟩ lw4
  try replace pz := And.intro (pz.1.trans lw4) trivial
  rw [f3]
  rw [f4] at x
  refine sQ 3 ?_
  refine sO (fun bk5 w5 kb5 lw5 => ?_)
  try have kpz3 := Nat.le_trans pz.1.size kb5
  try replace pz := And.intro (pz.1.trans lw5) trivial
  refine sS (fun w6 sw6 vw6 => ?_)
  try replace pz := And.intro (pz.1.sto sw6 kpz3) trivial
  refine sZ 1 ?_
  refine qQ 1 ?_
  refine sT (nenc_any (b := 48) ⟨by decide, by decide⟩ ⟨_, _, rfl, x⟩) ?_
  rintro v w7 ⟨sm, rfl, hb2⟩ lw7
  try replace pz := And.intro (pz.1.trans lw7) trivial
  rw [f5]
  refine sZ 5 ?_
  refine Wp.seq ?_
  refine wD [0, 1, 2, 3, 4, 5, 6, 7, 8, 9, 10, 11, 12, 13, 14, 15, 16, 17, 18, 19, 20] [0, 0, 0, 0, 0, 0, 0, 0, 0, 0, 0, 0, 12287, 0, 0, 0, 0, 0, 0, 0, 0] (fun | 13 => fun v _ => IsW 1500000000000000000 v | _ => fun _ _ => True) (fun wd ld => ?_)
  try replace pz := And.intro (pz.1.trans ld) trivial
  refine sM ?_
  refine t_eql rfl rfl rfl rfl rfl (by omega) ?_
  refine sQ 2 ?_
  refine x_strB rfl rfl rfl rfl rfl rfl rfl (hb.later pz.1) ?_
  refine b_eqT rfl rfl rfl rfl rfl (rfl) ?_
  refine sQ 3 ?_
  refine t_eql rfl rfl rfl rfl rfl (by omega) ?_
  refine sQ 3 ?_
  refine s_callD rfl rfl rfl (by kernel_rfl) rfl (fun wc lc => c_wof 1500000000000000000 (by decide) (by decide) wc) ?_
  rintro v w9 u9 ⟨d1h, d1l, rfl, d1⟩ lw9 mw9
  try replace pz := And.intro (pz.1.trans lw9) trivial
  try replace pz := And.intro (pz.1.trans mw9) trivial
  refine s_eqv (c := true) rfl rfl rfl rfl rfl (fun _ => by kernel_rfl) (fun w => by rw [run_eql_wide, eqW_same x d1]) ?_
  refine sQ 3 ?_
  refine t_eql rfl rfl rfl rfl rfl (by omega) ?_
  refine sZ 2 ?_
  refine Wp.ret ⟨.inr rfl, fun lW => ⟨_, res_tmp (P := Try.prog) rfl rfl, _, rfl, ?_, lW⟩⟩
  clear lW
  rfl
set_option maxHeartbeats 1000000 in
theorem law_ntenc {b nh nl n : Int} (hb : I64 b) (hn : WideIs nh nl n) {w : World} : Calls Try.prog 3 #[.int .i64 b, .agg #[.int .i64 nh, .int .u64 nl]] w fun e w' => ∃ r, e = .returned r ∧ r = .bool true ∧ Below w.heap.size w w' := by
  refine calls_Wp (args := [_, _]) (n := 33) Try.func3 rfl rfl (by simp) ?_
  refine Wp.seq ?_
  refine wR [0, 1] ?_
  refine sE (fun bk1 w1 kb1 lw1 => ?_)
  try have kpz3 := Nat.le_trans pz.1.size kb1
  try replace pz := And.intro (pz.1.trans lw1) trivial
  try have kqz3 := Nat.le_trans qz.1.size kb1
  try replace qz := And.intro (qz.1.trans lw1) trivial
  refine sZ 1 ?_
  refine qQ 2 ?_
  refine sT (nenc_any hb ⟨_, _, rfl, hn⟩) ?_
  rintro v w2 ⟨s1, rfl, h1⟩ lw2
  try replace pz := And.intro (pz.1.trans lw2) trivial
  try replace qz := And.intro (qz.1.trans lw2) trivial
  have pz : Later w2 w2 ∧ True := ⟨Later.refl _, trivial⟩
  refine sZ 5 ?_
  refine qQ 2 ?_
  refine sT (c_rof ⟨_, _, rfl, hn⟩ _) ?_
  rintro v w3 hr lw3
  try replace pz := And.intro (pz.1.trans lw3) trivial
  try replace qz := And.intro (qz.1.trans lw3) trivial
  refine s_callT rfl rfl rfl (by kernel_rfl) rfl (rntp_any (hr.kp) (by decide)) ?_
  rintro v w4 ⟨s2, rfl, h2⟩ lw4
  try replace pz := And.intro (pz.1.trans lw4) trivial
  try replace qz := And.intro (qz.1.trans lw4) trivial
  have qz : Later w4 w4 ∧ True := ⟨Later.refl _, trivial⟩
  refine sZ 5 ?_
  refine Wp.seq ?_
  refine wR [0, 1, 2, 3, 4, 5, 6, 7, 8, 9, 10, 11] ?_
  refine sT (ntanswers_any) ?_
  rintro v w5 rfl lw5
  try replace pz := And.intro (pz.1.trans lw5) trivial
  try replace qz := And.intro (qz.1.trans lw5) trivial
  refine sQ 3 ?_
  refine t_eql rfl rfl rfl rfl rfl (by omega) ?_
  refine sQ 4 ?_
  refine sT (rsame_yes (h1.later pz.1) (h2.later qz.1)) ?_
  rintro v w6 rfl lw6
  try replace pz := And.intro (pz.1.trans lw6) trivial
  try replace qz := And.intro (qz.1.trans lw6) trivial
  refine sZ 2 ?_
  refine Wp.ret ⟨.inr rfl, fun lW => ⟨_, res_tmp (P := Try.prog) rfl rfl, _, rfl, ?_, lW⟩⟩
  clear lW
  rfl
set_option maxHeartbeats 1000000 in
theorem law_ntdec {b ph pl p : Int} {l : List UInt8} {v : Value} (hb : I64 b) (hl : l.length ≤ 9223372036854775807) (hp : WideIs ph pl p) {w : World} (hu : BytesAt w v l) : Calls Try.prog 4 #[.int .i64 b, v, .agg #[.int .i64 ph, .int .u64 pl]] w fun e w' => ∃ r, e = .returned r ∧ r = .bool true ∧ Below w.heap.size w w' := by
  have pz : Later w w ∧ True := ⟨Later.refl w, trivial⟩
  refine calls_Wp (args := [_, _, _]) (n := 37) Try.func4 rfl rfl (by simp) ?_
  refine Wp.seq ?_
  refine wR [0, 1] ?_
  refine sE (fun bk1 w1 kb1 lw1 => ?_)
  try have kpz5 := Nat.le_trans pz.1.size kb1
  try replace pz := And.intro (pz.1.trans lw1) trivial
  refine sZ 1 ?_
  refine qQ 3 ?_
  refine sT (ndec_any hb (hu.later pz.1) hl ⟨_, _, rfl, hp⟩) ?_
  rintro v w2 ⟨xu, rfl, xh, xl, rfl, x⟩ lw2
  try replace pz := And.intro (pz.1.trans lw2) trivial
  refine sQ 3 ?_
  refine sO (fun bk3 w3 kb3 lw3 => ?_)
  try have kpz7 := Nat.le_trans pz.1.size kb3
  try replace pz := And.intro (pz.1.trans lw3) trivial
  refine sS (fun w4 sw4 vw4 => ?_)
  try replace pz := And.intro (pz.1.sto sw4 kpz7) trivial
  refine sZ 1 ?_
  refine qQ 3 ?_
  refine sT (c_rof ⟨_, _, rfl, hp⟩ _) ?_
  rintro v w5 hr lw5
  try replace pz := And.intro (pz.1.trans lw5) trivial
  refine s_callT rfl rfl rfl (by kernel_rfl) rfl (rfromntp_any hb (hu.later pz.1) hl (hr.kp) (by decide)) ?_
  rintro v w6 ⟨yu, rfl, yh, yl, rfl, y⟩ lw6
  try replace pz := And.intro (pz.1.trans lw6) trivial
  refine sQ 3 ?_
  refine sO (fun bk7 w7 kb7 lw7 => ?_)
  try have kpz9 := Nat.le_trans pz.1.size kb7
  try replace pz := And.intro (pz.1.trans lw7) trivial
  refine sS (fun w8 sw8 vw8 => ?_)
  try replace pz := And.intro (pz.1.sto sw8 kpz9) trivial
  refine sZ 1 ?_
  refine Wp.seq ?_
  refine wR [0, 1, 2, 3, 4, 5, 6, 7, 8, 9, 10, 11] ?_
  refine sT (ntanswers_any) ?_
  rintro v w9 rfl lw9
  try replace pz := And.intro (pz.1.trans lw9) trivial
  refine sQ 3 ?_
  refine t_eql rfl rfl rfl rfl rfl (by omega) ?_
  refine sQ 4 ?_
  refine s_eqv (c := true) rfl rfl rfl rfl rfl (fun _ => by kernel_rfl) (fun w => by rw [run_eql_wide, eqW_same x y]) ?_
  refine sZ 2 ?_
  refine Wp.ret ⟨.inr rfl, fun lW => ⟨_, res_tmp (P := Try.prog) rfl rfl, _, rfl, ?_, lW⟩⟩
  clear lW
  rfl
set_option maxHeartbeats 1000000 in
theorem law_ntsame {b ph pl p : Int} {l : List UInt8} {v : Value} (hb : I64 b) (hl : l.length ≤ 9223372036854775807) (hp : WideIs ph pl p) {w : World} (hu : BytesAt w v l) : Calls Try.prog 6 #[.int .i64 b, v, .agg #[.int .i64 ph, .int .u64 pl]] w fun e w' => ∃ r, e = .returned r ∧ r = .bool true ∧ Below w.heap.size w w' := by
  have pz : Later w w ∧ True := ⟨Later.refl w, trivial⟩
  refine calls_Wp (args := [_, _, _]) (n := 37) Try.func6 rfl rfl (by simp) ?_
  refine Wp.seq ?_
  refine wR [0, 1] ?_
  refine sE (fun bk1 w1 kb1 lw1 => ?_)
  try have kpz5 := Nat.le_trans pz.1.size kb1
  try replace pz := And.intro (pz.1.trans lw1) trivial
  try have kqz5 := Nat.le_trans qz.1.size kb1
  try replace qz := And.intro (qz.1.trans lw1) trivial
  refine sZ 1 ?_
  refine qQ 3 ?_
  refine sT (ndec_any hb (hu.later pz.1) hl ⟨_, _, rfl, hp⟩) ?_
  rintro v w2 ⟨xu, rfl, xh, xl, rfl, x⟩ lw2
  try replace pz := And.intro (pz.1.trans lw2) trivial
  try replace qz := And.intro (qz.1.trans lw2) trivial
  refine sQ 3 ?_
  refine sO (fun bk3 w3 kb3 lw3 => ?_)
  try have kpz7 := Nat.le_trans pz.1.size kb3
  try replace pz := And.intro (pz.1.trans lw3) trivial
  try have kqz7 := Nat.le_trans qz.1.size kb3
  try replace qz := And.intro (qz.1.trans lw3) trivial
  refine sS (fun w4 sw4 vw4 => ?_)
  try replace pz := And.intro (pz.1.sto sw4 kpz7) trivial
  try replace qz := And.intro (qz.1.sto sw4 kqz7) trivial
  refine sZ 1 ?_
  refine Wp.seq ?_
  refine qQ 1 ?_
  refine p_neq rfl rfl rfl rfl rfl (fun h19 => ?_) (fun h19 => ?_)
  · refine vOrd_nil ?_
    refine Wp.condT rfl rfl ?_
    refine Wp.seq ?_
    refine wR [0, 1] ?_
    refine sT (ntanswers_any) ?_
    rintro v w5 rfl lw5
    try replace pz := And.intro (pz.1.trans lw5) trivial
    try replace qz := And.intro (qz.1.trans lw5) trivial
    refine sZ 1 ?_
    refine Wp.ret ⟨.inr rfl, fun lW => ⟨_, res_tmp (P := Try.prog) rfl rfl, _, rfl, ?_, lW⟩⟩
    clear lW
    rfl
  · refine vOrd_nil ?_
    refine Wp.condF rfl rfl ?_
    refine Wp.skip ?_
    refine Wp.seq ?_
    obtain ⟨e1, e2⟩ := nt_same (b := b) (l := l) (p := p) (by omega)
    have e3 : ntL b (ndZ b l p) = l := by unfold ntL; rw [if_pos e1]; exact e2
    refine wQ 2 ?_
    refine sT (nenc_any hb ⟨_, _, rfl, x⟩) ?_
    rintro v w6 ⟨s2, rfl, h2⟩ lw6
    try replace pz := And.intro (pz.1.trans lw6) trivial
    try replace qz := And.intro (qz.1.trans lw6) trivial
    rw [e1]
    rw [e3] at h2
    have qz : Later w6 w6 ∧ True := ⟨Later.refl _, trivial⟩
    refine sZ 5 ?_
    refine Wp.seq ?_
    refine wR [0, 1, 2, 3, 4, 5, 6, 7, 8, 9, 10] ?_
    refine sT (ntanswers_any) ?_
    rintro v w7 rfl lw7
    try replace pz := And.intro (pz.1.trans lw7) trivial
    try replace qz := And.intro (qz.1.trans lw7) trivial
    refine sQ 2 ?_
    refine t_eql rfl rfl rfl rfl rfl (by omega) ?_
    refine sQ 4 ?_
    refine sT (rsame_yes (hu.later pz.1) (h2.later qz.1)) ?_
    rintro v w8 rfl lw8
    try replace pz := And.intro (pz.1.trans lw8) trivial
    try replace qz := And.intro (qz.1.trans lw8) trivial
    refine sZ 2 ?_
    refine Wp.ret ⟨.inr rfl, fun lW => ⟨_, res_tmp (P := Try.prog) rfl rfl, _, rfl, ?_, lW⟩⟩
    clear lW
    rfl
set_option maxHeartbeats 1000000 in
theorem law_ntflo {b nh nl n : Int} (hb : I64 b) (hn : WideIs nh nl n) {w : World} : Calls Try.prog 5 #[.int .i64 b, .agg #[.int .i64 nh, .int .u64 nl]] w fun e w' => ∃ r, e = .returned r ∧ r = .bool true ∧ Below w.heap.size w w' := by
  refine calls_Wp (args := [_, _]) (n := 69) Try.func5 rfl rfl (by simp) ?_
  refine Wp.seq ?_
  refine wR [0, 1] ?_
  refine sE (fun bk1 w1 kb1 lw1 => ?_)
  try have kpz3 := Nat.le_trans pz.1.size kb1
  try replace pz := And.intro (pz.1.trans lw1) trivial
  refine sZ 1 ?_
  refine qQ 2 ?_
  refine sT (nenc_any hb ⟨_, _, rfl, hn⟩) ?_
  rintro v w2 ⟨s1, rfl, h1⟩ lw2
  try replace pz := And.intro (pz.1.trans lw2) trivial
  have pz : Later w2 w2 ∧ True := ⟨Later.refl _, trivial⟩
  refine sZ 5 ?_
  refine Wp.seq ?_
  refine qQ 1 ?_
  refine p_neq rfl rfl rfl rfl rfl (fun h18 => ?_) (fun h18 => ?_)
  · refine vOrd_nil ?_
    refine Wp.condT rfl rfl ?_
    refine Wp.seq ?_
    refine wR [0, 1] ?_
    refine sT (ntanswers_any) ?_
    rintro v w3 rfl lw3
    try replace pz := And.intro (pz.1.trans lw3) trivial
    refine sZ 1 ?_
    refine Wp.ret ⟨.inr rfl, fun lW => ⟨_, res_tmp (P := Try.prog) rfl rfl, _, rfl, ?_, lW⟩⟩
    clear lW
    rfl
  · refine vOrd_nil ?_
    refine Wp.condF rfl rfl ?_
    refine Wp.skip ?_
    refine Wp.seq ?_
    obtain ⟨hN, hI⟩ := nt_zero (b := b) (n := n) (by omega)
    have hbk := nt_back (b := b) (n := n) (by omega)
    have e2 := (nt_ok (n := n) hN hI).2
    rw [e2] at h1
    have hkc := ntK_cases hN
    refine wQ 3 ?_
    refine s_callT rfl rfl rfl (by kernel_rfl) rfl (ndec_any hb (h1.later pz.1) (by rw [ntO_len]; omega) ⟨_, _, rfl, hn⟩) ?_
    rintro v w4 ⟨xu, rfl, xh, xl, rfl, x⟩ lw4
    try replace pz := And.intro (pz.1.trans lw4) trivial
    refine sQ 3 ?_
    refine sO (fun bk5 w5 kb5 lw5 => ?_)
    try have kpz7 := Nat.le_trans pz.1.size kb5
    try replace pz := And.intro (pz.1.trans lw5) trivial
    refine sS (fun w6 sw6 vw6 => ?_)
    try replace pz := And.intro (pz.1.sto sw6 kpz7) trivial
    refine sZ 1 ?_
    refine Wp.seq ?_
    refine qQ 1 ?_
    refine p_neq rfl rfl rfl rfl rfl (fun h28 => ?_) (fun h28 => ?_)
    · have hov : ndE b (ntO b n) n = 2 ∧ b ≠ 128 := by rcases hbk with q | q; exact absurd q.1 (by omega); exact q
      rw [hov.1]
      refine vOrd_nil ?_
      refine Wp.condT rfl rfl ?_
      refine Wp.seq ?_
      refine wR [0, 1, 2, 3, 4, 5, 6, 7, 8, 9] ?_
      refine sT (ntanswers_any) ?_
      rintro v w7 rfl lw7
      try replace pz := And.intro (pz.1.trans lw7) trivial
      refine sQ 2 ?_
      refine t_eql rfl rfl rfl rfl rfl (by omega) ?_
      refine sQ 3 ?_
      refine t_neq rfl rfl rfl rfl rfl (by omega) ?_
      refine sZ 2 ?_
      refine Wp.ret ⟨.inr rfl, fun lW => ⟨_, res_tmp (P := Try.prog) rfl rfl, _, rfl, ?_, lW⟩⟩
      clear lW
      rfl
    · obtain ⟨g1, g2, g3⟩ : ndZ b (ntO b n) n ≤ n ∧ (n - ndZ b (ntO b n) n) * oP (ntK b) < 1000000000000000000 ∧ (b = 128 → ndZ b (ntO b n) n = n) := by
        rcases hbk with q | q
        · exact q.2
        · exact absurd q.1 (by omega)
      obtain ⟨z, hz⟩ : ∃ z, ndZ b (ntO b n) n = z := ⟨_, rfl⟩
      rw [hz] at x g1 g2 g3
      have hsg := sg_pos (z := n - z) (by omega)
      obtain ⟨k, hkk⟩ : ∃ k, ntK b = k := ⟨_, rfl⟩
      rw [hkk] at g2 hkc
      have hkz : (k : Int) = b / 16 := by omega
      have hc := cmpI_low.2 g2
      refine vOrd_nil ?_
      refine Wp.condF rfl rfl ?_
      refine Wp.skip ?_
      refine Wp.seq ?_
      refine wD [0, 2, 5, 1, 3, 4, 6] [36, 35, 31, 0, 0, 0, 0] (fun | 1 => IsBig 11 (n) | 3 => IsBig 11 (z) | 4 => IsBig 12 (n - z) | _ => fun _ _ => True) (fun wd ld => ?_)
      try replace pz := And.intro (pz.1.trans ld) trivial
      refine sQ 2 ?_
      refine sO (fun bk8 w8 kb8 lw8 => ?_)
      try have kpz9 := Nat.le_trans pz.1.size kb8
      try replace pz := And.intro (pz.1.trans lw8) trivial
      refine sD (fun wc lc => c_rof ⟨_, _, rfl, hn⟩ wc) ?_
      rintro v w9 u9 i1 lw9 mw9
      try replace pz := And.intro (pz.1.trans lw9) trivial
      try replace pz := And.intro (pz.1.trans mw9) trivial
      refine sD (fun wc lc => c_rof ⟨_, _, rfl, x⟩ wc) ?_
      rintro v w10 u10 i2 lw10 mw10
      try replace pz := And.intro (pz.1.trans lw10) trivial
      try replace pz := And.intro (pz.1.trans mw10) trivial
      refine s_callD rfl rfl rfl (by kernel_rfl) rfl (fun wc lc => c_rsub (i1.kp) (i2.kp) (by decide) (by decide)) ?_
      rintro v w11 u11 i3 lw11 mw11
      try replace pz := And.intro (pz.1.trans lw11) trivial
      try replace pz := And.intro (pz.1.trans mw11) trivial
      obtain ⟨i3a, i3l, i3c, rfl, -⟩ := id i3
      rw [hsg] at i3 ⊢
      refine sS (fun w12 sw12 vw12 => ?_)
      try replace pz := And.intro (pz.1.sto sw12 kpz9) trivial
      refine vOrd_nil ?_
      refine Wp.seq ?_
      refine wD [0, 1, 2, 5, 3, 4, 6] [46, 33, 35, 31, 0, 0, 0] (fun | 3 => IsBig 9 (oP k) | 4 => IsBig 21 ((n - z) * oP k) | _ => fun _ _ => True) (fun wd ld => ?_)
      try replace pz := And.intro (pz.1.trans ld) trivial
      refine sQ 2 ?_
      refine a_quo rfl rfl rfl rfl rfl (by omega) (by omega) (by show _ ≤ (9223372036854775807 : Int); omega) ?_
      refine sO (fun bk13 w13 kb13 lw13 => ?_)
      try have kpz10 := Nat.le_trans pz.1.size kb13
      try replace pz := And.intro (pz.1.trans lw13) trivial
      refine s_callD rfl rfl rfl (by kernel_rfl) rfl (fun wc lc => rpow_any k hkz (by omega)) ?_
      rintro v w14 u14 i4 lw14 mw14
      try replace pz := And.intro (pz.1.trans lw14) trivial
      try replace pz := And.intro (pz.1.trans mw14) trivial
      refine s_callD rfl rfl rfl (by kernel_rfl) rfl (fun wc lc => c_mul (i3.kp) (i4.kp) (by decide) (by decide)) ?_
      rintro v w15 u15 i5 lw15 mw15
      try replace pz := And.intro (pz.1.trans lw15) trivial
      try replace pz := And.intro (pz.1.trans mw15) trivial
      obtain ⟨i5a, i5l, i5c, rfl, -⟩ := id i5
      refine sS (fun w16 sw16 vw16 => ?_)
      try replace pz := And.intro (pz.1.sto sw16 kpz10) trivial
      refine vOrd_nil ?_
      refine Wp.seq ?_
      refine wD [0, 1, 2, 3, 4, 5, 6, 7, 8, 9, 10, 11, 12, 13, 14, 15, 16, 17, 18, 19, 20, 21] [0, 0, 0, 0, 0, 0, 0, 383, 0, 0, 0, 0, 0, 0, 0, 0, 196607, 0, 0, 0, 0, 0] (fun | 0 => fun v _ => v = .bool true | 8 => IsBig 5 1000000000000000000 | 9 => fun v _ => v = .int .i64 (cmpI ((n - z) * oP k) 1000000000000000000) | _ => fun _ _ => True) (fun wd ld => ?_)
      try replace pz := And.intro (pz.1.trans ld) trivial
      refine sD (fun wc lc => ntanswers_any) ?_
      rintro v w17 u17 rfl lw17 mw17
      try replace pz := And.intro (pz.1.trans lw17) trivial
      try replace pz := And.intro (pz.1.trans mw17) trivial
      refine sQ 7 ?_
      refine s_callD rfl rfl rfl (by kernel_rfl) rfl (fun wc lc => c_rint 1000000000000000000 (by decide) (by decide) wc) ?_
      rintro v w19 u19 i6 lw19 mw19
      try replace pz := And.intro (pz.1.trans lw19) trivial
      try replace pz := And.intro (pz.1.trans mw19) trivial
      refine s_callD rfl rfl rfl (by kernel_rfl) rfl (fun wc lc => c_cmp (i5.kp) (i6.kp) (by decide) (by decide)) ?_
      rintro v w20 u20 rfl lw20 mw20
      try replace pz := And.intro (pz.1.trans lw20) trivial
      try replace pz := And.intro (pz.1.trans mw20) trivial
      refine t_lss rfl rfl rfl rfl rfl (by omega) ?_
      refine sQ 3 ?_
      refine p_neq rfl rfl rfl rfl rfl (fun h62 => ?_) (fun h62 => ?_)
      · refine sZ 7 ?_
        refine Wp.ret ⟨.inr rfl, fun lW => ⟨_, res_tmp (P := Try.prog) rfl rfl, _, rfl, ?_, lW⟩⟩
        clear lW
        rfl
      · refine sQ 3 ?_
        refine s_eqv (c := true) rfl rfl rfl rfl rfl (fun _ => by kernel_rfl) (fun w => by rw [run_eql_wide, eqW_same hn (g3 (by omega) ▸ x)]) ?_
        refine sZ 3 ?_
        refine Wp.ret ⟨.inr rfl, fun lW => ⟨_, res_tmp (P := Try.prog) rfl rfl, _, rfl, ?_, lW⟩⟩
        clear lW
        rfl
end Go.Proofs.Ytlpenfganhaclaa
