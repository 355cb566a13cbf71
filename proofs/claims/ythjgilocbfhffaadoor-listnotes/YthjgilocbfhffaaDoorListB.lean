/-
  Leap second files: the walks of the laws ListChecks, ListPrints and ListParses of layer 11.
-/
import Derived.Test.YthjgilocbfhffaaDoorListT
import Derived.Test.YthjgilocbfhffaaDoorListF
import Derived.Test.YthjgilocbfhffaaDoorListH
namespace Go.Proofs.YthjgilocbfhffaaDoor
open Go.RowKit
set_option maxRecDepth 100000

theorem run_eql_bool (a b : Bool) (w : World) : (binOp .eql 4 (.bool a) (.bool b)).run Tryd.prog w = .ok (.bool (a == b)) w := by
  cases a <;> cases b <;> simp [go_sem]
theorem EntAt.apart {w : World} {b : Nat} {v : Value} {es : List Ent} (h : EntAt w v es) (kb : w.heap.size ≤ b) {w1 w2 : World} (h1 : EntAt w1 v es) (s : Stored b w1 w2) : EntAt w2 v es := by
  obtain ⟨a, c, rfl, h2, h3⟩ := h
  obtain ⟨a', c', e, k2, k3⟩ := h1
  cases e
  refine ⟨a, c, rfl, h2, fun j x hj => ?_⟩
  obtain ⟨_, _, b1, o1, e1, q1, _⟩ := h3 j x hj
  obtain ⟨i1, i2, b2, o2, e2, l1, l2⟩ := k3 j x hj
  have hb : b2 < w.heap.size := by
    rw [e1] at e2
    cases e2
    exact World.block_lt_of_cell? w _ q1
  exact ⟨i1, i2, b2, o2, e2, (s.cell (by show b2 ≠ b; omega)).trans l1, (s.cell (by show b2 ≠ b; omega)).trans l2⟩
theorem EntAt.form {w : World} {v : Value} {es : List Ent} (h : EntAt w v es) : ∃ a c, v = .slice a es.length c := by
  obtain ⟨a, c, h1, _⟩ := h
  exact ⟨a, c, h1⟩
theorem rtable_yes {t : Tb} (hb : canBe t = true) (hu : I64 t.u) (he : I64 t.e) {v : Value} {w : World} (hv : EntAt w v t.es) : Calls Tryd.prog 10 #[tbV t v] w fun e w' => ∃ r, e = .returned r ∧ r = .tuple #[.int .i64 0, .bool true] ∧ Below w.heap.size w w' := by
  have h := rtable_any t hu he hv
  rw [can_place hb, hb] at h
  exact h
theorem rtable_no {t : Tb} (hb : canBe t = false) (hu : I64 t.u) (he : I64 t.e) {v : Value} {w : World} (hv : EntAt w v t.es) : Calls Tryd.prog 10 #[tbV t v] w fun e w' => ∃ r, e = .returned r ∧ r = .tuple #[.int .i64 (place t : Int), .bool false] ∧ Below w.heap.size w w' := by
  have h := rtable_any t hu he hv
  rw [hb] at h
  exact h
theorem tb_form {t : Tb} {v : Value} {w : World} (h : EntAt w v t.es) : ∃ a c, v = .slice a t.es.length c ∧ tbV t v = .agg #[.int .i64 t.u, .int .i64 t.e, .slice a t.es.length c] := by
  obtain ⟨a, c, rfl⟩ := h.form
  exact ⟨a, c, rfl, rfl⟩
theorem parse_at {x : List UInt8} {t : Tb} {n : Nat} {k : Int} (h : parseL x = (t, n, k)) (hx0 : x.length ≤ 140737488351232) {w : World} (hT : Tab w) : Calls Tryd.prog 14 #[.string ⟨⟨x⟩⟩] w fun e w' => ∃ r, e = .returned r ∧ (∃ a c, r = .tuple #[.agg #[.int .i64 t.u, .int .i64 t.e, .slice a t.es.length c], .int .i64 (n : Int), .int .i64 k] ∧ EntAt w' (.slice a t.es.length c) t.es) ∧ Below w.heap.size w w' := by
  have hp := parse_any x hx0 hT
  rw [h] at hp
  refine Calls.mono hp fun e w' hq => ?_
  obtain ⟨r, h1, ⟨v, h2, h3⟩, h4⟩ := hq
  obtain ⟨a, c, rfl⟩ := h3.form
  exact ⟨r, h1, ⟨a, c, h2, h3⟩, h4⟩
theorem rparse_at {x : List UInt8} {t : Tb} {n : Nat} {k : Int} (h : parseL x = (t, n, k)) (hx0 : x.length ≤ 140737488351232) (w : World) : Calls Tryd.prog 18 #[.string ⟨⟨x⟩⟩] w fun e w' => ∃ r, e = .returned r ∧ (∃ a c, r = .tuple #[.agg #[.int .i64 t.u, .int .i64 t.e, .slice a t.es.length c], .int .i64 (n : Int), .int .i64 k] ∧ EntAt w' (.slice a t.es.length c) t.es) ∧ Below w.heap.size w w' := by
  have hp := rparse_any x hx0 w
  rw [h] at hp
  refine Calls.mono hp fun e w' hq => ?_
  obtain ⟨r, h1, ⟨v, h2, h3⟩, h4⟩ := hq
  obtain ⟨a, c, rfl⟩ := h3.form
  exact ⟨r, h1, ⟨a, c, h2, h3⟩, h4⟩
theorem run_Ok : ∀ (L : List (List UInt8)) (n : Nat) (s s' : PS), s.Ok n → runP L n s = .ok s' → ∃ m, s'.Ok m
  | [], n, s, s', h, e => by rw [runP] at e; cases e; exact ⟨n, h⟩
  | l :: r, n, s, s', h, e => by
    rw [runP] at e
    split at e
    · cases e
    · rename_i s1 hs
      exact run_Ok r (n + 1) s1 s' (h.step (by omega) hs) e
theorem parse_in (x : List UInt8) : I64 (parseL x).1.u ∧ I64 (parseL x).1.e ∧ (parseL x).1.es.length ≤ 64 := by
  have hz : I64 (0 : Int) ∧ I64 (0 : Int) ∧ ([] : List Ent).length ≤ 64 := by unfold I64; simp
  unfold parseL
  split
  · exact hz
  · split
    · exact hz
    · rename_i s hs
      obtain ⟨m, ho⟩ := run_Ok _ _ _ _ PS.Ok.zero hs
      unfold endP
      split
      · exact hz
      · split
        · have h1 := ho.u
          have h2 := ho.e
          exact ⟨⟨by show _ ≤ s.t.u; omega, by show s.t.u ≤ _; omega⟩, ⟨by show _ ≤ s.t.e; omega, by show s.t.e ≤ _; omega⟩, ok_len ho.es⟩
        · exact hz
def tZ : Tb := ⟨1, 2, [(2272060800, 10)]⟩
theorem tZ_can : canBe tZ = true := by decide
theorem tZ_dig : digitsL tZ = [49, 50, 50, 50, 55, 50, 48, 54, 48, 56, 48, 48, 49, 48] := by kernel_rfl
theorem nil_parse : parseL [] = (⟨0, 0, []⟩, 1, 4) := by kernel_rfl
theorem row_ent {w : World} {c : Nat} (h : RowIs w c 43 [.int .i64 2272060800, .int .i64 10]) : EntAt w (.slice (some ⟨c, 0, none⟩) 1 1) [(2272060800, 10)] :=
  ents_own (base := 0) (own_of_row (xs := entC [(2272060800, 10)]) h (Nat.zero_le _) rfl (by decide)) (fun j hj => by
    have : j = 0 := by simp at hj; omega
    subst this
    decide)
theorem check_zero (w : World) : Calls Tryd.prog 9 #[.agg #[.int .i64 0, .int .i64 0, .slice none 0 0]] w fun e w' => ∃ r, e = .returned r ∧ r = .tuple #[.int .i64 0, .int .i64 10] ∧ Below w.heap.size w w' :=
  check_no (t := ⟨0, 0, []⟩) rfl (by unfold I64; decide) (by unfold I64; decide) (EntAt.nil w)
set_option maxHeartbeats 4000000 in
theorem lanswers_any {w : World} (hT : Tab w) : Calls Tryd.prog 11 #[] w fun e w' => ∃ r, e = .returned r ∧ r = .bool true ∧ Below w.heap.size w w' := by
  refine calls_Wp (args := []) (n := 62) Tryd.func11 rfl rfl (by simp) ?_
  refine Wp.seq ?_
  refine Wp.region [0] (by kernel_rfl) (by kernel_rfl) ?_
  refine s_assign rfl rfl rfl rfl ?_
  refine vOrd_nil ?_
  refine Wp.seq ?_
  refine Wp.region [0, 1, 2, 3, 4] (by kernel_rfl) (by kernel_rfl) ?_
  refine s_build rfl rfl rfl rfl rfl (by kernel_rfl) ?_
  refine s_bs (e := 43) (cs := [.int .i64 2272060800, .int .i64 10]) rfl rfl rfl (fun _ => by kernel_rfl) ?_
  intro cb wb hcb lb hrow
  have hv := row_ent hrow
  clear hrow
  refine s_build rfl rfl rfl rfl rfl (by kernel_rfl) ?_
  refine s_alloc rfl rfl rfl rfl rfl (fun bk5 w5 kb5 lw5 => ?_)
  try have k1hv := fun w1 w2 => EntAt.apart hv kb5 (w1 := w1) (w2 := w2)
  try replace hv := hv.later lw5
  try have k1hu := fun w1 w2 => EntAt.apart hu kb5 (w1 := w1) (w2 := w2)
  try replace hu := hu.later lw5
  try have k1hw := fun w1 w2 => EntAt.apart hw kb5 (w1 := w1) (w2 := w2)
  try replace hw := hw.later lw5
  refine s_store rfl rfl rfl rfl rfl rfl rfl (fun w6 sw6 vw6 => ?_)
  try replace hv := k1hv _ _ hv sw6
  try replace hu := k1hu _ _ hu sw6
  try replace hw := k1hw _ _ hw sw6
  refine vOrd_nil ?_
  refine Wp.seq ?_
  refine Wp.old (fun lo => ?_)
  have tb := hT.later lo
  clear lo
  refine Wp.region [0, 1, 2, 3, 4, 5, 6] (by kernel_rfl) (by kernel_rfl) ?_
  refine s_build rfl rfl rfl rfl rfl (by kernel_rfl) ?_
  refine s_callT rfl rfl rfl (by kernel_rfl) rfl (check_zero _) ?_
  rintro v w7 rfl lw7
  replace tb := tb.later lw7
  try replace hv := hv.later lw7
  try replace hu := hu.later lw7
  try replace hw := hw.later lw7
  refine s_move rfl rfl rfl rfl ?_
  refine s_extract rfl rfl rfl rfl rfl ?_
  refine s_extract rfl rfl rfl rfl rfl ?_
  refine s_assign rfl rfl rfl rfl ?_
  refine s_assign rfl rfl rfl rfl ?_
  refine vOrd_nil ?_
  refine Wp.seq ?_
  refine Wp.old (fun lo => ?_)
  have tb := hT.later lo
  clear lo
  refine Wp.region [0, 1, 2, 3, 4, 5, 6, 7, 8, 9, 10] (by kernel_rfl) (by kernel_rfl) ?_
  refine s_load rfl rfl rfl rfl rfl rfl rfl ?_
  refine s_callT rfl rfl rfl (by kernel_rfl) rfl (pprint_yes tZ tZ_can (by unfold I64; decide) (by unfold I64; decide) hv tb) ?_
  rintro v w8 rfl lw8
  replace tb := tb.later lw8
  try replace hv := hv.later lw8
  try replace hu := hu.later lw8
  try replace hw := hw.later lw8
  refine s_callT rfl rfl rfl (by kernel_rfl) rfl (parse_at (parse_print tZ_can) (Nat.le_trans (print_len tZ_can) (by decide)) tb) ?_
  rintro v w9 ⟨va, vc, rfl, hu⟩ lw9
  replace tb := tb.later lw9
  try replace hv := hv.later lw9
  try replace hu := hu.later lw9
  try replace hw := hw.later lw9
  refine s_move rfl rfl rfl rfl ?_
  refine s_extract rfl rfl rfl rfl rfl ?_
  refine s_extract rfl rfl rfl rfl rfl ?_
  refine s_extract rfl rfl rfl rfl rfl ?_
  refine s_alloc rfl rfl rfl rfl rfl (fun bk10 w10 kb10 lw10 => ?_)
  try have k4hv := fun w1 w2 => EntAt.apart hv kb10 (w1 := w1) (w2 := w2)
  try replace hv := hv.later lw10
  try have k4hu := fun w1 w2 => EntAt.apart hu kb10 (w1 := w1) (w2 := w2)
  try replace hu := hu.later lw10
  try have k4hw := fun w1 w2 => EntAt.apart hw kb10 (w1 := w1) (w2 := w2)
  try replace hw := hw.later lw10
  refine s_store rfl rfl rfl rfl rfl rfl rfl (fun w11 sw11 vw11 => ?_)
  try replace hv := k4hv _ _ hv sw11
  try replace hu := k4hu _ _ hu sw11
  try replace hw := k4hw _ _ hw sw11
  refine s_assign rfl rfl rfl rfl ?_
  refine s_assign rfl rfl rfl rfl ?_
  refine vOrd_nil ?_
  refine Wp.seq ?_
  refine Wp.old (fun lo => ?_)
  have tb := hT.later lo
  clear lo
  refine Wp.region [0, 1, 2, 3, 4, 5, 6, 7, 8] (by kernel_rfl) (by kernel_rfl) ?_
  refine s_callT rfl rfl rfl (by kernel_rfl) rfl (parse_at nil_parse (by decide) tb) ?_
  rintro v w12 ⟨va4, vc4, rfl, hw⟩ lw12
  replace tb := tb.later lw12
  try replace hv := hv.later lw12
  try replace hu := hu.later lw12
  try replace hw := hw.later lw12
  refine s_move rfl rfl rfl rfl ?_
  refine s_extract rfl rfl rfl rfl rfl ?_
  refine s_extract rfl rfl rfl rfl rfl ?_
  refine s_extract rfl rfl rfl rfl rfl ?_
  refine s_alloc rfl rfl rfl rfl rfl (fun bk13 w13 kb13 lw13 => ?_)
  try have k7hv := fun w1 w2 => EntAt.apart hv kb13 (w1 := w1) (w2 := w2)
  try replace hv := hv.later lw13
  try have k7hu := fun w1 w2 => EntAt.apart hu kb13 (w1 := w1) (w2 := w2)
  try replace hu := hu.later lw13
  try have k7hw := fun w1 w2 => EntAt.apart hw kb13 (w1 := w1) (w2 := w2)
  try replace hw := hw.later lw13
  refine s_store rfl rfl rfl rfl rfl rfl rfl (fun w14 sw14 vw14 => ?_)
  try replace hv := k7hv _ _ hv sw14
  try replace hu := k7hu _ _ hu sw14
  try replace hw := k7hw _ _ hw sw14
  refine s_assign rfl rfl rfl rfl ?_
  refine s_assign rfl rfl rfl rfl ?_
  refine vOrd_nil ?_
  refine Wp.seq ?_
  refine Wp.old (fun lo => ?_)
  have tb := hT.later lo
  clear lo
  refine Wp.region [0, 1, 2, 3, 4, 5, 6, 7, 8, 9, 10, 11, 12, 13, 14, 15, 16, 17, 18, 19, 20, 21, 22, 23, 24, 25, 26, 27, 28, 29, 30, 31, 32] (by kernel_rfl) (by kernel_rfl) ?_
  refine s_load rfl rfl rfl rfl rfl rfl rfl ?_
  refine s_callT rfl rfl rfl (by kernel_rfl) rfl (pdig_yes tZ tZ_can (by unfold I64; decide) (by unfold I64; decide) hv tb) ?_
  rintro v w15 rfl lw15
  replace tb := tb.later lw15
  try replace hv := hv.later lw15
  try replace hu := hu.later lw15
  try replace hw := hw.later lw15
  refine b_eqT rfl rfl rfl rfl rfl (tZ_dig) ?_
  refine s_move rfl rfl rfl rfl ?_
  refine s_move rfl rfl rfl rfl ?_
  refine t_eql rfl rfl rfl rfl rfl (by omega) ?_
  refine s_pick rfl rfl rfl rfl rfl ?_
  refine s_move rfl rfl rfl rfl ?_
  refine s_move rfl rfl rfl rfl ?_
  refine t_eql rfl rfl rfl rfl rfl (by omega) ?_
  refine s_pick rfl rfl rfl rfl rfl ?_
  refine s_move rfl rfl rfl rfl ?_
  refine s_move rfl rfl rfl rfl ?_
  refine t_eql rfl rfl rfl rfl rfl (by omega) ?_
  refine s_pick rfl rfl rfl rfl rfl ?_
  refine s_move rfl rfl rfl rfl ?_
  refine s_move rfl rfl rfl rfl ?_
  refine t_eql rfl rfl rfl rfl rfl (by omega) ?_
  refine s_pick rfl rfl rfl rfl rfl ?_
  refine s_move rfl rfl rfl rfl ?_
  refine s_load rfl rfl rfl rfl rfl rfl rfl ?_
  refine s_load rfl rfl rfl rfl rfl rfl rfl ?_
  refine s_callT rfl rfl rfl (by kernel_rfl) rfl (tsame_any tZ (by unfold I64; decide) (by unfold I64; decide) hv hu (by decide)) ?_
  rintro v w16 rfl lw16
  replace tb := tb.later lw16
  try replace hv := hv.later lw16
  try replace hu := hu.later lw16
  try replace hw := hw.later lw16
  refine s_pick rfl rfl rfl rfl rfl ?_
  refine s_move rfl rfl rfl rfl ?_
  refine s_move rfl rfl rfl rfl ?_
  refine t_eql rfl rfl rfl rfl rfl (by omega) ?_
  refine s_pick rfl rfl rfl rfl rfl ?_
  refine s_move rfl rfl rfl rfl ?_
  refine s_move rfl rfl rfl rfl ?_
  refine t_eql rfl rfl rfl rfl rfl (by omega) ?_
  refine s_pick rfl rfl rfl rfl rfl ?_
  refine s_assign rfl rfl rfl rfl ?_
  refine vOrd_nil ?_
  refine Wp.ret ⟨.inr rfl, fun lW => ⟨_, res_tmp (P := Tryd.prog) rfl rfl, _, rfl, ?_, lW⟩⟩
  clear lW
  rfl
theorem law_checks (t : Tb) (hu : I64 t.u) (he : I64 t.e) {v : Value} {w : World} (hv : EntAt w v t.es) (hT : Tab w) : Calls Tryd.prog 3 #[tbV t v] w fun e w' => ∃ r, e = .returned r ∧ r = .bool true ∧ Below w.heap.size w w' := by
  obtain ⟨va, vc, rfl, ht⟩ := tb_form hv
  rw [ht]
  cases hb : canBe t with
  | true =>
    refine calls_Wp (args := [_]) (n := 36) Tryd.func3 rfl rfl (by simp) ?_
    refine Wp.seq ?_
    refine Wp.region [0, 1] (by kernel_rfl) (by kernel_rfl) ?_
    refine s_box rfl rfl rfl rfl rfl rfl (fun bk1 w1 kb1 lw1 => ?_)
    try have k1hv := fun w1 w2 => EntAt.apart hv kb1 (w1 := w1) (w2 := w2)
    try replace hv := hv.later lw1
    refine s_assign rfl rfl rfl rfl ?_
    refine vOrd_nil ?_
    refine Wp.seq ?_
    refine Wp.old (fun lo => ?_)
    have tb := hT.later lo
    clear lo
    refine Wp.region [0, 1, 2, 3, 4, 5, 6] (by kernel_rfl) (by kernel_rfl) ?_
    refine s_load rfl rfl rfl rfl rfl rfl rfl ?_
    refine s_callT rfl rfl rfl (by kernel_rfl) rfl (check_yes hb hu he hv) ?_
    rintro v w2 rfl lw2
    replace tb := tb.later lw2
    try replace hv := hv.later lw2
    refine s_move rfl rfl rfl rfl ?_
    refine s_extract rfl rfl rfl rfl rfl ?_
    refine s_extract rfl rfl rfl rfl rfl ?_
    refine s_assign rfl rfl rfl rfl ?_
    refine s_assign rfl rfl rfl rfl ?_
    refine vOrd_nil ?_
    refine Wp.seq ?_
    refine Wp.old (fun lo => ?_)
    have tb := hT.later lo
    clear lo
    refine Wp.region [0, 1, 2, 3, 4, 5, 6] (by kernel_rfl) (by kernel_rfl) ?_
    refine s_load rfl rfl rfl rfl rfl rfl rfl ?_
    refine s_callT rfl rfl rfl (by kernel_rfl) rfl (rtable_yes hb hu he hv) ?_
    rintro v w3 rfl lw3
    replace tb := tb.later lw3
    try replace hv := hv.later lw3
    refine s_move rfl rfl rfl rfl ?_
    refine s_extract rfl rfl rfl rfl rfl ?_
    refine s_extract rfl rfl rfl rfl rfl ?_
    refine s_assign rfl rfl rfl rfl ?_
    refine s_assign rfl rfl rfl rfl ?_
    refine vOrd_nil ?_
    refine Wp.seq ?_
    refine Wp.old (fun lo => ?_)
    have tb := hT.later lo
    clear lo
    refine Wp.region [0, 1, 2, 3, 4, 5, 6, 7, 8, 9, 10, 11, 12, 13, 14, 15, 16, 17, 18, 19] (by kernel_rfl) (by kernel_rfl) ?_
    refine s_callT rfl rfl rfl (by kernel_rfl) rfl (lanswers_any tb) ?_
    rintro v w4 rfl lw4
    replace tb := tb.later lw4
    try replace hv := hv.later lw4
    refine s_move rfl rfl rfl rfl ?_
    refine s_move rfl rfl rfl rfl ?_
    refine s_move rfl rfl rfl rfl ?_
    refine t_eql rfl rfl rfl rfl rfl (by omega) ?_
    refine s_pick rfl rfl rfl rfl rfl ?_
    refine s_move rfl rfl rfl rfl ?_
    refine s_move rfl rfl rfl rfl ?_
    refine t_eql rfl rfl rfl rfl rfl (by omega) ?_
    refine s_move rfl rfl rfl rfl ?_
    refine s_eqv (c := true) rfl rfl rfl rfl rfl (fun _ => by kernel_rfl) (fun w => by rw [run_eql_bool]; rfl) ?_
    refine s_pick rfl rfl rfl rfl rfl ?_
    refine s_move rfl rfl rfl rfl ?_
    refine s_move rfl rfl rfl rfl ?_
    refine s_move rfl rfl rfl rfl ?_
    refine s_skip rfl rfl rfl ?_
    refine s_skip rfl rfl rfl ?_
    refine s_pick rfl rfl rfl rfl rfl ?_
    refine s_pick rfl rfl rfl rfl rfl ?_
    refine s_assign rfl rfl rfl rfl ?_
    refine vOrd_nil ?_
    refine Wp.ret ⟨.inr rfl, fun lW => ⟨_, res_tmp (P := Tryd.prog) rfl rfl, _, rfl, ?_, lW⟩⟩
    clear lW
    rfl
  | false =>
    refine calls_Wp (args := [_]) (n := 36) Tryd.func3 rfl rfl (by simp) ?_
    refine Wp.seq ?_
    refine Wp.region [0, 1] (by kernel_rfl) (by kernel_rfl) ?_
    refine s_box rfl rfl rfl rfl rfl rfl (fun bk1 w1 kb1 lw1 => ?_)
    try have k1hv := fun w1 w2 => EntAt.apart hv kb1 (w1 := w1) (w2 := w2)
    try replace hv := hv.later lw1
    refine s_assign rfl rfl rfl rfl ?_
    refine vOrd_nil ?_
    refine Wp.seq ?_
    refine Wp.old (fun lo => ?_)
    have tb := hT.later lo
    clear lo
    refine Wp.region [0, 1, 2, 3, 4, 5, 6] (by kernel_rfl) (by kernel_rfl) ?_
    refine s_load rfl rfl rfl rfl rfl rfl rfl ?_
    refine s_callT rfl rfl rfl (by kernel_rfl) rfl (check_no hb hu he hv) ?_
    rintro v w2 rfl lw2
    replace tb := tb.later lw2
    try replace hv := hv.later lw2
    refine s_move rfl rfl rfl rfl ?_
    refine s_extract rfl rfl rfl rfl rfl ?_
    refine s_extract rfl rfl rfl rfl rfl ?_
    refine s_assign rfl rfl rfl rfl ?_
    refine s_assign rfl rfl rfl rfl ?_
    refine vOrd_nil ?_
    refine Wp.seq ?_
    refine Wp.old (fun lo => ?_)
    have tb := hT.later lo
    clear lo
    refine Wp.region [0, 1, 2, 3, 4, 5, 6] (by kernel_rfl) (by kernel_rfl) ?_
    refine s_load rfl rfl rfl rfl rfl rfl rfl ?_
    refine s_callT rfl rfl rfl (by kernel_rfl) rfl (rtable_no hb hu he hv) ?_
    rintro v w3 rfl lw3
    replace tb := tb.later lw3
    try replace hv := hv.later lw3
    refine s_move rfl rfl rfl rfl ?_
    refine s_extract rfl rfl rfl rfl rfl ?_
    refine s_extract rfl rfl rfl rfl rfl ?_
    refine s_assign rfl rfl rfl rfl ?_
    refine s_assign rfl rfl rfl rfl ?_
    refine vOrd_nil ?_
    refine Wp.seq ?_
    refine Wp.old (fun lo => ?_)
    have tb := hT.later lo
    clear lo
    refine Wp.region [0, 1, 2, 3, 4, 5, 6, 7, 8, 9, 10, 11, 12, 13, 14, 15, 16, 17, 18, 19] (by kernel_rfl) (by kernel_rfl) ?_
    refine s_callT rfl rfl rfl (by kernel_rfl) rfl (lanswers_any tb) ?_
    rintro v w4 rfl lw4
    replace tb := tb.later lw4
    try replace hv := hv.later lw4
    refine s_move rfl rfl rfl rfl ?_
    refine s_move rfl rfl rfl rfl ?_
    refine s_move rfl rfl rfl rfl ?_
    refine t_eql rfl rfl rfl rfl rfl (by omega) ?_
    refine s_pick rfl rfl rfl rfl rfl ?_
    refine s_move rfl rfl rfl rfl ?_
    refine s_move rfl rfl rfl rfl ?_
    refine f_eql rfl rfl rfl rfl rfl (by omega) ?_
    refine s_move rfl rfl rfl rfl ?_
    refine s_eqv (c := true) rfl rfl rfl rfl rfl (fun _ => by kernel_rfl) (fun w => by rw [run_eql_bool]; rfl) ?_
    refine s_pick rfl rfl rfl rfl rfl ?_
    refine s_move rfl rfl rfl rfl ?_
    refine s_move rfl rfl rfl rfl ?_
    refine s_move rfl rfl rfl rfl ?_
    refine s_move rfl rfl rfl rfl ?_
    refine t_eql rfl rfl rfl rfl rfl (by omega) ?_
    refine s_pick rfl rfl rfl rfl rfl ?_
    refine s_pick rfl rfl rfl rfl rfl ?_
    refine s_assign rfl rfl rfl rfl ?_
    refine vOrd_nil ?_
    refine Wp.ret ⟨.inr rfl, fun lW => ⟨_, res_tmp (P := Tryd.prog) rfl rfl, _, rfl, ?_, lW⟩⟩
    clear lW
    rfl
theorem law_prints (t : Tb) (hu : I64 t.u) (he : I64 t.e) {v : Value} {w : World} (hv : EntAt w v t.es) (hT : Tab w) : Calls Tryd.prog 4 #[tbV t v] w fun e w' => ∃ r, e = .returned r ∧ r = .bool true ∧ Below w.heap.size w w' := by
  obtain ⟨va, vc, rfl, ht⟩ := tb_form hv
  rw [ht]
  cases hb : canBe t with
  | true =>
    have hl := can_len hb
    refine calls_Wp (args := [_]) (n := 61) Tryd.func4 rfl rfl (by simp) ?_
    refine Wp.seq ?_
    refine Wp.region [0, 1] (by kernel_rfl) (by kernel_rfl) ?_
    refine s_box rfl rfl rfl rfl rfl rfl (fun bk1 w1 kb1 lw1 => ?_)
    try have k1hv := fun w1 w2 => EntAt.apart hv kb1 (w1 := w1) (w2 := w2)
    try replace hv := hv.later lw1
    try have k1hq := fun w1 w2 => EntAt.apart hq kb1 (w1 := w1) (w2 := w2)
    try replace hq := hq.later lw1
    refine s_assign rfl rfl rfl rfl ?_
    refine vOrd_nil ?_
    refine Wp.seq ?_
    refine Wp.old (fun lo => ?_)
    have tb := hT.later lo
    clear lo
    refine Wp.region [0, 1, 2] (by kernel_rfl) (by kernel_rfl) ?_
    refine s_load rfl rfl rfl rfl rfl rfl rfl ?_
    refine s_callT rfl rfl rfl (by kernel_rfl) rfl (pprint_yes t hb hu he hv tb) ?_
    rintro v w2 rfl lw2
    replace tb := tb.later lw2
    try replace hv := hv.later lw2
    try replace hq := hq.later lw2
    refine s_assign rfl rfl rfl rfl ?_
    refine vOrd_nil ?_
    refine Wp.seq ?_
    refine Wp.seq ?_
    refine Wp.old (fun lo => ?_)
    have tb := hT.later lo
    clear lo
    refine Wp.region [0, 1, 2, 3, 4, 5, 6] (by kernel_rfl) (by kernel_rfl) ?_
    refine s_load rfl rfl rfl rfl rfl rfl rfl ?_
    refine s_callT rfl rfl rfl (by kernel_rfl) rfl (rtable_yes hb hu he hv) ?_
    rintro v w3 rfl lw3
    replace tb := tb.later lw3
    try replace hv := hv.later lw3
    try replace hq := hq.later lw3
    refine s_move rfl rfl rfl rfl ?_
    refine s_extract rfl rfl rfl rfl rfl ?_
    refine s_extract rfl rfl rfl rfl rfl ?_
    refine s_assign rfl rfl rfl rfl ?_
    refine s_assign rfl rfl rfl rfl ?_
    refine vOrd_nil ?_
    refine Wp.seq ?_
    refine Wp.region [0, 1] (by kernel_rfl) (by kernel_rfl) ?_
    refine s_move rfl rfl rfl rfl ?_
    refine s_not rfl rfl rfl rfl ?_
    refine vOrd_nil ?_
    refine Wp.condF rfl rfl ?_
    refine Wp.skip ?_
    refine Wp.seq ?_
    refine Wp.old (fun lo => ?_)
    have tb := hT.later lo
    clear lo
    refine Wp.region [0, 1, 2, 3, 4, 5, 6, 7, 8, 9] (by kernel_rfl) (by kernel_rfl) ?_
    refine s_move rfl rfl rfl rfl ?_
    refine s_callT rfl rfl rfl (by kernel_rfl) rfl (parse_at (parse_print hb) (Nat.le_trans (print_len hb) (by decide)) tb) ?_
    rintro v w4 ⟨va5, vc5, rfl, hq⟩ lw4
    replace tb := tb.later lw4
    try replace hv := hv.later lw4
    try replace hq := hq.later lw4
    refine s_move rfl rfl rfl rfl ?_
    refine s_extract rfl rfl rfl rfl rfl ?_
    refine s_extract rfl rfl rfl rfl rfl ?_
    refine s_extract rfl rfl rfl rfl rfl ?_
    refine s_alloc rfl rfl rfl rfl rfl (fun bk5 w5 kb5 lw5 => ?_)
    try have k6hv := fun w1 w2 => EntAt.apart hv kb5 (w1 := w1) (w2 := w2)
    try replace hv := hv.later lw5
    try have k6hq := fun w1 w2 => EntAt.apart hq kb5 (w1 := w1) (w2 := w2)
    try replace hq := hq.later lw5
    refine s_store rfl rfl rfl rfl rfl rfl rfl (fun w6 sw6 vw6 => ?_)
    try replace hv := k6hv _ _ hv sw6
    try replace hq := k6hq _ _ hq sw6
    refine s_assign rfl rfl rfl rfl ?_
    refine s_assign rfl rfl rfl rfl ?_
    refine vOrd_nil ?_
    refine Wp.seq ?_
    refine Wp.old (fun lo => ?_)
    have tb := hT.later lo
    clear lo
    refine (Wp.drawn (by kernel_rfl) (by kernel_rfl) [0, 1, 2, 4, 3, 5, 6, 7, 8, 9, 10, 11, 12, 13, 14, 15, 16, 17, 18, 19, 20, 21, 22, 23, 24, 25, 26, 27] [0, 0, 19, 15, 0, 0, 0, 0, 0, 3583, 0, 0, 0, 0, 0, 0, 0, 0, 0, 0, 0, 0, 0, 25165823, 0, 0, 0, 0] (by kernel_rfl) (by kernel_rfl) (fun | 0 => fun v _ => v = .bool true | 3 => fun v _ => v = .string ⟨⟨digitsL t⟩⟩ | 5 => fun v _ => v = .string ⟨⟨digitsL t⟩⟩ | 11 => fun v _ => v = .string ⟨⟨printL t⟩⟩ | 25 => fun v _ => v = .bool true | _ => fun _ _ => True) (fun wd ld => ?_))
    replace tb := tb.later ld
    try replace hv := hv.later ld
    try replace hq := hq.later ld
    clear ld
    refine s_callD rfl rfl rfl (by kernel_rfl) rfl (fun wc lc => lanswers_any (tb.later lc)) ?_
    rintro v w7 u7 rfl lw7 mw7
    replace tb := (tb.later lw7).later mw7
    try replace hv := hv.later lw7
    try replace hq := hq.later lw7
    try replace hv := hv.later mw7
    try replace hq := hq.later mw7
    refine s_move rfl rfl rfl rfl ?_
    refine s_load rfl rfl rfl rfl rfl rfl rfl ?_
    refine s_load rfl rfl rfl rfl rfl rfl rfl ?_
    refine s_callD rfl rfl rfl (by kernel_rfl) rfl (fun wc lc => pdig_yes t hb hu he (hv.later lc) (tb.later lc)) ?_
    rintro v w8 u8 rfl lw8 mw8
    replace tb := (tb.later lw8).later mw8
    try replace hv := hv.later lw8
    try replace hq := hq.later lw8
    try replace hv := hv.later mw8
    try replace hq := hq.later mw8
    refine s_callD rfl rfl rfl (by kernel_rfl) rfl (fun wc lc => rdig_any t hb hu he (hv.later lc)) ?_
    rintro v w9 u9 rfl lw9 mw9
    replace tb := (tb.later lw9).later mw9
    try replace hv := hv.later lw9
    try replace hq := hq.later lw9
    try replace hv := hv.later mw9
    try replace hq := hq.later mw9
    refine b_eqT rfl rfl rfl rfl rfl (rfl) ?_
    refine s_pick rfl rfl rfl rfl rfl ?_
    refine s_move rfl rfl rfl rfl ?_
    refine s_move rfl rfl rfl rfl ?_
    refine s_load rfl rfl rfl rfl rfl rfl rfl ?_
    refine s_callD rfl rfl rfl (by kernel_rfl) rfl (fun wc lc => rprint_any t hb hu he (hv.later lc)) ?_
    rintro v w10 u10 rfl lw10 mw10
    replace tb := (tb.later lw10).later mw10
    try replace hv := hv.later lw10
    try replace hq := hq.later lw10
    try replace hv := hv.later mw10
    try replace hq := hq.later mw10
    refine b_eqT rfl rfl rfl rfl rfl (rfl) ?_
    refine s_pick rfl rfl rfl rfl rfl ?_
    refine s_move rfl rfl rfl rfl ?_
    refine s_move rfl rfl rfl rfl ?_
    refine t_eql rfl rfl rfl rfl rfl (by omega) ?_
    refine s_pick rfl rfl rfl rfl rfl ?_
    refine s_move rfl rfl rfl rfl ?_
    refine s_move rfl rfl rfl rfl ?_
    refine t_eql rfl rfl rfl rfl rfl (by omega) ?_
    refine s_pick rfl rfl rfl rfl rfl ?_
    refine s_move rfl rfl rfl rfl ?_
    refine s_load rfl rfl rfl rfl rfl rfl rfl ?_
    refine s_load rfl rfl rfl rfl rfl rfl rfl ?_
    refine s_callD rfl rfl rfl (by kernel_rfl) rfl (fun wc lc => tsame_any t hu he (hv.later lc) (hq.later lc) (by omega)) ?_
    rintro v w11 u11 rfl lw11 mw11
    replace tb := (tb.later lw11).later mw11
    try replace hv := hv.later lw11
    try replace hq := hq.later lw11
    try replace hv := hv.later mw11
    try replace hq := hq.later mw11
    refine s_pick rfl rfl rfl rfl rfl ?_
    refine s_assign rfl rfl rfl rfl ?_
    refine vOrd_nil ?_
    refine Wp.ret ⟨.inr rfl, fun lW => ⟨_, res_tmp (P := Tryd.prog) rfl rfl, _, rfl, ?_, lW⟩⟩
    clear lW
    rfl
  | false =>
    refine calls_Wp (args := [_]) (n := 61) Tryd.func4 rfl rfl (by simp) ?_
    refine Wp.seq ?_
    refine Wp.region [0, 1] (by kernel_rfl) (by kernel_rfl) ?_
    refine s_box rfl rfl rfl rfl rfl rfl (fun bk1 w1 kb1 lw1 => ?_)
    try have k1hv := fun w1 w2 => EntAt.apart hv kb1 (w1 := w1) (w2 := w2)
    try replace hv := hv.later lw1
    refine s_assign rfl rfl rfl rfl ?_
    refine vOrd_nil ?_
    refine Wp.seq ?_
    refine Wp.old (fun lo => ?_)
    have tb := hT.later lo
    clear lo
    refine Wp.region [0, 1, 2] (by kernel_rfl) (by kernel_rfl) ?_
    refine s_load rfl rfl rfl rfl rfl rfl rfl ?_
    refine s_callT rfl rfl rfl (by kernel_rfl) rfl (pprint_no t hb hu he hv) ?_
    rintro v w2 rfl lw2
    replace tb := tb.later lw2
    try replace hv := hv.later lw2
    refine s_assign rfl rfl rfl rfl ?_
    refine vOrd_nil ?_
    refine Wp.seq ?_
    refine Wp.seq ?_
    refine Wp.old (fun lo => ?_)
    have tb := hT.later lo
    clear lo
    refine Wp.region [0, 1, 2, 3, 4, 5, 6] (by kernel_rfl) (by kernel_rfl) ?_
    refine s_load rfl rfl rfl rfl rfl rfl rfl ?_
    refine s_callT rfl rfl rfl (by kernel_rfl) rfl (rtable_no hb hu he hv) ?_
    rintro v w3 rfl lw3
    replace tb := tb.later lw3
    try replace hv := hv.later lw3
    refine s_move rfl rfl rfl rfl ?_
    refine s_extract rfl rfl rfl rfl rfl ?_
    refine s_extract rfl rfl rfl rfl rfl ?_
    refine s_assign rfl rfl rfl rfl ?_
    refine s_assign rfl rfl rfl rfl ?_
    refine vOrd_nil ?_
    refine Wp.seq ?_
    refine Wp.region [0, 1] (by kernel_rfl) (by kernel_rfl) ?_
    refine s_move rfl rfl rfl rfl ?_
    refine s_not rfl rfl rfl rfl ?_
    refine vOrd_nil ?_
    refine Wp.condT rfl rfl ?_
    refine Wp.seq ?_
    refine Wp.old (fun lo => ?_)
    have tb := hT.later lo
    clear lo
    refine Wp.region [0, 1, 2, 3, 4, 5, 6, 7, 8, 9, 10] (by kernel_rfl) (by kernel_rfl) ?_
    refine s_callT rfl rfl rfl (by kernel_rfl) rfl (lanswers_any tb) ?_
    rintro v w4 rfl lw4
    replace tb := tb.later lw4
    try replace hv := hv.later lw4
    refine s_move rfl rfl rfl rfl ?_
    refine s_move rfl rfl rfl rfl ?_
    refine b_eqT rfl rfl rfl rfl rfl (rfl) ?_
    refine s_pick rfl rfl rfl rfl rfl ?_
    refine s_move rfl rfl rfl rfl ?_
    refine s_load rfl rfl rfl rfl rfl rfl rfl ?_
    refine s_callT rfl rfl rfl (by kernel_rfl) rfl (pdig_no t hb hu he hv) ?_
    rintro v w5 rfl lw5
    replace tb := tb.later lw5
    try replace hv := hv.later lw5
    refine b_eqT rfl rfl rfl rfl rfl (rfl) ?_
    refine s_pick rfl rfl rfl rfl rfl ?_
    refine s_assign rfl rfl rfl rfl ?_
    refine vOrd_nil ?_
    refine Wp.ret ⟨.inr rfl, fun lW => ⟨_, res_tmp (P := Tryd.prog) rfl rfl, _, rfl, ?_, lW⟩⟩
    clear lW
    rfl
theorem law_parses (x : List UInt8) (hx0 : x.length ≤ 140737488351232) {w : World} (hT : Tab w) : Calls Tryd.prog 5 #[.string ⟨⟨x⟩⟩] w fun e w' => ∃ r, e = .returned r ∧ r = .bool true ∧ Below w.heap.size w w' := by
  have hin := parse_in x
  obtain ⟨⟨t, n, k⟩, hq⟩ : ∃ q, parseL x = q := ⟨_, rfl⟩
  rw [hq] at hin
  have hu : I64 t.u := hin.1
  have he : I64 t.e := hin.2.1
  have hl : t.es.length ≤ 64 := hin.2.2
  refine calls_Wp (args := [_]) (n := 37) Tryd.func5 rfl rfl (by simp) ?_
  refine Wp.seq ?_
  refine Wp.region [0] (by kernel_rfl) (by kernel_rfl) ?_
  refine s_assign rfl rfl rfl rfl ?_
  refine vOrd_nil ?_
  refine Wp.seq ?_
  refine Wp.old (fun lo => ?_)
  have tb := hT.later lo
  clear lo
  refine Wp.region [0, 1, 2, 3, 4, 5, 6, 7, 8, 9] (by kernel_rfl) (by kernel_rfl) ?_
  refine s_move rfl rfl rfl rfl ?_
  refine s_callT rfl rfl rfl (by kernel_rfl) rfl (parse_at hq hx0 tb) ?_
  rintro v w1 ⟨va, vc, rfl, hv⟩ lw1
  replace tb := tb.later lw1
  try replace hv := hv.later lw1
  try replace hw := hw.later lw1
  refine s_move rfl rfl rfl rfl ?_
  refine s_extract rfl rfl rfl rfl rfl ?_
  refine s_extract rfl rfl rfl rfl rfl ?_
  refine s_extract rfl rfl rfl rfl rfl ?_
  refine s_alloc rfl rfl rfl rfl rfl (fun bk2 w2 kb2 lw2 => ?_)
  try have k3hv := fun w1 w2 => EntAt.apart hv kb2 (w1 := w1) (w2 := w2)
  try replace hv := hv.later lw2
  try have k3hw := fun w1 w2 => EntAt.apart hw kb2 (w1 := w1) (w2 := w2)
  try replace hw := hw.later lw2
  refine s_store rfl rfl rfl rfl rfl rfl rfl (fun w3 sw3 vw3 => ?_)
  try replace hv := k3hv _ _ hv sw3
  try replace hw := k3hw _ _ hw sw3
  refine s_assign rfl rfl rfl rfl ?_
  refine s_assign rfl rfl rfl rfl ?_
  refine vOrd_nil ?_
  refine Wp.seq ?_
  refine Wp.old (fun lo => ?_)
  have tb := hT.later lo
  clear lo
  refine Wp.region [0, 1, 2, 3, 4, 5, 6, 7, 8, 9] (by kernel_rfl) (by kernel_rfl) ?_
  refine s_move rfl rfl rfl rfl ?_
  refine s_callT rfl rfl rfl (by kernel_rfl) rfl (rparse_at hq hx0 _) ?_
  rintro v w4 ⟨va2, vc2, rfl, hw⟩ lw4
  replace tb := tb.later lw4
  try replace hv := hv.later lw4
  try replace hw := hw.later lw4
  refine s_move rfl rfl rfl rfl ?_
  refine s_extract rfl rfl rfl rfl rfl ?_
  refine s_extract rfl rfl rfl rfl rfl ?_
  refine s_extract rfl rfl rfl rfl rfl ?_
  refine s_alloc rfl rfl rfl rfl rfl (fun bk5 w5 kb5 lw5 => ?_)
  try have k6hv := fun w1 w2 => EntAt.apart hv kb5 (w1 := w1) (w2 := w2)
  try replace hv := hv.later lw5
  try have k6hw := fun w1 w2 => EntAt.apart hw kb5 (w1 := w1) (w2 := w2)
  try replace hw := hw.later lw5
  refine s_store rfl rfl rfl rfl rfl rfl rfl (fun w6 sw6 vw6 => ?_)
  try replace hv := k6hv _ _ hv sw6
  try replace hw := k6hw _ _ hw sw6
  refine s_assign rfl rfl rfl rfl ?_
  refine s_assign rfl rfl rfl rfl ?_
  refine vOrd_nil ?_
  refine Wp.seq ?_
  refine Wp.old (fun lo => ?_)
  have tb := hT.later lo
  clear lo
  refine Wp.region [0, 1, 2, 3, 4, 5, 6, 7, 8, 9, 10, 11, 12, 13, 14, 15, 16] (by kernel_rfl) (by kernel_rfl) ?_
  refine s_callT rfl rfl rfl (by kernel_rfl) rfl (lanswers_any tb) ?_
  rintro v w7 rfl lw7
  replace tb := tb.later lw7
  try replace hv := hv.later lw7
  try replace hw := hw.later lw7
  refine s_move rfl rfl rfl rfl ?_
  refine s_move rfl rfl rfl rfl ?_
  refine s_move rfl rfl rfl rfl ?_
  refine t_eql rfl rfl rfl rfl rfl (by omega) ?_
  refine s_pick rfl rfl rfl rfl rfl ?_
  refine s_move rfl rfl rfl rfl ?_
  refine s_move rfl rfl rfl rfl ?_
  refine s_move rfl rfl rfl rfl ?_
  refine t_eql rfl rfl rfl rfl rfl (by omega) ?_
  refine s_pick rfl rfl rfl rfl rfl ?_
  refine s_move rfl rfl rfl rfl ?_
  refine s_load rfl rfl rfl rfl rfl rfl rfl ?_
  refine s_load rfl rfl rfl rfl rfl rfl rfl ?_
  refine s_callT rfl rfl rfl (by kernel_rfl) rfl (tsame_any t hu he hv hw (by omega)) ?_
  rintro v w8 rfl lw8
  replace tb := tb.later lw8
  try replace hv := hv.later lw8
  try replace hw := hw.later lw8
  refine s_pick rfl rfl rfl rfl rfl ?_
  refine s_assign rfl rfl rfl rfl ?_
  refine vOrd_nil ?_
  refine Wp.ret ⟨.inr rfl, fun lW => ⟨_, res_tmp (P := Tryd.prog) rfl rfl, _, rfl, ?_, lW⟩⟩
  clear lW
  rfl
end Go.Proofs.YthjgilocbfhffaaDoor
