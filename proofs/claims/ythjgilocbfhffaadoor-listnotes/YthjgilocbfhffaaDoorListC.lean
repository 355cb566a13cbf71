/-
  Leap second files: the walks of the laws ListTwice and ListTurned of layer 11.
-/
import Derived.Test.YthjgilocbfhffaaDoorListB
namespace Go.Proofs.YthjgilocbfhffaaDoor
open Go.RowKit
set_option maxRecDepth 100000

section
variable {P : Program} {B : Nat} {lax : Bool} {ops : Array Oper} {Rs : Nat → Value → World → Prop} {K : St → World → Prop} {i : Nat} {rest : List Nat} {st : St} {w : World}
variable {d : Nat} {ty : TypeId} {pos : String} {aft : Array Edge} {g : Option (Nat × Bool)}
/-- A store of a number into a row with a mark behind its end. -/
theorem x_storeM {t e : TypeId} {x y : Operand} {c off : Nat} {cs : List Value} {k : IntKind} {n : Int} (ho : ops[i]? = some ⟨none, .store t x y, ty, pos, aft, g⟩) (hg : gok ops st g = true) (hk : known st ⟨none, .store t x y, ty, pos, aft, g⟩ = true) (hx : st.ev x = .v (.pointer (some ⟨c, off, none⟩))) (hy : st.ev y = .v (.int k n)) (hi : (P.info? t).map (·.size) = some 1)
    (hrow : MarkRow w c e cs) (hlt : off < cs.length) (hB : B ≤ c) (ha : AllMem (· ≠ c) st)
    (h : ∀ w', Stored c w w' → MarkRow w' c e (cs.set off (.int k n)) → vOrd P B true ops Rs K rest st w') : vOrd P B true ops Rs K (i :: rest) st w := by
  have ex : st.rho x = .pointer (some ⟨c, off, none⟩) := by rw [St.rho, hx]; rfl
  have ey : st.rho y = .int k n := by rw [St.rho, hy]; rfl
  have hrow' : w.heap[c]? = some (.cells cs.toArray e (cs.length, cs.length + 1)) := hrow
  have hrun := run_storeCells_cells (P := P) c off [Value.int k n] 0 w (fun j hj => by
      simp only [List.length_cons, List.length_nil] at hj
      have : j = 0 := by omega
      subst this
      rw [cell_of_row w c _ _ e _ hrow']
      simp only [Nat.add_zero, List.getElem?_toArray, List.getElem?_eq_getElem hlt, Option.isSome_some]) (fun j hj => by
      simp only [List.length_cons, List.length_nil] at hj
      have : j = 0 := by omega
      subst this
      simp only [World.frozen?, hrow', Nat.add_zero, Bool.and_eq_false_iff, decide_eq_false_iff_not]
      exact .inl (by omega)) (fun v hv => by
      rw [List.mem_singleton] at hv
      subst hv
      rfl)
  obtain ⟨w', hw'⟩ : ∃ w', w' = w.setCells c (off + 0) [Value.int k n] := ⟨_, rfl⟩
  rw [← hw'] at hrun
  have hset : w' = w.setCell ⟨c, off, none⟩ (.int k n) := hw'
  have hs : Stored c w w' := by
    rw [hset]
    exact ⟨rfl, rfl, rfl, by simp [World.setCell], fun j hj => by simp [World.setCell, Array.getElem?_modify, Ne.symm hj]⟩
  have hm : MarkRow w' c e (cs.set off (.int k n)) := by
    unfold MarkRow
    rw [hset]
    simp [World.setCell, Array.getElem?_modify, hrow']
  cases hp : P.info? t with
  | none => rw [hp] at hi; cases hi
  | some ii =>
    rw [hp] at hi
    simp only [Option.map_some, Option.some.injEq] at hi
    refine ⟨_, ho, .inr ⟨rfl, hg, hk, rfl, .inr (.inl (fun _ => ⟨w', c, ?_, rfl, hs, hB, ha, h w' hs hm⟩))⟩⟩
    simp [execOp, ex, ey, Instr.storeAt, Instr.sureAddr, storeVar, sizeOf, typeInfo, hp, hi, Value.cells, hrun]
end
theorem lines_file (t : Tb) : linesL (printL t) = fileL t := lines_joinL (fileW_no10 t (sumL t))
theorem file_length (t : Tb) : (fileL t).length = t.es.length + 3 := file_len t (sumL t)
theorem file_last (t : Tb) : (fileL t)[t.es.length + 2]? = some (lineH (sumL t)) := by simp [fileL]
theorem file_line {t : Tb} (hb : canBe t = true) {m : List UInt8} (hm : m ∈ fileL t) : m.length ≤ 4000 :=
  Nat.le_trans (lines_each (printL t) m (by rw [lines_file]; exact hm)) (print_len hb)
theorem print_ge (t : Tb) : 48 ≤ (printL t).length := by
  rw [print_W, fileW_is]
  have h := hexs_len (sumL t)
  rw [sumL_len] at h
  simp only [lineH, List.length_append, List.length_cons, List.length_nil, h]
  omega
theorem three_cell {w : World} {c k : Nat} {e : TypeId} {a b d u : Value} (h : RowIs w c e [a, b, d]) (hk : [a, b, d][k]? = some u) : w.cell? ⟨c, k, none⟩ = some u := by
  rw [cell_of_row w c k _ e (0, 0) h]; simpa using hk
theorem three_pick (a b c : List UInt8) (N : Nat) : ∃ m, [Value.string ⟨⟨a⟩⟩, .string ⟨⟨b⟩⟩, .string ⟨⟨c⟩⟩][N % 3]? = some (.string ⟨⟨m⟩⟩) ∧ (m = a ∨ m = b ∨ m = c) := by
  rcases (by omega : N % 3 = 0 ∨ N % 3 = 1 ∨ N % 3 = 2) with h | h | h <;> rw [h]
  · exact ⟨a, rfl, .inl rfl⟩
  · exact ⟨b, rfl, .inr (.inl rfl)⟩
  · exact ⟨c, rfl, .inr (.inr rfl)⟩
theorem mark_set {w : World} {c p : Nat} {e : TypeId} {l : List UInt8} {zs : List Value} {y : UInt8} {n : Int} (hn : n = y.toNat) (hp : p < l.length) (h : MarkRow w c e ((bytesV l ++ zs).set p (.int .u8 n))) : MarkRow w c e (bytesV (l.set p y) ++ zs) := by
  subst hn
  rw [List.set_append_left _ _ (by rw [bytesV_len]; exact hp)] at h
  have : (bytesV l).set p (.int .u8 y.toNat) = bytesV (l.set p y) := by unfold bytesV; rw [List.map_set]
  rw [this] at h
  exact h
theorem mark_cell {w : World} {c p : Nat} {e : TypeId} {l : List UInt8} {zs : List Value} {y : UInt8} (h : MarkRow w c e (bytesV l ++ zs)) (hy : l[p]? = some y) : w.cell? ⟨c, p, none⟩ = some (.int .u8 y.toNat) := by
  have hlt := (List.getElem?_eq_some_iff.1 hy).1
  rw [cell_of_row w c p _ e _ h]
  simp only [List.getElem?_toArray]
  rw [List.getElem?_append_left (by rw [bytesV_len]; exact hlt)]
  simp [bytesV, hy]

set_option maxHeartbeats 4000000 in
theorem law_twice (t : Tb) (hu : I64 t.u) (he : I64 t.e) {v : Value} {w : World} (hv : EntAt w v t.es) (hT : Tab w) (N : Nat) (hN : N < 256) : Calls Tryd.prog 8 #[tbV t v, .int .u8 (N : Int)] w fun e w' => ∃ r, e = .returned r ∧ r = .bool true ∧ Below w.heap.size w w' := by
  obtain ⟨va, vc, rfl, ht⟩ := tb_form hv
  rw [ht]
  have hfl := file_length t
  have hfz := file_last t
  obtain ⟨m, hm3, hmc⟩ := three_pick (lineU t.u) (lineE t.e) (lineH (sumL t)) N
  cases hb : canBe t with
  | true =>
    have hpl := print_len hb
    have hml : m.length ≤ 4000 := file_line hb (by rcases hmc with rfl | rfl | rfl <;> simp [fileL])
    have hl64 := can_len hb
    refine calls_Wp (args := [_, _]) (n := 67) Tryd.func8 rfl rfl (by simp) ?_
    refine Wp.seq ?_
    refine Wp.region [0, 1] (by kernel_rfl) (by kernel_rfl) ?_
    refine s_box rfl rfl rfl rfl rfl rfl (fun bk1 w1 kb1 lw1 => ?_)
    try have k2hv := fun w1 w2 => EntAt.apart hv kb1 (w1 := w1) (w2 := w2)
    try replace hv := hv.later lw1
    try have k2hq := fun w1 w2 => EntAt.apart hq kb1 (w1 := w1) (w2 := w2)
    try replace hq := hq.later lw1
    try replace hvl := hvl.later lw1
    refine s_assign rfl rfl rfl rfl ?_
    refine vOrd_nil ?_
    refine Wp.seq ?_
    refine Wp.seq ?_
    refine Wp.old (fun lo => ?_)
    have tb := hT.later lo
    clear lo
    refine Wp.region [0, 1, 2, 3, 4, 5, 6] (by kernel_rfl) (by kernel_rfl) ?_
    refine s_load rfl rfl rfl rfl rfl rfl rfl ?_
    refine s_callT rfl rfl rfl (by kernel_rfl) rfl (rtable_yes hb hu he hv) ?_
    rintro v w2 rfl lw2
    replace tb := tb.later lw2
    try replace hv := hv.later lw2
    try replace hq := hq.later lw2
    try replace hvl := hvl.later lw2
    refine s_move rfl rfl rfl rfl ?_
    refine s_extract rfl rfl rfl rfl rfl ?_
    refine s_extract rfl rfl rfl rfl rfl ?_
    refine s_assign rfl rfl rfl rfl ?_
    refine s_assign rfl rfl rfl rfl ?_
    refine vOrd_nil ?_
    refine Wp.seq ?_
    refine Wp.region [0, 1] (by kernel_rfl) (by kernel_rfl) ?_
    refine s_move rfl rfl rfl rfl ?_
    refine s_not rfl rfl rfl rfl ?_
    refine vOrd_nil ?_
    refine Wp.condF rfl rfl ?_
    refine Wp.skip ?_
    refine Wp.seq ?_
    refine Wp.old (fun lo => ?_)
    have tb := hT.later lo
    clear lo
    refine Wp.region [0, 1, 2, 3] (by kernel_rfl) (by kernel_rfl) ?_
    refine s_load rfl rfl rfl rfl rfl rfl rfl ?_
    refine s_callT rfl rfl rfl (by kernel_rfl) rfl (rprint_any t hb hu he hv) ?_
    rintro v w3 rfl lw3
    replace tb := tb.later lw3
    try replace hv := hv.later lw3
    try replace hq := hq.later lw3
    try replace hvl := hvl.later lw3
    refine s_callT rfl rfl rfl (by kernel_rfl) rfl (reflines_any (printL t) (by omega) _) ?_
    rintro v w4 hls lw4
    replace tb := tb.later lw4
    try replace hv := hv.later lw4
    try replace hq := hq.later lw4
    try replace hvl := hvl.later lw4
    rw [lines_file t] at hls
    obtain ⟨lg, lcap, lcs, rfl, hlg, hvl, htk⟩ := own_row hls (by omega)
    refine s_assign rfl rfl rfl rfl ?_
    refine vOrd_nil ?_
    refine Wp.seq ?_
    refine Wp.old (fun lo => ?_)
    have tb := hT.later lo
    clear lo
    refine (Wp.drawn (by kernel_rfl) (by kernel_rfl) [0, 1, 2, 3, 4, 5, 6, 7, 13, 14, 8, 9, 10, 11, 12, 15, 16, 17] [28664, 28665, 28667, 28615, 28623, 28639, 25535, 24703, 8191, 16383, 0, 0, 0, 0, 0, 0, 0, 0] (by kernel_rfl) (by kernel_rfl) (fun | 8 => fun v _ => v = .int .i64 ((fileL t).length : Int) | 12 => fun v w => ∃ c, v = .slice (some ⟨c, 0, none⟩) 3 3 ∧ RowIs w c 9 [.string ⟨⟨lineU t.u⟩⟩, .string ⟨⟨lineE t.e⟩⟩, .string ⟨⟨lineH (sumL t)⟩⟩] | _ => fun _ _ => True) (fun wd ld => ?_))
    replace tb := tb.later ld
    try replace hv := hv.later ld
    try replace hq := hq.later ld
    try replace hvl := hvl.later ld
    clear ld
    refine s_move rfl rfl rfl rfl ?_
    refine s_idx (sz := 1) (0) rfl rfl rfl rfl rfl rfl rfl (by omega) (by omega) (by omega) ?_
    refine x_ldc rfl rfl rfl rfl rfl (line_cell (i := 0) hvl htk rfl) ?_
    refine s_move rfl rfl rfl rfl ?_
    refine s_idx (sz := 1) (1) rfl rfl rfl rfl rfl rfl rfl (by omega) (by omega) (by omega) ?_
    refine x_ldc rfl rfl rfl rfl rfl (line_cell (i := 1) hvl htk rfl) ?_
    refine s_move rfl rfl rfl rfl ?_
    refine s_move rfl rfl rfl rfl ?_
    refine s_move rfl rfl rfl rfl ?_
    refine a_rem rfl rfl rfl rfl rfl (by omega) (by omega) ?_
    refine x_lenD rfl rfl rfl rfl rfl (fun _ => rfl) (fun _ _ h => h) (fun wl ll => ?_)
    replace hv := hv.later ll
    replace hvl := hvl.later ll
    refine a_sub (-9223372036854775808) 9223372036854775807 (by decide) rfl rfl rfl rfl rfl (by omega) (by omega) ?_
    refine s_idx (sz := 1) (t.es.length + 2) rfl rfl rfl rfl rfl rfl rfl (by omega) (by omega) (by omega) ?_
    refine x_ldc rfl rfl rfl rfl rfl (line_cell (i := t.es.length + 2) hvl htk hfz) ?_
    refine s_bsD (e := 9) (cs := [.string ⟨⟨lineU t.u⟩⟩, .string ⟨⟨lineE t.e⟩⟩, .string ⟨⟨lineH (sumL t)⟩⟩]) rfl rfl rfl (fun _ => by kernel_rfl) (fun c w' _ hr => ⟨c, rfl, hr⟩) ?_
    rintro v wq uq ⟨cb, rfl, hrow⟩ lwq mwq
    replace hrow := hrow.later mwq
    replace hv := (hv.later lwq).later mwq
    refine s_idx (sz := 1) (N % 3) rfl rfl rfl rfl rfl rfl rfl (by omega) (by omega) (by omega) ?_
    refine x_ldc rfl rfl rfl rfl rfl (three_cell hrow hm3) ?_
    refine s_assign rfl rfl rfl rfl ?_
    refine vOrd_nil ?_
    refine Wp.seq ?_
    refine Wp.old (fun lo => ?_)
    have tb := hT.later lo
    clear lo
    refine Wp.region [0, 1, 2, 3, 4, 5, 6, 7, 8, 9, 10, 11, 12, 13] (by kernel_rfl) (by kernel_rfl) ?_
    refine s_load rfl rfl rfl rfl rfl rfl rfl ?_
    refine s_callT rfl rfl rfl (by kernel_rfl) rfl (rprint_any t hb hu he hv) ?_
    rintro v w20 rfl lw20
    replace tb := tb.later lw20
    try replace hv := hv.later lw20
    try replace hq := hq.later lw20
    try replace hvl := hvl.later lw20
    refine s_move rfl rfl rfl rfl ?_
    refine b_cat rfl rfl rfl rfl rfl (by omega) ?_
    refine b_cat rfl rfl rfl rfl rfl (by simp; omega) ?_
    refine s_callT rfl rfl rfl (by kernel_rfl) rfl (parse_at (parse_twice hb hmc) (by simp; omega) tb) ?_
    rintro v w21 ⟨va6, vc6, rfl, hq⟩ lw21
    replace tb := tb.later lw21
    try replace hv := hv.later lw21
    try replace hq := hq.later lw21
    try replace hvl := hvl.later lw21
    refine s_move rfl rfl rfl rfl ?_
    refine s_extract rfl rfl rfl rfl rfl ?_
    refine s_extract rfl rfl rfl rfl rfl ?_
    refine s_extract rfl rfl rfl rfl rfl ?_
    refine s_alloc rfl rfl rfl rfl rfl (fun bk22 w22 kb22 lw22 => ?_)
    try have k9hv := fun w1 w2 => EntAt.apart hv kb22 (w1 := w1) (w2 := w2)
    try replace hv := hv.later lw22
    try have k9hq := fun w1 w2 => EntAt.apart hq kb22 (w1 := w1) (w2 := w2)
    try replace hq := hq.later lw22
    try replace hvl := hvl.later lw22
    refine s_store rfl rfl rfl rfl rfl rfl rfl (fun w23 sw23 vw23 => ?_)
    try replace hv := k9hv _ _ hv sw23
    try replace hq := k9hq _ _ hq sw23
    refine s_assign rfl rfl rfl rfl ?_
    refine s_assign rfl rfl rfl rfl ?_
    refine vOrd_nil ?_
    refine Wp.seq ?_
    refine Wp.old (fun lo => ?_)
    have tb := hT.later lo
    clear lo
    refine Wp.region [0, 1, 2, 3, 4, 5, 6, 7, 8, 9, 10, 11, 12, 13, 14, 15, 16, 17] (by kernel_rfl) (by kernel_rfl) ?_
    refine s_callT rfl rfl rfl (by kernel_rfl) rfl (lanswers_any tb) ?_
    rintro v w24 rfl lw24
    replace tb := tb.later lw24
    try replace hv := hv.later lw24
    try replace hq := hq.later lw24
    try replace hvl := hvl.later lw24
    refine s_move rfl rfl rfl rfl ?_
    refine s_move rfl rfl rfl rfl ?_
    refine t_eql rfl rfl rfl rfl rfl (by omega) ?_
    refine s_pick rfl rfl rfl rfl rfl ?_
    refine s_move rfl rfl rfl rfl ?_
    refine s_move rfl rfl rfl rfl ?_
    refine s_move rfl rfl rfl rfl ?_
    refine x_len rfl rfl rfl rfl rfl ?_
    refine a_add (-9223372036854775808) 9223372036854775807 (by decide) rfl rfl rfl rfl rfl (by omega) (by omega) ?_
    refine t_eql rfl rfl rfl rfl rfl (by omega) ?_
    refine s_pick rfl rfl rfl rfl rfl ?_
    refine s_move rfl rfl rfl rfl ?_
    refine s_load rfl rfl rfl rfl rfl rfl rfl ?_
    refine s_build rfl rfl rfl rfl rfl (by kernel_rfl) ?_
    refine s_callT rfl rfl rfl (by kernel_rfl) rfl (tsame_any ⟨0, 0, []⟩ (by unfold I64; decide) (by unfold I64; decide) hq (EntAt.nil _) (by decide)) ?_
    rintro v w25 rfl lw25
    replace tb := tb.later lw25
    try replace hv := hv.later lw25
    try replace hq := hq.later lw25
    try replace hvl := hvl.later lw25
    refine s_pick rfl rfl rfl rfl rfl ?_
    refine s_assign rfl rfl rfl rfl ?_
    refine vOrd_nil ?_
    refine Wp.ret ⟨.inr rfl, fun lW => ⟨_, res_tmp (P := Tryd.prog) rfl rfl, _, rfl, ?_, lW⟩⟩
    clear lW
    rfl
  | false =>
    refine calls_Wp (args := [_, _]) (n := 67) Tryd.func8 rfl rfl (by simp) ?_
    refine Wp.seq ?_
    refine Wp.region [0, 1] (by kernel_rfl) (by kernel_rfl) ?_
    refine s_box rfl rfl rfl rfl rfl rfl (fun bk1 w1 kb1 lw1 => ?_)
    try have k2hv := fun w1 w2 => EntAt.apart hv kb1 (w1 := w1) (w2 := w2)
    try replace hv := hv.later lw1
    refine s_assign rfl rfl rfl rfl ?_
    refine vOrd_nil ?_
    refine Wp.seq ?_
    refine Wp.seq ?_
    refine Wp.old (fun lo => ?_)
    have tb := hT.later lo
    clear lo
    refine Wp.region [0, 1, 2, 3, 4, 5, 6] (by kernel_rfl) (by kernel_rfl) ?_
    refine s_load rfl rfl rfl rfl rfl rfl rfl ?_
    refine s_callT rfl rfl rfl (by kernel_rfl) rfl (rtable_no hb hu he hv) ?_
    rintro v w2 rfl lw2
    replace tb := tb.later lw2
    try replace hv := hv.later lw2
    refine s_move rfl rfl rfl rfl ?_
    refine s_extract rfl rfl rfl rfl rfl ?_
    refine s_extract rfl rfl rfl rfl rfl ?_
    refine s_assign rfl rfl rfl rfl ?_
    refine s_assign rfl rfl rfl rfl ?_
    refine vOrd_nil ?_
    refine Wp.seq ?_
    refine Wp.region [0, 1] (by kernel_rfl) (by kernel_rfl) ?_
    refine s_move rfl rfl rfl rfl ?_
    refine s_not rfl rfl rfl rfl ?_
    refine vOrd_nil ?_
    refine Wp.condT rfl rfl ?_
    refine Wp.seq ?_
    refine Wp.old (fun lo => ?_)
    have tb := hT.later lo
    clear lo
    refine Wp.region [0, 1] (by kernel_rfl) (by kernel_rfl) ?_
    refine s_callT rfl rfl rfl (by kernel_rfl) rfl (lanswers_any tb) ?_
    rintro v w3 rfl lw3
    replace tb := tb.later lw3
    try replace hv := hv.later lw3
    refine s_assign rfl rfl rfl rfl ?_
    refine vOrd_nil ?_
    refine Wp.ret ⟨.inr rfl, fun lW => ⟨_, res_tmp (P := Tryd.prog) rfl rfl, _, rfl, ?_, lW⟩⟩
    clear lW
    rfl
set_option maxHeartbeats 4000000 in
theorem law_turned (t : Tb) (hu : I64 t.u) (he : I64 t.e) {v : Value} {w : World} (hv : EntAt w v t.es) (hT : Tab w) (N : Nat) (hN : N < 256) : Calls Tryd.prog 6 #[tbV t v, .int .u8 (N : Int)] w fun e w' => ∃ r, e = .returned r ∧ r = .bool true ∧ Below w.heap.size w w' := by
  obtain ⟨va, vc, rfl, ht⟩ := tb_form hv
  rw [ht]
  have hge := print_ge t
  obtain ⟨q, hq0⟩ : ∃ q, q + (9 * (N % 5) + N / 5 % 8 + 2) = (printL t).length := ⟨(printL t).length - (9 * (N % 5) + N / 5 % 8 + 2), by omega⟩
  obtain ⟨y, hy⟩ : ∃ y, (printL t)[q]? = some y := ⟨(printL t)[q]'(by omega), List.getElem?_eq_getElem (by omega)⟩
  cases hb : canBe t with
  | true =>
    have hpl := print_len hb
    have hl64 := can_len hb
    refine calls_Wp (args := [_, _]) (n := 74) Tryd.func6 rfl rfl (by simp) ?_
    refine Wp.seq ?_
    refine Wp.region [0, 1] (by kernel_rfl) (by kernel_rfl) ?_
    refine s_box rfl rfl rfl rfl rfl rfl (fun bk1 w1 kb1 lw1 => ?_)
    try have k2hv := fun w1 w2 => EntAt.apart hv kb1 (w1 := w1) (w2 := w2)
    try replace hv := hv.later lw1
    try have k2hq := fun w1 w2 => EntAt.apart hq kb1 (w1 := w1) (w2 := w2)
    try replace hq := hq.later lw1
    refine s_assign rfl rfl rfl rfl ?_
    refine vOrd_nil ?_
    refine Wp.seq ?_
    refine Wp.seq ?_
    refine Wp.old (fun lo => ?_)
    have tb := hT.later lo
    clear lo
    refine Wp.region [0, 1, 2, 3, 4, 5, 6] (by kernel_rfl) (by kernel_rfl) ?_
    refine s_load rfl rfl rfl rfl rfl rfl rfl ?_
    refine s_callT rfl rfl rfl (by kernel_rfl) rfl (rtable_yes hb hu he hv) ?_
    rintro v w2 rfl lw2
    replace tb := tb.later lw2
    try replace hv := hv.later lw2
    try replace hq := hq.later lw2
    refine s_move rfl rfl rfl rfl ?_
    refine s_extract rfl rfl rfl rfl rfl ?_
    refine s_extract rfl rfl rfl rfl rfl ?_
    refine s_assign rfl rfl rfl rfl ?_
    refine s_assign rfl rfl rfl rfl ?_
    refine vOrd_nil ?_
    refine Wp.seq ?_
    refine Wp.region [0, 1] (by kernel_rfl) (by kernel_rfl) ?_
    refine s_move rfl rfl rfl rfl ?_
    refine s_not rfl rfl rfl rfl ?_
    refine vOrd_nil ?_
    refine Wp.condF rfl rfl ?_
    refine Wp.skip ?_
    refine Wp.seq ?_
    refine Wp.old (fun lo4 => ?_)
    have hsz := lo4.size
    clear lo4
    refine Wp.var (h := 2) rfl (fun hq2 => ?_)
    replace hq2 := hq2.lt
    refine Wp.old (fun lo => ?_)
    have tb := hT.later lo
    clear lo
    refine Wp.region [0, 1, 2, 3] (by kernel_rfl) (by kernel_rfl) ?_
    refine s_load rfl rfl rfl rfl rfl rfl rfl ?_
    refine s_callT rfl rfl rfl (by kernel_rfl) rfl (rprint_any t hb hu he hv) ?_
    rintro v w3 rfl lw3
    replace tb := tb.later lw3
    try replace hv := hv.later lw3
    try replace hq := hq.later lw3
    replace hsz := Nat.le_trans hsz lw3.size
    replace hq2 := Nat.lt_of_lt_of_le hq2 lw3.size
    refine x_bytesS rfl rfl rfl rfl rfl rfl rfl ?_
    intro cb capb zb wb hcb lb hcap hrow
    have hcB : w.heap.size ≤ cb := Nat.le_trans hsz hcb
    have hne : bk1 ≠ cb := by omega
    clear hsz hq2 hcb
    refine s_assign rfl rfl rfl rfl ?_
    refine vOrd_nil ?_
    refine Wp.seq ?_
    refine Wp.region [0, 1, 2, 3, 4, 5, 6, 7, 8, 9, 10] (by kernel_rfl) (by kernel_rfl) ?_
    refine s_move rfl rfl rfl rfl ?_
    refine a_rem rfl rfl rfl rfl rfl (by omega) (by omega) ?_
    refine a_conv (-9223372036854775808) 9223372036854775807 (by decide) rfl rfl rfl rfl rfl rfl (by omega) (by omega) ?_
    refine a_mul (-9223372036854775808) 9223372036854775807 (by decide) rfl rfl rfl rfl rfl (by omega) (by omega) ?_
    refine s_move rfl rfl rfl rfl ?_
    refine a_quo rfl rfl rfl rfl rfl (by omega) (by omega) (by show _ ≤ (255 : Int); omega) ?_
    refine a_rem rfl rfl rfl rfl rfl (by omega) (by omega) ?_
    refine a_conv (-9223372036854775808) 9223372036854775807 (by decide) rfl rfl rfl rfl rfl rfl (by omega) (by omega) ?_
    refine a_add (-9223372036854775808) 9223372036854775807 (by decide) rfl rfl rfl rfl rfl (by omega) (by omega) ?_
    refine a_add (-9223372036854775808) 9223372036854775807 (by decide) rfl rfl rfl rfl rfl (by omega) (by omega) ?_
    refine s_assign rfl rfl rfl rfl ?_
    refine vOrd_nil ?_
    refine Wp.seq ?_
    refine Wp.old (fun lo => ?_)
    have tb := hT.later lo
    clear lo
    refine Wp.region [0, 1, 2, 3, 4] (by kernel_rfl) (by kernel_rfl) ?_
    refine s_move rfl rfl rfl rfl ?_
    refine x_len rfl rfl rfl rfl rfl ?_
    refine s_move rfl rfl rfl rfl ?_
    refine a_sub (-9223372036854775808) 9223372036854775807 (by decide) rfl rfl rfl rfl rfl (by omega) (by omega) ?_
    refine s_assign rfl rfl rfl rfl ?_
    refine vOrd_nil ?_
    refine Wp.seq ?_
    refine Wp.seq ?_
    refine Wp.region [0, 1, 2, 3, 4] (by kernel_rfl) (by kernel_rfl) ?_
    refine s_move rfl rfl rfl rfl ?_
    refine s_move rfl rfl rfl rfl ?_
    refine s_idx (sz := 1) q rfl rfl rfl rfl rfl rfl rfl (by omega) (by omega) (by omega) ?_
    refine x_ldc rfl rfl rfl rfl rfl (mark_cell hrow hy) ?_
    refine p_eql rfl rfl rfl rfl rfl (fun h42 => ?_) (fun h42 => ?_)
    · refine vOrd_nil ?_
      refine Wp.condT rfl rfl ?_
      refine Wp.region [0, 1, 2, 3] (by kernel_rfl) (by kernel_rfl) ?_
      refine s_move rfl rfl rfl rfl ?_
      refine s_move rfl rfl rfl rfl ?_
      refine s_idx (sz := 1) q rfl rfl rfl rfl rfl rfl rfl (by omega) (by omega) (by omega) ?_
      refine x_storeM rfl rfl rfl rfl rfl rfl hrow (by rw [List.length_append, bytesV_len]; omega) hcB ?_ (fun w8 sw8 hrow8 => ?_)
      · repeat (first | exact AllMem.args | refine AllMem.put ?_ | refine AllMem.new ?_ hne)
      replace hrow := mark_set (y := 102) rfl (by omega) hrow8
      have hy8 : parseL ((printL t).set q 102) = (⟨0, 0, []⟩, t.es.length + 3, 11) := turned hb (j := N % 5) (d := N / 5 % 8) (by omega) (by omega) hq0 hy (fun e => by rw [e] at h42; exact absurd h42 (by decide)) (by decide)
      have hl8 : ((printL t).set q 102).length = (printL t).length := List.length_set
      refine vOrd_nil ?_
      refine Wp.seq ?_
      refine Wp.old (fun lo => ?_)
      have tb := hT.later lo
      clear lo
      refine Wp.region [0, 1, 2, 3, 4, 5, 6, 7, 8, 9, 10] (by kernel_rfl) (by kernel_rfl) ?_
      refine s_move rfl rfl rfl rfl ?_
      refine x_strB rfl rfl rfl rfl rfl rfl rfl (hl8 ▸ MarkRow.bytes hrow (by omega)) ?_
      refine s_callT rfl rfl rfl (by kernel_rfl) rfl (parse_at hy8 (by omega) tb) ?_
      rintro v w18 ⟨va6, vc6, rfl, hq⟩ lw18
      replace tb := tb.later lw18
      try replace hv := hv.later lw18
      try replace hq := hq.later lw18
      refine s_move rfl rfl rfl rfl ?_
      refine s_extract rfl rfl rfl rfl rfl ?_
      refine s_extract rfl rfl rfl rfl rfl ?_
      refine s_extract rfl rfl rfl rfl rfl ?_
      refine s_alloc rfl rfl rfl rfl rfl (fun bk19 w19 kb19 lw19 => ?_)
      try have k10hv := fun w1 w2 => EntAt.apart hv kb19 (w1 := w1) (w2 := w2)
      try replace hv := hv.later lw19
      try have k10hq := fun w1 w2 => EntAt.apart hq kb19 (w1 := w1) (w2 := w2)
      try replace hq := hq.later lw19
      refine s_store rfl rfl rfl rfl rfl rfl rfl (fun w20 sw20 vw20 => ?_)
      try replace hv := k10hv _ _ hv sw20
      try replace hq := k10hq _ _ hq sw20
      refine s_assign rfl rfl rfl rfl ?_
      refine s_assign rfl rfl rfl rfl ?_
      refine vOrd_nil ?_
      refine Wp.seq ?_
      refine Wp.old (fun lo => ?_)
      have tb := hT.later lo
      clear lo
      refine Wp.region [0, 1, 2, 3, 4, 5, 6, 7, 8, 9, 10, 11, 12, 13, 14, 15, 16, 17, 18] (by kernel_rfl) (by kernel_rfl) ?_
      refine s_callT rfl rfl rfl (by kernel_rfl) rfl (lanswers_any tb) ?_
      rintro v w21 rfl lw21
      replace tb := tb.later lw21
      try replace hv := hv.later lw21
      try replace hq := hq.later lw21
      refine s_move rfl rfl rfl rfl ?_
      refine s_move rfl rfl rfl rfl ?_
      refine t_eql rfl rfl rfl rfl rfl (by omega) ?_
      refine s_pick rfl rfl rfl rfl rfl ?_
      refine s_move rfl rfl rfl rfl ?_
      refine s_move rfl rfl rfl rfl ?_
      refine s_field 2 rfl rfl rfl rfl rfl ?_
      refine s_load rfl rfl rfl rfl rfl rfl rfl ?_
      refine x_len rfl rfl rfl rfl rfl ?_
      refine a_add (-9223372036854775808) 9223372036854775807 (by decide) rfl rfl rfl rfl rfl (by omega) (by omega) ?_
      refine t_eql rfl rfl rfl rfl rfl (by omega) ?_
      refine s_pick rfl rfl rfl rfl rfl ?_
      refine s_move rfl rfl rfl rfl ?_
      refine s_load rfl rfl rfl rfl rfl rfl rfl ?_
      refine s_build rfl rfl rfl rfl rfl (by kernel_rfl) ?_
      refine s_callT rfl rfl rfl (by kernel_rfl) rfl (tsame_any ⟨0, 0, []⟩ (by unfold I64; decide) (by unfold I64; decide) hq (EntAt.nil _) (by decide)) ?_
      rintro v w22 rfl lw22
      replace tb := tb.later lw22
      try replace hv := hv.later lw22
      try replace hq := hq.later lw22
      refine s_pick rfl rfl rfl rfl rfl ?_
      refine s_assign rfl rfl rfl rfl ?_
      refine vOrd_nil ?_
      refine Wp.ret ⟨.inr rfl, fun lW => ⟨_, res_tmp (P := Tryd.prog) rfl rfl, _, rfl, ?_, lW⟩⟩
      clear lW
      rfl
    · refine vOrd_nil ?_
      refine Wp.condF rfl rfl ?_
      refine Wp.region [0, 1, 2, 3] (by kernel_rfl) (by kernel_rfl) ?_
      refine s_move rfl rfl rfl rfl ?_
      refine s_move rfl rfl rfl rfl ?_
      refine s_idx (sz := 1) q rfl rfl rfl rfl rfl rfl rfl (by omega) (by omega) (by omega) ?_
      refine x_storeM rfl rfl rfl rfl rfl rfl hrow (by rw [List.length_append, bytesV_len]; omega) hcB ?_ (fun w8 sw8 hrow8 => ?_)
      · repeat (first | exact AllMem.args | refine AllMem.put ?_ | refine AllMem.new ?_ hne)
      replace hrow := mark_set (y := 48) rfl (by omega) hrow8
      have hy8 : parseL ((printL t).set q 48) = (⟨0, 0, []⟩, t.es.length + 3, 11) := turned hb (j := N % 5) (d := N / 5 % 8) (by omega) (by omega) hq0 hy (fun e => by rw [e] at h42; exact absurd rfl h42) (by decide)
      have hl8 : ((printL t).set q 48).length = (printL t).length := List.length_set
      refine vOrd_nil ?_
      refine Wp.seq ?_
      refine Wp.old (fun lo => ?_)
      have tb := hT.later lo
      clear lo
      refine Wp.region [0, 1, 2, 3, 4, 5, 6, 7, 8, 9, 10] (by kernel_rfl) (by kernel_rfl) ?_
      refine s_move rfl rfl rfl rfl ?_
      refine x_strB rfl rfl rfl rfl rfl rfl rfl (hl8 ▸ MarkRow.bytes hrow (by omega)) ?_
      refine s_callT rfl rfl rfl (by kernel_rfl) rfl (parse_at hy8 (by omega) tb) ?_
      rintro v w30 ⟨va6, vc6, rfl, hq⟩ lw30
      replace tb := tb.later lw30
      try replace hv := hv.later lw30
      try replace hq := hq.later lw30
      refine s_move rfl rfl rfl rfl ?_
      refine s_extract rfl rfl rfl rfl rfl ?_
      refine s_extract rfl rfl rfl rfl rfl ?_
      refine s_extract rfl rfl rfl rfl rfl ?_
      refine s_alloc rfl rfl rfl rfl rfl (fun bk31 w31 kb31 lw31 => ?_)
      try have k10hv := fun w1 w2 => EntAt.apart hv kb31 (w1 := w1) (w2 := w2)
      try replace hv := hv.later lw31
      try have k10hq := fun w1 w2 => EntAt.apart hq kb31 (w1 := w1) (w2 := w2)
      try replace hq := hq.later lw31
      refine s_store rfl rfl rfl rfl rfl rfl rfl (fun w32 sw32 vw32 => ?_)
      try replace hv := k10hv _ _ hv sw32
      try replace hq := k10hq _ _ hq sw32
      refine s_assign rfl rfl rfl rfl ?_
      refine s_assign rfl rfl rfl rfl ?_
      refine vOrd_nil ?_
      refine Wp.seq ?_
      refine Wp.old (fun lo => ?_)
      have tb := hT.later lo
      clear lo
      refine Wp.region [0, 1, 2, 3, 4, 5, 6, 7, 8, 9, 10, 11, 12, 13, 14, 15, 16, 17, 18] (by kernel_rfl) (by kernel_rfl) ?_
      refine s_callT rfl rfl rfl (by kernel_rfl) rfl (lanswers_any tb) ?_
      rintro v w33 rfl lw33
      replace tb := tb.later lw33
      try replace hv := hv.later lw33
      try replace hq := hq.later lw33
      refine s_move rfl rfl rfl rfl ?_
      refine s_move rfl rfl rfl rfl ?_
      refine t_eql rfl rfl rfl rfl rfl (by omega) ?_
      refine s_pick rfl rfl rfl rfl rfl ?_
      refine s_move rfl rfl rfl rfl ?_
      refine s_move rfl rfl rfl rfl ?_
      refine s_field 2 rfl rfl rfl rfl rfl ?_
      refine s_load rfl rfl rfl rfl rfl rfl rfl ?_
      refine x_len rfl rfl rfl rfl rfl ?_
      refine a_add (-9223372036854775808) 9223372036854775807 (by decide) rfl rfl rfl rfl rfl (by omega) (by omega) ?_
      refine t_eql rfl rfl rfl rfl rfl (by omega) ?_
      refine s_pick rfl rfl rfl rfl rfl ?_
      refine s_move rfl rfl rfl rfl ?_
      refine s_load rfl rfl rfl rfl rfl rfl rfl ?_
      refine s_build rfl rfl rfl rfl rfl (by kernel_rfl) ?_
      refine s_callT rfl rfl rfl (by kernel_rfl) rfl (tsame_any ⟨0, 0, []⟩ (by unfold I64; decide) (by unfold I64; decide) hq (EntAt.nil _) (by decide)) ?_
      rintro v w34 rfl lw34
      replace tb := tb.later lw34
      try replace hv := hv.later lw34
      try replace hq := hq.later lw34
      refine s_pick rfl rfl rfl rfl rfl ?_
      refine s_assign rfl rfl rfl rfl ?_
      refine vOrd_nil ?_
      refine Wp.ret ⟨.inr rfl, fun lW => ⟨_, res_tmp (P := Tryd.prog) rfl rfl, _, rfl, ?_, lW⟩⟩
      clear lW
      rfl
  | false =>
    refine calls_Wp (args := [_, _]) (n := 74) Tryd.func6 rfl rfl (by simp) ?_
    refine Wp.seq ?_
    refine Wp.region [0, 1] (by kernel_rfl) (by kernel_rfl) ?_
    refine s_box rfl rfl rfl rfl rfl rfl (fun bk1 w1 kb1 lw1 => ?_)
    try have k2hv := fun w1 w2 => EntAt.apart hv kb1 (w1 := w1) (w2 := w2)
    try replace hv := hv.later lw1
    refine s_assign rfl rfl rfl rfl ?_
    refine vOrd_nil ?_
    refine Wp.seq ?_
    refine Wp.seq ?_
    refine Wp.old (fun lo => ?_)
    have tb := hT.later lo
    clear lo
    refine Wp.region [0, 1, 2, 3, 4, 5, 6] (by kernel_rfl) (by kernel_rfl) ?_
    refine s_load rfl rfl rfl rfl rfl rfl rfl ?_
    refine s_callT rfl rfl rfl (by kernel_rfl) rfl (rtable_no hb hu he hv) ?_
    rintro v w2 rfl lw2
    replace tb := tb.later lw2
    try replace hv := hv.later lw2
    refine s_move rfl rfl rfl rfl ?_
    refine s_extract rfl rfl rfl rfl rfl ?_
    refine s_extract rfl rfl rfl rfl rfl ?_
    refine s_assign rfl rfl rfl rfl ?_
    refine s_assign rfl rfl rfl rfl ?_
    refine vOrd_nil ?_
    refine Wp.seq ?_
    refine Wp.region [0, 1] (by kernel_rfl) (by kernel_rfl) ?_
    refine s_move rfl rfl rfl rfl ?_
    refine s_not rfl rfl rfl rfl ?_
    refine vOrd_nil ?_
    refine Wp.condT rfl rfl ?_
    refine Wp.seq ?_
    refine Wp.old (fun lo => ?_)
    have tb := hT.later lo
    clear lo
    refine Wp.region [0, 1] (by kernel_rfl) (by kernel_rfl) ?_
    refine s_callT rfl rfl rfl (by kernel_rfl) rfl (lanswers_any tb) ?_
    rintro v w3 rfl lw3
    replace tb := tb.later lw3
    try replace hv := hv.later lw3
    refine s_assign rfl rfl rfl rfl ?_
    refine vOrd_nil ?_
    refine Wp.ret ⟨.inr rfl, fun lW => ⟨_, res_tmp (P := Tryd.prog) rfl rfl, _, rfl, ?_, lW⟩⟩
    clear lW
    rfl
end Go.Proofs.YthjgilocbfhffaaDoor
