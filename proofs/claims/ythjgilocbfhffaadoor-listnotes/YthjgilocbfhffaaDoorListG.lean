/-
  Leap second files: isSingle, lacks and read of the program. Of any line.
-/
import Derived.Test.YthjgilocbfhffaaDoorListF
namespace Go.Proofs.YthjgilocbfhffaaDoor
open Go.RowKit
set_option maxRecDepth 100000

def MapI (w : World) (mb m : Nat) (F : Int → Int) : Prop := MapAt Tryd.prog 3 w mb m F
theorem MapI.later {w w' : World} {mb m : Nat} {F : Int → Int} (h : MapI w mb m F) (l : Later w w') : MapI w' mb m F := MapAt.later h l
theorem MapI.sto {w w' : World} {mb m b : Nat} {F : Int → Int} (h : MapI w mb m F) (l : Stored b w w') (hb : mb ≠ b) : MapI w' mb m F := MapAt.stored h l hb
theorem MapI.grown {w w' : World} {mb m : Nat} {row : Option Nat} {F : Int → Int} (h : MapI w mb m F) (l : w.grownBy w' row) (hb : some mb ≠ row) : MapI w' mb m F := MapAt.grown h l hb
theorem wf_small {k : Int} (h0 : -1000000000 ≤ k) (h1 : k ≤ 1000000000) : (Lit.int .i64 k).wf = true := by
  simp [Lit.wf, IntKind.min, IntKind.max, IntKind.signed, IntKind.bits]
  omega

theorem single_any (k : Int) (w : World) : Calls Tryd.prog 41 #[.int .i64 k] w fun e w' => ∃ r, e = .returned r ∧ r = .bool (decide (2 ≤ k) && decide (k ≤ 4)) ∧ Below w.heap.size w w' := by
  refine calls_Wp (args := [_]) (n := 13) Tryd.func41 rfl rfl (by simp) ?_
  refine Wp.seq ?_
  refine Wp.region [0] (by kernel_rfl) (by kernel_rfl) ?_
  refine s_assign rfl rfl rfl rfl ?_
  refine vOrd_nil ?_
  refine Wp.seq ?_
  refine Wp.region [0, 1, 2, 3, 4, 5, 6, 7, 8, 9, 10] (by kernel_rfl) (by kernel_rfl) ?_
  refine s_move rfl rfl rfl rfl ?_
  refine p_eql rfl rfl rfl rfl rfl (fun h4 => ?_) (fun h4 => ?_)
  · refine s_move rfl rfl rfl rfl ?_
    refine s_skip rfl rfl rfl ?_
    refine s_skip rfl rfl rfl ?_
    refine s_pick rfl rfl rfl rfl rfl ?_
    refine s_move rfl rfl rfl rfl ?_
    refine s_skip rfl rfl rfl ?_
    refine s_skip rfl rfl rfl ?_
    refine s_pick rfl rfl rfl rfl rfl ?_
    refine s_assign rfl rfl rfl rfl ?_
    refine vOrd_nil ?_
    refine Wp.ret ⟨.inr rfl, fun lW => ⟨_, res_tmp (P := Tryd.prog) rfl rfl, _, rfl, ?_, lW⟩⟩
    clear lW
    rw [decide_eq_true (show 2 ≤ k by omega), decide_eq_true (show k ≤ 4 by omega)]
    all_goals rfl
  · refine s_move rfl rfl rfl rfl ?_
    refine s_move rfl rfl rfl rfl ?_
    refine p_eql rfl rfl rfl rfl rfl (fun h7 => ?_) (fun h7 => ?_)
    · refine s_pick rfl rfl rfl rfl rfl ?_
      refine s_move rfl rfl rfl rfl ?_
      refine s_skip rfl rfl rfl ?_
      refine s_skip rfl rfl rfl ?_
      refine s_pick rfl rfl rfl rfl rfl ?_
      refine s_assign rfl rfl rfl rfl ?_
      refine vOrd_nil ?_
      refine Wp.ret ⟨.inr rfl, fun lW => ⟨_, res_tmp (P := Tryd.prog) rfl rfl, _, rfl, ?_, lW⟩⟩
      clear lW
      rw [decide_eq_true (show 2 ≤ k by omega), decide_eq_true (show k ≤ 4 by omega)]
      all_goals rfl
    · refine s_pick rfl rfl rfl rfl rfl ?_
      refine s_move rfl rfl rfl rfl ?_
      refine s_move rfl rfl rfl rfl ?_
      refine p_eql rfl rfl rfl rfl rfl (fun h11 => ?_) (fun h11 => ?_)
      · refine s_pick rfl rfl rfl rfl rfl ?_
        refine s_assign rfl rfl rfl rfl ?_
        refine vOrd_nil ?_
        refine Wp.ret ⟨.inr rfl, fun lW => ⟨_, res_tmp (P := Tryd.prog) rfl rfl, _, rfl, ?_, lW⟩⟩
        clear lW
        rw [decide_eq_true (show 2 ≤ k by omega), decide_eq_true (show k ≤ 4 by omega)]
        all_goals rfl
      · refine s_pick rfl rfl rfl rfl rfl ?_
        refine s_assign rfl rfl rfl rfl ?_
        refine vOrd_nil ?_
        refine Wp.ret ⟨.inr rfl, fun lW => ⟨_, res_tmp (P := Tryd.prog) rfl rfl, _, rfl, ?_, lW⟩⟩
        clear lW
        cases hq : (decide (2 ≤ k) && decide (k ≤ 4)) with
        | false => rfl
        | true =>
          simp only [Bool.and_eq_true, decide_eq_true_eq] at hq
          omega
theorem cell_var {w : World} {b : Nat} {cs : List Value} (h : Var w b cs) (j : Nat) : w.cell? ⟨b, j, none⟩ = cs[j]? := by
  obtain ⟨t, h⟩ := h
  rw [cell_of_row w b j _ t _ h]; simp
theorem any_yes {ks : List Int} {F : Int → Int} {i : Nat} {k : Int} (h : ks[i]? = some k) (h0 : F k = 0) : (ks.any fun k => decide (F k = 0)) = true :=
  List.any_eq_true.2 ⟨k, List.mem_of_getElem? h, by simp [h0]⟩
theorem any_no {ks : List Int} {F : Int → Int} (h : ∀ (j : Nat) (k : Int), ks[j]? = some k → F k ≠ 0) : (ks.any fun k => decide (F k = 0)) = false := by
  rw [← Bool.not_eq_true, List.any_eq_true]
  rintro ⟨k, hk, h0⟩
  obtain ⟨j, hj, rfl⟩ := List.getElem_of_mem hk
  exact h j _ (List.getElem?_eq_getElem hj) (by simpa using h0)
theorem lacks_any {b mb m c : Nat} {F : Int → Int} {cs : List Value} {ks : List Int} {w : World} (hv : Var w b cs) (h3 : cs[3]? = some (.map (some mb))) (hM : MapI w mb m F) (hk : RowIs w c 3 (ks.map (Value.int .i64))) (hks : ∀ k ∈ ks, 0 ≤ k ∧ k ≤ 5) (hn : ks.length ≤ 100) :
    Calls Tryd.prog 29 #[.pointer (some ⟨b, 0, none⟩), .slice (some ⟨c, 0, none⟩) ks.length ks.length] w fun e w' => ∃ r, e = .returned r ∧ r = .bool (ks.any fun k => decide (F k = 0)) ∧ Below w.heap.size w w' := by
  refine calls_Wp (args := [_, _]) (n := 21) Tryd.func29 rfl rfl (by simp) ?_
  refine Wp.seq ?_
  refine Wp.region [0] (by kernel_rfl) (by kernel_rfl) ?_
  refine s_assign rfl rfl rfl rfl ?_
  refine vOrd_nil ?_
  refine Wp.seq ?_
  refine Wp.seq ?_
  refine Wp.region [0, 1, 2] (by kernel_rfl) (by kernel_rfl) ?_
  refine s_move rfl rfl rfl rfl ?_
  refine x_len rfl rfl rfl rfl rfl ?_
  refine s_move rfl rfl rfl rfl ?_
  refine vOrd_nil ?_
  refine Wp.block ?_
  refine Wp.loop (fun k st W => ∃ (i : Nat) (p : Int), st = St.of [(0, .v (.pointer (some ⟨b, 0, none⟩))), (7, .v (.slice (some ⟨c, 0, none⟩) ks.length ks.length)), (8, .v (.int .i64 (ks.length : Int))), (9, .v (.int .i64 p))] [] ∧ p = i ∧ i ≤ ks.length ∧ (∀ j k, j < i → ks[j]? = some k → F k ≠ 0) ∧ k = ks.length - i) ?_ ?_
  · exact ⟨_, _, (St.of_le' (env := [(0, .v _), (7, .v _), (8, .v _), (9, .v _)]) (mem := []) ⟨rfl, rfl, rfl, rfl, trivial⟩ trivial), 0, _, rfl, rfl, Nat.zero_le _, fun j k hj => by omega, rfl⟩
  · rintro k st w1 ⟨i, p, rfl, rfl, hi, hall, rfl⟩
    refine Wp.seq ?_
    refine Wp.region [0] (by kernel_rfl) (by kernel_rfl) ?_
    refine p_lss rfl rfl rfl rfl rfl (fun h10 => ?_) (fun h10 => ?_)
    · refine vOrd_nil ?_
      refine Wp.seq ?_
      refine Wp.condT rfl rfl ?_
      refine Wp.skip ?_
      refine Wp.seq ?_
      refine Wp.block ?_
      refine Wp.seq ?_
      obtain ⟨k, hkk⟩ : ∃ k, ks[i]? = some k := ⟨ks[i]'(by omega), List.getElem?_eq_getElem _⟩
      have hkr := hks k (List.mem_of_getElem? hkk)
      refine Wp.old (fun lo => ?_)
      have hM1 := hM.later lo
      have hv1 := hv.later lo
      have hk1 := hk.later lo
      have hc3 : _ = some (Value.map (some mb)) := (cell_var hv1 3).trans h3
      refine Wp.region [0, 1, 2] (by kernel_rfl) (by kernel_rfl) ?_
      refine s_idx (sz := 1) i rfl rfl rfl rfl rfl rfl rfl (by omega) (by omega) (by omega) ?_
      refine x_ldc (v := .int .i64 k) rfl rfl rfl rfl rfl (by rw [cell_of_row _ c i _ _ _ hk1]; simp [hkk]) ?_
      refine s_assign rfl rfl rfl rfl ?_
      refine vOrd_nil ?_
      refine Wp.seq ?_
      refine Wp.region [0, 1, 2, 3, 4, 5, 6] (by kernel_rfl) (by kernel_rfl) ?_
      refine s_move rfl rfl rfl rfl ?_
      refine s_nilV rfl rfl rfl rfl ?_
      refine s_fieldV 3 rfl rfl rfl rfl 3 rfl rfl ?_
      refine x_ldc rfl rfl rfl rfl rfl hc3 ?_
      refine s_move rfl rfl rfl rfl ?_
      refine x_lookup (kt := 3) rfl rfl rfl rfl rfl rfl rfl Tryd.zeroValue3 (wf_small (by omega) (by omega)) hM1 ?_
      refine p_eql rfl rfl rfl rfl rfl (fun h19 => ?_) (fun h19 => ?_)
      · refine vOrd_nil ?_
        refine Wp.condT rfl rfl ?_
        refine Wp.seq ?_
        refine Wp.region [0] (by kernel_rfl) (by kernel_rfl) ?_
        refine s_assign rfl rfl rfl rfl ?_
        refine vOrd_nil ?_
        refine Wp.ret ⟨.inr rfl, fun lW => ⟨_, res_tmp (P := Tryd.prog) rfl rfl, _, rfl, ?_, lW⟩⟩
        clear lW
        rw [any_yes hkk h19]
      · refine vOrd_nil ?_
        refine Wp.condF rfl rfl ?_
        refine Wp.skip ?_
        refine Wp.region [0, 1] (by kernel_rfl) (by kernel_rfl) ?_
        refine a_add (-9223372036854775808) 9223372036854775807 (by decide) rfl rfl rfl rfl rfl (by omega) (by omega) ?_
        refine s_move rfl rfl rfl rfl ?_
        refine vOrd_nil ?_
        exact ⟨_, _, by omega, (St.of_le' (env := [(0, .v _), (7, .v _), (8, .v _), (9, .v _)]) (mem := []) ⟨rfl, rfl, rfl, rfl, trivial⟩ trivial), i + 1, _, rfl, by omega, by omega, fun j q hj hq => by rcases Nat.lt_or_ge j i with z | z; exact hall j q z hq; rw [show j = i by omega, hkk] at hq; cases hq; exact h19, rfl⟩
    · refine vOrd_nil ?_
      refine Wp.seq ?_
      refine Wp.condF rfl rfl ?_
      refine Wp.exit ?_
      refine Wp.seq ?_
      refine Wp.region [0] (by kernel_rfl) (by kernel_rfl) ?_
      refine s_assign rfl rfl rfl rfl ?_
      refine vOrd_nil ?_
      refine Wp.ret ⟨.inr rfl, fun lW => ⟨_, res_tmp (P := Tryd.prog) rfl rfl, _, rfl, ?_, lW⟩⟩
      clear lW
      rw [any_no (fun j k hj => hall j k (by have := (List.getElem?_eq_some_iff.1 hj).1; omega) hj)]
/-- What a file holds in memory. -/
def fileC (s : PS) (v : Value) (mb : Nat) (x0 x1 x2 x3 x4 : Int) : List Value := [.int .i64 s.t.u, .int .i64 s.t.e, v, .map (some mb), .int .u32 x0, .int .u32 x1, .int .u32 x2, .int .u32 x3, .int .u32 x4]
def errOf : Except Int PS → Int
  | .error e => e
  | .ok _ => 0
theorem err_ne {s : PS} {n : Nat} {l : List UInt8} (h : errOf (stepP s n l) ≠ 0) : stepP s n l = .error (errOf (stepP s n l)) := by
  cases hs : stepP s n l with
  | error e => rfl
  | ok s' => rw [hs] at h; exact absurd rfl h
theorem err_ok {s : PS} {n : Nat} {l : List UInt8} (h : errOf (stepP s n l) = 0) : ∃ s', stepP s n l = .ok s' := by
  cases hs : stepP s n l with
  | ok s' => exact ⟨s', rfl⟩
  | error e =>
    rw [hs] at h
    have h : e = 0 := h
    subst h
    exfalso
    unfold stepP at hs
    repeat' split at hs
    all_goals cases hs
/-- What read leaves. -/
def ReadR (s : PS) (n : Nat) (l : List UInt8) (mb m g B0 : Nat) (ds : List Value) (v : Value) (cs : List Value) (w : World) : Prop :=
  v = .int .i64 (errOf (stepP s n l)) ∧ ∀ s', stepP s n l = .ok s' → ∃ ea ec x0 x1 x2 x3 x4 F, cs = fileC s' (.slice ea s'.t.es.length ec) mb x0 x1 x2 x3 x4 ∧ s'.ws = [x0, x1, x2, x3, x4] ∧ MapI w mb (m + 1) F ∧ SeenOf F s' ∧ w.ownsRow B0 43 2 (.slice ea s'.t.es.length ec) s'.t.es.length (entC s'.t.es) ∧ B0 ≤ w.heap.size ∧ Var w g ds
theorem all_argsM {p : Nat → Prop} {b c : Nat} {cs ds : List Value} {l : List Value} (h1 : p b) (h2 : p c) : AllMem p (St.argsM b cs c ds l) := fun h d x e => by
  simp only [St.argsM] at e
  cases hh : Nat.beq h 900 with
  | true => rw [hh] at e; simp only [cond, Option.some.injEq, Prod.mk.injEq] at e; rw [← e.1]; exact h1
  | false =>
    rw [hh] at e
    cases h3 : Nat.beq h 901 with
    | false => rw [h3] at e; cases e
    | true => rw [h3] at e; simp only [cond, Option.some.injEq, Prod.mk.injEq] at e; rw [← e.1]; exact h2
set_option maxHeartbeats 4000000 in
theorem fread_any {b mb m g B0 : Nat} {ds : List Value} {F : Int → Int} {s : PS} {ea : Option Addr} {ec : Nat} {x0 x1 x2 x3 x4 : Int} {w : World} (hv : Var w b (fileC s (.slice ea s.t.es.length ec) mb x0 x1 x2 x3 x4)) (hws : s.ws = [x0, x1, x2, x3, x4]) (hM : MapI w mb m F) (hm : m ≤ 1000000) (hmb : mb < b) (hF : SeenOf F s) {n0 : Nat} (hso : s.Ok n0)
    (hown : w.ownsRow B0 43 2 (.slice ea s.t.es.length ec) s.t.es.length (entC s.t.es)) (hB : b < B0) (hsz : B0 ≤ w.heap.size) (hg : Var w g ds) (hgb : b < g) (hgB : g < B0) {n : Nat} (hn2 : n ≤ 1000000) {l : List UInt8} (hl : l.length ≤ 1000000) :
    Calls Tryd.prog 28 #[.pointer (some ⟨b, 0, none⟩), .int .i64 (n : Int), .string ⟨⟨l⟩⟩] w fun e w' => ∃ v, e = .returned v ∧ (∃ cs', ReadR s n l mb m g B0 ds v cs' w' ∧ Var w' b cs') ∧ Under mb w w' := by
  have hgmb : g ≠ mb := by omega
  have hmsz : mb ≤ w.heap.size := Nat.le_of_lt hM.lt
  unfold fileC at hv
  refine calls_WpM (args := [_, _]) (n := 89) hv hg (Nat.le_of_lt hmb) (by omega) (by omega) Tryd.func28 rfl rfl (by simp) ?_
  refine Wp.seq ?_
  refine Wp.region [0] (by kernel_rfl) (by kernel_rfl) ?_
  refine s_assign rfl rfl rfl rfl ?_
  refine vOrd_nil ?_
  refine Wp.seq ?_
  refine Wp.region [0, 1, 2, 3, 4, 5, 6, 7] (by kernel_rfl) (by kernel_rfl) ?_
  refine s_move rfl rfl rfl rfl ?_
  refine s_callT rfl rfl rfl (by kernel_rfl) rfl (scanV l (by omega) _) ?_
  rintro v w1 ⟨k, a, b0, v0, v1, v2, v3, v4, rfl, hq⟩ lw1
  replace hown := own_later hown lw1
  replace hsz := Nat.le_trans hsz lw1.size
  replace hM := hM.later lw1
  rcases Bool.eq_false_or_eq_true ((scanP l).isSome) with h12 | h12
  · rw [h12]
    obtain ⟨q, hq1⟩ := Option.isSome_iff_exists.1 h12
    have hqe := hq q hq1
    subst hqe
    clear hq
    have ho := scanP_ok hq1
    have hkd := ho.kind
    have hab := ho.a
    have hbb := ho.b
    simp only at hkd hab hbb
    refine s_move rfl rfl rfl rfl ?_
    refine s_extract rfl rfl rfl rfl rfl ?_
    refine s_extract rfl rfl rfl rfl rfl ?_
    refine s_alloc rfl rfl rfl rfl rfl (fun bk2 w2 kb2 lw2 => ?_)
    have hn7 := own_ne hown (.inr kb2)
    have hk7 : mb ≠ bk2 := by have := hM.lt; omega
    replace hown := own_later hown lw2
    replace hsz := Nat.le_trans hsz lw2.size
    replace hM := hM.later lw2
    refine s_store rfl rfl rfl rfl rfl rfl rfl (fun w3 sw3 vw3 => ?_)
    replace hown := own_sto hown sw3 hn7
    replace hsz := Nat.le_trans hsz (Nat.le_of_eq sw3.size.symm)
    replace hM := hM.sto sw3 hk7
    refine s_assign rfl rfl rfl rfl ?_
    refine vOrd_nil ?_
    refine Wp.seq ?_
    refine Wp.seq ?_
    refine Wp.var (h := 900) rfl (fun hv9 => ?_)
    refine Wp.region [0, 1, 2, 3, 4, 5, 6, 7, 8, 9, 10, 11, 12, 13, 14] (by kernel_rfl) (by kernel_rfl) ?_
    refine s_move rfl rfl rfl rfl ?_
    refine s_not rfl rfl rfl rfl ?_
    refine s_move rfl rfl rfl rfl ?_
    refine s_field 0 rfl rfl rfl rfl rfl ?_
    refine s_load rfl rfl rfl rfl rfl rfl rfl ?_
    refine s_callT rfl rfl rfl (by kernel_rfl) rfl (single_any k _) ?_
    rintro v w4 rfl lw4
    replace hown := own_later hown lw4
    replace hsz := Nat.le_trans hsz lw4.size
    replace hM := hM.later lw4
    replace hv9 := hv9.later lw4
    rcases Bool.eq_false_or_eq_true ((decide (2 ≤ k) && decide (k ≤ 4))) with h20 | h20
    · rw [h20]
      simp only [Bool.and_eq_true, decide_eq_true_eq] at h20
      refine s_move rfl rfl rfl rfl ?_
      refine s_move rfl rfl rfl rfl ?_
      refine s_field 0 rfl rfl rfl rfl rfl ?_
      refine s_load rfl rfl rfl rfl rfl rfl rfl ?_
      refine s_bs (e := 3) (cs := [k].map (Value.int .i64)) rfl rfl rfl (fun _ => by kernel_rfl) ?_
      intro cbk wbk hcbk lbk hrowk
      replace hv9 := hv9.later lbk
      replace hown := own_later hown lbk
      replace hsz := Nat.le_trans hsz lbk.size
      replace hM := hM.later lbk
      refine s_callT rfl rfl rfl (by kernel_rfl) rfl (lacks_any (ks := [k]) hv9 rfl hM hrowk (fun q hq => by simp only [List.mem_singleton] at hq; omega) (by simp)) ?_
      rintro v w11 rfl lw11
      replace hown := own_later hown lw11
      replace hsz := Nat.le_trans hsz lw11.size
      replace hM := hM.later lw11
      rcases Bool.eq_false_or_eq_true (([k].any fun k => decide (F k = 0))) with h26 | h26
      · rw [h26]
        have hF0 : F k = 0 := by simpa using h26
        refine s_not rfl rfl rfl rfl ?_
        refine s_pick rfl rfl rfl rfl rfl ?_
        refine s_pick rfl rfl rfl rfl rfl ?_
        refine vOrd_nil ?_
        refine Wp.condF rfl rfl ?_
        refine Wp.skip ?_
        refine Wp.seq ?_
        refine Wp.seq ?_
        refine Wp.region [0, 1] (by kernel_rfl) (by kernel_rfl) ?_
        refine s_field 0 rfl rfl rfl rfl rfl ?_
        refine s_load rfl rfl rfl rfl rfl rfl rfl ?_
        refine vOrd_nil ?_
        refine Wp.block ?_
        refine Wp.seq ?_
        refine Wp.region [0, 1] (by kernel_rfl) (by kernel_rfl) ?_
        refine p_eql rfl rfl rfl rfl rfl (fun h33 => ?_) (fun h33 => ?_)
        · have hst := step_2 (n := n) hF hq1 h33 hF0
          refine s_assign rfl rfl rfl rfl ?_
          refine vOrd_nil ?_
          refine Wp.condT rfl rfl ?_
          refine Wp.region [0, 1, 2, 3, 4, 5, 6] (by kernel_rfl) (by kernel_rfl) ?_
          refine s_move rfl rfl rfl rfl ?_
          refine s_field 1 rfl rfl rfl rfl rfl ?_
          refine s_load rfl rfl rfl rfl rfl rfl rfl ?_
          refine s_nil rfl rfl rfl rfl ?_
          refine s_field 0 rfl rfl rfl rfl rfl ?_
          refine s_field 0 rfl rfl rfl rfl rfl ?_
          refine s_store rfl rfl rfl rfl rfl rfl rfl (fun w12 sw12 vw12 => ?_)
          replace hown := own_sto hown sw12 (own_ne hown (.inl hB))
          replace hsz := Nat.le_trans hsz (Nat.le_of_eq sw12.size.symm)
          replace hM := hM.sto sw12 (by omega)
          refine vOrd_nil ?_
          refine Wp.seq ?_
          refine Wp.drawnX (by kernel_rfl) (by kernel_rfl) (by kernel_rfl) [0, 1, 2, 4, 6] 3 #[true, true, true, false, true, false, true, false] rfl (by kernel_rfl) (by kernel_rfl) (fun wd ld => ?_)
          replace hown := own_later hown ld
          replace hsz := Nat.le_trans hsz ld.size
          replace hM := hM.later ld
          refine s_move rfl rfl rfl rfl ?_
          refine s_nil rfl rfl rfl rfl ?_
          refine s_field 3 rfl rfl rfl rfl rfl ?_
          refine s_field 0 rfl rfl rfl rfl rfl ?_
          refine s_move rfl rfl rfl rfl ?_
          refine vOrd_nil ?_
          refine vTree_two (i := 3) (k := 5) (L1 := #[true, true, true, true, true, false, true, false]) (L2 := #[true, true, true, false, true, true, true, false]) (by kernel_rfl) (by kernel_rfl) (by kernel_rfl) ?_ ?_
          · refine s_load rfl rfl rfl rfl rfl rfl rfl ?_
            refine vOrd_nil ?_
            refine vTree_one (i := 5) (L := #[true, true, true, true, true, true, true, false]) (by kernel_rfl) (by kernel_rfl) ?_
            refine s_load rfl rfl rfl rfl rfl rfl rfl ?_
            refine vOrd_nil ?_
            refine vTree_one (i := 7) (L := #[true, true, true, true, true, true, true, true]) (by kernel_rfl) (by kernel_rfl) ?_
            refine x_mapUp (kt := 3) rfl rfl rfl rfl rfl rfl rfl rfl (wf_small (by omega) (by omega)) (wf_small (by omega) (by omega)) (by unfold maxLen; omega) hM (by rw [upTo_size (by omega)]; exact Nat.le_refl _) (by repeat (first | exact all_argsM (show b ≠ mb by omega) hgmb | refine AllMem.put ?_ | refine AllMem.new ?_ (Ne.symm hk7) | refine AllMem.new ?_ (Ne.symm hk9) | refine AllMem.set ?_ (Ne.symm hk7) | refine AllMem.set ?_ (Ne.symm hk9) | refine AllMem.set ?_ (show b ≠ mb by omega))) ?_
            intro wm sm hM2
            replace hown := own_sto hown sm (own_ne hown (.inl (show mb < B0 by omega)))
            replace hsz := Nat.le_trans hsz (Nat.le_of_eq sm.size.symm)
            refine vOrd_nil ?_
            refine vTree_end (by kernel_rfl) ?_
            refine Wp.seq ?_
            refine Wp.region [0] (by kernel_rfl) (by kernel_rfl) ?_
            refine s_assign rfl rfl rfl rfl ?_
            refine vOrd_nil ?_
            refine Wp.ret ⟨.inr rfl, fun mW lW => ⟨_, res_tmp (P := Tryd.prog) rfl rfl, _, rfl, ?_, lW⟩⟩
            clear lW
            exact ⟨_, ⟨by rw [hst]; rfl, fun s1 h1 => by rw [hst] at h1; cases h1; exact ⟨_, _, x0, x1, x2, x3, x4, _, rfl, hws, hM2, seen_step hF hq1 hst, hown, hsz, mW 901 _ _ rfl⟩⟩, mW 900 _ _ rfl⟩
          · refine s_load rfl rfl rfl rfl rfl rfl rfl ?_
            refine vOrd_nil ?_
            refine vTree_one (i := 3) (L := #[true, true, true, true, true, true, true, false]) (by kernel_rfl) (by kernel_rfl) ?_
            refine s_load rfl rfl rfl rfl rfl rfl rfl ?_
            refine vOrd_nil ?_
            refine vTree_one (i := 7) (L := #[true, true, true, true, true, true, true, true]) (by kernel_rfl) (by kernel_rfl) ?_
            refine x_mapUp (kt := 3) rfl rfl rfl rfl rfl rfl rfl rfl (wf_small (by omega) (by omega)) (wf_small (by omega) (by omega)) (by unfold maxLen; omega) hM (by rw [upTo_size (by omega)]; exact Nat.le_refl _) (by repeat (first | exact all_argsM (show b ≠ mb by omega) hgmb | refine AllMem.put ?_ | refine AllMem.new ?_ (Ne.symm hk7) | refine AllMem.new ?_ (Ne.symm hk9) | refine AllMem.set ?_ (Ne.symm hk7) | refine AllMem.set ?_ (Ne.symm hk9) | refine AllMem.set ?_ (show b ≠ mb by omega))) ?_
            intro wm sm hM2
            replace hown := own_sto hown sm (own_ne hown (.inl (show mb < B0 by omega)))
            replace hsz := Nat.le_trans hsz (Nat.le_of_eq sm.size.symm)
            refine vOrd_nil ?_
            refine vTree_end (by kernel_rfl) ?_
            refine Wp.seq ?_
            refine Wp.region [0] (by kernel_rfl) (by kernel_rfl) ?_
            refine s_assign rfl rfl rfl rfl ?_
            refine vOrd_nil ?_
            refine Wp.ret ⟨.inr rfl, fun mW lW => ⟨_, res_tmp (P := Tryd.prog) rfl rfl, _, rfl, ?_, lW⟩⟩
            clear lW
            exact ⟨_, ⟨by rw [hst]; rfl, fun s1 h1 => by rw [hst] at h1; cases h1; exact ⟨_, _, x0, x1, x2, x3, x4, _, rfl, hws, hM2, seen_step hF hq1 hst, hown, hsz, mW 901 _ _ rfl⟩⟩, mW 900 _ _ rfl⟩
        · refine s_assign rfl rfl rfl rfl ?_
          refine vOrd_nil ?_
          refine Wp.condF rfl rfl ?_
          refine Wp.seq ?_
          refine Wp.region [0, 1] (by kernel_rfl) (by kernel_rfl) ?_
          refine p_eql rfl rfl rfl rfl rfl (fun h41 => ?_) (fun h41 => ?_)
          · have hst := step_3 (n := n) hF hq1 h41 hF0
            refine s_assign rfl rfl rfl rfl ?_
            refine vOrd_nil ?_
            refine Wp.condT rfl rfl ?_
            refine Wp.region [0, 1, 2, 3, 4, 5, 6] (by kernel_rfl) (by kernel_rfl) ?_
            refine s_move rfl rfl rfl rfl ?_
            refine s_field 1 rfl rfl rfl rfl rfl ?_
            refine s_load rfl rfl rfl rfl rfl rfl rfl ?_
            refine s_nil rfl rfl rfl rfl ?_
            refine s_field 0 rfl rfl rfl rfl rfl ?_
            refine s_field 1 rfl rfl rfl rfl rfl ?_
            refine s_store rfl rfl rfl rfl rfl rfl rfl (fun w21 sw21 vw21 => ?_)
            replace hown := own_sto hown sw21 (own_ne hown (.inl hB))
            replace hsz := Nat.le_trans hsz (Nat.le_of_eq sw21.size.symm)
            replace hM := hM.sto sw21 (by omega)
            refine vOrd_nil ?_
            refine Wp.seq ?_
            refine Wp.drawnX (by kernel_rfl) (by kernel_rfl) (by kernel_rfl) [0, 1, 2, 4, 6] 3 #[true, true, true, false, true, false, true, false] rfl (by kernel_rfl) (by kernel_rfl) (fun wd ld => ?_)
            replace hown := own_later hown ld
            replace hsz := Nat.le_trans hsz ld.size
            replace hM := hM.later ld
            refine s_move rfl rfl rfl rfl ?_
            refine s_nil rfl rfl rfl rfl ?_
            refine s_field 3 rfl rfl rfl rfl rfl ?_
            refine s_field 0 rfl rfl rfl rfl rfl ?_
            refine s_move rfl rfl rfl rfl ?_
            refine vOrd_nil ?_
            refine vTree_two (i := 3) (k := 5) (L1 := #[true, true, true, true, true, false, true, false]) (L2 := #[true, true, true, false, true, true, true, false]) (by kernel_rfl) (by kernel_rfl) (by kernel_rfl) ?_ ?_
            · refine s_load rfl rfl rfl rfl rfl rfl rfl ?_
              refine vOrd_nil ?_
              refine vTree_one (i := 5) (L := #[true, true, true, true, true, true, true, false]) (by kernel_rfl) (by kernel_rfl) ?_
              refine s_load rfl rfl rfl rfl rfl rfl rfl ?_
              refine vOrd_nil ?_
              refine vTree_one (i := 7) (L := #[true, true, true, true, true, true, true, true]) (by kernel_rfl) (by kernel_rfl) ?_
              refine x_mapUp (kt := 3) rfl rfl rfl rfl rfl rfl rfl rfl (wf_small (by omega) (by omega)) (wf_small (by omega) (by omega)) (by unfold maxLen; omega) hM (by rw [upTo_size (by omega)]; exact Nat.le_refl _) (by repeat (first | exact all_argsM (show b ≠ mb by omega) hgmb | refine AllMem.put ?_ | refine AllMem.new ?_ (Ne.symm hk7) | refine AllMem.new ?_ (Ne.symm hk9) | refine AllMem.set ?_ (Ne.symm hk7) | refine AllMem.set ?_ (Ne.symm hk9) | refine AllMem.set ?_ (show b ≠ mb by omega))) ?_
              intro wm sm hM2
              replace hown := own_sto hown sm (own_ne hown (.inl (show mb < B0 by omega)))
              replace hsz := Nat.le_trans hsz (Nat.le_of_eq sm.size.symm)
              refine vOrd_nil ?_
              refine vTree_end (by kernel_rfl) ?_
              refine Wp.seq ?_
              refine Wp.region [0] (by kernel_rfl) (by kernel_rfl) ?_
              refine s_assign rfl rfl rfl rfl ?_
              refine vOrd_nil ?_
              refine Wp.ret ⟨.inr rfl, fun mW lW => ⟨_, res_tmp (P := Tryd.prog) rfl rfl, _, rfl, ?_, lW⟩⟩
              clear lW
              exact ⟨_, ⟨by rw [hst]; rfl, fun s1 h1 => by rw [hst] at h1; cases h1; exact ⟨_, _, x0, x1, x2, x3, x4, _, rfl, hws, hM2, seen_step hF hq1 hst, hown, hsz, mW 901 _ _ rfl⟩⟩, mW 900 _ _ rfl⟩
            · refine s_load rfl rfl rfl rfl rfl rfl rfl ?_
              refine vOrd_nil ?_
              refine vTree_one (i := 3) (L := #[true, true, true, true, true, true, true, false]) (by kernel_rfl) (by kernel_rfl) ?_
              refine s_load rfl rfl rfl rfl rfl rfl rfl ?_
              refine vOrd_nil ?_
              refine vTree_one (i := 7) (L := #[true, true, true, true, true, true, true, true]) (by kernel_rfl) (by kernel_rfl) ?_
              refine x_mapUp (kt := 3) rfl rfl rfl rfl rfl rfl rfl rfl (wf_small (by omega) (by omega)) (wf_small (by omega) (by omega)) (by unfold maxLen; omega) hM (by rw [upTo_size (by omega)]; exact Nat.le_refl _) (by repeat (first | exact all_argsM (show b ≠ mb by omega) hgmb | refine AllMem.put ?_ | refine AllMem.new ?_ (Ne.symm hk7) | refine AllMem.new ?_ (Ne.symm hk9) | refine AllMem.set ?_ (Ne.symm hk7) | refine AllMem.set ?_ (Ne.symm hk9) | refine AllMem.set ?_ (show b ≠ mb by omega))) ?_
              intro wm sm hM2
              replace hown := own_sto hown sm (own_ne hown (.inl (show mb < B0 by omega)))
              replace hsz := Nat.le_trans hsz (Nat.le_of_eq sm.size.symm)
              refine vOrd_nil ?_
              refine vTree_end (by kernel_rfl) ?_
              refine Wp.seq ?_
              refine Wp.region [0] (by kernel_rfl) (by kernel_rfl) ?_
              refine s_assign rfl rfl rfl rfl ?_
              refine vOrd_nil ?_
              refine Wp.ret ⟨.inr rfl, fun mW lW => ⟨_, res_tmp (P := Tryd.prog) rfl rfl, _, rfl, ?_, lW⟩⟩
              clear lW
              exact ⟨_, ⟨by rw [hst]; rfl, fun s1 h1 => by rw [hst] at h1; cases h1; exact ⟨_, _, x0, x1, x2, x3, x4, _, rfl, hws, hM2, seen_step hF hq1 hst, hown, hsz, mW 901 _ _ rfl⟩⟩, mW 900 _ _ rfl⟩
          · refine s_assign rfl rfl rfl rfl ?_
            refine vOrd_nil ?_
            refine Wp.condF rfl rfl ?_
            refine Wp.seq ?_
            refine Wp.region [0, 1] (by kernel_rfl) (by kernel_rfl) ?_
            refine t_eql rfl rfl rfl rfl rfl (by omega) ?_
            refine s_assign rfl rfl rfl rfl ?_
            refine vOrd_nil ?_
            refine Wp.condT rfl rfl ?_
            have hst := step_4 (n := n) hF hq1 (by omega) hF0
            refine Wp.region [0, 1, 2, 3, 4, 5] (by kernel_rfl) (by kernel_rfl) ?_
            refine s_move rfl rfl rfl rfl ?_
            refine s_field 3 rfl rfl rfl rfl rfl ?_
            refine s_load rfl rfl rfl rfl rfl rfl rfl ?_
            refine s_nil rfl rfl rfl rfl ?_
            refine s_field 4 rfl rfl rfl rfl rfl ?_
            refine s_store rfl rfl rfl rfl rfl rfl rfl (fun w30 sw30 vw30 => ?_)
            replace hown := own_sto hown sw30 (own_ne hown (.inl hB))
            replace hsz := Nat.le_trans hsz (Nat.le_of_eq sw30.size.symm)
            replace hM := hM.sto sw30 (by omega)
            refine vOrd_nil ?_
            refine Wp.seq ?_
            refine Wp.drawnX (by kernel_rfl) (by kernel_rfl) (by kernel_rfl) [0, 1, 2, 4, 6] 3 #[true, true, true, false, true, false, true, false] rfl (by kernel_rfl) (by kernel_rfl) (fun wd ld => ?_)
            replace hown := own_later hown ld
            replace hsz := Nat.le_trans hsz ld.size
            replace hM := hM.later ld
            refine s_move rfl rfl rfl rfl ?_
            refine s_nil rfl rfl rfl rfl ?_
            refine s_field 3 rfl rfl rfl rfl rfl ?_
            refine s_field 0 rfl rfl rfl rfl rfl ?_
            refine s_move rfl rfl rfl rfl ?_
            refine vOrd_nil ?_
            refine vTree_two (i := 3) (k := 5) (L1 := #[true, true, true, true, true, false, true, false]) (L2 := #[true, true, true, false, true, true, true, false]) (by kernel_rfl) (by kernel_rfl) (by kernel_rfl) ?_ ?_
            · refine s_load rfl rfl rfl rfl rfl rfl rfl ?_
              refine vOrd_nil ?_
              refine vTree_one (i := 5) (L := #[true, true, true, true, true, true, true, false]) (by kernel_rfl) (by kernel_rfl) ?_
              refine s_load rfl rfl rfl rfl rfl rfl rfl ?_
              refine vOrd_nil ?_
              refine vTree_one (i := 7) (L := #[true, true, true, true, true, true, true, true]) (by kernel_rfl) (by kernel_rfl) ?_
              refine x_mapUp (kt := 3) rfl rfl rfl rfl rfl rfl rfl rfl (wf_small (by omega) (by omega)) (wf_small (by omega) (by omega)) (by unfold maxLen; omega) hM (by rw [upTo_size (by omega)]; exact Nat.le_refl _) (by repeat (first | exact all_argsM (show b ≠ mb by omega) hgmb | refine AllMem.put ?_ | refine AllMem.new ?_ (Ne.symm hk7) | refine AllMem.new ?_ (Ne.symm hk9) | refine AllMem.set ?_ (Ne.symm hk7) | refine AllMem.set ?_ (Ne.symm hk9) | refine AllMem.set ?_ (show b ≠ mb by omega))) ?_
              intro wm sm hM2
              replace hown := own_sto hown sm (own_ne hown (.inl (show mb < B0 by omega)))
              replace hsz := Nat.le_trans hsz (Nat.le_of_eq sm.size.symm)
              refine vOrd_nil ?_
              refine vTree_end (by kernel_rfl) ?_
              refine Wp.seq ?_
              refine Wp.region [0] (by kernel_rfl) (by kernel_rfl) ?_
              refine s_assign rfl rfl rfl rfl ?_
              refine vOrd_nil ?_
              refine Wp.ret ⟨.inr rfl, fun mW lW => ⟨_, res_tmp (P := Tryd.prog) rfl rfl, _, rfl, ?_, lW⟩⟩
              clear lW
              exact ⟨_, ⟨by rw [hst]; rfl, fun s1 h1 => by rw [hst] at h1; cases h1; exact ⟨_, _, v0, v1, v2, v3, v4, _, rfl, rfl, hM2, seen_step hF hq1 hst, hown, hsz, mW 901 _ _ rfl⟩⟩, mW 900 _ _ rfl⟩
            · refine s_load rfl rfl rfl rfl rfl rfl rfl ?_
              refine vOrd_nil ?_
              refine vTree_one (i := 3) (L := #[true, true, true, true, true, true, true, false]) (by kernel_rfl) (by kernel_rfl) ?_
              refine s_load rfl rfl rfl rfl rfl rfl rfl ?_
              refine vOrd_nil ?_
              refine vTree_one (i := 7) (L := #[true, true, true, true, true, true, true, true]) (by kernel_rfl) (by kernel_rfl) ?_
              refine x_mapUp (kt := 3) rfl rfl rfl rfl rfl rfl rfl rfl (wf_small (by omega) (by omega)) (wf_small (by omega) (by omega)) (by unfold maxLen; omega) hM (by rw [upTo_size (by omega)]; exact Nat.le_refl _) (by repeat (first | exact all_argsM (show b ≠ mb by omega) hgmb | refine AllMem.put ?_ | refine AllMem.new ?_ (Ne.symm hk7) | refine AllMem.new ?_ (Ne.symm hk9) | refine AllMem.set ?_ (Ne.symm hk7) | refine AllMem.set ?_ (Ne.symm hk9) | refine AllMem.set ?_ (show b ≠ mb by omega))) ?_
              intro wm sm hM2
              replace hown := own_sto hown sm (own_ne hown (.inl (show mb < B0 by omega)))
              replace hsz := Nat.le_trans hsz (Nat.le_of_eq sm.size.symm)
              refine vOrd_nil ?_
              refine vTree_end (by kernel_rfl) ?_
              refine Wp.seq ?_
              refine Wp.region [0] (by kernel_rfl) (by kernel_rfl) ?_
              refine s_assign rfl rfl rfl rfl ?_
              refine vOrd_nil ?_
              refine Wp.ret ⟨.inr rfl, fun mW lW => ⟨_, res_tmp (P := Tryd.prog) rfl rfl, _, rfl, ?_, lW⟩⟩
              clear lW
              exact ⟨_, ⟨by rw [hst]; rfl, fun s1 h1 => by rw [hst] at h1; cases h1; exact ⟨_, _, v0, v1, v2, v3, v4, _, rfl, rfl, hM2, seen_step hF hq1 hst, hown, hsz, mW 901 _ _ rfl⟩⟩, mW 900 _ _ rfl⟩
      · rw [h26]
        have hF0 : F k ≠ 0 := by simpa using h26
        refine s_not rfl rfl rfl rfl ?_
        refine s_pick rfl rfl rfl rfl rfl ?_
        refine s_pick rfl rfl rfl rfl rfl ?_
        refine vOrd_nil ?_
        refine Wp.condT rfl rfl ?_
        refine Wp.seq ?_
        refine Wp.region [0] (by kernel_rfl) (by kernel_rfl) ?_
        refine s_assign rfl rfl rfl rfl ?_
        refine vOrd_nil ?_
        refine Wp.ret ⟨.inr rfl, fun mW lW => ⟨_, res_tmp (P := Tryd.prog) rfl rfl, _, rfl, ?_, lW⟩⟩
        clear lW
        have hst := step_seen (n := n) hF hq1 (by omega) (by omega) hF0
        exact ⟨_, ⟨by rw [hst]; rfl, fun s1 h1 => by rw [hst] at h1; cases h1⟩, mW 900 _ _ rfl⟩
    · rw [h20]
      rw [← Bool.not_eq_true] at h20
      simp only [Bool.and_eq_true, decide_eq_true_eq] at h20
      refine s_move rfl rfl rfl rfl ?_
      refine s_skip rfl rfl rfl ?_
      refine s_skip rfl rfl rfl ?_
      refine s_skip rfl rfl rfl ?_
      refine s_skip rfl rfl rfl ?_
      refine s_skip rfl rfl rfl ?_
      refine s_skip rfl rfl rfl ?_
      refine s_pick rfl rfl rfl rfl rfl ?_
      refine s_pick rfl rfl rfl rfl rfl ?_
      refine vOrd_nil ?_
      refine Wp.condF rfl rfl ?_
      refine Wp.skip ?_
      refine Wp.seq ?_
      refine Wp.seq ?_
      refine Wp.region [0, 1] (by kernel_rfl) (by kernel_rfl) ?_
      refine s_field 0 rfl rfl rfl rfl rfl ?_
      refine s_load rfl rfl rfl rfl rfl rfl rfl ?_
      refine vOrd_nil ?_
      refine Wp.block ?_
      refine Wp.seq ?_
      refine Wp.region [0, 1] (by kernel_rfl) (by kernel_rfl) ?_
      refine f_eql rfl rfl rfl rfl rfl (by omega) ?_
      refine s_assign rfl rfl rfl rfl ?_
      refine vOrd_nil ?_
      refine Wp.condF rfl rfl ?_
      refine Wp.seq ?_
      refine Wp.region [0, 1] (by kernel_rfl) (by kernel_rfl) ?_
      refine f_eql rfl rfl rfl rfl rfl (by omega) ?_
      refine s_assign rfl rfl rfl rfl ?_
      refine vOrd_nil ?_
      refine Wp.condF rfl rfl ?_
      refine Wp.seq ?_
      refine Wp.region [0, 1] (by kernel_rfl) (by kernel_rfl) ?_
      refine f_eql rfl rfl rfl rfl rfl (by omega) ?_
      refine s_assign rfl rfl rfl rfl ?_
      refine vOrd_nil ?_
      refine Wp.condF rfl rfl ?_
      refine Wp.seq ?_
      refine Wp.region [0, 1] (by kernel_rfl) (by kernel_rfl) ?_
      refine p_eql rfl rfl rfl rfl rfl (fun h56 => ?_) (fun h56 => ?_)
      · refine s_assign rfl rfl rfl rfl ?_
        refine vOrd_nil ?_
        refine Wp.condT rfl rfl ?_
        refine Wp.seq ?_
        refine Wp.region [0, 1, 2, 3, 4, 5, 6] (by kernel_rfl) (by kernel_rfl) ?_
        refine s_field 1 rfl rfl rfl rfl rfl ?_
        refine s_load rfl rfl rfl rfl rfl rfl rfl ?_
        refine s_field 2 rfl rfl rfl rfl rfl ?_
        refine s_load rfl rfl rfl rfl rfl rfl rfl ?_
        refine s_build rfl rfl rfl rfl rfl (by kernel_rfl) ?_
        refine s_alloc rfl rfl rfl rfl rfl (fun bk39 w39 kb39 lw39 => ?_)
        have hn9 := own_ne hown (.inr kb39)
        have hk9 : mb ≠ bk39 := by have := hM.lt; omega
        replace hown := own_later hown lw39
        replace hsz := Nat.le_trans hsz lw39.size
        replace hM := hM.later lw39
        refine s_store rfl rfl rfl rfl rfl rfl rfl (fun w40 sw40 vw40 => ?_)
        replace hown := own_sto hown sw40 hn9
        replace hsz := Nat.le_trans hsz (Nat.le_of_eq sw40.size.symm)
        replace hM := hM.sto sw40 hk9
        refine vOrd_nil ?_
        refine Wp.seq ?_
        refine Wp.seq ?_
        refine (Wp.drawn (by kernel_rfl) (by kernel_rfl) [0, 1, 2, 3, 4, 5, 6, 7] [62, 0, 0, 0, 0, 0, 0, 0] (by kernel_rfl) (by kernel_rfl) (fun | 6 => fun v _ => v = .bool (stand s.t.es (a, b0)) | _ => fun _ _ => True) (fun wd ld => ?_))
        replace hown := own_later hown ld
        replace hsz := Nat.le_trans hsz ld.size
        replace hM := hM.later ld
        refine s_load rfl rfl rfl rfl rfl rfl rfl ?_
        refine s_move rfl rfl rfl rfl ?_
        refine s_nil rfl rfl rfl rfl ?_
        refine s_field 0 rfl rfl rfl rfl rfl ?_
        refine s_field 2 rfl rfl rfl rfl rfl ?_
        refine s_load rfl rfl rfl rfl rfl rfl rfl ?_
        refine s_callD rfl rfl rfl (by kernel_rfl) rfl (fun wc lc => may_any (by unfold I64; omega) (by unfold I64; omega) ((ents_own hown hso.es).later lc) (ents_calm hso.es)) ?_
        rintro v w41 u41 rfl lw41 mw41
        replace hown := own_later hown lw41
        replace hsz := Nat.le_trans hsz lw41.size
        replace hM := hM.later lw41
        replace hown := own_later hown mw41
        replace hsz := Nat.le_trans hsz mw41.size
        replace hM := hM.later mw41
        refine s_not rfl rfl rfl rfl ?_
        refine vOrd_nil ?_
        refine Wp.cond rfl (okOpd_spec rfl) (fun c69 => ?_) (fun c69 => ?_)
        · have hsd : stand s.t.es (a, b0) = false := by simpa using c69
          refine Wp.seq ?_
          refine Wp.region [0] (by kernel_rfl) (by kernel_rfl) ?_
          refine s_assign rfl rfl rfl rfl ?_
          refine vOrd_nil ?_
          refine Wp.ret ⟨.inr rfl, fun mW lW => ⟨_, res_tmp (P := Tryd.prog) rfl rfl, _, rfl, ?_, lW⟩⟩
          clear lW
          have hst := step_5n (n := n) hq1 (by omega) hsd
          exact ⟨_, ⟨by rw [hst]; rfl, fun s1 h1 => by rw [hst] at h1; cases h1⟩, mW 900 _ _ rfl⟩
        · have hsd : stand s.t.es (a, b0) = true := by simpa using c69
          have hst := step_5 (n := n) hq1 (by omega) hsd
          refine Wp.skip ?_
          have hlen64 := ok_len hso.es
          refine Wp.drawnX (by kernel_rfl) (by kernel_rfl) (by kernel_rfl) [0, 1, 2, 3, 4] 8 #[true, true, true, true, true, false, false, false, false, false, false, false, false] rfl (by kernel_rfl) (by kernel_rfl) (fun wd ld => ?_)
          replace hown := own_later hown ld
          replace hsz := Nat.le_trans hsz ld.size
          replace hM := hM.later ld
          refine s_move rfl rfl rfl rfl ?_
          refine s_move rfl rfl rfl rfl ?_
          refine s_nil rfl rfl rfl rfl ?_
          refine s_field 0 rfl rfl rfl rfl rfl ?_
          refine s_field 2 rfl rfl rfl rfl rfl ?_
          refine vOrd_nil ?_
          refine vTree_two (i := 5) (k := 6) (L1 := #[true, true, true, true, true, true, false, false, false, false, false, false, false]) (L2 := #[true, true, true, true, true, false, true, false, false, false, false, false, false]) (by kernel_rfl) (by kernel_rfl) (by kernel_rfl) ?_ ?_
          · refine s_load rfl rfl rfl rfl rfl rfl rfl ?_
            refine vOrd_nil ?_
            refine vTree_one (i := 6) (L := #[true, true, true, true, true, true, true, false, false, false, false, false, false]) (by kernel_rfl) (by kernel_rfl) ?_
            refine s_load rfl rfl rfl rfl rfl rfl rfl ?_
            refine vOrd_nil ?_
            refine vTree_one (i := 7) (L := #[true, true, true, true, true, true, true, true, false, false, false, false, false]) (by kernel_rfl) (by kernel_rfl) ?_
            refine s_bs (e := 43) (cs := [.int .i64 a, .int .i64 b0]) rfl rfl rfl (fun _ => by kernel_rfl) ?_
            intro cbq wbq hcbq lbq hrowq
            replace hown := own_later hown lbq
            replace hsz := Nat.le_trans hsz lbq.size
            replace hM := hM.later lbq
            refine vOrd_nil ?_
            refine vTree_one (i := 8) (L := #[true, true, true, true, true, true, true, true, true, false, false, false, false]) (by kernel_rfl) (by kernel_rfl) ?_
            refine x_append (base := B0) (sz := 2) (bs := 16) (n := s.t.es.length) (m := 1) (xs := entC s.t.es) rfl rfl rfl rfl rfl rfl rfl rfl rfl rfl rfl (by decide) hown hrowq rfl rfl (by omega) (by omega) hsz (by rw [upTo_size (by omega)]; omega) (by repeat (first | exact all_argsM (own_ne hown (.inl hB)) (own_ne hown (.inl hgB)) | refine AllMem.put ?_ | refine AllMem.new ?_ hn7 | refine AllMem.new ?_ hn9 | refine AllMem.set ?_ hn7 | refine AllMem.set ?_ hn9 | refine AllMem.set ?_ (own_ne hown (.inl hB)))) ?_
            intro v2 w2a hown2 hgr2
            replace hM := hM.grown hgr2 (fun q => own_ne hown (.inl (show mb < B0 by omega)) q.symm)
            replace hsz := Nat.le_trans hsz hgr2.size
            rw [← entC_app s.t.es (a, b0)] at hown2
            obtain ⟨ea2, ec2, rfl⟩ := own_slice hown2
            rw [show s.t.es.length + 1 = (s.t.es ++ [(a, b0)]).length by simp] at hown2 ⊢
            replace hown := hown2
            refine vOrd_nil ?_
            refine vTree_one (i := 9) (L := #[true, true, true, true, true, true, true, true, true, true, false, false, false]) (by kernel_rfl) (by kernel_rfl) ?_
            refine s_nil rfl rfl rfl rfl ?_
            refine vOrd_nil ?_
            refine vTree_one (i := 10) (L := #[true, true, true, true, true, true, true, true, true, true, true, false, false]) (by kernel_rfl) (by kernel_rfl) ?_
            refine s_field 0 rfl rfl rfl rfl rfl ?_
            refine vOrd_nil ?_
            refine vTree_one (i := 11) (L := #[true, true, true, true, true, true, true, true, true, true, true, true, false]) (by kernel_rfl) (by kernel_rfl) ?_
            refine s_field 2 rfl rfl rfl rfl rfl ?_
            refine vOrd_nil ?_
            refine vTree_one (i := 12) (L := #[true, true, true, true, true, true, true, true, true, true, true, true, true]) (by kernel_rfl) (by kernel_rfl) ?_
            refine s_store rfl rfl rfl rfl rfl rfl rfl (fun w55 sw55 vw55 => ?_)
            replace hown := own_sto hown sw55 (own_ne hown (.inl hB))
            replace hsz := Nat.le_trans hsz (Nat.le_of_eq sw55.size.symm)
            replace hM := hM.sto sw55 (by omega)
            refine vOrd_nil ?_
            refine vTree_end (by kernel_rfl) ?_
            refine Wp.seq ?_
            refine Wp.drawnX (by kernel_rfl) (by kernel_rfl) (by kernel_rfl) [0, 1, 2, 4, 6] 3 #[true, true, true, false, true, false, true, false] rfl (by kernel_rfl) (by kernel_rfl) (fun wd ld => ?_)
            replace hown := own_later hown ld
            replace hsz := Nat.le_trans hsz ld.size
            replace hM := hM.later ld
            refine s_move rfl rfl rfl rfl ?_
            refine s_nil rfl rfl rfl rfl ?_
            refine s_field 3 rfl rfl rfl rfl rfl ?_
            refine s_field 0 rfl rfl rfl rfl rfl ?_
            refine s_move rfl rfl rfl rfl ?_
            refine vOrd_nil ?_
            refine vTree_two (i := 3) (k := 5) (L1 := #[true, true, true, true, true, false, true, false]) (L2 := #[true, true, true, false, true, true, true, false]) (by kernel_rfl) (by kernel_rfl) (by kernel_rfl) ?_ ?_
            · refine s_load rfl rfl rfl rfl rfl rfl rfl ?_
              refine vOrd_nil ?_
              refine vTree_one (i := 5) (L := #[true, true, true, true, true, true, true, false]) (by kernel_rfl) (by kernel_rfl) ?_
              refine s_load rfl rfl rfl rfl rfl rfl rfl ?_
              refine vOrd_nil ?_
              refine vTree_one (i := 7) (L := #[true, true, true, true, true, true, true, true]) (by kernel_rfl) (by kernel_rfl) ?_
              refine x_mapUp (kt := 3) rfl rfl rfl rfl rfl rfl rfl rfl (wf_small (by omega) (by omega)) (wf_small (by omega) (by omega)) (by unfold maxLen; omega) hM (by rw [upTo_size (by omega)]; exact Nat.le_refl _) (by repeat (first | exact all_argsM (show b ≠ mb by omega) hgmb | refine AllMem.put ?_ | refine AllMem.new ?_ (Ne.symm hk7) | refine AllMem.new ?_ (Ne.symm hk9) | refine AllMem.set ?_ (Ne.symm hk7) | refine AllMem.set ?_ (Ne.symm hk9) | refine AllMem.set ?_ (show b ≠ mb by omega))) ?_
              intro wm sm hM2
              replace hown := own_sto hown sm (own_ne hown (.inl (show mb < B0 by omega)))
              replace hsz := Nat.le_trans hsz (Nat.le_of_eq sm.size.symm)
              refine vOrd_nil ?_
              refine vTree_end (by kernel_rfl) ?_
              refine Wp.seq ?_
              refine Wp.region [0] (by kernel_rfl) (by kernel_rfl) ?_
              refine s_assign rfl rfl rfl rfl ?_
              refine vOrd_nil ?_
              refine Wp.ret ⟨.inr rfl, fun mW lW => ⟨_, res_tmp (P := Tryd.prog) rfl rfl, _, rfl, ?_, lW⟩⟩
              clear lW
              exact ⟨_, ⟨by rw [hst]; rfl, fun s1 h1 => by rw [hst] at h1; cases h1; exact ⟨_, _, x0, x1, x2, x3, x4, _, rfl, hws, hM2, seen_step hF hq1 hst, hown, hsz, mW 901 _ _ rfl⟩⟩, mW 900 _ _ rfl⟩
            · refine s_load rfl rfl rfl rfl rfl rfl rfl ?_
              refine vOrd_nil ?_
              refine vTree_one (i := 3) (L := #[true, true, true, true, true, true, true, false]) (by kernel_rfl) (by kernel_rfl) ?_
              refine s_load rfl rfl rfl rfl rfl rfl rfl ?_
              refine vOrd_nil ?_
              refine vTree_one (i := 7) (L := #[true, true, true, true, true, true, true, true]) (by kernel_rfl) (by kernel_rfl) ?_
              refine x_mapUp (kt := 3) rfl rfl rfl rfl rfl rfl rfl rfl (wf_small (by omega) (by omega)) (wf_small (by omega) (by omega)) (by unfold maxLen; omega) hM (by rw [upTo_size (by omega)]; exact Nat.le_refl _) (by repeat (first | exact all_argsM (show b ≠ mb by omega) hgmb | refine AllMem.put ?_ | refine AllMem.new ?_ (Ne.symm hk7) | refine AllMem.new ?_ (Ne.symm hk9) | refine AllMem.set ?_ (Ne.symm hk7) | refine AllMem.set ?_ (Ne.symm hk9) | refine AllMem.set ?_ (show b ≠ mb by omega))) ?_
              intro wm sm hM2
              replace hown := own_sto hown sm (own_ne hown (.inl (show mb < B0 by omega)))
              replace hsz := Nat.le_trans hsz (Nat.le_of_eq sm.size.symm)
              refine vOrd_nil ?_
              refine vTree_end (by kernel_rfl) ?_
              refine Wp.seq ?_
              refine Wp.region [0] (by kernel_rfl) (by kernel_rfl) ?_
              refine s_assign rfl rfl rfl rfl ?_
              refine vOrd_nil ?_
              refine Wp.ret ⟨.inr rfl, fun mW lW => ⟨_, res_tmp (P := Tryd.prog) rfl rfl, _, rfl, ?_, lW⟩⟩
              clear lW
              exact ⟨_, ⟨by rw [hst]; rfl, fun s1 h1 => by rw [hst] at h1; cases h1; exact ⟨_, _, x0, x1, x2, x3, x4, _, rfl, hws, hM2, seen_step hF hq1 hst, hown, hsz, mW 901 _ _ rfl⟩⟩, mW 900 _ _ rfl⟩
          · refine s_load rfl rfl rfl rfl rfl rfl rfl ?_
            refine vOrd_nil ?_
            refine vTree_two (i := 5) (k := 7) (L1 := #[true, true, true, true, true, true, true, false, false, false, false, false, false]) (L2 := #[true, true, true, true, true, false, true, true, false, false, false, false, false]) (by kernel_rfl) (by kernel_rfl) (by kernel_rfl) ?_ ?_
            · refine s_load rfl rfl rfl rfl rfl rfl rfl ?_
              refine vOrd_nil ?_
              refine vTree_one (i := 7) (L := #[true, true, true, true, true, true, true, true, false, false, false, false, false]) (by kernel_rfl) (by kernel_rfl) ?_
              refine s_bs (e := 43) (cs := [.int .i64 a, .int .i64 b0]) rfl rfl rfl (fun _ => by kernel_rfl) ?_
              intro cbq wbq hcbq lbq hrowq
              replace hown := own_later hown lbq
              replace hsz := Nat.le_trans hsz lbq.size
              replace hM := hM.later lbq
              refine vOrd_nil ?_
              refine vTree_one (i := 8) (L := #[true, true, true, true, true, true, true, true, true, false, false, false, false]) (by kernel_rfl) (by kernel_rfl) ?_
              refine x_append (base := B0) (sz := 2) (bs := 16) (n := s.t.es.length) (m := 1) (xs := entC s.t.es) rfl rfl rfl rfl rfl rfl rfl rfl rfl rfl rfl (by decide) hown hrowq rfl rfl (by omega) (by omega) hsz (by rw [upTo_size (by omega)]; omega) (by repeat (first | exact all_argsM (own_ne hown (.inl hB)) (own_ne hown (.inl hgB)) | refine AllMem.put ?_ | refine AllMem.new ?_ hn7 | refine AllMem.new ?_ hn9 | refine AllMem.set ?_ hn7 | refine AllMem.set ?_ hn9 | refine AllMem.set ?_ (own_ne hown (.inl hB)))) ?_
              intro v2 w2a hown2 hgr2
              replace hM := hM.grown hgr2 (fun q => own_ne hown (.inl (show mb < B0 by omega)) q.symm)
              replace hsz := Nat.le_trans hsz hgr2.size
              rw [← entC_app s.t.es (a, b0)] at hown2
              obtain ⟨ea2, ec2, rfl⟩ := own_slice hown2
              rw [show s.t.es.length + 1 = (s.t.es ++ [(a, b0)]).length by simp] at hown2 ⊢
              replace hown := hown2
              refine vOrd_nil ?_
              refine vTree_one (i := 9) (L := #[true, true, true, true, true, true, true, true, true, true, false, false, false]) (by kernel_rfl) (by kernel_rfl) ?_
              refine s_nil rfl rfl rfl rfl ?_
              refine vOrd_nil ?_
              refine vTree_one (i := 10) (L := #[true, true, true, true, true, true, true, true, true, true, true, false, false]) (by kernel_rfl) (by kernel_rfl) ?_
              refine s_field 0 rfl rfl rfl rfl rfl ?_
              refine vOrd_nil ?_
              refine vTree_one (i := 11) (L := #[true, true, true, true, true, true, true, true, true, true, true, true, false]) (by kernel_rfl) (by kernel_rfl) ?_
              refine s_field 2 rfl rfl rfl rfl rfl ?_
              refine vOrd_nil ?_
              refine vTree_one (i := 12) (L := #[true, true, true, true, true, true, true, true, true, true, true, true, true]) (by kernel_rfl) (by kernel_rfl) ?_
              refine s_store rfl rfl rfl rfl rfl rfl rfl (fun w77 sw77 vw77 => ?_)
              replace hown := own_sto hown sw77 (own_ne hown (.inl hB))
              replace hsz := Nat.le_trans hsz (Nat.le_of_eq sw77.size.symm)
              replace hM := hM.sto sw77 (by omega)
              refine vOrd_nil ?_
              refine vTree_end (by kernel_rfl) ?_
              refine Wp.seq ?_
              refine Wp.drawnX (by kernel_rfl) (by kernel_rfl) (by kernel_rfl) [0, 1, 2, 4, 6] 3 #[true, true, true, false, true, false, true, false] rfl (by kernel_rfl) (by kernel_rfl) (fun wd ld => ?_)
              replace hown := own_later hown ld
              replace hsz := Nat.le_trans hsz ld.size
              replace hM := hM.later ld
              refine s_move rfl rfl rfl rfl ?_
              refine s_nil rfl rfl rfl rfl ?_
              refine s_field 3 rfl rfl rfl rfl rfl ?_
              refine s_field 0 rfl rfl rfl rfl rfl ?_
              refine s_move rfl rfl rfl rfl ?_
              refine vOrd_nil ?_
              refine vTree_two (i := 3) (k := 5) (L1 := #[true, true, true, true, true, false, true, false]) (L2 := #[true, true, true, false, true, true, true, false]) (by kernel_rfl) (by kernel_rfl) (by kernel_rfl) ?_ ?_
              · refine s_load rfl rfl rfl rfl rfl rfl rfl ?_
                refine vOrd_nil ?_
                refine vTree_one (i := 5) (L := #[true, true, true, true, true, true, true, false]) (by kernel_rfl) (by kernel_rfl) ?_
                refine s_load rfl rfl rfl rfl rfl rfl rfl ?_
                refine vOrd_nil ?_
                refine vTree_one (i := 7) (L := #[true, true, true, true, true, true, true, true]) (by kernel_rfl) (by kernel_rfl) ?_
                refine x_mapUp (kt := 3) rfl rfl rfl rfl rfl rfl rfl rfl (wf_small (by omega) (by omega)) (wf_small (by omega) (by omega)) (by unfold maxLen; omega) hM (by rw [upTo_size (by omega)]; exact Nat.le_refl _) (by repeat (first | exact all_argsM (show b ≠ mb by omega) hgmb | refine AllMem.put ?_ | refine AllMem.new ?_ (Ne.symm hk7) | refine AllMem.new ?_ (Ne.symm hk9) | refine AllMem.set ?_ (Ne.symm hk7) | refine AllMem.set ?_ (Ne.symm hk9) | refine AllMem.set ?_ (show b ≠ mb by omega))) ?_
                intro wm sm hM2
                replace hown := own_sto hown sm (own_ne hown (.inl (show mb < B0 by omega)))
                replace hsz := Nat.le_trans hsz (Nat.le_of_eq sm.size.symm)
                refine vOrd_nil ?_
                refine vTree_end (by kernel_rfl) ?_
                refine Wp.seq ?_
                refine Wp.region [0] (by kernel_rfl) (by kernel_rfl) ?_
                refine s_assign rfl rfl rfl rfl ?_
                refine vOrd_nil ?_
                refine Wp.ret ⟨.inr rfl, fun mW lW => ⟨_, res_tmp (P := Tryd.prog) rfl rfl, _, rfl, ?_, lW⟩⟩
                clear lW
                exact ⟨_, ⟨by rw [hst]; rfl, fun s1 h1 => by rw [hst] at h1; cases h1; exact ⟨_, _, x0, x1, x2, x3, x4, _, rfl, hws, hM2, seen_step hF hq1 hst, hown, hsz, mW 901 _ _ rfl⟩⟩, mW 900 _ _ rfl⟩
              · refine s_load rfl rfl rfl rfl rfl rfl rfl ?_
                refine vOrd_nil ?_
                refine vTree_one (i := 3) (L := #[true, true, true, true, true, true, true, false]) (by kernel_rfl) (by kernel_rfl) ?_
                refine s_load rfl rfl rfl rfl rfl rfl rfl ?_
                refine vOrd_nil ?_
                refine vTree_one (i := 7) (L := #[true, true, true, true, true, true, true, true]) (by kernel_rfl) (by kernel_rfl) ?_
                refine x_mapUp (kt := 3) rfl rfl rfl rfl rfl rfl rfl rfl (wf_small (by omega) (by omega)) (wf_small (by omega) (by omega)) (by unfold maxLen; omega) hM (by rw [upTo_size (by omega)]; exact Nat.le_refl _) (by repeat (first | exact all_argsM (show b ≠ mb by omega) hgmb | refine AllMem.put ?_ | refine AllMem.new ?_ (Ne.symm hk7) | refine AllMem.new ?_ (Ne.symm hk9) | refine AllMem.set ?_ (Ne.symm hk7) | refine AllMem.set ?_ (Ne.symm hk9) | refine AllMem.set ?_ (show b ≠ mb by omega))) ?_
                intro wm sm hM2
                replace hown := own_sto hown sm (own_ne hown (.inl (show mb < B0 by omega)))
                replace hsz := Nat.le_trans hsz (Nat.le_of_eq sm.size.symm)
                refine vOrd_nil ?_
                refine vTree_end (by kernel_rfl) ?_
                refine Wp.seq ?_
                refine Wp.region [0] (by kernel_rfl) (by kernel_rfl) ?_
                refine s_assign rfl rfl rfl rfl ?_
                refine vOrd_nil ?_
                refine Wp.ret ⟨.inr rfl, fun mW lW => ⟨_, res_tmp (P := Tryd.prog) rfl rfl, _, rfl, ?_, lW⟩⟩
                clear lW
                exact ⟨_, ⟨by rw [hst]; rfl, fun s1 h1 => by rw [hst] at h1; cases h1; exact ⟨_, _, x0, x1, x2, x3, x4, _, rfl, hws, hM2, seen_step hF hq1 hst, hown, hsz, mW 901 _ _ rfl⟩⟩, mW 900 _ _ rfl⟩
            · refine s_bs (e := 43) (cs := [.int .i64 a, .int .i64 b0]) rfl rfl rfl (fun _ => by kernel_rfl) ?_
              intro cbq wbq hcbq lbq hrowq
              replace hown := own_later hown lbq
              replace hsz := Nat.le_trans hsz lbq.size
              replace hM := hM.later lbq
              refine vOrd_nil ?_
              refine vTree_one (i := 5) (L := #[true, true, true, true, true, true, true, true, false, false, false, false, false]) (by kernel_rfl) (by kernel_rfl) ?_
              refine s_load rfl rfl rfl rfl rfl rfl rfl ?_
              refine vOrd_nil ?_
              refine vTree_one (i := 8) (L := #[true, true, true, true, true, true, true, true, true, false, false, false, false]) (by kernel_rfl) (by kernel_rfl) ?_
              refine x_append (base := B0) (sz := 2) (bs := 16) (n := s.t.es.length) (m := 1) (xs := entC s.t.es) rfl rfl rfl rfl rfl rfl rfl rfl rfl rfl rfl (by decide) hown hrowq rfl rfl (by omega) (by omega) hsz (by rw [upTo_size (by omega)]; omega) (by repeat (first | exact all_argsM (own_ne hown (.inl hB)) (own_ne hown (.inl hgB)) | refine AllMem.put ?_ | refine AllMem.new ?_ hn7 | refine AllMem.new ?_ hn9 | refine AllMem.set ?_ hn7 | refine AllMem.set ?_ hn9 | refine AllMem.set ?_ (own_ne hown (.inl hB)))) ?_
              intro v2 w2a hown2 hgr2
              replace hM := hM.grown hgr2 (fun q => own_ne hown (.inl (show mb < B0 by omega)) q.symm)
              replace hsz := Nat.le_trans hsz hgr2.size
              rw [← entC_app s.t.es (a, b0)] at hown2
              obtain ⟨ea2, ec2, rfl⟩ := own_slice hown2
              rw [show s.t.es.length + 1 = (s.t.es ++ [(a, b0)]).length by simp] at hown2 ⊢
              replace hown := hown2
              refine vOrd_nil ?_
              refine vTree_one (i := 9) (L := #[true, true, true, true, true, true, true, true, true, true, false, false, false]) (by kernel_rfl) (by kernel_rfl) ?_
              refine s_nil rfl rfl rfl rfl ?_
              refine vOrd_nil ?_
              refine vTree_one (i := 10) (L := #[true, true, true, true, true, true, true, true, true, true, true, false, false]) (by kernel_rfl) (by kernel_rfl) ?_
              refine s_field 0 rfl rfl rfl rfl rfl ?_
              refine vOrd_nil ?_
              refine vTree_one (i := 11) (L := #[true, true, true, true, true, true, true, true, true, true, true, true, false]) (by kernel_rfl) (by kernel_rfl) ?_
              refine s_field 2 rfl rfl rfl rfl rfl ?_
              refine vOrd_nil ?_
              refine vTree_one (i := 12) (L := #[true, true, true, true, true, true, true, true, true, true, true, true, true]) (by kernel_rfl) (by kernel_rfl) ?_
              refine s_store rfl rfl rfl rfl rfl rfl rfl (fun w99 sw99 vw99 => ?_)
              replace hown := own_sto hown sw99 (own_ne hown (.inl hB))
              replace hsz := Nat.le_trans hsz (Nat.le_of_eq sw99.size.symm)
              replace hM := hM.sto sw99 (by omega)
              refine vOrd_nil ?_
              refine vTree_end (by kernel_rfl) ?_
              refine Wp.seq ?_
              refine Wp.drawnX (by kernel_rfl) (by kernel_rfl) (by kernel_rfl) [0, 1, 2, 4, 6] 3 #[true, true, true, false, true, false, true, false] rfl (by kernel_rfl) (by kernel_rfl) (fun wd ld => ?_)
              replace hown := own_later hown ld
              replace hsz := Nat.le_trans hsz ld.size
              replace hM := hM.later ld
              refine s_move rfl rfl rfl rfl ?_
              refine s_nil rfl rfl rfl rfl ?_
              refine s_field 3 rfl rfl rfl rfl rfl ?_
              refine s_field 0 rfl rfl rfl rfl rfl ?_
              refine s_move rfl rfl rfl rfl ?_
              refine vOrd_nil ?_
              refine vTree_two (i := 3) (k := 5) (L1 := #[true, true, true, true, true, false, true, false]) (L2 := #[true, true, true, false, true, true, true, false]) (by kernel_rfl) (by kernel_rfl) (by kernel_rfl) ?_ ?_
              · refine s_load rfl rfl rfl rfl rfl rfl rfl ?_
                refine vOrd_nil ?_
                refine vTree_one (i := 5) (L := #[true, true, true, true, true, true, true, false]) (by kernel_rfl) (by kernel_rfl) ?_
                refine s_load rfl rfl rfl rfl rfl rfl rfl ?_
                refine vOrd_nil ?_
                refine vTree_one (i := 7) (L := #[true, true, true, true, true, true, true, true]) (by kernel_rfl) (by kernel_rfl) ?_
                refine x_mapUp (kt := 3) rfl rfl rfl rfl rfl rfl rfl rfl (wf_small (by omega) (by omega)) (wf_small (by omega) (by omega)) (by unfold maxLen; omega) hM (by rw [upTo_size (by omega)]; exact Nat.le_refl _) (by repeat (first | exact all_argsM (show b ≠ mb by omega) hgmb | refine AllMem.put ?_ | refine AllMem.new ?_ (Ne.symm hk7) | refine AllMem.new ?_ (Ne.symm hk9) | refine AllMem.set ?_ (Ne.symm hk7) | refine AllMem.set ?_ (Ne.symm hk9) | refine AllMem.set ?_ (show b ≠ mb by omega))) ?_
                intro wm sm hM2
                replace hown := own_sto hown sm (own_ne hown (.inl (show mb < B0 by omega)))
                replace hsz := Nat.le_trans hsz (Nat.le_of_eq sm.size.symm)
                refine vOrd_nil ?_
                refine vTree_end (by kernel_rfl) ?_
                refine Wp.seq ?_
                refine Wp.region [0] (by kernel_rfl) (by kernel_rfl) ?_
                refine s_assign rfl rfl rfl rfl ?_
                refine vOrd_nil ?_
                refine Wp.ret ⟨.inr rfl, fun mW lW => ⟨_, res_tmp (P := Tryd.prog) rfl rfl, _, rfl, ?_, lW⟩⟩
                clear lW
                exact ⟨_, ⟨by rw [hst]; rfl, fun s1 h1 => by rw [hst] at h1; cases h1; exact ⟨_, _, x0, x1, x2, x3, x4, _, rfl, hws, hM2, seen_step hF hq1 hst, hown, hsz, mW 901 _ _ rfl⟩⟩, mW 900 _ _ rfl⟩
              · refine s_load rfl rfl rfl rfl rfl rfl rfl ?_
                refine vOrd_nil ?_
                refine vTree_one (i := 3) (L := #[true, true, true, true, true, true, true, false]) (by kernel_rfl) (by kernel_rfl) ?_
                refine s_load rfl rfl rfl rfl rfl rfl rfl ?_
                refine vOrd_nil ?_
                refine vTree_one (i := 7) (L := #[true, true, true, true, true, true, true, true]) (by kernel_rfl) (by kernel_rfl) ?_
                refine x_mapUp (kt := 3) rfl rfl rfl rfl rfl rfl rfl rfl (wf_small (by omega) (by omega)) (wf_small (by omega) (by omega)) (by unfold maxLen; omega) hM (by rw [upTo_size (by omega)]; exact Nat.le_refl _) (by repeat (first | exact all_argsM (show b ≠ mb by omega) hgmb | refine AllMem.put ?_ | refine AllMem.new ?_ (Ne.symm hk7) | refine AllMem.new ?_ (Ne.symm hk9) | refine AllMem.set ?_ (Ne.symm hk7) | refine AllMem.set ?_ (Ne.symm hk9) | refine AllMem.set ?_ (show b ≠ mb by omega))) ?_
                intro wm sm hM2
                replace hown := own_sto hown sm (own_ne hown (.inl (show mb < B0 by omega)))
                replace hsz := Nat.le_trans hsz (Nat.le_of_eq sm.size.symm)
                refine vOrd_nil ?_
                refine vTree_end (by kernel_rfl) ?_
                refine Wp.seq ?_
                refine Wp.region [0] (by kernel_rfl) (by kernel_rfl) ?_
                refine s_assign rfl rfl rfl rfl ?_
                refine vOrd_nil ?_
                refine Wp.ret ⟨.inr rfl, fun mW lW => ⟨_, res_tmp (P := Tryd.prog) rfl rfl, _, rfl, ?_, lW⟩⟩
                clear lW
                exact ⟨_, ⟨by rw [hst]; rfl, fun s1 h1 => by rw [hst] at h1; cases h1; exact ⟨_, _, x0, x1, x2, x3, x4, _, rfl, hws, hM2, seen_step hF hq1 hst, hown, hsz, mW 901 _ _ rfl⟩⟩, mW 900 _ _ rfl⟩
      · have hst := step_1 (s := s) (n := n) hq1 (by omega)
        refine s_assign rfl rfl rfl rfl ?_
        refine vOrd_nil ?_
        refine Wp.condF rfl rfl ?_
        refine Wp.skip ?_
        refine Wp.seq ?_
        refine Wp.drawnX (by kernel_rfl) (by kernel_rfl) (by kernel_rfl) [0, 1, 2, 4, 6] 3 #[true, true, true, false, true, false, true, false] rfl (by kernel_rfl) (by kernel_rfl) (fun wd ld => ?_)
        replace hown := own_later hown ld
        replace hsz := Nat.le_trans hsz ld.size
        replace hM := hM.later ld
        refine s_move rfl rfl rfl rfl ?_
        refine s_nil rfl rfl rfl rfl ?_
        refine s_field 3 rfl rfl rfl rfl rfl ?_
        refine s_field 0 rfl rfl rfl rfl rfl ?_
        refine s_move rfl rfl rfl rfl ?_
        refine vOrd_nil ?_
        refine vTree_two (i := 3) (k := 5) (L1 := #[true, true, true, true, true, false, true, false]) (L2 := #[true, true, true, false, true, true, true, false]) (by kernel_rfl) (by kernel_rfl) (by kernel_rfl) ?_ ?_
        · refine s_load rfl rfl rfl rfl rfl rfl rfl ?_
          refine vOrd_nil ?_
          refine vTree_one (i := 5) (L := #[true, true, true, true, true, true, true, false]) (by kernel_rfl) (by kernel_rfl) ?_
          refine s_load rfl rfl rfl rfl rfl rfl rfl ?_
          refine vOrd_nil ?_
          refine vTree_one (i := 7) (L := #[true, true, true, true, true, true, true, true]) (by kernel_rfl) (by kernel_rfl) ?_
          refine x_mapUp (kt := 3) rfl rfl rfl rfl rfl rfl rfl rfl (wf_small (by omega) (by omega)) (wf_small (by omega) (by omega)) (by unfold maxLen; omega) hM (by rw [upTo_size (by omega)]; exact Nat.le_refl _) (by repeat (first | exact all_argsM (show b ≠ mb by omega) hgmb | refine AllMem.put ?_ | refine AllMem.new ?_ (Ne.symm hk7) | refine AllMem.new ?_ (Ne.symm hk9) | refine AllMem.set ?_ (Ne.symm hk7) | refine AllMem.set ?_ (Ne.symm hk9) | refine AllMem.set ?_ (show b ≠ mb by omega))) ?_
          intro wm sm hM2
          replace hown := own_sto hown sm (own_ne hown (.inl (show mb < B0 by omega)))
          replace hsz := Nat.le_trans hsz (Nat.le_of_eq sm.size.symm)
          refine vOrd_nil ?_
          refine vTree_end (by kernel_rfl) ?_
          refine Wp.seq ?_
          refine Wp.region [0] (by kernel_rfl) (by kernel_rfl) ?_
          refine s_assign rfl rfl rfl rfl ?_
          refine vOrd_nil ?_
          refine Wp.ret ⟨.inr rfl, fun mW lW => ⟨_, res_tmp (P := Tryd.prog) rfl rfl, _, rfl, ?_, lW⟩⟩
          clear lW
          exact ⟨_, ⟨by rw [hst]; rfl, fun s1 h1 => by rw [hst] at h1; cases h1; exact ⟨_, _, x0, x1, x2, x3, x4, _, rfl, hws, hM2, seen_step hF hq1 hst, hown, hsz, mW 901 _ _ rfl⟩⟩, mW 900 _ _ rfl⟩
        · refine s_load rfl rfl rfl rfl rfl rfl rfl ?_
          refine vOrd_nil ?_
          refine vTree_one (i := 3) (L := #[true, true, true, true, true, true, true, false]) (by kernel_rfl) (by kernel_rfl) ?_
          refine s_load rfl rfl rfl rfl rfl rfl rfl ?_
          refine vOrd_nil ?_
          refine vTree_one (i := 7) (L := #[true, true, true, true, true, true, true, true]) (by kernel_rfl) (by kernel_rfl) ?_
          refine x_mapUp (kt := 3) rfl rfl rfl rfl rfl rfl rfl rfl (wf_small (by omega) (by omega)) (wf_small (by omega) (by omega)) (by unfold maxLen; omega) hM (by rw [upTo_size (by omega)]; exact Nat.le_refl _) (by repeat (first | exact all_argsM (show b ≠ mb by omega) hgmb | refine AllMem.put ?_ | refine AllMem.new ?_ (Ne.symm hk7) | refine AllMem.new ?_ (Ne.symm hk9) | refine AllMem.set ?_ (Ne.symm hk7) | refine AllMem.set ?_ (Ne.symm hk9) | refine AllMem.set ?_ (show b ≠ mb by omega))) ?_
          intro wm sm hM2
          replace hown := own_sto hown sm (own_ne hown (.inl (show mb < B0 by omega)))
          replace hsz := Nat.le_trans hsz (Nat.le_of_eq sm.size.symm)
          refine vOrd_nil ?_
          refine vTree_end (by kernel_rfl) ?_
          refine Wp.seq ?_
          refine Wp.region [0] (by kernel_rfl) (by kernel_rfl) ?_
          refine s_assign rfl rfl rfl rfl ?_
          refine vOrd_nil ?_
          refine Wp.ret ⟨.inr rfl, fun mW lW => ⟨_, res_tmp (P := Tryd.prog) rfl rfl, _, rfl, ?_, lW⟩⟩
          clear lW
          exact ⟨_, ⟨by rw [hst]; rfl, fun s1 h1 => by rw [hst] at h1; cases h1; exact ⟨_, _, x0, x1, x2, x3, x4, _, rfl, hws, hM2, seen_step hF hq1 hst, hown, hsz, mW 901 _ _ rfl⟩⟩, mW 900 _ _ rfl⟩
  · rw [h12]
    refine s_move rfl rfl rfl rfl ?_
    refine s_extract rfl rfl rfl rfl rfl ?_
    refine s_extract rfl rfl rfl rfl rfl ?_
    refine s_alloc rfl rfl rfl rfl rfl (fun bk116 w116 kb116 lw116 => ?_)
    have hn7 := own_ne hown (.inr kb116)
    have hk7 : mb ≠ bk116 := by have := hM.lt; omega
    replace hown := own_later hown lw116
    replace hsz := Nat.le_trans hsz lw116.size
    replace hM := hM.later lw116
    refine s_store rfl rfl rfl rfl rfl rfl rfl (fun w117 sw117 vw117 => ?_)
    replace hown := own_sto hown sw117 hn7
    replace hsz := Nat.le_trans hsz (Nat.le_of_eq sw117.size.symm)
    replace hM := hM.sto sw117 hk7
    refine s_assign rfl rfl rfl rfl ?_
    refine vOrd_nil ?_
    refine Wp.seq ?_
    refine Wp.seq ?_
    refine Wp.var (h := 900) rfl (fun hv9 => ?_)
    refine Wp.region [0, 1, 2, 3, 4, 5, 6, 7, 8, 9, 10, 11, 12, 13, 14] (by kernel_rfl) (by kernel_rfl) ?_
    refine s_move rfl rfl rfl rfl ?_
    refine s_not rfl rfl rfl rfl ?_
    refine s_move rfl rfl rfl rfl ?_
    refine s_skip rfl rfl rfl ?_
    refine s_skip rfl rfl rfl ?_
    refine s_skip rfl rfl rfl ?_
    refine s_skip rfl rfl rfl ?_
    refine s_skip rfl rfl rfl ?_
    refine s_skip rfl rfl rfl ?_
    refine s_skip rfl rfl rfl ?_
    refine s_skip rfl rfl rfl ?_
    refine s_skip rfl rfl rfl ?_
    refine s_skip rfl rfl rfl ?_
    refine s_skip rfl rfl rfl ?_
    refine s_pick rfl rfl rfl rfl rfl ?_
    refine vOrd_nil ?_
    refine Wp.condT rfl rfl ?_
    refine Wp.seq ?_
    refine Wp.region [0] (by kernel_rfl) (by kernel_rfl) ?_
    refine s_assign rfl rfl rfl rfl ?_
    refine vOrd_nil ?_
    refine Wp.ret ⟨.inr rfl, fun mW lW => ⟨_, res_tmp (P := Tryd.prog) rfl rfl, _, rfl, ?_, lW⟩⟩
    clear lW
    have hst := step_none (s := s) (n := n) h12
    exact ⟨_, ⟨by rw [hst]; rfl, fun s1 h1 => by rw [hst] at h1; cases h1⟩, mW 900 _ _ rfl⟩
end Go.Proofs.YthjgilocbfhffaaDoor
