/-
 Which days are in range (inB), which labels of UTC may be (isU); '==' of structs of three numbers (eqD), and of bools. No conditions.
-/
import Derived.Test.YthihioakjpmnbaaGreatVcW
import Derived.Laws.Tables
import Derived.Test.YthihioakjpmnbaaGreatNumA
import Derived.Test.YthihioakjpmnbaaGreatProg
namespace Go.Proofs.YthihioakjpmnbaaGreat
open Go.RowKit

theorem read_one {P : Program} {t : TypeId} {cs : List Value} {off : Nat} (ha : isAggT P t = some false) : readOf P t cs off = cs[off]? := by
 unfold readOf; rw [ha]
theorem write_one {P : Program} {t : TypeId} {cs : List Value} {off : Nat} {v : Value} (hs : (P.info? t).map (·.size) = some 1) (hv : v.cells = #[v]) (h1 : v.oneCell' = true) (ho : off < cs.length) : writeOf P t cs off v = some (cs.set off v) := by
 have e : cs.take off ++ [v] ++ cs.drop (off + 1) = cs.set off v := by
  rw [List.set_eq_take_append_cons_drop, if_pos ho, List.append_assoc]; rfl
 cases hp : P.info? t with
 | none => rw [hp] at hs; cases hs
 | some ii =>
  rw [hp] at hs
  simp only [Option.map_some, Option.some.injEq] at hs
  unfold writeOf
  simp only [hp]
  rw [if_pos ⟨by rw [hv, hs]; rfl, by omega, by rw [hv]; simp [h1]⟩, hv, hs]
  split
  ·rename_i hz
   have : cs.length = 1 := by omega
   rw [hz.1]
   match cs, this with
   | [_], _ => rfl
  ·rw [← e]
theorem grown_of_stored {b : Nat} {w w' : World} (h : Stored b w w') : w.grownBy w' (some b) := ⟨h.os, h.tape, h.output, by rw [h.size]; exact Nat.le_refl _, fun k _ hne => h.block k (fun e => hne (by rw [e]))⟩
theorem own_later {w w' : World} {base : Nat} {e : TypeId} {sz : Nat} {v : Value} {n : Nat} {xs : List Value} (h : w.ownsRow base e sz v n xs) (l : Later w w') : w'.ownsRow base e sz v n xs := by
 refine h.kept (grown_of_later l none) ?_
 cases c : v.ownBlock with
 | none => exact .inl rfl
 | some k => exact .inr (by simp)
theorem own_of_row {w : World} {base c : Nat} {e : TypeId} {xs : List Value} (h : RowIs w c e xs) (hb : base ≤ c) {n sz : Nat} (hn : xs.length = n * sz) (hm : n ≤ 9223372036854775807) : w.ownsRow base e sz (.slice (some ⟨c, 0, none⟩) n n) n xs :=
 ⟨hn, .inr ⟨c, n, xs.toArray, rfl, hb, h, Nat.le_refl _, by simp only [maxLen]; omega, by simpa using hn, by rw [List.take_of_length_le (by simp; omega)]⟩⟩
/-- A slice of the call's own, laid in the call that began at base. -/
def bytesV (l : List UInt8) : List Value := l.map fun b => .int .u8 b.toNat
theorem bytesV_len (l : List UInt8) : (bytesV l).length = l.length := by simp [bytesV]
def partsL (st : St) : List (Nat × Operand) → Option (List (Nat × Value))
 | [] => some []
 | (n, x) :: r =>
  match st.ev x, partsL st r with
  | Sum.inl v, some l => some ((n, v) :: l)
  | Sum.inr (_, b, off), some l => some ((n, .pointer (some ⟨b, off, none⟩)) :: l)
  | _, none => none
theorem partsL_eq {st : St} : ∀ {xs : List (Nat × Operand)} {l : List (Nat × Value)}, partsL st xs = some l → (xs.map fun x => (x.1, st.rho x.2)) = l
 | [], _, h => by simp only [partsL, Option.some.injEq] at h; subst h; rfl
 | (n, x) :: r, l', h => by
  unfold partsL at h
  split at h
  ·rename_i v l hx hl
   rw [Option.some.injEq] at h
   rw [List.map_cons, partsL_eq hl, ← h]; simp only [St.rho, hx]; rfl
  ·rename_i g b off l hx hl
   rw [Option.some.injEq] at h
   rw [List.map_cons, partsL_eq hl, ← h]; simp only [St.rho, hx]; rfl
  ·cases h
def overL : List Value → List Value → List Value
 | cs, [] => cs
 | _ :: cs, v :: vs => v :: overL cs vs
 | [], _ => []
def putL : Nat → List Value → List Value → List Value
 | 0, cs, vs => overL cs vs
 | n + 1, c :: cs, vs => c :: putL n cs vs
 | _ + 1, [], _ => []
def fillL (off : Nat → Option Nat) : List Value → List (Nat × Value) → Option (List Value)
 | cs, [] => forceL cs
 | cs, (i, v) :: r =>
  match off i with
  | some o => fillL off (putL o cs v.cells.toList) r
  | none => none
/-- A struct's cells, laid out; that they are right is asked apart. -/
def builtL (P : Program) (t : TypeId) (ps : List (Nat × Value)) : Option (List Value) :=
 match P.underlying t, zeroOf P t with
 | some (.struct fields), some z => fillL (fun i => (fields[i]?).map (·.offset)) z.cells.toList ps
 | some (.array _ e), some z => fillL (fun i => (P.info? e).map (i * ·.size)) z.cells.toList ps
 | _, _ => none
section
variable {P : Program} {B : Nat} {lax : Bool} {ops : Array Oper} {Rs : Nat → Value → World → Prop} {K : St → World → Prop} {i : Nat} {rest : List Nat} {st : St} {w : World}
variable {d : Nat} {ty : TypeId} {pos : String} {aft : Array Edge} {g : Option (Nat × Bool)}
/-- A struct, laid out of its parts. -/
theorem s_build {t : TypeId} {parts : Array (Nat × Operand)} {ps : List (Nat × Value)} {cs : List Value} (ho : ops[i]? = some ⟨some d, .build t parts, ty, pos, aft, g⟩) (hg : gok ops st g = true) (hk : known st ⟨some d, .build t parts, ty, pos, aft, g⟩ = true) (hp : partsL st parts.toList = some ps) (_hb : builtL P t ps = some cs) (hc : P.built t ps = some cs.toArray)
  (h : vOrd P B lax ops Rs K rest (st.put (some d) (.v (.agg cs.toArray))) w) : vOrd P B lax ops Rs K (i :: rest) st w := by
 refine s_val ho hg rfl hk (fun w => ?_) h
 have e1 := partsL_eq hp
 have hr := run_build (P := P) w t (parts.map fun (x : Nat × Operand) => (x.1, st.rho x.2)) cs.toArray (by
  rw [← hc, ← e1]; simp)
 simp only [execOp]
 simp [hr]
/-- A load from a cell that is known. -/
theorem x_ldc {t : TypeId} {x : Operand} {b off : Nat} {v : Value} (ho : ops[i]? = some ⟨some d, .load t x, ty, pos, aft, g⟩) (hg : gok ops st g = true) (hk : known st ⟨some d, .load t x, ty, pos, aft, g⟩ = true) (hx : st.ev x = .v (.pointer (some ⟨b, off, none⟩))) (ht : isAggT P t = some false) (hc : w.cell? ⟨b, off, none⟩ = some v)
  (h : vOrd P B lax ops Rs K rest (st.put (some d) (.v v)) w) : vOrd P B lax ops Rs K (i :: rest) st w := by
 refine vOrd_op ho hg ⟨hk, rfl, by
  simp only [hx]
  refine ⟨v, fun w' l => ?_, h⟩
  have ex : st.rho x = .pointer (some ⟨b, off, none⟩) := by rw [St.rho, hx]; rfl
  have hc' : w'.cell? ⟨b, off, none⟩ = some v := (World.cell?_of_block (l.block b (World.block_lt_of_cell? w _ hc))).trans hc
  have hagg : (isAgg t).run P w' = .ok false w' := by
   unfold isAggT at ht
   cases hu : P.underlying t with
   | none => rw [hu] at ht; cases ht
   | some de =>
    rw [hu, Option.map_some, Option.some.injEq] at ht
    unfold isAgg
    rw [Sem.run_bind, run_underlying hu w']
    cases de <;> simp [aggD] at ht ⊢
  simp [execOp, ex, Instr.loadAt, Instr.sureAddr, loadVar, Sem.run_bind, hagg, hc']⟩
theorem run_len_slice {x : Operand} {t e : TypeId} {a : Option Addr} {l c : Nat} (hx : st.ev x = .v (.slice a l c)) (hu : P.underlying t = some (.slice e)) (w : World) : (execOp st.rho ⟨some d, .call ⟨.builtin .len, #[x], #[t]⟩, ty, pos, aft, g⟩).run P w = .ok (.value (.int .i64 l)) w := by
 have ex : st.rho x = .slice a l c := by rw [St.rho, hx]; rfl
 simp [execOp, ex, resolve, invoke, builtin, Builtin.len_, run_underlying hu w, goInt]
/-- len of a slice. -/
theorem x_len {x : Operand} {t e : TypeId} {a : Option Addr} {l c : Nat} (ho : ops[i]? = some ⟨some d, .call ⟨.builtin .len, #[x], #[t]⟩, ty, pos, aft, g⟩) (hg : gok ops st g = true) (hk : known st ⟨some d, .call ⟨.builtin .len, #[x], #[t]⟩, ty, pos, aft, g⟩ = true) (hx : st.ev x = .v (.slice a l c)) (hu : P.underlying t = some (.slice e))
  (h : vOrd P B true ops Rs K rest (st.put (some d) (.v (.int .i64 l))) w) : vOrd P B true ops Rs K (i :: rest) st w :=
 s_run ho hg hk rfl (run_len_slice hx hu w) h
/-- append to a slice of the call's own of what is laid in a row (in a region whose order is the text's). -/
theorem x_append {t e : TypeId} {ii : TypeInfo} {z : Value} {s x : Operand} {v : Value} {base n m c sz bs : Nat} {xs news : List Value} (ho : ops[i]? = some ⟨some d, .call ⟨.builtin .append, #[s, x], #[t, t]⟩, ty, pos, aft, g⟩) (hg : gok ops st g = true) (hk : known st ⟨some d, .call ⟨.builtin .append, #[s, x], #[t, t]⟩, ty, pos, aft, g⟩ = true)
  (hs : st.ev s = .v v) (hx : st.ev x = .v (.slice (some ⟨c, 0, none⟩) m m)) (ht : P.underlying t = some (.slice e)) (hi : P.info? e = some ii) (hz : ii.zero = some z) (hsz : ii.size = sz) (hbs : ii.bytes = bs) (hzs : z.cells.size = sz) (hp : 0 < sz)
  (hown : w.ownsRow base e sz v n xs) (hrow : RowIs w c e news) (hl : news.length = m * sz) (h1 : news.all (·.oneCell') = true) (h63 : n + m ≤ 9223372036854775807) (hby : (n + m) * bs ≤ 140737488355328) (hbase : base ≤ w.heap.size) (hB : B ≤ base)
  (ha : ∀ h b cs, st.mem h = some (b, cs) → v.ownBlock ≠ some b)
  (h : ∀ v' w', w'.ownsRow base e sz v' (n + m) (xs ++ news) → w.grownBy w' v.ownBlock → vOrd P B true ops Rs K rest (st.put (some d) (.v v')) w') : vOrd P B true ops Rs K (i :: rest) st w := by
 have es : st.rho s = v := by rw [St.rho, hs]; rfl
 have ex : st.rho x = .slice (some ⟨c, 0, none⟩) m m := by rw [St.rho, hx]; rfl
 obtain ⟨v', w', hr, ho', hgr, _⟩ := run_append_own (P := P) w base t ty e ii z sz bs ht hi hz hsz hbs hzs hp v n xs hown ⟨c, 0, none⟩ m m news hl (fun j u hj => by
  rw [addr_add, Nat.zero_add, cell_of_row w c j _ e (0, 0) hrow]; simpa using hj) (fun u hu => List.all_eq_true.1 h1 u hu) (by simp only [maxLen]; omega) hby hbase
 refine ⟨_, ho, .inr ⟨rfl, hg, hk, rfl, .inr (.inr (.inl (fun _ => ⟨v', w', v.ownBlock, ?_, hgr, fun k e => Nat.le_trans hB (hown.lt k e).1, ha, h v' w' ho' hgr⟩)))⟩⟩
 simp [execOp, es, ex, resolve, invoke, builtin, hr]
end
theorem Wp.old {P : Program} {n : Nat} {w0 w : World} {st : St} {K : Exit → St → World → Prop} {c : Code} (h : Later w0 w → Wp P n (holO none) w0 c st w K) : Wp P n (holO none) w0 c st w K := fun a H => h H.old.later a H
theorem Wp.oldH {P : Program} {n : Nat} {hol : Option Nat} {w0 w : World} {st : St} {K : Exit → St → World → Prop} {c : Code} (h : w0.grownBy w hol → Wp P n (holO hol) w0 c st w K) : Wp P n (holO hol) w0 c st w K := fun a H => h H.old.by a H
/-- A number that an int holds. -/
def I64 (n : Int) : Prop := -9223372036854775808 ≤ n ∧ n ≤ 9223372036854775807
/-! ### Short forms -/
section
variable {P : Program} {B : Nat} {lax : Bool} {ops : Array Oper} {Rs : Nat → Value → World → Prop} {K : St → World → Prop} {i : Nat} {rest : List Nat} {st : St} {w : World}
variable {d : Nat} {ty : TypeId} {pos : String} {aft : Array Edge} {g : Option (Nat × Bool)}
theorem sB {t : TypeId} {parts : Array (Nat × Operand)} {ps : List (Nat × Value)} {cs : List Value} (h : vOrd P B lax ops Rs K rest (st.put (some d) (.v (.agg cs.toArray))) w) (ho : ops[i]? = some ⟨some d, .build t parts, ty, pos, aft, g⟩ := by exact rfl) (hg : gok ops st g = true := by exact rfl) (hk : known st ⟨some d, .build t parts, ty, pos, aft, g⟩ = true := by exact rfl) (hp : partsL st parts.toList = some ps := by exact rfl) (_hb : builtL P t ps = some cs := by exact rfl) (hc : P.built t ps = some cs.toArray := by kernel_rfl) : vOrd P B lax ops Rs K (i :: rest) st w := s_build ho hg hk hp _hb hc h
theorem xC {t : TypeId} {x : Operand} {b off : Nat} {v : Value} (hc : w.cell? ⟨b, off, none⟩ = some v) (h : vOrd P B lax ops Rs K rest (st.put (some d) (.v v)) w) (ho : ops[i]? = some ⟨some d, .load t x, ty, pos, aft, g⟩ := by exact rfl) (hg : gok ops st g = true := by exact rfl) (hk : known st ⟨some d, .load t x, ty, pos, aft, g⟩ = true := by exact rfl) (hx : st.ev x = .v (.pointer (some ⟨b, off, none⟩)) := by exact rfl) (ht : isAggT P t = some false := by exact rfl) : vOrd P B lax ops Rs K (i :: rest) st w := x_ldc ho hg hk hx ht hc h
end
end Go.Proofs.YthihioakjpmnbaaGreat

namespace Go.Proofs.YthihioakjpmnbaaGreat
open Go.RowKit
set_option maxRecDepth 100000

theorem c_rsub {n m : Nat} {x y : Int} {u v : Value} {w : World} (hu : IsBig n x u w) (hv : IsBig m y v w) (hn : n ≤ 10000000) (hm : m ≤ 10000000) :
  Calls Tryz.prog 28 #[u, v] w fun e w' => ∃ r, e = .returned r ∧ IsBig (max n m + 1) (x - y) r w' ∧ Below w.heap.size w w' := by
 obtain ⟨_, _, _, rfl, hu⟩ := hu
 obtain ⟨_, _, _, rfl, hv⟩ := hv
 refine (bsub_any hu hv (by omega) (by omega)).mono ?_
 rintro e w' ⟨b, k, d, rfl, h1, h2⟩
 exact ⟨_, rfl, ⟨_, _, _, rfl, h1⟩, h2⟩
theorem c_wsub {a b : Int} {u v : Value} (hu : IsW a u) (hv : IsW b v) (w : World) : Calls Tryz.prog 135 #[u, v] w fun e w' => ∃ r, e = .returned r ∧ (∃ s, r = .tuple #[s, .int .i64 (fitE (a - b))] ∧ IsW (fitV (a - b)) s) ∧ Below w.heap.size w w' := by
 obtain ⟨_, _, rfl, hu⟩ := hu
 obtain ⟨_, _, rfl, hv⟩ := hv
 refine (wsub_any hu hv w).mono ?_
 rintro e w' ⟨h, l, i, rfl, hb⟩
 exact ⟨_, rfl, ⟨_, rfl, ⟨_, _, rfl, i⟩⟩, hb⟩
theorem cmpI_low {x y : Int} : cmpI x y < 0 ↔ x < y := by unfold cmpI; split <;> (try split) <;> omega
theorem cmpI_le {x y : Int} : cmpI x y ≤ 0 ↔ x ≤ y := by unfold cmpI; split <;> (try split) <;> omega
theorem cmpI_in (x y : Int) : -1 ≤ cmpI x y ∧ cmpI x y ≤ 1 := by unfold cmpI; split <;> (try split) <;> omega
def intV (z : Int) : Int := if inI z = true then z else 0
def intE (z : Int) : Int := if inI z = true then 0 else 2
theorem inI_iff {z : Int} : inI z = true ↔ -9223372036854775808 ≤ z ∧ z < 9223372036854775808 := by unfold inI; exact decide_eq_true_iff
theorem inI_no {z : Int} : inI z = false ↔ ¬ (-9223372036854775808 ≤ z ∧ z < 9223372036854775808) := by unfold inI; exact decide_eq_false_iff_not
theorem int_yes {z : Int} (h : inI z = true) : intV z = z ∧ intE z = 0 := by unfold intV intE; rw [h]; exact ⟨rfl, rfl⟩
theorem int_bad {z : Int} (h : inI z = false) : intV z = 0 ∧ intE z = 2 := by unfold intV intE; rw [h]; exact ⟨rfl, rfl⟩
theorem wrap_low {h l z : Int} (k : WideIs h l z) (g : inI z = true) : IntKind.i64.wrap l = z := by
 rw [inI_iff] at g
 obtain ⟨_, _, _, _, _⟩ := k
 rw [IntKind.wrap_i64]; omega
theorem wrap_not {h l z : Int} (k : WideIs h l z) (g : inI z = false) : ∃ t, IntKind.i64.wrap l = t ∧ t ≠ z ∧ I64 t := by
 rw [inI_no] at g
 obtain ⟨_, _, _, _, _⟩ := k
 refine ⟨_, rfl, ?_⟩
 rw [IntKind.wrap_i64]; unfold I64; omega
theorem eqL_not {a b c d z z' : Int} (h : WideIs a b z) (k : WideIs c d z') (n : z ≠ z') : eqL a b c d = false := by
 unfold eqL; simpa using h.other k n
theorem eqI_not {x y : Int} (h : x ≠ y) : eqI x y = false := by unfold eqI; simpa using h
theorem wint_any {h l z : Int} (k : WideIs h l z) (w : World) : Calls Tryz.prog 125 #[.agg #[.int .i64 h, .int .u64 l]] w fun e w' => ∃ r, e = .returned r ∧ r = .tuple #[.int .i64 (intV z), .int .i64 (intE z)] ∧ Below w.heap.size w w' := by
 cases hI : inI z with
 | true =>
  have hw := wrap_low k hI
  obtain ⟨e1, e2⟩ := int_yes hI
  rw [e1, e2]
  rw [inI_iff] at hI
  refine calls_Wp (args := [_]) (n := 13) Tryz.func125 rfl rfl (by simp) ?_
  refine Wp.seq ?_
  refine wR [0, 1, 2] ?_
  refine sE (fun bk1 w1 kb1 lw1 => ?_)
  refine sZ 2 ?_
  refine qQ 2 ?_
  refine a_wconv rfl rfl rfl rfl rfl rfl ?_
  rw [hw]
  refine sZ 1 ?_
  refine Wp.seq ?_
  refine Wp.seq ?_
  refine wD [0, 2, 1, 3] [4, 3, 0, 0] (fun | 1 => fun v _ => IsW z v | _ => fun _ _ => True) (fun _ _ => ?_)
  refine sQ 2 ?_
  refine s_callD rfl rfl rfl (by kernel_rfl) rfl (fun wc lc => c_wof z (by omega) (by omega) wc) ?_
  rintro v w4 u4 ⟨uh, ul, rfl, hu⟩ lw4 mw4
  refine s_eqv (c := false) rfl rfl rfl rfl rfl (fun _ => by kernel_rfl) (fun w => by simp only [run_neq_wide, eqW_same hu k, Bool.not_true]) ?_
  refine vOrd_nil ?_
  refine Wp.condF rfl rfl ?_
  refine Wp.skip ?_
  refine qZ ?_
  refine Wp.ret ⟨.inr rfl, fun lW => ⟨_, ⟨_, _, res_tmp (P := Tryz.prog) rfl rfl, res_tmp (P := Tryz.prog) rfl rfl, rfl⟩, _, rfl, ?_, lW⟩⟩
  clear lW
  rfl
 | false =>
  obtain ⟨t, hw, hn, h0, h1⟩ := wrap_not k hI
  obtain ⟨e1, e2⟩ := int_bad hI
  rw [e1, e2]
  refine calls_Wp (args := [_]) (n := 13) Tryz.func125 rfl rfl (by simp) ?_
  refine Wp.seq ?_
  refine wR [0, 1, 2] ?_
  refine sE (fun bk1 w1 kb1 lw1 => ?_)
  refine sZ 2 ?_
  refine qQ 2 ?_
  refine a_wconv rfl rfl rfl rfl rfl rfl ?_
  rw [hw]
  refine sZ 1 ?_
  refine Wp.seq ?_
  refine Wp.seq ?_
  refine wD [0, 2, 1, 3] [4, 3, 0, 0] (fun | 1 => fun v _ => IsW t v | _ => fun _ _ => True) (fun _ _ => ?_)
  refine sQ 2 ?_
  refine s_callD rfl rfl rfl (by kernel_rfl) rfl (fun wc lc => c_wof t (by omega) (by omega) wc) ?_
  rintro v w4 u4 ⟨uh, ul, rfl, hu⟩ lw4 mw4
  refine s_eqv (c := true) rfl rfl rfl rfl rfl (fun _ => by kernel_rfl) (fun w => by simp only [run_neq_wide, eqL_not hu k hn, Bool.not_false]) ?_
  refine vOrd_nil ?_
  refine Wp.condT rfl rfl ?_
  refine qZ ?_
  refine Wp.ret ⟨.inr rfl, fun lW => ⟨_, ⟨_, _, res_tmp (P := Tryz.prog) rfl rfl, res_tmp (P := Tryz.prog) rfl rfl, rfl⟩, _, rfl, ?_, lW⟩⟩
  clear lW
  rfl
theorem c_wint {z : Int} {u : Value} (hu : IsW z u) (w : World) : Calls Tryz.prog 125 #[u] w fun e w' => ∃ r, e = .returned r ∧ r = .tuple #[.int .i64 (intV z), .int .i64 (intE z)] ∧ Below w.heap.size w w' := by
 obtain ⟨_, _, rfl, hu⟩ := hu
 exact wint_any hu w
end Go.Proofs.YthihioakjpmnbaaGreat

namespace Go.Proofs.YthihioakjpmnbaaGreat
open Go.RowKit

def inB (n : Int) : Bool := decide (-1099511627776 ≤ n ∧ n ≤ 1099511627776)
theorem inB_iff {n : Int} : inB n = true ↔ -1099511627776 ≤ n ∧ n ≤ 1099511627776 := by unfold inB; exact decide_eq_true_iff
theorem inB_no {n : Int} : inB n = false ↔ ¬ (-1099511627776 ≤ n ∧ n ≤ 1099511627776) := by unfold inB; exact decide_eq_false_iff_not
def isU (s a : Int) : Bool := decide (0 ≤ s ∧ s ≤ 86400 ∧ 0 ≤ a ∧ a < 1000000000000000000)
theorem isU_iff {s a : Int} : isU s a = true ↔ 0 ≤ s ∧ s ≤ 86400 ∧ 0 ≤ a ∧ a < 1000000000000000000 := by unfold isU; exact decide_eq_true_iff
theorem isU_no {s a : Int} : isU s a = false ↔ ¬ (0 ≤ s ∧ s ≤ 86400 ∧ 0 ≤ a ∧ a < 1000000000000000000) := by unfold isU; exact decide_eq_false_iff_not
def eqD (a b c x y z : Int) : Bool := decide (a = x ∧ b = y ∧ c = z)
theorem eqD_same (a b c : Int) : eqD a b c a b c = true := by simp [eqD]
theorem run_eql_bool (a b : Bool) (w : World) : (binOp .eql 4 (.bool a) (.bool b)).run Tryz.prog w = .ok (.bool (a == b)) w := by
 cases a <;> cases b <;> simp [go_sem]
end Go.Proofs.YthihioakjpmnbaaGreat
