/-
  The small logic: rows of single cells (a store into one, a load from one), slices of the call's own, append, bytes as a string. No conditions.
-/
import Derived.Test.YtlpenfganhaclaaVcW
import Derived.Laws.Tables
namespace Go.Proofs.Ytlpenfganhaclaa
open Go.RowKit

theorem read_one {P : Program} {t : TypeId} {cs : List Value} {off : Nat} (ha : isAggT P t = some false) : readOf P t cs off = cs[off]? := by
  unfold readOf; rw [ha]
theorem write_one {P : Program} {t : TypeId} {cs : List Value} {off : Nat} {v : Value} (hs : (P.info? t).map (·.size) = some 1) (hv : v.cells = #[v]) (h1 : v.oneCell' = true) (ho : off < cs.length) : writeOf P t cs off v = some (cs.set off v) := by
  have e : cs.take off ++ [v] ++ cs.drop (off + 1) = cs.set off v := by
    rw [List.set_eq_take_append_cons_drop, if_pos ho, List.append_assoc]; rfl
  cases hp : P.info? t with
  | none => rw [hp] at hs; cases hs
  | some ii =>
    rw [hp] at hs
    simp only [Option.map_some, Option.some.injEq] at hs
    unfold writeOf
    simp only [hp]
    rw [if_pos ⟨by rw [hv, hs]; rfl, by omega, by rw [hv]; simp [h1]⟩, hv, hs]
    split
    · rename_i hz
      have : cs.length = 1 := by omega
      rw [hz.1]
      match cs, this with
      | [_], _ => rfl
    · rw [← e]
theorem grown_of_stored {b : Nat} {w w' : World} (h : Stored b w w') : w.grownBy w' (some b) := ⟨h.os, h.tape, h.output, by rw [h.size]; exact Nat.le_refl _, fun k _ hne => h.block k (fun e => hne (by rw [e]))⟩
theorem own_later {w w' : World} {base : Nat} {e : TypeId} {sz : Nat} {v : Value} {n : Nat} {xs : List Value} (h : w.ownsRow base e sz v n xs) (l : Later w w') : w'.ownsRow base e sz v n xs := by
  refine h.kept (grown_of_later l none) ?_
  cases c : v.ownBlock with
  | none => exact .inl rfl
  | some k => exact .inr (by simp)
theorem own_of_row {w : World} {base c : Nat} {e : TypeId} {xs : List Value} (h : RowIs w c e xs) (hb : base ≤ c) {n sz : Nat} (hn : xs.length = n * sz) (hm : n ≤ 9223372036854775807) : w.ownsRow base e sz (.slice (some ⟨c, 0, none⟩) n n) n xs :=
  ⟨hn, .inr ⟨c, n, xs.toArray, rfl, hb, h, Nat.le_refl _, by simp only [maxLen]; omega, by simpa using hn, by rw [List.take_of_length_le (by simp; omega)]⟩⟩
/-- A slice of the call's own, laid in the call that began at base. -/
def bytesV (l : List UInt8) : List Value := l.map fun b => .int .u8 b.toNat
theorem bytesV_len (l : List UInt8) : (bytesV l).length = l.length := by simp [bytesV]
theorem bytesV_app (a b : List UInt8) : bytesV (a ++ b) = bytesV a ++ bytesV b := by simp [bytesV]
theorem fold_bytes (l : List UInt8) : ∀ (s : ByteArray), (l.map fun b => ((b.toNat : Nat) : Int)).foldl (fun r n => r.push (UInt8.ofNat n.toNat)) s = ⟨⟨s.data.toList ++ l⟩⟩ := by
  induction l with
  | nil => intro s; simp
  | cons b l ih =>
    intro s
    rw [List.map_cons, List.foldl_cons, ih]
    apply ByteArray.ext
    simp [ByteArray.push]
theorem run_str_own {P : Program} {w : World} {base : Nat} {e : TypeId} {v : Value} {n : Nat} {l : List UInt8} (h : w.ownsRow base e 1 v n (bytesV l)) : (Conv.bytesToString v).run P w = .ok (.string ⟨⟨l⟩⟩) w := by
  obtain ⟨hn, h | ⟨c, cap, cur, rfl, hb, hg, h1, h2, h3, h4⟩⟩ := h
  · obtain ⟨rfl, rfl⟩ := h
    rw [bytesV_len] at hn
    have : l = [] := List.eq_nil_of_length_eq_zero (by omega)
    subst this
    simp [Conv.bytesToString]; rfl
  · rw [bytesV_len] at hn
    have hn : l.length = n := by omega
    have hl := run_loadCells_list (P := P) w ⟨c, 0, none⟩ (bytesV l) (fun j u hj => by
      rw [addr_add, Nat.zero_add, cell_of_row w c j cur e (0, 0) hg]
      have hjn : j < n * 1 := by have := (List.getElem?_eq_some_iff.1 hj).1; rw [bytesV_len] at this; omega
      rw [← h4, List.getElem?_take_of_lt hjn] at hj
      simpa using hj)
    rw [bytesV_len, hn] at hl
    have e1 : bytesV l = (l.map fun b => ((b.toNat : Nat) : Int)).map (Value.int .u8) := by simp [bytesV]
    rw [e1] at hl
    rw [run_bytesToString w _ n cap _ hl, fold_bytes]
    rfl
def partsL (st : St) : List (Nat × Operand) → Option (List (Nat × Value))
  | [] => some []
  | (n, x) :: r =>
    match st.ev x, partsL st r with
    | Sum.inl v, some l => some ((n, v) :: l)
    | Sum.inr (_, b, off), some l => some ((n, .pointer (some ⟨b, off, none⟩)) :: l)
    | _, none => none
theorem partsL_eq {st : St} : ∀ {xs : List (Nat × Operand)} {l : List (Nat × Value)}, partsL st xs = some l → (xs.map fun x => (x.1, st.rho x.2)) = l
  | [], _, h => by simp only [partsL, Option.some.injEq] at h; subst h; rfl
  | (n, x) :: r, l', h => by
    unfold partsL at h
    split at h
    · rename_i v l hx hl
      rw [Option.some.injEq] at h
      rw [List.map_cons, partsL_eq hl, ← h]; simp only [St.rho, hx]; rfl
    · rename_i g b off l hx hl
      rw [Option.some.injEq] at h
      rw [List.map_cons, partsL_eq hl, ← h]; simp only [St.rho, hx]; rfl
    · cases h
def overL : List Value → List Value → List Value
  | cs, [] => cs
  | _ :: cs, v :: vs => v :: overL cs vs
  | [], _ => []
def putL : Nat → List Value → List Value → List Value
  | 0, cs, vs => overL cs vs
  | n + 1, c :: cs, vs => c :: putL n cs vs
  | _ + 1, [], _ => []
def fillL (off : Nat → Option Nat) : List Value → List (Nat × Value) → Option (List Value)
  | cs, [] => forceL cs
  | cs, (i, v) :: r =>
    match off i with
    | some o => fillL off (putL o cs v.cells.toList) r
    | none => none
/-- A struct's cells, laid out; that they are right is asked apart. -/
def builtL (P : Program) (t : TypeId) (ps : List (Nat × Value)) : Option (List Value) :=
  match P.underlying t, zeroOf P t with
  | some (.struct fields), some z => fillL (fun i => (fields[i]?).map (·.offset)) z.cells.toList ps
  | some (.array _ e), some z => fillL (fun i => (P.info? e).map (i * ·.size)) z.cells.toList ps
  | _, _ => none
section
variable {P : Program} {B : Nat} {lax : Bool} {ops : Array Oper} {Rs : Nat → Value → World → Prop} {K : St → World → Prop} {i : Nat} {rest : List Nat} {st : St} {w : World}
variable {d : Nat} {ty : TypeId} {pos : String} {aft : Array Edge} {g : Option (Nat × Bool)}
/-- A struct, laid out of its parts. -/
theorem s_build {t : TypeId} {parts : Array (Nat × Operand)} {ps : List (Nat × Value)} {cs : List Value} (ho : ops[i]? = some ⟨some d, .build t parts, ty, pos, aft, g⟩) (hg : gok ops st g = true) (hk : known st ⟨some d, .build t parts, ty, pos, aft, g⟩ = true) (hp : partsL st parts.toList = some ps) (_hb : builtL P t ps = some cs) (hc : P.built t ps = some cs.toArray)
    (h : vOrd P B lax ops Rs K rest (st.put (some d) (.v (.agg cs.toArray))) w) : vOrd P B lax ops Rs K (i :: rest) st w := by
  refine s_val ho hg rfl hk (fun w => ?_) h
  have e1 := partsL_eq hp
  have hr := run_build (P := P) w t (parts.map fun (x : Nat × Operand) => (x.1, st.rho x.2)) cs.toArray (by
    rw [← hc, ← e1]; simp)
  simp only [execOp]
  simp [hr]
/-- A load from a cell that is known. -/
theorem x_ldc {t : TypeId} {x : Operand} {b off : Nat} {v : Value} (ho : ops[i]? = some ⟨some d, .load t x, ty, pos, aft, g⟩) (hg : gok ops st g = true) (hk : known st ⟨some d, .load t x, ty, pos, aft, g⟩ = true) (hx : st.ev x = .v (.pointer (some ⟨b, off, none⟩))) (ht : isAggT P t = some false) (hc : w.cell? ⟨b, off, none⟩ = some v)
    (h : vOrd P B lax ops Rs K rest (st.put (some d) (.v v)) w) : vOrd P B lax ops Rs K (i :: rest) st w := by
  refine vOrd_op ho hg ⟨hk, rfl, by
    simp only [hx]
    refine ⟨v, fun w' l => ?_, h⟩
    have ex : st.rho x = .pointer (some ⟨b, off, none⟩) := by rw [St.rho, hx]; rfl
    have hc' : w'.cell? ⟨b, off, none⟩ = some v := (World.cell?_of_block (l.block b (World.block_lt_of_cell? w _ hc))).trans hc
    have hagg : (isAgg t).run P w' = .ok false w' := by
      unfold isAggT at ht
      cases hu : P.underlying t with
      | none => rw [hu] at ht; cases ht
      | some de =>
        rw [hu, Option.map_some, Option.some.injEq] at ht
        unfold isAgg
        rw [Sem.run_bind, run_underlying hu w']
        cases de <;> simp [aggD] at ht ⊢
    simp [execOp, ex, Instr.loadAt, Instr.sureAddr, loadVar, Sem.run_bind, hagg, hc']⟩
theorem run_len_slice {x : Operand} {t e : TypeId} {a : Option Addr} {l c : Nat} (hx : st.ev x = .v (.slice a l c)) (hu : P.underlying t = some (.slice e)) (w : World) : (execOp st.rho ⟨some d, .call ⟨.builtin .len, #[x], #[t]⟩, ty, pos, aft, g⟩).run P w = .ok (.value (.int .i64 l)) w := by
  have ex : st.rho x = .slice a l c := by rw [St.rho, hx]; rfl
  simp [execOp, ex, resolve, invoke, builtin, Builtin.len_, run_underlying hu w, goInt]
/-- len of a slice. -/
theorem x_len {x : Operand} {t e : TypeId} {a : Option Addr} {l c : Nat} (ho : ops[i]? = some ⟨some d, .call ⟨.builtin .len, #[x], #[t]⟩, ty, pos, aft, g⟩) (hg : gok ops st g = true) (hk : known st ⟨some d, .call ⟨.builtin .len, #[x], #[t]⟩, ty, pos, aft, g⟩ = true) (hx : st.ev x = .v (.slice a l c)) (hu : P.underlying t = some (.slice e))
    (h : vOrd P B true ops Rs K rest (st.put (some d) (.v (.int .i64 l))) w) : vOrd P B true ops Rs K (i :: rest) st w :=
  s_run ho hg hk rfl (run_len_slice hx hu w) h
theorem x_lenD {x : Operand} {t e : TypeId} {a : Option Addr} {l c : Nat} (ho : ops[i]? = some ⟨some d, .call ⟨.builtin .len, #[x], #[t]⟩, ty, pos, aft, g⟩) (hg : gok ops st g = true) (hk : known st ⟨some d, .call ⟨.builtin .len, #[x], #[t]⟩, ty, pos, aft, g⟩ = true) (hx : st.ev x = .v (.slice a l c)) (hu : P.underlying t = some (.slice e)) (hR : ∀ w', Rs i (.int .i64 l) w') (hR' : ∀ u w', Rs i u w' → u = .int .i64 l)
    (h : ∀ w', Later w w' → vOrd P B lax ops Rs K rest (st.put (some d) (.v (.int .i64 l))) w') : vOrd P B lax ops Rs K (i :: rest) st w :=
  s_runD ho hg hk (fun w' _ => run_len_slice hx hu w') hR hR' h
/-- Bytes of the call's own as a string. -/
theorem x_str {a b e : TypeId} {x : Operand} {v : Value} {base n : Nat} {l : List UInt8} (ho : ops[i]? = some ⟨some d, .convert a b x, ty, pos, aft, g⟩) (hg : gok ops st g = true) (hk : known st ⟨some d, .convert a b x, ty, pos, aft, g⟩ = true) (hx : st.ev x = .v v) (hs : P.underlying a = some (.slice e)) (he : P.underlying e = some (.int .u8)) (ht : P.underlying b = some .string) {el : TypeId} (hown : w.ownsRow base el 1 v n (bytesV l))
    (h : vOrd P B lax ops Rs K rest (st.put (some d) (.v (.string ⟨⟨l⟩⟩))) w) : vOrd P B lax ops Rs K (i :: rest) st w := by
  refine s_read ho hg hk (fun w' lw => ?_) h
  have ex : st.rho x = v := by rw [St.rho, hx]; rfl
  have ho' := own_later hown lw
  have hv : ∃ a l c, v = .slice a l c := by
    obtain ⟨_, h | ⟨c, cap, cur, rfl, _⟩⟩ := hown
    · exact ⟨_, _, _, h.1⟩
    · exact ⟨_, _, _, rfl⟩
  obtain ⟨va, vl, vc, rfl⟩ := hv
  have hr := run_convert_bytes_string (P := P) w' a b e va vl vc hs he ht
  rw [run_str_own ho'] at hr
  simp [execOp, ex, hr]
/-- append to a slice of the call's own of what is laid in a row (in a region whose order is the text's). -/
theorem x_append {t e : TypeId} {ii : TypeInfo} {z : Value} {s x : Operand} {v : Value} {base n m c sz bs : Nat} {xs news : List Value} (ho : ops[i]? = some ⟨some d, .call ⟨.builtin .append, #[s, x], #[t, t]⟩, ty, pos, aft, g⟩) (hg : gok ops st g = true) (hk : known st ⟨some d, .call ⟨.builtin .append, #[s, x], #[t, t]⟩, ty, pos, aft, g⟩ = true)
    (hs : st.ev s = .v v) (hx : st.ev x = .v (.slice (some ⟨c, 0, none⟩) m m)) (ht : P.underlying t = some (.slice e)) (hi : P.info? e = some ii) (hz : ii.zero = some z) (hsz : ii.size = sz) (hbs : ii.bytes = bs) (hzs : z.cells.size = sz) (hp : 0 < sz)
    (hown : w.ownsRow base e sz v n xs) (hrow : RowIs w c e news) (hl : news.length = m * sz) (h1 : news.all (·.oneCell') = true) (h63 : n + m ≤ 9223372036854775807) (hby : (n + m) * bs ≤ 140737488355328) (hbase : base ≤ w.heap.size) (hB : B ≤ base)
    (ha : ∀ h b cs, st.mem h = some (b, cs) → v.ownBlock ≠ some b)
    (h : ∀ v' w', w'.ownsRow base e sz v' (n + m) (xs ++ news) → w.grownBy w' v.ownBlock → vOrd P B true ops Rs K rest (st.put (some d) (.v v')) w') : vOrd P B true ops Rs K (i :: rest) st w := by
  have es : st.rho s = v := by rw [St.rho, hs]; rfl
  have ex : st.rho x = .slice (some ⟨c, 0, none⟩) m m := by rw [St.rho, hx]; rfl
  obtain ⟨v', w', hr, ho', hgr, _⟩ := run_append_own (P := P) w base t ty e ii z sz bs ht hi hz hsz hbs hzs hp v n xs hown ⟨c, 0, none⟩ m m news hl (fun j u hj => by
    rw [addr_add, Nat.zero_add, cell_of_row w c j _ e (0, 0) hrow]; simpa using hj) (fun u hu => List.all_eq_true.1 h1 u hu) (by simp only [maxLen]; omega) hby hbase
  refine ⟨_, ho, .inr ⟨rfl, hg, hk, rfl, .inr (.inr (.inl (fun _ => ⟨v', w', v.ownBlock, ?_, hgr, fun k e => Nat.le_trans hB (hown.lt k e).1, ha, h v' w' ho' hgr⟩)))⟩⟩
  simp [execOp, es, ex, resolve, invoke, builtin, hr]
end
theorem Wp.old {P : Program} {n : Nat} {w0 w : World} {st : St} {K : Exit → St → World → Prop} {c : Code} (h : Later w0 w → Wp P n (holO none) w0 c st w K) : Wp P n (holO none) w0 c st w K := fun a H => h H.old.later a H
theorem Wp.oldH {P : Program} {n : Nat} {hol : Option Nat} {w0 w : World} {st : St} {K : Exit → St → World → Prop} {c : Code} (h : w0.grownBy w hol → Wp P n (holO hol) w0 c st w K) : Wp P n (holO hol) w0 c st w K := fun a H => h H.old.by a H
/-- A number that an int holds. -/
def I64 (n : Int) : Prop := -9223372036854775808 ≤ n ∧ n ≤ 9223372036854775807
/-! ### Short forms -/
section
variable {P : Program} {B : Nat} {lax : Bool} {ops : Array Oper} {Rs : Nat → Value → World → Prop} {K : St → World → Prop} {i : Nat} {rest : List Nat} {st : St} {w : World}
variable {d : Nat} {ty : TypeId} {pos : String} {aft : Array Edge} {g : Option (Nat × Bool)}
theorem sB {t : TypeId} {parts : Array (Nat × Operand)} {ps : List (Nat × Value)} {cs : List Value} (h : vOrd P B lax ops Rs K rest (st.put (some d) (.v (.agg cs.toArray))) w) (ho : ops[i]? = some ⟨some d, .build t parts, ty, pos, aft, g⟩ := by exact rfl) (hg : gok ops st g = true := by exact rfl) (hk : known st ⟨some d, .build t parts, ty, pos, aft, g⟩ = true := by exact rfl) (hp : partsL st parts.toList = some ps := by exact rfl) (_hb : builtL P t ps = some cs := by exact rfl) (hc : P.built t ps = some cs.toArray := by kernel_rfl) : vOrd P B lax ops Rs K (i :: rest) st w := s_build ho hg hk hp _hb hc h
theorem xC {t : TypeId} {x : Operand} {b off : Nat} {v : Value} (hc : w.cell? ⟨b, off, none⟩ = some v) (h : vOrd P B lax ops Rs K rest (st.put (some d) (.v v)) w) (ho : ops[i]? = some ⟨some d, .load t x, ty, pos, aft, g⟩ := by exact rfl) (hg : gok ops st g = true := by exact rfl) (hk : known st ⟨some d, .load t x, ty, pos, aft, g⟩ = true := by exact rfl) (hx : st.ev x = .v (.pointer (some ⟨b, off, none⟩)) := by exact rfl) (ht : isAggT P t = some false := by exact rfl) : vOrd P B lax ops Rs K (i :: rest) st w := x_ldc ho hg hk hx ht hc h
end
end Go.Proofs.Ytlpenfganhaclaa
