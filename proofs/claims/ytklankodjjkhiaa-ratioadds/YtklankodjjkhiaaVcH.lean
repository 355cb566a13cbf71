/-
  The small logic: rows of memory that are no variables (slices): laid, read, written. No conditions.
-/
import Derived.Test.YtklankodjjkhiaaVcG
import Derived.Laws.MakeOwn
namespace Go.Proofs.Ytklankodjjkhiaa
open Go.RowKit

def RowIs (w : World) (c : Nat) (t : TypeId) (cs : List Value) : Prop := w.heap[c]? = some (.cells cs.toArray t (0, 0))
section
variable {w w' : World} {c : Nat} {t : TypeId} {cs : List Value}
theorem RowIs.lt (h : RowIs w c t cs) : c < w.heap.size := (Array.getElem?_eq_some_iff.1 h).1
theorem RowIs.later (h : RowIs w c t cs) (l : Later w w') : RowIs w' c t cs := by rw [RowIs, l.block c h.lt]; exact h
theorem RowIs.stored {b : Nat} (h : RowIs w c t cs) (s : Stored b w w') (hb : c ≠ b) : RowIs w' c t cs := by rw [RowIs, s.block c hb]; exact h
theorem RowIs.var (h : RowIs w c t cs) : Var w c cs := ⟨t, h⟩
end
theorem run_writeOf' {P : Program} {w : World} {t ty : TypeId} {b off : Nat} {cs cs' : List Value} {v : Value} (hg : RowIs w b ty cs) (h : writeOf P t cs off v = some cs') :
    ∃ w', (storeVar t ⟨b, off, none⟩ v).run P w = .ok () w' ∧ Stored b w w' ∧ RowIs w' b ty cs' := by
  obtain ⟨w', h1, h2, t', h3⟩ := run_writeOf (P := P) hg.var h
  refine ⟨w', h1, h2, ?_⟩
  unfold writeOf at h
  cases hi : P.info? t with
  | none => simp [hi] at h
  | some i =>
    simp only [hi] at h
    split at h
    · rename_i hc
      obtain ⟨hs, hle, hone⟩ := hc
      have hst := run_storeCells_at (P := P) b off ty v.cells.toList 0 cs.toArray w hg (by simp; omega) (fun x hx => List.all_eq_true.1 hone x hx)
      simp only [Nat.add_zero, Array.length_toList] at hst
      have hrun : (storeVar t ⟨b, off, none⟩ v).run P w = .ok () (w.setRow b (cs.take off ++ v.cells.toList ++ cs.drop (off + v.cells.size)).toArray) := by
        simp [storeVar, Sem.run_bind, sizeOf, typeInfo, hi, hs, hst]
      rw [hrun] at h1
      cases h1
      have hw := setRow_heap w b cs.toArray (cs.take off ++ v.cells.toList ++ cs.drop (off + v.cells.size)).toArray ty (0, 0) hg
      rw [hw] at h3
      rw [RowIs, hw]
      simp only [Option.some.injEq, Obj.cells.injEq] at h3 ⊢
      exact ⟨h3.1, trivial, trivial⟩
    · cases h
/-- Each variable of the call's own lies behind c. -/
def Avoid (c : Nat) (st : St) : Prop := ∀ h b cs, st.mem h = some (b, cs) → c < b
theorem Avoid.nil (c : Nat) (env : List (Nat × SV)) : Avoid c (St.of env []) := fun _ _ _ e => by cases e
theorem Avoid.put {c : Nat} {st : St} {d : Option Nat} {x : SV} (h : Avoid c st) : Avoid c (st.put d x) := fun g b cs e => h g b cs (by rw [put_mem] at e; exact e)
theorem Avoid.new {c : Nat} {st : St} {d b : Nat} {cs : List Value} (h : Avoid c st) (hb : c < b) : Avoid c (st.new d b cs) := fun g b' cs' e => by
  by_cases q : g = d
  · subst q; simp only [St.new, upd_same, Option.some.injEq, Prod.mk.injEq] at e; omega
  · simp only [St.new, upd_ne _ _ q] at e; exact h g b' cs' e
theorem Avoid.set {c : Nat} {st : St} {d b : Nat} {cs : List Value} (h : Avoid c st) (hb : c < b) : Avoid c (st.set d b cs) := fun g b' cs' e => by
  by_cases q : g = d
  · subst q; simp only [St.set, upd_same, Option.some.injEq, Prod.mk.injEq] at e; omega
  · simp only [St.set, upd_ne _ _ q] at e; exact h g b' cs' e

section
variable {P : Program} {B : Nat} {lax : Bool} {ops : Array Oper} {Rs : Nat → Value → World → Prop} {K : St → World → Prop} {i : Nat} {rest : List Nat} {st : St} {w : World}
variable {d : Nat} {ty : TypeId} {pos : String} {aft : Array Edge} {g : Option (Nat × Bool)}
/-- An operation that yields a value and leaves the world as it is (in a region whose order is the text's). -/
theorem s_run {op : Op} {v : Value} (ho : ops[i]? = some ⟨some d, op, ty, pos, aft, g⟩) (hg : gok ops st g = true) (hk : known st ⟨some d, op, ty, pos, aft, g⟩ = true) (hs : noSel ⟨some d, op, ty, pos, aft, g⟩ = true)
    (hr : (execOp st.rho ⟨some d, op, ty, pos, aft, g⟩).run P w = .ok (.value v) w) (h : vOrd P B true ops Rs K rest (st.put (some d) (.v v)) w) : vOrd P B true ops Rs K (i :: rest) st w := by
  refine ⟨_, ho, .inr ⟨rfl, hg, hk, hs, .inl (fun _ => ⟨fun u w1 => u = v ∧ w1 = w, ?_, ?_⟩)⟩⟩
  · unfold RunsTo; rw [hr]; exact ⟨⟨rfl, rfl⟩, Later.refl w⟩
  · rintro u w1 ⟨rfl, rfl⟩ _; exact h
theorem s_make {t e : TypeId} {ii : TypeInfo} {z : Value} {xl xc : Operand} {k1 k2 : IntKind} {n : Nat} (ho : ops[i]? = some ⟨some d, .makeSlice t xl xc, ty, pos, aft, g⟩) (hg : gok ops st g = true) (hk : known st ⟨some d, .makeSlice t xl xc, ty, pos, aft, g⟩ = true)
    (hl : st.ev xl = .v (.int k1 n)) (hc : st.ev xc = .v (.int k2 n)) (ht : P.underlying t = some (.slice e)) (hi : P.info? e = some ii) (hz : ii.zero = some z) (hb : (ii.bytes : Int) * n ≤ 281474976710656) (hn : n ≤ 9223372036854775807)
    (h : ∀ c w1, w.heap.size ≤ c → Later w w1 → RowIs w1 c e (madeCells z.cells (n * ii.size)).toList → vOrd P B true ops Rs K rest (st.put (some d) (.v (.slice (some ⟨c, 0, none⟩) n n))) w1) : vOrd P B true ops Rs K (i :: rest) st w := by
  have e1 : st.rho xl = .int k1 n := by rw [St.rho, hl]; rfl
  have e2 : st.rho xc = .int k2 n := by rw [St.rho, hc]; rfl
  have hr := run_make (P := P) w t e ii z ht hi hz k1 k2 n n (by omega) (by omega) hb (by omega)
  refine ⟨_, ho, .inr ⟨rfl, hg, hk, rfl, .inl (fun _ => ⟨fun u w1 => u = .slice (some ⟨w.heap.size, 0, none⟩) n n ∧ w1 = w.alloc (.cells (madeCells z.cells (n * ii.size)) e), ?_, ?_⟩)⟩⟩
  · unfold RunsTo
    have : (execOp st.rho ⟨some d, .makeSlice t xl xc, ty, pos, aft, g⟩).run P w = .ok (.value (.slice (some ⟨w.heap.size, 0, none⟩) n n)) (w.alloc (.cells (madeCells z.cells (n * ii.size)) e)) := by
      simp only [Int.toNat_natCast] at hr
      simp [execOp, e1, e2, hr]
    rw [this]
    exact ⟨⟨rfl, rfl⟩, Later.alloc _ _⟩
  · rintro u w1 ⟨rfl, rfl⟩ l
    refine h _ _ (Nat.le_refl _) l ?_
    show (w.heap.push _)[_]? = _
    simp
theorem s_idx {t e : TypeId} {x ix : Operand} {b off len cap sz : Nat} {k : IntKind} {j : Int} (o : Nat) (ho : ops[i]? = some ⟨some d, .indexAddr t x ix, ty, pos, aft, g⟩) (hg : gok ops st g = true) (hk : known st ⟨some d, .indexAddr t x ix, ty, pos, aft, g⟩ = true)
    (hx : st.ev x = .v (.slice (some ⟨b, off, none⟩) len cap)) (hi : st.ev ix = .v (.int k j)) (hu : P.underlying t = some (.slice e)) (hs : (P.info? e).map (·.size) = some sz) (h0 : 0 ≤ j) (h1 : j < len) (he : off + j.toNat * sz = o)
    (h : vOrd P B lax ops Rs K rest (st.put (some d) (.v (.pointer (some ⟨b, o, none⟩)))) w) : vOrd P B lax ops Rs K (i :: rest) st w := by
  subst he
  refine s_val ho hg rfl hk (fun w => ?_) h
  have ex : st.rho x = .slice (some ⟨b, off, none⟩) len cap := by rw [St.rho, hx]; rfl
  have ey : st.rho ix = .int k j := by rw [St.rho, hi]; rfl
  cases hp : P.info? e with
  | none => rw [hp] at hs; cases hs
  | some ii =>
    rw [hp] at hs
    simp only [Option.map_some, Option.some.injEq] at hs
    simp [execOp, ex, ey, Instr.indexAt, asIntOf, run_underlying hu w, h0, h1, sizeOf, typeInfo, hp, hs, addr_add]
theorem run_loadU {t : TypeId} {x : Operand} {b off : Nat} {cs : List Value} {v : Value} (hx : st.ev x = .v (.pointer (some ⟨b, off, none⟩))) (hv : Var w b cs) (hr : readOf P t cs off = some v) :
    (execOp st.rho ⟨some d, .load t x, ty, pos, aft, g⟩).run P w = .ok (.value v) w := by
  have e : st.rho x = .pointer (some ⟨b, off, none⟩) := by rw [St.rho, hx]; rfl
  have hl := run_readOf (P := P) hv hr
  simp [execOp, e, Instr.loadAt, Instr.sureAddr, hl]
theorem s_ldU {t : TypeId} {x : Operand} {b off : Nat} {cs : List Value} {v : Value} (ho : ops[i]? = some ⟨some d, .load t x, ty, pos, aft, g⟩) (hg : gok ops st g = true) (hk : known st ⟨some d, .load t x, ty, pos, aft, g⟩ = true)
    (hx : st.ev x = .v (.pointer (some ⟨b, off, none⟩))) (hv : Var w b cs) (hr : readOf P t cs off = some v)
    (h : vOrd P B lax ops Rs K rest (st.put (some d) (.v v)) w) : vOrd P B lax ops Rs K (i :: rest) st w :=
  vOrd_op ho hg ⟨hk, rfl, by simp only [hx]; exact ⟨v, fun w' l => run_loadU hx (hv.later l) hr, h⟩⟩
theorem s_stU {t tt : TypeId} {x y : Operand} {b off : Nat} {cs cs' : List Value} {v : Value} (ho : ops[i]? = some ⟨none, .store t x y, ty, pos, aft, g⟩) (hg : gok ops st g = true) (hk : known st ⟨none, .store t x y, ty, pos, aft, g⟩ = true)
    (hx : st.ev x = .v (.pointer (some ⟨b, off, none⟩))) (hy : st.ev y = .v v) (hrow : RowIs w b tt cs) (hw : writeOf P t cs off v = some cs') (hB : B ≤ b) (ha : Avoid b st)
    (h : ∀ w', Stored b w w' → RowIs w' b tt cs' → vOrd P B true ops Rs K rest st w') : vOrd P B true ops Rs K (i :: rest) st w := by
  have ex : st.rho x = .pointer (some ⟨b, off, none⟩) := by rw [St.rho, hx]; rfl
  have ey : st.rho y = v := by rw [St.rho, hy]; rfl
  obtain ⟨w', h1, h2, h3⟩ := run_writeOf' (P := P) hrow hw
  refine ⟨_, ho, .inr ⟨rfl, hg, hk, rfl, .inr (fun _ => ⟨w', b, ?_, rfl, h2, hB, fun g' b' cs1 e => Nat.ne_of_gt (ha g' b' cs1 e), h w' h2 h3⟩)⟩⟩
  simp [execOp, ex, ey, Instr.storeAt, Instr.sureAddr, h1]
/-- A slice that is laid with its elements. -/
theorem s_bs {t e : TypeId} {len : Nat} {parts : Array (Nat × Operand)} {cs : List Value} (ho : ops[i]? = some ⟨some d, .buildSlice t len parts, ty, pos, aft, g⟩) (hg : gok ops st g = true) (hk : known st ⟨some d, .buildSlice t len parts, ty, pos, aft, g⟩ = true)
    (hr : ∀ w, (execOp st.rho ⟨some d, .buildSlice t len parts, ty, pos, aft, g⟩).run P w = .ok (.value (.slice (some ⟨w.heap.size, 0, none⟩) len len)) (w.alloc (.cells cs.toArray e)))
    (h : ∀ c w1, w.heap.size ≤ c → Later w w1 → RowIs w1 c e cs → vOrd P B true ops Rs K rest (st.put (some d) (.v (.slice (some ⟨c, 0, none⟩) len len))) w1) : vOrd P B true ops Rs K (i :: rest) st w := by
  refine ⟨_, ho, .inr ⟨rfl, hg, hk, rfl, .inl (fun _ => ⟨fun u w1 => u = .slice (some ⟨w.heap.size, 0, none⟩) len len ∧ w1 = w.alloc (.cells cs.toArray e), ?_, ?_⟩)⟩⟩
  · unfold RunsTo; rw [hr]; exact ⟨⟨rfl, rfl⟩, Later.alloc _ _⟩
  · rintro u w1 ⟨rfl, rfl⟩ l
    refine h _ _ (Nat.le_refl _) l ?_
    show (w.heap.push _)[_]? = _
    simp
theorem s_bsD {t e : TypeId} {len : Nat} {parts : Array (Nat × Operand)} {cs : List Value} (ho : ops[i]? = some ⟨some d, .buildSlice t len parts, ty, pos, aft, g⟩) (hg : gok ops st g = true) (hk : known st ⟨some d, .buildSlice t len parts, ty, pos, aft, g⟩ = true)
    (hr : ∀ w, (execOp st.rho ⟨some d, .buildSlice t len parts, ty, pos, aft, g⟩).run P w = .ok (.value (.slice (some ⟨w.heap.size, 0, none⟩) len len)) (w.alloc (.cells cs.toArray e)))
    (hR : ∀ c w', Later w w' → RowIs w' c e cs → Rs i (.slice (some ⟨c, 0, none⟩) len len) w')
    (h : ∀ v w1 w2, Rs i v w1 → Later w w1 → Later w1 w2 → vOrd P B lax ops Rs K rest (st.put (some d) (.v v)) w2) : vOrd P B lax ops Rs K (i :: rest) st w := by
  refine vOrd_op ho hg ⟨hk, rfl, fun wc l => ?_, fun v wc w1 w2 l1 l2 hq l3 => h v w1 w2 hq (l1.trans l2) l3⟩
  unfold RunsTo
  rw [hr]
  refine ⟨hR _ _ (l.trans (Later.alloc _ _)) ?_, Later.alloc _ _⟩
  show (wc.heap.push _)[_]? = _
  simp
end
/-! ### Rows of equal parts -/
theorem flat_len {k : Nat} : ∀ {G : List (List Value)}, (∀ g ∈ G, g.length = k) → G.flatten.length = G.length * k
  | [], _ => by simp
  | g :: G, h => by
    rw [List.flatten_cons, List.length_append, h g List.mem_cons_self, flat_len (fun x hx => h x (List.mem_cons_of_mem _ hx)), List.length_cons, Nat.add_mul]
    omega
theorem flat_at {k : Nat} : ∀ {G : List (List Value)} {j : Nat} {g : List Value}, (∀ g ∈ G, g.length = k) → G[j]? = some g → (G.flatten.drop (j * k)).take k = g ∧ j * k + k ≤ G.flatten.length
  | [], _, _, _, hj => by simp at hj
  | a :: G, 0, g, h, hj => by
    simp only [List.getElem?_cons_zero, Option.some.injEq] at hj
    subst hj
    have hl := h a List.mem_cons_self
    have hs := flat_len h
    rw [List.length_cons, Nat.add_mul] at hs
    refine ⟨?_, by omega⟩
    rw [Nat.zero_mul, List.drop_zero, List.flatten_cons, List.take_append_of_le_length (by omega), ← hl, List.take_length]
  | a :: G, j + 1, g, h, hj => by
    simp only [List.getElem?_cons_succ] at hj
    have hl := h a List.mem_cons_self
    obtain ⟨h1, h2⟩ := flat_at (fun x hx => h x (List.mem_cons_of_mem _ hx)) hj
    rw [List.flatten_cons, Nat.add_mul, Nat.one_mul, Nat.add_comm (j * k) k, ← List.drop_drop, List.drop_append_of_le_length (by omega), ← hl, List.drop_length, List.nil_append, hl]
    refine ⟨h1, ?_⟩
    rw [List.length_append]; omega
theorem flat_set {k : Nat} : ∀ {G : List (List Value)} {j : Nat} {g : List Value}, (∀ g ∈ G, g.length = k) → j < G.length → G.flatten.take (j * k) ++ g ++ G.flatten.drop (j * k + k) = (G.set j g).flatten
  | [], _, _, _, hj => by simp at hj
  | a :: G, 0, g, h, _ => by
    have hl := h a List.mem_cons_self
    rw [Nat.zero_mul, Nat.zero_add, List.take_zero, List.nil_append, List.set_cons_zero, List.flatten_cons, List.flatten_cons, List.drop_append_of_le_length (by omega), ← hl, List.drop_length, List.nil_append]
  | a :: G, j + 1, g, h, hj => by
    have hl := h a List.mem_cons_self
    have ih := flat_set (g := g) (fun x hx => h x (List.mem_cons_of_mem _ hx)) (j := j) (by simpa using hj)
    rw [List.set_cons_succ, List.flatten_cons, List.flatten_cons, ← ih, Nat.add_mul, Nat.one_mul, Nat.add_comm (j * k) k, List.take_append, List.take_of_length_le (by omega), List.append_assoc, List.append_assoc, List.append_assoc]
    congr 1
    rw [show k + j * k - a.length = j * k by omega, Nat.add_assoc, ← List.drop_drop, List.drop_append_of_le_length (by omega), ← hl, List.drop_length, List.nil_append, hl, Nat.add_comm (j * k) k]
theorem flat_of {k : Nat} : ∀ {n : Nat} {l : List Value}, l.length = n * k → ∃ G : List (List Value), G.length = n ∧ (∀ g ∈ G, g.length = k) ∧ l = G.flatten
  | 0, l, h => ⟨[], rfl, fun g hg => (by cases hg), by rw [Nat.zero_mul] at h; simpa using List.eq_nil_of_length_eq_zero h⟩
  | n + 1, l, h => by
    rw [Nat.add_mul, Nat.one_mul] at h
    obtain ⟨G, h1, h2, h3⟩ := flat_of (k := k) (n := n) (l := l.drop k) (by rw [List.length_drop]; omega)
    refine ⟨l.take k :: G, by simp [h1], fun g hg => ?_, ?_⟩
    · rcases List.mem_cons.1 hg with e | e
      · subst e; rw [List.length_take]; omega
      · exact h2 g e
    · rw [List.flatten_cons, ← h3, List.take_append_drop]
theorem read_flat {P : Program} {t : TypeId} {k j : Nat} {G : List (List Value)} {g : List Value} (ha : isAggT P t = some true) (hs : (P.info? t).map (·.size) = some k) (hk : ∀ g ∈ G, g.length = k) (hj : G[j]? = some g) : readOf P t G.flatten (j * k) = some (.agg g.toArray) := by
  obtain ⟨h1, h2⟩ := flat_at hk hj
  cases hp : P.info? t with
  | none => rw [hp] at hs; cases hs
  | some ii =>
    rw [hp] at hs
    simp only [Option.map_some, Option.some.injEq] at hs
    subst hs
    unfold readOf
    simp only [ha, hp]
    rw [if_pos h2, h1]
theorem write_flat {P : Program} {t : TypeId} {k j : Nat} {G : List (List Value)} {v : Value} (hs : (P.info? t).map (·.size) = some k) (hk : ∀ g ∈ G, g.length = k) (hj : j < G.length) (hv : v.cells.size = k) (h1 : v.cells.toList.all (·.oneCell') = true) : writeOf P t G.flatten (j * k) v = some (G.set j v.cells.toList).flatten := by
  have h2 : j * k + k ≤ G.flatten.length := (flat_at hk (List.getElem?_eq_getElem hj)).2
  have h3 := flat_set (g := v.cells.toList) hk hj
  cases hp : P.info? t with
  | none => rw [hp] at hs; cases hs
  | some ii =>
    rw [hp] at hs
    simp only [Option.map_some, Option.some.injEq] at hs
    subst hs
    unfold writeOf
    simp only [hp]
    rw [if_pos ⟨hv, h2, h1⟩]
    split
    · rename_i hz
      rw [← h3, hz.1, List.take_zero, List.nil_append, Nat.zero_add, List.drop_of_length_le (by omega), List.append_nil]
    · rw [h3]
end Go.Proofs.Ytklankodjjkhiaa
