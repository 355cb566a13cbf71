/-
 Leap second tables in plain lists: which entries may stand behind others, which tables may be; how a list of entries lies in memory. No conditions.
-/
import Derived.Test.YthihioakjpmnbaaGreatVcM
import Derived.Laws.Pointers
import Derived.Test.YthihioakjpmnbaaGreatProg
namespace Go.Proofs.YthihioakjpmnbaaGreat
open Go.RowKit

theorem Later.past {w w1 w2 : World} {b : Nat} (h : Later w w1) (g : w1.grownBy w2 (some b)) (hb : w.heap.size ≤ b) : Later w w2 :=
 ⟨g.os.trans h.os, g.tape.trans h.tape, g.output.trans h.output, Nat.le_trans h.size g.size, fun k hk => (g.block k (Nat.lt_of_lt_of_le hk h.size) (by simp; omega)).trans (h.block k hk)⟩
theorem Later.sto {w w1 w2 : World} {q : Nat} (h : Later w w1) (s : Stored q w1 w2) (hq : w.heap.size ≤ q) : Later w w2 := h.past (grown_of_stored s) hq
theorem Var.unfrozen {w : World} {b : Nat} {cs : List Value} (h : Var w b cs) (j : Nat) : w.frozen? ⟨b, j, none⟩ = false := by
 obtain ⟨t, h⟩ := h
 unfold World.frozen?
 rw [h]
 simp
theorem Var.setCell {w : World} {b : Nat} {cs : List Value} (h : Var w b cs) (j : Nat) (v : Value) : Var (w.setCell ⟨b, j, none⟩ v) b (cs.set j v) ∧ Stored b w (w.setCell ⟨b, j, none⟩ v) := by
 obtain ⟨t, h⟩ := h
 have e := setCell_eq_setRow w b j cs.toArray t (0, 0) v h
 rw [e]
 exact ⟨⟨t, by rw [setRow_heap w b cs.toArray _ t _ h]; simp⟩, Stored.setRow b w _⟩
theorem Var.drew {w : World} {b : Nat} {cs : List Value} (h : Var w b cs) : Var w.drew b cs := by
 obtain ⟨t, h⟩ := h
 exact ⟨t, h⟩
theorem drew_grown (w : World) (row : Option Nat) : w.grownBy w.drew row := ⟨rfl, rfl, rfl, Nat.le_refl _, fun _ _ _ => rfl⟩
theorem run_copy_row2 {P : Program} (w : World) (dT sT ty elem : TypeId) (g dLen dCap : Nat) (a : Addr) (sLen sCap : Nat) (cur : Array Value) (t : TypeId) (cs : List Value)
  (hu : P.underlying dT = some (.slice elem)) (hs : (P.info? elem).map (·.size) = some 2)
  (hg : w.heap[g]? = some (.cells cur t (0, 0))) (hn : cs.length = Nat.min sLen dLen * 2)
  (hsrc : ∀ j v, cs[j]? = some v → w.cell? (a.add j) = some v) (hfit : cs.length ≤ cur.size) (h1 : ∀ v ∈ cs, v.oneCell' = true) :
  (Builtin.copy_ #[dT, sT] ty #[.slice (some ⟨g, 0, none⟩) dLen dCap, .slice (some a) sLen sCap]).run P w =
   .ok (goInt (Nat.min sLen dLen)) (w.setRow g (cs ++ cur.toList.drop cs.length).toArray) := by
 have hl := run_loadCells_list (P := P) w a cs hsrc
 have hst := run_storeCells_at P g 0 t cs 0 cur w hg (by simpa using hfit) h1
 cases hq : P.info? elem with
 | none => simp [hq] at hs
 | some i =>
  have hi : i.size = 2 := by simpa [hq] using hs
  simp only [Nat.add_zero, Nat.zero_add, List.take_zero, List.nil_append] at hst
  rw [hn] at hl
  simp [Builtin.copy_, run_underlying hu, Builtin.lenOf, Builtin.firstCells, sizeOf, typeInfo, hq, hi, hl, hst]
section
variable {P : Program} {B : Nat} {lax : Bool} {ops : Array Oper} {Rs : Nat → Value → World → Prop} {K : St → World → Prop} {i : Nat} {rest : List Nat} {st : St} {w : World}
variable {d : Nat} {ty : TypeId} {pos : String} {aft : Array Edge} {g : Option (Nat × Bool)}
/-- copy of structs of two cells to the beginning of a row of the call's own, that is no variable while that goes on. -/
theorem x_copy2 {t s e : TypeId} {x y : Operand} {b n c b' off c' : Nat} {cs news : List Value} (ho : ops[i]? = some ⟨some d, .call ⟨.builtin .copy, #[x, y], #[t, s]⟩, ty, pos, aft, g⟩) (hg : gok ops st g = true) (hk : known st ⟨some d, .call ⟨.builtin .copy, #[x, y], #[t, s]⟩, ty, pos, aft, g⟩ = true)
  (hx : st.ev x = .v (.slice (some ⟨b, 0, none⟩) n c)) (hy : st.ev y = .v (.slice (some ⟨b', off, none⟩) n c')) (ht : P.underlying t = some (.slice e)) (hs : (P.info? e).map (·.size) = some 2) (hv : Var w b cs) (hn : cs.length = n * 2) (hl : news.length = n * 2) (hc : ∀ j y, news[j]? = some y → w.cell? ⟨b', off + j, none⟩ = some y) (h1 : ∀ u ∈ news, u.oneCell' = true) (hB : B ≤ b) (ha : AllMem (· ≠ b) st)
  (h : ∀ w', Var w' b news → w.grownBy w' (some b) → vOrd P B true ops Rs K rest (st.put (some d) (.v (.int .i64 n))) w') : vOrd P B true ops Rs K (i :: rest) st w := by
 have ex : st.rho x = .slice (some ⟨b, 0, none⟩) n c := by rw [St.rho, hx]; rfl
 have ey : st.rho y = .slice (some ⟨b', off, none⟩) n c' := by rw [St.rho, hy]; rfl
 have ha' : ∀ q b' cs', st.mem q = some (b', cs') → some b ≠ some b' := fun q b' cs' e z => ha q b' cs' e (by simpa using z.symm)
 have em : Nat.min n n = n := Nat.min_self n
 obtain ⟨tt, hg'⟩ := hv
 have hr := run_copy_row2 (P := P) w t s ty e b n c ⟨b', off, none⟩ n c' cs.toArray tt news ht hs hg' (by rw [hl, em]) (fun j y hj => by
  rw [addr_add]; exact hc j y hj) (by simp; omega) h1
 have e1 : (news ++ cs.toArray.toList.drop news.length) = news := by rw [List.drop_of_length_le (by simp; omega), List.append_nil]
 rw [e1, em] at hr
 have hgr := grown_of_stored (Stored.setRow b w news.toArray)
 refine ⟨_, ho, .inr ⟨rfl, hg, hk, rfl, .inr (.inr (.inl (fun _ => ⟨_, _, some b, ?_, hgr, fun k e => by rw [Option.some.injEq] at e; omega, ha', h _ ⟨tt, setRow_heap w b cs.toArray _ tt _ hg'⟩ hgr⟩)))⟩⟩
 simp [execOp, ex, ey, resolve, invoke, builtin, hr, goInt]
theorem ptr_eq {t : TypeId} (p : Option Addr) (h : P.underlying t = some (.pointer (P.pointee t))) (x y : Operand) (hx : st.rho x = .pointer p) (hy : st.rho y = .pointer none) (w : World) :
  (execOp st.rho ⟨some d, .binOp .eql t x y t, ty, pos, aft, g⟩).run P w = .ok (.value (.bool p.isNone)) w ∧ (execOp st.rho ⟨some d, .binOp .neq t x y t, ty, pos, aft, g⟩).run P w = .ok (.value (.bool (!p.isNone))) w := by
 have h1 := run_eql_pointer_nil (P := P) w t p h
 have h2 := run_neq_pointer_nil (P := P) w t p h
 constructor
 ·simp [execOp, hx, hy, eqGuard, h1]
 ·simp [execOp, hx, hy, eqGuard, h2]
/-- A pointer against nil. -/
theorem s_nilEq {t : TypeId} {x : Operand} (p : Option Addr) (ho : ops[i]? = some ⟨some d, .binOp .eql t x (.const (.pointer none)) t, ty, pos, aft, g⟩) (hg : gok ops st g = true) (hk : known st ⟨some d, .binOp .eql t x (.const (.pointer none)) t, ty, pos, aft, g⟩ = true) (ht : P.underlying t = some (.pointer (P.pointee t))) (hx : st.rho x = .pointer p)
  (h : vOrd P B lax ops Rs K rest (st.put (some d) (.v (.bool p.isNone))) w) : vOrd P B lax ops Rs K (i :: rest) st w :=
 s_val ho hg rfl hk (fun w => (ptr_eq p ht x (.const (.pointer none)) hx rfl w).1) h
theorem s_nilNe {t : TypeId} {x : Operand} (p : Option Addr) (ho : ops[i]? = some ⟨some d, .binOp .neq t x (.const (.pointer none)) t, ty, pos, aft, g⟩) (hg : gok ops st g = true) (hk : known st ⟨some d, .binOp .neq t x (.const (.pointer none)) t, ty, pos, aft, g⟩ = true) (ht : P.underlying t = some (.pointer (P.pointee t))) (hx : st.rho x = .pointer p)
  (h : vOrd P B lax ops Rs K rest (st.put (some d) (.v (.bool (!p.isNone)))) w) : vOrd P B lax ops Rs K (i :: rest) st w :=
 s_val ho hg rfl hk (fun w => (ptr_eq p ht x (.const (.pointer none)) hx rfl w).2) h
theorem res_ptr {t q b off : Nat} (h : st.env t = some (.p q b off)) : Res1 P st (.tmp t) (.pointer (some ⟨b, off, none⟩)) := ⟨_, h, rfl⟩
/-- A function with what it holds first (a method that is a value). -/
theorem s_mkfun1 {f : FuncId} {xs : Array Operand} {l : List Value} (ho : ops[i]? = some ⟨some d, .makeFunc (.func f) xs #[], ty, pos, aft, g⟩) (hg : gok ops st g = true) (hk : known st ⟨some d, .makeFunc (.func f) xs #[], ty, pos, aft, g⟩ = true) (hx : evL st xs.toList = some l)
  (h : vOrd P B lax ops Rs K rest (st.put (some d) (.v (.func (.func f) l.toArray #[]))) w) : vOrd P B lax ops Rs K (i :: rest) st w := by
 refine s_val ho hg rfl hk (fun w => ?_) h
 simp only [execOp, Instr.makeFunc, evL_arr hx]
 simp
end
section
variable {P : Program} {n : Nat} {hol : List Nat} {w0 w : World} {st : St} {K : Exit → St → World → Prop}
end
end Go.Proofs.YthihioakjpmnbaaGreat

namespace Go.Proofs.YthihioakjpmnbaaGreat
open Go.RowKit
set_option maxRecDepth 100000

abbrev Ent := Int × Int
structure Tb where
 u : Int
 e : Int
 es : List Ent
def entIn (e : Ent) : Bool := decide (0 ≤ e.1) && decide (e.1 ≤ 1125899906842624) && decide (e.1 % 86400 = 0) && decide (0 ≤ e.2) && decide (e.2 ≤ 1000)
def lastOk (l : List Ent) (e : Ent) : Bool :=
 match l[l.length - 1]? with
 | none => true
 | some a => decide (a.1 < e.1) && (decide (e.2 = a.2 + 1) || decide (e.2 = a.2 - 1))
def stand (l : List Ent) (e : Ent) : Bool := decide (l.length < 64) && entIn e && lastOk l e
theorem stand_full {l : List Ent} {e : Ent} (h : 64 ≤ l.length) : stand l e = false := by
 unfold stand; rw [decide_eq_false (by omega)]; rfl
theorem stand_in {l : List Ent} {e : Ent} (h : entIn e = false) : stand l e = false := by
 unfold stand; rw [h, Bool.and_false]; rfl
theorem stand_first {l : List Ent} {e : Ent} (hl : l.length = 0) (h : entIn e = true) : stand l e = true := by
 have : l = [] := List.eq_nil_of_length_eq_zero hl
 subst this
 unfold stand; rw [h]; rfl
theorem stand_next {l : List Ent} {e a : Ent} (h64 : l.length < 64) (ha : l[l.length - 1]? = some a) (h : entIn e = true) : stand l e = (decide (a.1 < e.1) && (decide (e.2 = a.2 + 1) || decide (e.2 = a.2 - 1))) := by
 unfold stand lastOk
 rw [h, ha, decide_eq_true h64]; rfl
theorem entIn_yes {a b : Int} (h1 : 0 ≤ a) (h2 : a ≤ 1125899906842624) (h3 : a % 86400 = 0) (h4 : 0 ≤ b) (h5 : b ≤ 1000) : entIn (a, b) = true := by
 simp [entIn, h1, h2, h3, h4, h5]
theorem entIn_no {a b : Int} (h : ¬ (0 ≤ a ∧ a ≤ 1125899906842624 ∧ a % 86400 = 0 ∧ 0 ≤ b ∧ b ≤ 1000)) : entIn (a, b) = false := by
 rw [← Bool.not_eq_true]
 intro q
 simp only [entIn, Bool.and_eq_true, decide_eq_true_eq] at q
 exact h ⟨q.1.1.1.1, q.1.1.1.2, q.1.1.2, q.1.2, q.2⟩
theorem stand_spec {l : List Ent} {e : Ent} (h : stand l e = true) : l.length < 64 ∧ (0 ≤ e.1 ∧ e.1 ≤ 1125899906842624) ∧ (0 ≤ e.2 ∧ e.2 ≤ 1000) := by
 simp only [stand, entIn, Bool.and_eq_true, decide_eq_true_eq] at h
 exact ⟨h.1.1, ⟨h.1.2.1.1.1.1, h.1.2.1.1.1.2⟩, h.1.2.1.2, h.1.2.2⟩
/-- The entry at a place may stand behind those ahead of it. -/
def okAt (es : List Ent) (j : Nat) : Bool :=
 match es[j]? with
 | some e => stand (es.take j) e
 | none => false
def badFrom (es : List Ent) : Nat → Nat → Nat
 | 0, i => i
 | f + 1, i => if okAt es i = true then badFrom es f (i + 1) else i
def firstBad (es : List Ent) : Nat := badFrom es es.length 0
theorem bad_ok (es : List Ent) : ∀ f i j, i ≤ j → j < badFrom es f i → okAt es j = true
 | 0, i, j, h1, h2 => by rw [badFrom] at h2; omega
 | f + 1, i, j, h1, h2 => by
  rw [badFrom] at h2
  split at h2
  ·rename_i h
   by_cases q : j = i
   ·subst q; exact h
   ·exact bad_ok es f (i + 1) j (by omega) h2
  ·omega
theorem bad_step {es : List Ent} {i : Nat} (hi : i < es.length) (h : badFrom es (es.length - i) i = firstBad es) : (okAt es i = true → badFrom es (es.length - (i + 1)) (i + 1) = firstBad es) ∧ (okAt es i = false → firstBad es = i) := by
 rw [show es.length - i = (es.length - (i + 1)) + 1 by omega, badFrom] at h
 constructor
 ·intro q; rw [if_pos q] at h; exact h
 ·intro q; rw [if_neg (by rw [q]; decide)] at h; exact h.symm
theorem bad_end {es : List Ent} {i : Nat} (hi : i = es.length) (h : badFrom es (es.length - i) i = firstBad es) : firstBad es = es.length := by
 rw [hi, Nat.sub_self, badFrom] at h
 exact h.symm
def inS (n : Int) : Bool := decide (0 ≤ n) && decide (n < 1000000000000000000)
def canBe (t : Tb) : Bool := decide (firstBad t.es = t.es.length) && decide (0 < t.es.length) && (inS t.u && inS t.e)
def place (t : Tb) : Nat := if canBe t = true then 0 else firstBad t.es
theorem inS_spec {n : Int} : inS n = true ↔ 0 ≤ n ∧ n < 1000000000000000000 := by simp [inS]
theorem can_all {t : Tb} (h : canBe t = true) {j : Nat} (hj : j < t.es.length) : okAt t.es j = true := by
 simp only [canBe, Bool.and_eq_true, decide_eq_true_eq] at h
 have h1 := h.1.1
 unfold firstBad at h1
 exact bad_ok t.es t.es.length 0 j (Nat.zero_le _) (by omega)
theorem can_num {t : Tb} (h : canBe t = true) : (0 ≤ t.u ∧ t.u < 1000000000000000000) ∧ (0 ≤ t.e ∧ t.e < 1000000000000000000) ∧ 0 < t.es.length := by
 simp only [canBe, Bool.and_eq_true, decide_eq_true_eq] at h
 exact ⟨inS_spec.1 h.2.1, inS_spec.1 h.2.2, h.1.2⟩
theorem ok_at {es : List Ent} {j : Nat} {e : Ent} (he : es[j]? = some e) : okAt es j = stand (es.take j) e := by unfold okAt; rw [he]
theorem can_ent {t : Tb} (h : canBe t = true) {j : Nat} {e : Ent} (he : t.es[j]? = some e) : (0 ≤ e.1 ∧ e.1 ≤ 1125899906842624) ∧ (0 ≤ e.2 ∧ e.2 ≤ 1000) := by
 have := can_all h (List.getElem?_eq_some_iff.1 he).1
 rw [ok_at he] at this
 exact (stand_spec this).2
theorem can_len {t : Tb} (h : canBe t = true) : t.es.length ≤ 64 := by
 rcases Nat.lt_or_ge 64 t.es.length with q | q
 ·obtain ⟨e, he⟩ : ∃ e, t.es[64]? = some e := ⟨t.es[64], List.getElem?_eq_getElem q⟩
  have := can_all h q
  rw [ok_at he] at this
  have := (stand_spec this).1
  rw [List.length_take] at this
  omega
 ·exact q
/-- What the last one of those ahead has. -/
theorem ok_last {es : List Ent} {i : Nat} (hi : i ≤ es.length) (h : ∀ j, j < i → okAt es j = true) {a : Ent} (ha : (es.take i)[(es.take i).length - 1]? = some a) : 0 ≤ a.2 ∧ a.2 ≤ 1000 := by
 have h0 : 0 < (es.take i).length := by
  have := (List.getElem?_eq_some_iff.1 ha).1
  omega
 rw [List.length_take, Nat.min_eq_left hi] at ha h0
 rw [List.getElem?_take_of_lt (by omega)] at ha
 have := h (i - 1) (by omega)
 rw [ok_at ha] at this
 exact (stand_spec this).2.2

theorem ok_ents {es : List Ent} (h : ∀ j, j < es.length → okAt es j = true) {j : Nat} {e : Ent} (he : es[j]? = some e) : (0 ≤ e.1 ∧ e.1 ≤ 1125899906842624) ∧ (0 ≤ e.2 ∧ e.2 ≤ 1000) := by
 have := h j (List.getElem?_eq_some_iff.1 he).1
 rw [ok_at he] at this
 exact (stand_spec this).2
theorem can_place {t : Tb} (h : canBe t = true) : place t = 0 := if_pos h
theorem can_bad {t : Tb} {i : Nat} (hi : i < t.es.length) (h : firstBad t.es = i) : canBe t = false ∧ place t = i := by
 have e : canBe t = false := by unfold canBe; rw [h, decide_eq_false (by omega)]; rfl
 exact ⟨e, by unfold place; rw [e, ← h]; rfl⟩
theorem can_end {t : Tb} (h : firstBad t.es = t.es.length) (hb : (decide (0 < t.es.length) && (inS t.u && inS t.e)) = false) : canBe t = false ∧ place t = t.es.length := by
 have e : canBe t = false := by unfold canBe; rw [h, decide_eq_true rfl, Bool.true_and]; exact hb
 exact ⟨e, by unfold place; rw [e, ← h]; rfl⟩
theorem can_yes {t : Tb} (h : firstBad t.es = t.es.length) (hb : (decide (0 < t.es.length) && (inS t.u && inS t.e)) = true) : canBe t = true := by
 unfold canBe; rw [h, decide_eq_true rfl, Bool.true_and]; exact hb
theorem takeE_snoc {α : Type} {l : List α} {i : Nat} {x : α} (h : l[i]? = some x) : l.take (i + 1) = l.take i ++ [x] := by rw [List.take_add_one, h]; rfl
/-! ### How a list of entries lies in memory -/
def EntAt (w : World) (v : Value) (es : List Ent) : Prop :=
 ∃ a c, v = .slice a es.length c ∧ es.length ≤ c ∧ ∀ j x, es[j]? = some x → I64 x.1 ∧ I64 x.2 ∧ ∃ b off, a = some ⟨b, off, none⟩ ∧ w.cell? ⟨b, off + j * 2, none⟩ = some (.int .i64 x.1) ∧ w.cell? ⟨b, off + j * 2 + 1, none⟩ = some (.int .i64 x.2)
theorem EntAt.later {w w' : World} {v : Value} {es : List Ent} (h : EntAt w v es) (l : Later w w') : EntAt w' v es := by
 obtain ⟨a, c, h1, h2, h3⟩ := h
 refine ⟨a, c, h1, h2, fun j x hj => ?_⟩
 obtain ⟨i1, i2, b, off, e, k1, k2⟩ := h3 j x hj
 exact ⟨i1, i2, b, off, e, (World.cell?_of_block (l.block b (World.block_lt_of_cell? w _ k1))).trans k1, (World.cell?_of_block (l.block b (World.block_lt_of_cell? w _ k2))).trans k2⟩
theorem EntAt.nil (w : World) : EntAt w (.slice none 0 0) [] := ⟨none, 0, rfl, Nat.le_refl _, fun j x hj => by simp at hj⟩
theorem EntAt.take {w : World} {a : Option Addr} {n c : Nat} {es : List Ent} (h : EntAt w (.slice a n c) es) {i : Nat} (hi : i ≤ es.length) : EntAt w (.slice a i c) (es.take i) := by
 obtain ⟨a', c', h1, h2, h3⟩ := h
 cases h1
 refine ⟨a, c, by rw [List.length_take, Nat.min_eq_left hi], by rw [List.length_take]; omega, fun j x hj => ?_⟩
 have hlt := (List.getElem?_eq_some_iff.1 hj).1
 rw [List.length_take] at hlt
 rw [List.getElem?_take_of_lt (by omega)] at hj
 exact h3 j x hj
end Go.Proofs.YthihioakjpmnbaaGreat
