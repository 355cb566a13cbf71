/-
  In a region that draws its order an operation that only reckons, reads a variable of the call's own, or lays a new one may be done first. No conditions.
-/
import Derived.Test.YtklankodjjkhiaaVcC
namespace Go.Proofs.Ytklankodjjkhiaa
open Go.RowKit

def lightOp : Op → Bool
  | .store .. | .call .. | .buildSlice .. | .makeSlice .. | .select .. => false
  | _ => true
def memOp : Op → Bool
  | .load .. | .alloc .. | .box .. => true
  | _ => false
def isStore : Op → Bool
  | .store .. => true
  | _ => false
section
variable {P : Program} {md : Region.Mode} {ops : Array Oper} {w : World} {K K' : St → World → Prop} {R Ri Rj : Value → World → Prop} {o oi oj : Oper}
theorem vOp_mono {st : St} (h : ∀ st w, K st w → K' st w) (hh : vOp P R o st w K) : vOp P R o st w K' := by
  obtain ⟨hk, hs, hh⟩ := hh
  refine ⟨hk, hs, ?_⟩
  split at hh
  · obtain ⟨d, z, h1, h2, h3, h4⟩ := hh
    exact ⟨d, z, h1, h2, h3, fun b w' hb hl => h _ _ (h4 b w' hb hl)⟩
  · obtain ⟨d, h1, h2, h4⟩ := hh
    exact ⟨d, h1, h2, fun b w' hb hl => h _ _ (h4 b w' hb hl)⟩
  · split at hh
    · obtain ⟨cs, v, h2, h3, h4⟩ := hh
      exact ⟨cs, v, h2, h3, h _ _ h4⟩
    · obtain ⟨v, h2, h4⟩ := hh
      exact ⟨v, h2, h _ _ h4⟩
  · obtain ⟨g, b, off, cs, cs', h1, h2, h3, h4, h5⟩ := hh
    exact ⟨g, b, off, cs, cs', h1, h2, h3, h4, fun w' k1 k2 => h _ _ (h5 w' k1 k2)⟩
  · exact ⟨hh.1, fun v wc w1 w2 a b c d => h _ _ (hh.2 v wc w1 w2 a b c d)⟩
  · exact ⟨hh.1, fun v wc w1 w2 a b c d => h _ _ (hh.2 v wc w1 w2 a b c d)⟩
  · exact ⟨hh.1, fun v wc w1 w2 a b c d => h _ _ (hh.2 v wc w1 w2 a b c d)⟩
  · obtain ⟨v, h1, h2⟩ := hh
    exact ⟨v, h1, h _ _ h2⟩
theorem vG_mono {st : St} (h : ∀ st w, K st w → K' st w) (hh : vG P ops R o st w K) : vG P ops R o st w K' := by
  unfold vG at *
  split at hh
  · exact vOp_mono h hh
  · obtain ⟨d, x, h1, h2, h3, h4⟩ := hh
    exact ⟨d, x, h1, h2, fun e => vOp_mono h (h3 e), fun e => h _ _ (h4 e)⟩
/-- Two states of which an operation sees the same. -/
structure Sees (o : Oper) (st st' : St) : Prop where
  env : ∀ t, Operand.tmp t ∈ o.op.operands → st'.env t = st.env t
theorem Sees.symm {st st' : St} (h : Sees o st st') : Sees o st' st := ⟨fun t ht => (h.env t ht).symm⟩
theorem Sees.ev {st st' : St} (h : Sees o st st') {x : Operand} (hx : x ∈ o.op.operands) : st'.ev x = st.ev x := by
  cases x with
  | tmp t => simp only [St.ev, h.env t hx]
  | _ => rfl
theorem Sees.rho {st st' : St} (h : Sees o st st') {x : Operand} (hx : x ∈ o.op.operands) : st'.rho x = st.rho x := by simp only [St.rho, h.ev hx]
theorem Sees.known {st st' : St} (h : Sees o st st') (hk : known st o = true) : known st' o = true := by
  unfold Go.Proofs.Ytklankodjjkhiaa.known at *
  rw [List.all_eq_true] at *
  intro x hx
  have := hk x hx
  split
  · rename_i t
    rw [h.env t (by simpa using hx)]
    exact this
  · rfl
theorem Sees.exec {st st' : St} (h : Sees o st st') (hs : noSel o = true) : execOp st'.rho o = execOp st.rho o :=
  execOp_congr o (fun cs b h => by simp [noSel, h] at hs) (fun _ hx => h.rho hx)
theorem Sees.res {st st' : St} (h : Sees o st st') (v : Value) : resSV st' o v = resSV st o v := by
  unfold resSV
  split
  · rename_i x hop; exact h.ev (by simp [hop, Op.operands])
  · rename_i x hop; exact h.ev (by simp [hop, Op.operands])
  · rename_i t x f hop
    rw [h.ev (by simp [hop, Op.operands])]
  · rfl
theorem Sees.runs {st st' : St} (h : Sees o st st') (hs : noSel o = true) : RunsTo P o st' w R = RunsTo P o st w R := by
  unfold RunsTo; rw [h.exec hs]
/-- What an operation other than a store leaves of a state. -/
structure Step (o : Oper) (st st' : St) (w w' : World) : Prop where
  env : ∀ t, o.dst ≠ some t → st'.env t = st.env t
  mem : isStore o.op = false → ∀ h, st.mem h = none ∧ o.dst = some h ∨ st'.mem h = st.mem h
  later : isStore o.op = false → Later w w'
theorem Step.put (o : Oper) (st : St) (x : SV) {w w' : World} (l : Later w w') : Step o st (st.put o.dst x) w w' := by
  refine ⟨fun t ht => ?_, fun _ h => .inr ?_, fun _ => l⟩
  · cases hd : o.dst with
    | none => rfl
    | some d => exact upd_ne _ _ (fun e => ht (by rw [hd, e]))
  · cases o.dst <;> rfl
theorem Step.new {st : St} {d : Nat} (hd : o.dst = some d) (hm : st.mem d = none) (b : Nat) (cs : List Value) {w w' : World} (l : Later w w') : Step o st (st.new d b cs) w w' := by
  refine ⟨fun t ht => upd_ne _ _ (fun e => ht (by rw [hd, e])), fun _ h => ?_, fun _ => l⟩
  by_cases e : h = d
  · exact .inl ⟨e ▸ hm, e ▸ hd⟩
  · exact .inr (upd_ne _ _ e)
theorem put_put {st : St} {d e : Option Nat} {x y : SV} (h : ∀ k, d = some k → e ≠ some k) : (st.put d x).put e y = (st.put e y).put d x := by
  cases d with
  | none => rfl
  | some d =>
    cases e with
    | none => rfl
    | some e => simp only [St.put]; rw [upd_comm _ _ _ (fun k => h d rfl (by rw [k]))]
theorem put_new {st : St} {d : Option Nat} {x : SV} {e b : Nat} {cs : List Value} (h : d ≠ some e) : (st.put d x).new e b cs = (st.new e b cs).put d x := by
  cases d with
  | none => rfl
  | some d => simp only [St.put, St.new]; rw [upd_comm _ _ _ (fun k => h (by rw [k]))]
theorem put_set {st : St} {d : Option Nat} {x : SV} {e b : Nat} {cs : List Value} : (st.put d x).set e b cs = (st.set e b cs).put d x := by
  cases d <;> rfl
theorem new_new {st : St} {d b e c : Nat} {cs cs' : List Value} (h : d ≠ e) : (st.new d b cs).new e c cs' = (st.new e c cs').new d b cs := by
  simp only [St.new]; rw [upd_comm _ _ _ h, upd_comm _ _ _ h]
theorem put_mem (st : St) (d : Option Nat) (x : SV) : (st.put d x).mem = st.mem := by cases d <;> rfl
/-- A slot that an operation does not look at may be filled ahead of it. -/
theorem swapA {st : St} {d : Option Nat} {sv : SV} (h1 : ∀ k, d = some k → k ∉ oj.looksAt ops) (h2 : ∀ k, d = some k → oj.dst ≠ some k)
    (h : vOp P R oj (st.put d sv) w K) : vOp P R oj st w (fun st' w' => Step oj st st' w w' ∧ K (st'.put d sv) w') := by
  have S : Sees oj (st.put d sv) st := ⟨fun t ht => by
    cases d with
    | none => rfl
    | some k => exact (upd_ne _ _ (fun e => h1 k rfl (by subst e; exact List.mem_append_left _ (List.mem_filterMap.2 ⟨.tmp t, by simpa using ht, rfl⟩)))).symm⟩
  obtain ⟨hk, hs, h⟩ := h
  refine ⟨S.known hk, hs, ?_⟩
  split at h
  · obtain ⟨e, z, k1, k2, k3, k4⟩ := h
    rw [put_mem] at k2
    exact ⟨e, z, k1, k2, k3, fun b w' hb hl => ⟨Step.new k1 k2 b _ hl, by rw [← put_new (fun k => h2 e k k1)]; exact k4 b w' hb hl⟩⟩
  · rename_i t x hop
    obtain ⟨e, k1, k2, k4⟩ := h
    rw [put_mem] at k2
    have hx : (st.put d sv).rho x = st.rho x := (S.rho (by simp [hop, Op.operands])).symm
    rw [hx] at k4
    exact ⟨e, k1, k2, fun b w' hb hl => ⟨Step.new k1 k2 b _ hl, by rw [← put_new (fun k => h2 e k k1)]; exact k4 b w' hb hl⟩⟩
  · rename_i t x hop
    rw [← S.ev (by simp [hop, Op.operands])] at h
    cases hx : st.ev x with
    | p g b off =>
      simp only [hx] at h ⊢
      obtain ⟨cs, v, k2, k3, k4⟩ := h
      rw [put_mem] at k2
      exact ⟨cs, v, k2, k3, Step.put oj st _ (Later.refl _), by rw [← put_put h2]; exact k4⟩
    | v y =>
      simp only [hx] at h ⊢
      obtain ⟨v, k2, k4⟩ := h
      exact ⟨v, fun w' l => by rw [S.exec hs]; exact k2 w' l, Step.put oj st _ (Later.refl _), by rw [← put_put h2]; exact k4⟩
  · rename_i t x y hop
    obtain ⟨g, b, off, cs, cs', k1, k2, k3, k4, k5⟩ := h
    rw [put_mem] at k2
    rw [← S.ev (by simp [hop, Op.operands])] at k1
    rw [← S.rho (by simp [hop, Op.operands])] at k3
    refine ⟨g, b, off, cs, cs', k1, k2, k3, k4, fun w' l1 l2 => ⟨⟨fun t _ => rfl, fun hf => by simp [hop, isStore] at hf, fun hf => by simp [hop, isStore] at hf⟩, by rw [← put_set]; exact k5 w' l1 l2⟩⟩
  · refine ⟨fun wc hl => by rw [S.runs hs]; exact h.1 wc hl, fun v wc w1 w2 a b c e => ⟨Step.put oj st _ ((a.trans b).trans e), by rw [← put_put h2]; exact h.2 v wc w1 w2 a b c e⟩⟩
  · refine ⟨fun wc hl => by rw [S.runs hs]; exact h.1 wc hl, fun v wc w1 w2 a b c e => ⟨Step.put oj st _ ((a.trans b).trans e), by rw [← put_put h2]; exact h.2 v wc w1 w2 a b c e⟩⟩
  · refine ⟨fun wc hl => by rw [S.runs hs]; exact h.1 wc hl, fun v wc w1 w2 a b c e => ⟨Step.put oj st _ ((a.trans b).trans e), by rw [← put_put h2]; exact h.2 v wc w1 w2 a b c e⟩⟩
  · obtain ⟨v, k1, k2⟩ := h
    refine ⟨v, fun w => by rw [S.exec hs]; exact k1 w, Step.put oj st _ (Later.refl _), ?_⟩
    rw [← put_put h2, S.res]
    exact k2
theorem swapGA {st : St} {d : Option Nat} {sv : SV} (h1 : ∀ k, d = some k → k ∉ oj.looksAt ops) (h2 : ∀ k, d = some k → oj.dst ≠ some k)
    (h : vG P ops R oj (st.put d sv) w K) : vG P ops R oj st w (fun st' w' => Step oj st st' w w' ∧ K (st'.put d sv) w') := by
  unfold vG at *
  split at h
  · exact swapA h1 h2 h
  · rename_i g t hg
    obtain ⟨e, x, k1, k2, k3, k4⟩ := h
    have he : (st.put d sv).env e = st.env e := by
      cases d with
      | none => rfl
      | some k => exact upd_ne _ _ (fun q => h1 k rfl (by subst q; exact List.mem_append_right _ (by simp [hg, k1])))
    rw [he] at k2
    exact ⟨e, x, k1, k2, fun q => swapA h1 h2 (k3 q), fun q => ⟨Step.put oj st _ (Later.refl _), by rw [← put_put h2]; exact k4 q⟩⟩
/-- A new variable may be laid ahead of any operation but a store. -/
theorem swapB {st : St} {d : Nat} {cs : List Value} (hm : st.mem d = none) (h1 : d ∉ oj.looksAt ops) (h2 : oj.dst ≠ some d) (hn : isStore oj.op = false)
    (h : ∀ b w', w.heap.size ≤ b → Later w w' → vOp P R oj (st.new d b cs) w' K) :
    vOp P R oj st w (fun st' w' => Step oj st st' w w' ∧ ∀ b w'', w'.heap.size ≤ b → Later w' w'' → K (st'.new d b cs) w'') := by
  have S : ∀ b, Sees oj (st.new d b cs) st := fun b => ⟨fun t ht => (upd_ne _ _ (fun e => h1 (by subst e; exact List.mem_append_left _ (List.mem_filterMap.2 ⟨.tmp t, by simpa using ht, rfl⟩)))).symm⟩
  have h0 := h w.heap.size w (Nat.le_refl _) (Later.refl w)
  refine ⟨(S _).known h0.1, h0.2.1, ?_⟩
  have hs := h0.2.1
  cases hop : oj.op with
  | alloc t =>
    simp only [vOp, hop] at h h0
    obtain ⟨_, _, e, z, k1, k2, k3, _⟩ := h0
    have hde : d ≠ e := fun q => h2 (by rw [k1, q])
    have k2' : st.mem e = none := by rw [← upd_ne st.mem _ (Ne.symm hde)]; exact k2
    refine ⟨e, z, k1, k2', k3, fun c w1 hc hl => ⟨Step.new k1 k2' c _ hl, fun b w2 hb hl2 => ?_⟩⟩
    obtain ⟨_, _, e', z', k1', _, k3', k4⟩ := h b w (by have := hl.size; omega) (Later.refl w)
    rw [k1] at k1'
    rw [k3] at k3'
    cases k1'
    cases k3'
    rw [← new_new hde]
    exact k4 c w2 hc (hl.trans hl2)
  | box t x =>
    simp only [vOp, hop] at h h0
    obtain ⟨_, _, e, k1, k2, _⟩ := h0
    have hde : d ≠ e := fun q => h2 (by rw [k1, q])
    have k2' : st.mem e = none := by rw [← upd_ne st.mem _ (Ne.symm hde)]; exact k2
    refine ⟨e, k1, k2', fun c w1 hc hl => ⟨Step.new k1 k2' c _ hl, fun b w2 hb hl2 => ?_⟩⟩
    obtain ⟨_, _, e', k1', _, k4⟩ := h b w (by have := hl.size; omega) (Later.refl w)
    rw [k1] at k1'
    cases k1'
    rw [← new_new hde, (S b).rho (by simp [hop, Op.operands])]
    exact k4 c w2 hc (hl.trans hl2)
  | load t x =>
    have hx : x ∈ oj.op.operands := by simp [hop, Op.operands]
    simp only [vOp, hop] at h h0
    rw [← (S _).ev hx] at h0
    cases hev : st.ev x with
    | p g b0 off =>
      simp only [hev] at h0 ⊢
      have h' : ∀ b w', w.heap.size ≤ b → Later w w' → ∃ cs' v', (st.new d b cs).mem g = some (b0, cs') ∧ readOf P t cs' off = some v' ∧ K ((st.new d b cs).put oj.dst (.v v')) w' := by
        intro b w' hb hl
        have := (h b w' hb hl).2.2
        rw [← (S _).ev hx, hev] at this
        exact this
      obtain ⟨_, _, cs0, v, k2, k3, _⟩ := h0
      have hg : g ≠ d := fun q => by
        subst q
        obtain ⟨cs1, v', q2, _⟩ := h' (w.heap.size + 1) w (by omega) (Later.refl w)
        simp only [St.new, upd_same, Option.some.injEq, Prod.mk.injEq] at k2 q2
        omega
      have k2' : st.mem g = some (b0, cs0) := by rw [← upd_ne st.mem _ hg]; exact k2
      refine ⟨cs0, v, k2', k3, Step.put oj st _ (Later.refl _), fun b w2 hb hl2 => ?_⟩
      obtain ⟨cs1, v', q2, q3, q4⟩ := h' b w2 hb hl2
      have q2' : st.mem g = some (b0, cs1) := by rw [← upd_ne st.mem _ hg]; exact q2
      rw [k2'] at q2'
      cases q2'
      rw [k3] at q3
      cases q3
      rw [put_new h2]
      exact q4
    | v y =>
      simp only [hev] at h0 ⊢
      have h' : ∀ b w', w.heap.size ≤ b → Later w w' → ∃ v', (∀ w'', Later w' w'' → (execOp (st.new d b cs).rho oj).run P w'' = .ok (.value v') w'') ∧ K ((st.new d b cs).put oj.dst (.v v')) w' := by
        intro b w' hb hl
        have := (h b w' hb hl).2.2
        rw [← (S _).ev hx, hev] at this
        exact this
      obtain ⟨_, _, v, k2, _⟩ := h0
      refine ⟨v, fun w' l => by rw [(S _).exec hs]; exact k2 w' l, Step.put oj st _ (Later.refl _), fun b w2 hb hl2 => ?_⟩
      obtain ⟨v', q2, q4⟩ := h' b w2 hb hl2
      have e1 := q2 w2 (Later.refl _)
      rw [← (S b).exec hs] at e1
      have e0 := k2 w2 hl2
      rw [← (S _).exec hs, e1] at e0
      cases e0
      rw [put_new h2]
      exact q4
  | store t x y => simp [hop, isStore] at hn
  | call c =>
    simp only [vOp, hop] at h h0
    refine ⟨fun wc hl => by rw [(S w.heap.size).runs hs]; exact h0.2.2.1 wc hl, fun v wc w1 w2 l1 l2 hR l3 => ⟨Step.put oj st _ ((l1.trans l2).trans l3), fun b w3 hb hl3 => ?_⟩⟩
    rw [put_new h2]
    exact (h b w (by have := l1.size; have := l2.size; have := l3.size; omega) (Later.refl w)).2.2.2 v wc w1 w3 l1 l2 hR (l3.trans hl3)
  | buildSlice a b c =>
    simp only [vOp, hop] at h h0
    refine ⟨fun wc hl => by rw [(S w.heap.size).runs hs]; exact h0.2.2.1 wc hl, fun v wc w1 w2 l1 l2 hR l3 => ⟨Step.put oj st _ ((l1.trans l2).trans l3), fun b w3 hb hl3 => ?_⟩⟩
    rw [put_new h2]
    exact (h b w (by have := l1.size; have := l2.size; have := l3.size; omega) (Later.refl w)).2.2.2 v wc w1 w3 l1 l2 hR (l3.trans hl3)
  | makeSlice a b c =>
    simp only [vOp, hop] at h h0
    refine ⟨fun wc hl => by rw [(S w.heap.size).runs hs]; exact h0.2.2.1 wc hl, fun v wc w1 w2 l1 l2 hR l3 => ⟨Step.put oj st _ ((l1.trans l2).trans l3), fun b w3 hb hl3 => ?_⟩⟩
    rw [put_new h2]
    exact (h b w (by have := l1.size; have := l2.size; have := l3.size; omega) (Later.refl w)).2.2.2 v wc w1 w3 l1 l2 hR (l3.trans hl3)
  | _ =>
    simp only [vOp, hop] at h h0
    obtain ⟨_, _, v, k1, _⟩ := h0
    refine ⟨v, fun w => by rw [(S _).exec hs]; exact k1 w, Step.put oj st _ (Later.refl _), fun b w2 hb hl2 => ?_⟩
    obtain ⟨_, _, v', q1, q2⟩ := h b w2 hb hl2
    have e1 := q1 w
    rw [← (S b).exec hs] at e1
    have e0 := k1 w
    rw [← (S _).exec hs, e1] at e0
    cases e0
    rw [put_new h2, (S b).res]
    exact q2
theorem swapGB {st : St} {d : Nat} {cs : List Value} (hm : st.mem d = none) (h1 : d ∉ oj.looksAt ops) (h2 : oj.dst ≠ some d) (hn : isStore oj.op = false)
    (h : ∀ b w', w.heap.size ≤ b → Later w w' → vG P ops R oj (st.new d b cs) w' K) :
    vG P ops R oj st w (fun st' w' => Step oj st st' w w' ∧ ∀ b w'', w'.heap.size ≤ b → Later w' w'' → K (st'.new d b cs) w'') := by
  unfold vG at *
  cases hg : oj.guard with
  | none =>
    simp only [hg] at h ⊢
    exact swapB hm h1 h2 hn h
  | some gt =>
    obtain ⟨g, t⟩ := gt
    simp only [hg] at h ⊢
    obtain ⟨e, x, k1, k2, _, _⟩ := h w.heap.size w (Nat.le_refl _) (Later.refl w)
    have he : ∀ b, (st.new d b cs).env e = st.env e := fun b => upd_ne _ _ (fun q => h1 (by subst q; exact List.mem_append_right _ (by simp [hg, k1])))
    rw [he] at k2
    have hall : ∀ b w', w.heap.size ≤ b → Later w w' → (x = .bool t → vOp P R oj (st.new d b cs) w' K) ∧ (x ≠ .bool t → K ((st.new d b cs).put oj.dst (.v undef)) w') := by
      intro b w' hb hl
      obtain ⟨e', x', q1, q2, q3, q4⟩ := h b w' hb hl
      rw [k1] at q1
      cases q1
      rw [he, k2] at q2
      cases q2
      exact ⟨q3, q4⟩
    refine ⟨e, x, k1, k2, fun q => swapB hm h1 h2 hn (fun b w' hb hl => (hall b w' hb hl).1 q), fun q => ⟨Step.put oj st _ (Later.refl _), fun b w2 hb hl => ?_⟩⟩
    rw [put_new h2]
    exact (hall b w2 hb hl).2 q
/-- Behind a step of j an operation i, that is apart from it, sees what it saw. -/
theorem Step.sees {st st' : St} {w w' : World} (h : Step oj st st' w w') (h3 : ∀ k, oj.dst = some k → k ∉ oi.looksAt ops) : Sees oi st st' :=
  ⟨fun t ht => h.env t (fun e => h3 t e (List.mem_append_left _ (List.mem_filterMap.2 ⟨.tmp t, by simpa using ht, rfl⟩)))⟩
theorem vOp_swap {st : St} (hl : lightOp oi.op = true) (hap : oi.apart ops oj = true) (hns : memOp oi.op = true → isStore oj.op = false)
    (h : vOp P Ri oi st w (fun st' w' => vG P ops Rj oj st' w' K)) : vG P ops Rj oj st w (fun st' w' => Step oj st st' w w' ∧ vOp P Ri oi st' w' K) := by
  obtain ⟨h1, h2, h3⟩ := Oper.apart_spec hap
  obtain ⟨hk, hs, h⟩ := h
  cases hop : oi.op with
  | alloc t =>
    simp only [hop] at h
    obtain ⟨d, z, k1, k2, k3, k4⟩ := h
    have hn := hns (by simp [hop, memOp])
    refine vG_mono (fun st' w' q => ⟨q.1, (q.1.sees h3).known hk, hs, ?_⟩) (swapGB k2 (h1 d k1) (h2 d k1) hn k4)
    simp only [hop]
    refine ⟨d, z, k1, ?_, k3, q.2⟩
    rcases q.1.mem hn d with e | e
    · exact absurd e.2 (h2 d k1)
    · rw [e]; exact k2
  | box t x =>
    simp only [hop] at h
    obtain ⟨d, k1, k2, k4⟩ := h
    have hn := hns (by simp [hop, memOp])
    refine vG_mono (fun st' w' q => ⟨q.1, (q.1.sees h3).known hk, hs, ?_⟩) (swapGB k2 (h1 d k1) (h2 d k1) hn k4)
    simp only [hop]
    refine ⟨d, k1, ?_, ?_⟩
    · rcases q.1.mem hn d with e | e
      · exact absurd e.2 (h2 d k1)
      · rw [e]; exact k2
    · rw [(q.1.sees h3).rho (by simp [hop, Op.operands])]
      exact q.2
  | load t x =>
    simp only [hop] at h
    have hn := hns (by simp [hop, memOp])
    have hxm : x ∈ oi.op.operands := by simp [hop, Op.operands]
    cases hx : st.ev x with
    | p g b off =>
      simp only [hx] at h
      obtain ⟨cs, v, k2, k3, k4⟩ := h
      refine vG_mono (fun st' w' q => ⟨q.1, (q.1.sees h3).known hk, hs, ?_⟩) (swapGA h1 h2 k4)
      simp only [hop]
      rw [(q.1.sees h3).ev hxm, hx]
      refine ⟨cs, v, ?_, k3, q.2⟩
      rcases q.1.mem hn g with e | e
      · rw [k2] at e; exact absurd e.1 (by simp)
      · rw [e]; exact k2
    | v y =>
      simp only [hx] at h
      obtain ⟨v, k2, k4⟩ := h
      refine vG_mono (fun st' w' q => ⟨q.1, (q.1.sees h3).known hk, hs, ?_⟩) (swapGA h1 h2 k4)
      simp only [hop]
      rw [(q.1.sees h3).ev hxm, hx]
      exact ⟨v, fun w'' l => by rw [(q.1.sees h3).exec hs]; exact k2 w'' ((q.1.later hn).trans l), q.2⟩
  | store t x y => simp [hop, lightOp] at hl
  | call c => simp [hop, lightOp] at hl
  | buildSlice a b c => simp [hop, lightOp] at hl
  | makeSlice a b c => simp [hop, lightOp] at hl
  | select a b => simp [hop, lightOp] at hl
  | _ =>
    simp only [hop] at h
    obtain ⟨v, k1, k2⟩ := h
    refine vG_mono (fun st' w' q => ⟨q.1, (q.1.sees h3).known hk, hs, ?_⟩) (swapGA h1 h2 k2)
    simp only [hop]
    exact ⟨v, fun w => by rw [(q.1.sees h3).exec hs]; exact k1 w, by rw [(q.1.sees h3).res]; exact q.2⟩
theorem vG_swap {st : St} (hl : lightOp oi.op = true) (hap : oi.apart ops oj = true) (hns : memOp oi.op = true → isStore oj.op = false)
    (h : vG P ops Ri oi st w (fun st' w' => vG P ops Rj oj st' w' K)) : vG P ops Rj oj st w (fun st' w' => vG P ops Ri oi st' w' K) := by
  obtain ⟨h1, h2, h3⟩ := Oper.apart_spec hap
  cases hg : oi.guard with
  | none =>
    have h' : vOp P Ri oi st w (fun st' w' => vG P ops Rj oj st' w' K) := by unfold vG at h; simp only [hg] at h; exact h
    refine vG_mono (fun st' w' q => ?_) (vOp_swap hl hap hns h')
    unfold vG
    simp only [hg]
    exact q.2
  | some gt =>
    obtain ⟨g, t⟩ := gt
    have h' : ∃ d x, (ops[g]?).bind (·.dst) = some d ∧ st.env d = some (.v x) ∧ (x = .bool t → vOp P Ri oi st w (fun st' w' => vG P ops Rj oj st' w' K)) ∧ (x ≠ .bool t → vG P ops Rj oj (st.put oi.dst (.v undef)) w K) := by
      have h' := h
      unfold vG at h'
      simp only [hg] at h'
      obtain ⟨d, x, k1, k2, k3, k4⟩ := h'
      refine ⟨d, x, k1, k2, k3, fun q => ?_⟩
      unfold vG
      exact k4 q
    obtain ⟨d, x, k1, k2, k3, k4⟩ := h'
    have keep : ∀ st' w', Step oj st st' w w' → st'.env d = some (.v x) := fun st' w' q => by
      rw [q.env d (fun e => h3 d e (List.mem_append_right _ (by simp [hg, k1])))]
      exact k2
    by_cases hx : x = .bool t
    · refine vG_mono (fun st' w' q => ?_) (vOp_swap hl hap hns (k3 hx))
      unfold vG
      simp only [hg]
      exact ⟨d, x, k1, keep st' w' q.1, fun _ => q.2, fun e => absurd hx e⟩
    · refine vG_mono (fun st' w' q => ?_) (swapGA h1 h2 (k4 hx))
      unfold vG
      simp only [hg]
      exact ⟨d, x, k1, keep st' w' q.1, fun e => absurd e hx, fun _ => q.2⟩
end
end Go.Proofs.Ytklankodjjkhiaa
