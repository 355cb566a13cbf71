/-
 More of the small logic: regions that draw their order in which something is written, where len of slices comes ahead, too (as Wp.drawnX, but with len among what only reckons). No conditions.
-/
import Derived.Test.YthihioakjpmnbaaGreatOnc
namespace Go.Proofs.YthihioakjpmnbaaGreat
open Go.RowKit

section
variable {P : Program} {n B : Nat} {hol : List Nat} {w0 w : World} {st : St} {md : Region.Mode} {ops : Array Oper} {Rs : Nat → Value → World → Prop} {K : St → World → Prop} {Q Q' : Exit → Act → World → Prop}
/-- What only reckons, one operation after the other, and len of slices. -/
def vM (P : Program) (B : Nat) (ops : Array Oper) (K : St → World → Prop) : List Nat → St → World → Prop
 | [], st, w => K st w
 | i :: r, st, w => ((∃ o, ops[i]? = some o ∧ puOp o.op = true) ∧ vOrd P B false ops (fun _ _ _ => True) (vM P B ops K r) [i] st w) ∨
  (∃ (d : Nat) (x : Operand) (t e : TypeId) (a : Option Addr) (l c : Nat) (ty : TypeId) (pos : String) (aft : Array Edge), ops[i]? = some ⟨some d, .call ⟨.builtin .len, #[x], #[t]⟩, ty, pos, aft, none⟩ ∧ known st ⟨some d, .call ⟨.builtin .len, #[x], #[t]⟩, ty, pos, aft, none⟩ = true ∧ st.ev x = .v (.slice a l c) ∧ P.underlying t = some (.slice e) ∧ vM P B ops K r (st.put (some d) (.v (.int .i64 l))) w)
def okM (md : Region.Mode) (ops : Array Oper) : Array Bool → List Nat → Bool
 | _, [] => true
 | listed, i :: r => (Region.ready md ops listed).contains i && Region.free md ops listed i && (match ops[i]? with | some o => o.guard.isNone | none => false) && okM md ops (listed.setIfInBounds i true) r
theorem vM_sound {m : Nat} (hd : dstsIn n ops = true) (hs : Region.noSelect ops = true) (hQ : ∀ c a w, ¬ Q (.panic c) a w) :
  ∀ (E : List Nat) (listed : Array Bool) (st : St) (a : Act) (w : World), Holds n hol w0 st a w → okM md ops listed E = true → vM P B ops K E st w →
   (∀ st a w, Holds n hol w0 st a w → K st w → wpAny P md ops Q m (toEnd listed E) a w) → wpAny P md ops Q (E.length + m) listed a w
 | [], _, st, a, w, H, _, h, hk => by
  rw [List.length_nil, Nat.zero_add]
  exact hk st a w H h
 | i :: r, listed, st, a, w, H, ho, h, hk => by
  rcases h with ⟨⟨o', hi', hp⟩, h⟩ | ⟨d, x, t, e, ad, l, c, ty, pos, aft, hi, hkn, hx, hu, hK⟩
  ·obtain ⟨o, hi, h⟩ := h
   rw [hi'] at hi
   cases hi
   have h := h.resolve_right (fun q => by cases q.1)
   simp only [okM, hi', Bool.and_eq_true] at ho
   obtain ⟨⟨⟨h1, h2⟩, h4⟩, h5⟩ := ho
   have hg : o'.guard = none := by simpa using h4
   unfold vG at h
   simp only [hg] at h
   obtain ⟨hk', hsel, h⟩ := h
   have hv : ∃ v, (∀ w, (execOp st.rho o').run P w = .ok (.value v) w) ∧ vM P B ops K r (st.put o'.dst (resSV st o' v)) w := by
    split at h <;> first | exact h | (rename_i hop; simp [hop, puOp] at hp)
   obtain ⟨v, hr, hK⟩ := hv
   have hy : Yields P ops o' v a := .inl ⟨by simp [Region.wanted, hg], fun w => by rw [H.exec hk' hsel]; exact hr w⟩
   have H' := H.put o'.dst (dstsIn_spec hd hi') (resSV st o' v)
   rw [res_val hr] at H'
   rw [List.length_cons, Nat.add_right_comm]
   exact wpAny_first hi' (fun j o cs b => Region.noSelect_spec hs j o cs b) (fun c a w q => absurd q (hQ _ _ _)) _ listed a w (Region.free_spec hi' h2) (by simpa using h1) hy (vM_sound hd hs hQ r _ _ _ _ H' h5 hK hk)
  ·simp only [okM, hi, Bool.and_eq_true] at ho
   obtain ⟨⟨⟨h1, h2⟩, h4⟩, h5⟩ := ho
   have hr := fun w => run_len_slice (P := P) (st := st) (d := d) (ty := ty) (pos := pos) (aft := aft) (g := none) hx hu w
   have hy : Yields P ops (⟨some d, .call ⟨.builtin .len, #[x], #[t]⟩, ty, pos, aft, none⟩ : Oper) (.int .i64 l) a := .inl ⟨by simp [Region.wanted], fun w => by rw [H.exec hkn rfl]; exact hr w⟩
   have H' := H.put (some d) (dstsIn_spec hd hi) (.v (.int .i64 l))
   rw [List.length_cons, Nat.add_right_comm]
   exact wpAny_first hi (fun j o cs b => Region.noSelect_spec hs j o cs b) (fun c a w q => absurd q (hQ _ _ _)) _ listed a w (Region.free_spec hi h2) (by simpa using h1) hy (vM_sound hd hs hQ r _ _ _ _ H' h5 hK hk)
theorem Wp.drawnM {K : Exit → St → World → Prop} {id : Nat} {ops : Array Oper} (hm : P.follows .mixedOrders = true) (hd : dstsIn n ops = true) (hs : Region.noSelect ops = true) (E : List Nat) (m : Nat) (L : Array Bool) (hl : E.length + m = ops.size) (ho : okM .any ops (Array.replicate ops.size false) E = true) (hL : toEnd (Array.replicate ops.size false) E = L)
  (h : ∀ w', Later w w' → vM P w0.heap.size ops (vTree P .any w0.heap.size ops (fun _ _ _ => True) (K .normal) m L) E st w') : Wp P n hol w0 (.region id ops true) st w K := fun a H =>
 wp_region_any hm (by
  have l : Later w { w with drawn := w.drawn + 1 } := Below.drew (Below.refl _ _)
  subst hL
  refine wpAny_weak (Q' := fun e a w => e = .normal ∧ ∃ st', Holds n hol w0 st' a w ∧ K .normal st' w) (fun e a w q => by obtain ⟨rfl, q⟩ := q; exact q) _ _ _ _ ?_
  have q := vM_sound hd hs (Q := fun e a w => e = .normal ∧ ∃ st', Holds n hol w0 st' a w ∧ K .normal st' w) (fun c a w q => by cases q.1) E _ _ _ _ (H.later l) ho (h _ l) (fun st a w H' q => vTree_sound hd (Nat.le_refl _) (fun st a w H q => ⟨rfl, st, H, q⟩) _ _ _ _ _ H' q)
  rw [hl] at q
  exact q)
theorem vM_nil (h : K st w) : vM P B ops K [] st w := h
theorem vM_op {i : Nat} {r : List Nat} {o : Oper} (ho : ops[i]? = some o) (hp : puOp o.op = true) (h : vOrd P B false ops (fun _ _ _ => True) (vM P B ops K r) [i] st w) : vM P B ops K (i :: r) st w := .inl ⟨⟨o, ho, hp⟩, h⟩
theorem vM_len {i : Nat} {r : List Nat} {d : Nat} {x : Operand} {t e : TypeId} {a : Option Addr} {l c : Nat} {ty : TypeId} {pos : String} {aft : Array Edge} (ho : ops[i]? = some ⟨some d, .call ⟨.builtin .len, #[x], #[t]⟩, ty, pos, aft, none⟩) (hk : known st ⟨some d, .call ⟨.builtin .len, #[x], #[t]⟩, ty, pos, aft, none⟩ = true) (hx : st.ev x = .v (.slice a l c)) (hu : P.underlying t = some (.slice e))
  (h : vM P B ops K r (st.put (some d) (.v (.int .i64 l))) w) : vM P B ops K (i :: r) st w := .inr ⟨d, x, t, e, a, l, c, ty, pos, aft, ho, hk, hx, hu, h⟩
end
end Go.Proofs.YthihioakjpmnbaaGreat
