/-
  What is shown in the small logic holds of the machine: an operation, a region in the order of its text, a region that draws its order. No conditions.
-/
import Derived.Test.YtklankodjjkhiaaVcB
namespace Go.Proofs.Ytklankodjjkhiaa
open Go.RowKit

section
variable {P : Program} {n : Nat} {w0 : World} {st : St} {a : Act} {w : World} {K : St → World → Prop} {Q : Exit → Act → World → Prop} {R : Value → World → Prop} {o : Oper}
theorem runs_sound (H : Holds n w0 st a w) (hd : ∀ k, o.dst = some k → k < n)
    (h : (∀ wc, Later w wc → RunsTo P o st wc R) ∧ ∀ v wc w1 w2, Later w wc → Later wc w1 → R v w1 → Later w1 w2 → K (st.put o.dst (.v v)) w2) :
    o.upon P a (fun a' w' => ∃ st', Holds n w0 st' a' w' ∧ K st' w') Q ((execOp st.rho o).run P w) := by
  obtain ⟨hr, hK⟩ := h
  have hr := hr w (Later.refl w)
  unfold RunsTo at hr
  split at hr
  · rename_i v w' hrun
    rw [hrun]
    exact ⟨_, (H.later hr.2).put o.dst hd (.v v), hK v w w' w' (Later.refl w) hr.2 hr.1 (Later.refl _)⟩
  · rename_i f args w' hrun
    rw [hrun]
    refine Calls.mono hr (fun e w'' he => ?_)
    obtain ⟨v, rfl, hR, hl⟩ := he
    exact ⟨_, (H.later hl).put o.dst hd (.v v), hK v w w'' w'' (Later.refl w) hl hR (Later.refl _)⟩
  · rename_i row args w' hrun
    rw [hrun]
    refine Rows.mono hr (fun v w'' he => ?_)
    exact ⟨_, (H.later he.2).put o.dst hd (.v v), hK v w w'' w'' (Later.refl w) he.2 he.1 (Later.refl _)⟩
  · exact hr.elim
theorem vOp_sound (H : Holds n w0 st a w) (hd : ∀ k, o.dst = some k → k < n) (h : vOp P R o st w K) :
    o.wp P a w (fun a' w' => ∃ st', Holds n w0 st' a' w' ∧ K st' w') Q := by
  obtain ⟨hk, hs, h⟩ := h
  unfold Oper.wp
  rw [H.exec hk hs]
  split at h
  · rename_i t hop
    obtain ⟨d, z, hdst, hm, hz, hK⟩ := h
    have hrun : (execOp st.rho o).run P w = .ok (.value (.pointer (some ⟨w.heap.size, 0, none⟩))) (w.alloc (.cells z.cells t)) := by
      unfold zeroOf at hz
      cases hi : P.info? t with
      | none => simp [hi] at hz
      | some i =>
        simp only [hi, Option.bind_some] at hz
        simp [execOp, hop, Instr.alloc, zeroValue, typeInfo, hi, hz, newVar, newRow]
    rw [hrun]
    simp only [Oper.upon, hdst]
    have H' := H.new d (hd d hdst) hm z.cells.toList t
    simp only [Array.toArray_toList] at H'
    exact ⟨_, H', hK _ _ (Nat.le_refl _) (Later.alloc _ _)⟩
  · rename_i t x hop
    obtain ⟨d, hdst, hm, hK⟩ := h
    have hrun : (execOp st.rho o).run P w = .ok (.value (.pointer (some ⟨w.heap.size, 0, none⟩))) (w.alloc (.cells (st.rho x).cells t)) := by
      simp [execOp, hop, Instr.box, newVar, newRow]
    rw [hrun]
    simp only [Oper.upon, hdst]
    have H' := H.new d (hd d hdst) hm (st.rho x).cells.toList t
    simp only [Array.toArray_toList] at H'
    exact ⟨_, H', hK _ _ (Nat.le_refl _) (Later.alloc _ _)⟩
  · rename_i t x hop
    split at h
    · rename_i g b off hx
      obtain ⟨cs, v, hm, hr, hK⟩ := h
      have hrun : (execOp st.rho o).run P w = .ok (.value v) w := by
        have hl := run_readOf (P := P) (H.mem g b cs hm) hr
        simp [execOp, hop, Instr.loadAt, St.rho, hx, SV.val, Instr.sureAddr, hl]
      rw [hrun]
      simp only [Oper.upon]
      exact ⟨_, H.put o.dst hd (.v v), hK⟩
    · obtain ⟨v, hr, hK⟩ := h
      rw [hr w (Later.refl w)]
      simp only [Oper.upon]
      exact ⟨_, H.put o.dst hd (.v v), hK⟩
  · rename_i t x y hop
    obtain ⟨h, b, off, cs, cs', hx, hm, hr, hdst, hK⟩ := h
    have hv := H.mem h b cs hm
    obtain ⟨w', hw, hst, hv'⟩ := run_writeOf (P := P) hv hr
    have hrun : (execOp st.rho o).run P w = .ok .skip w' := by
      have hx' : st.rho x = .pointer (some ⟨b, off, none⟩) := by simp [St.rho, hx, SV.val]
      simp [execOp, hop, Instr.storeAt, hx', Instr.sureAddr, hw]
    rw [hrun]
    simp only [Oper.upon, hdst]
    exact ⟨_, H.set hm hst hv', hK w' hst hv⟩
  · exact runs_sound H hd h
  · exact runs_sound H hd h
  · exact runs_sound H hd h
  · obtain ⟨v, hr, hK⟩ := h
    rw [hr w]
    simp only [Oper.upon]
    have e : (resSV st o v).val = v := by
      unfold resSV
      split
      · rename_i x hop
        have := hr w
        simp [execOp, hop] at this
        exact this
      · rename_i x hop
        have := hr w
        simp [execOp, hop] at this
        exact this
      · split <;> rfl
      · rfl
    have H' := H.put o.dst hd (resSV st o v)
    rw [e] at H'
    exact ⟨_, H', hK⟩
theorem vG_sound {ops : Array Oper} {i : Nat} (ho : ops[i]? = some o) (H : Holds n w0 st a w) (hd : ∀ k, o.dst = some k → k < n) (h : vG P ops R o st w K) :
    wpOp P ops Q i (fun a' w' => ∃ st', Holds n w0 st' a' w' ∧ K st' w') a w := by
  unfold wpOp
  simp only [ho]
  unfold vG at h
  split at h
  · rename_i hg
    have hw : Region.wanted o (yielded ops a.tmps) = true := by simp [Region.wanted, hg]
    rw [if_pos hw]
    exact .inl (vOp_sound H hd h)
  · rename_i g t hg
    obtain ⟨d, x, h1, h2, h3, h4⟩ := h
    have hy := H.env d (.v x) h2
    have hw : Region.wanted o (yielded ops a.tmps) = true ↔ x = .bool t := by
      simp only [Region.wanted, hg, yielded, h1, Option.bind_some, hy, SV.val]
      cases x <;> simp
    by_cases hx : x = .bool t
    · rw [if_pos (hw.2 hx)]
      exact .inl (vOp_sound H hd (h3 hx))
    · rw [if_neg (fun h => hx (hw.1 h))]
      exact ⟨_, H.put o.dst hd (.v undef), h4 hx⟩
end

/-! ### A region in the order of its text -/
def vList (P : Program) (ops : Array Oper) (Rs : Nat → Value → World → Prop) (K : St → World → Prop) : Nat → List Oper → St → World → Prop
  | _, [], st, w => K st w
  | i, o :: rest, st, w => vG P ops (Rs i) o st w (vList P ops Rs K (i + 1) rest)

/-! ### A region that draws its order -/
def vAny (P : Program) (md : Region.Mode) (ops : Array Oper) (Rs : Nat → Value → World → Prop) (K : St → World → Prop) : Nat → Array Bool → St → World → Prop
  | 0, listed, st, w => Region.ready md ops listed = [] ∧ K st w
  | fuel + 1, listed, st, w =>
    (Region.ready md ops listed = [] → K st w) ∧
    ∀ i ∈ Region.ready md ops listed, ∀ o, ops[i]? = some o → vG P ops (Rs i) o st w (vAny P md ops Rs K fuel (listed.setIfInBounds i true))
def dstsIn (n : Nat) (ops : Array Oper) : Bool := ops.toList.all fun o => match o.dst with | some d => Nat.blt d n | none => true
section
variable {P : Program} {n : Nat} {w0 : World} {md : Region.Mode} {ops : Array Oper} {Rs : Nat → Value → World → Prop} {K : St → World → Prop} {Q : Exit → Act → World → Prop}
theorem dstsIn_spec (h : dstsIn n ops = true) {i : Nat} {o : Oper} (ho : ops[i]? = some o) : ∀ k, o.dst = some k → k < n := by
  intro k hk
  have hm : o ∈ ops.toList := by simpa using Array.mem_of_getElem? ho
  have := List.all_eq_true.1 h o hm
  simp only [hk] at this
  simpa [Nat.blt_eq] using this
theorem vAny_sound (hd : dstsIn n ops = true) (hq : ∀ st a w, Holds n w0 st a w → K st w → Q .normal a w) :
    ∀ (fuel : Nat) (listed : Array Bool) (st : St) (a : Act) (w : World), Holds n w0 st a w → vAny P md ops Rs K fuel listed st w → wpAny P md ops Q fuel listed a w
  | 0, _, _, _, _, H, h => ⟨h.1, hq _ _ _ H h.2⟩
  | fuel + 1, _, _, _, _, H, h => by
    refine ⟨fun he => hq _ _ _ H (h.1 he), fun i hi => ?_⟩
    obtain ⟨_, o, ho, _⟩ := mem_ready.1 hi
    refine wpOp_mono (fun a' w' ⟨st', H', h'⟩ => vAny_sound hd hq fuel _ st' a' w' H' h') (vG_sound ho H (dstsIn_spec hd ho) (h.2 i hi o ho))
theorem vList_sound (hd : dstsIn n ops = true) (hq : ∀ st a w, Holds n w0 st a w → K st w → Q .normal a w) :
    ∀ (l : List Oper) (i : Nat) (st : St) (a : Act) (w : World), (∀ j, l[j]? = ops[i + j]?) → Holds n w0 st a w → vList P ops Rs K i l st w → wpOps P ops Q (List.range' i l.length) a w
  | [], _, _, _, _, _, H, h => hq _ _ _ H h
  | o :: rest, i, _, _, _, hl, H, h => by
    have ho : ops[i]? = some o := by simpa using (hl 0).symm
    rw [List.length_cons, List.range'_succ, wpOps_cons]
    refine wpOp_mono (fun a' w' ⟨st', H', h'⟩ => vList_sound hd hq rest (i + 1) st' a' w' (fun j => ?_) H' h') (vG_sound ho H (dstsIn_spec hd ho) h)
    have := hl (j + 1)
    simpa [Nat.add_assoc, Nat.add_comm 1 j] using this
end
end Go.Proofs.Ytklankodjjkhiaa
