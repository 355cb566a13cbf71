/-
  Rows of the call's own that are grown and stored into; three and four operations that Go leaves open against one another. No conditions.
-/
import Derived.Test.YtokpneglldfmjaaVcN
import Derived.Maps.AppendAt
namespace Go.Proofs.Ytokpneglldfmjaa
open Go.RowKit
set_option maxRecDepth 100000

theorem Var.sto {w w' : World} {g b : Nat} {cs : List Value} (h : Var w g cs) (s : Stored b w w') (hb : g ≠ b) : Var w' g cs := by
  obtain ⟨t, h⟩ := h
  exact ⟨t, by rw [s.block g hb]; exact h⟩
theorem Var.grown {w w' : World} {g : Nat} {row : Option Nat} {cs : List Value} (h : Var w g cs) (s : w.grownBy w' row) (hb : some g ≠ row) : Var w' g cs := by
  have hlt := h.lt
  obtain ⟨t, h⟩ := h
  exact ⟨t, by rw [s.block g hlt hb]; exact h⟩
theorem own_rowK {w : World} {base : Nat} {e : TypeId} {sz : Nat} {v : Value} {n : Nat} {xs : List Value} (h : w.ownsRow base e sz v n xs) (hn : 0 < n) : ∃ g cap cs, v = .slice (some ⟨g, 0, none⟩) n cap ∧ base ≤ g ∧ RowIs w g e cs ∧ n ≤ cap ∧ cs.length = cap * sz ∧ cs.take (n * sz) = xs ∧ ∀ w' cs', RowIs w' g e cs' → cs'.length = cap * sz → w'.ownsRow base e sz v n (cs'.take (n * sz)) := by
  obtain ⟨h1, h | ⟨g, cap, cur, hv, hg, hr, hc, hm, hs, ht⟩⟩ := h
  · omega
  · refine ⟨g, cap, cur.toList, hv, hg, by unfold RowIs; simpa using hr, hc, by simpa using hs, ht, fun w' cs' hr' hl => ⟨?_, .inr ⟨g, cap, cs'.toArray, hv, hg, hr', hc, hm, by simpa using hl, by simp⟩⟩⟩
    rw [List.length_take, hl, Nat.min_eq_left (Nat.mul_le_mul_right _ hc)]
theorem own_sliceK {w : World} {base : Nat} {e : TypeId} {sz : Nat} {v : Value} {n : Nat} {xs : List Value} (h : w.ownsRow base e sz v n xs) : ∃ a c, v = .slice a n c := by
  obtain ⟨_, ⟨rfl, rfl⟩ | ⟨g, cap, _, rfl, _⟩⟩ := h
  · exact ⟨_, _, rfl⟩
  · exact ⟨_, _, rfl⟩
theorem cell_var {w : World} {b : Nat} {cs : List Value} (h : Var w b cs) (j : Nat) : w.cell? ⟨b, j, none⟩ = cs[j]? := by
  obtain ⟨t, h⟩ := h
  rw [cell_of_row w b j _ t _ h]; simp
section
variable {P : Program} {B : Nat} {lax : Bool} {ops : Array Oper} {Rs : Nat → Value → World → Prop} {K : St → World → Prop} {i : Nat} {rest : List Nat} {st : St} {w : World}
variable {d : Nat} {ty : TypeId} {pos : String} {aft : Array Edge} {g : Option (Nat × Bool)}
/-- append of what lies anywhere, any size; where the new row lies. -/
theorem x_appendW {t e : TypeId} {ii : TypeInfo} {z : Value} {s x : Operand} {v : Value} {base n m c b off sz bs : Nat} {xs news : List Value} (ho : ops[i]? = some ⟨some d, .call ⟨.builtin .append, #[s, x], #[t, t]⟩, ty, pos, aft, g⟩) (hg : gok ops st g = true) (hk : known st ⟨some d, .call ⟨.builtin .append, #[s, x], #[t, t]⟩, ty, pos, aft, g⟩ = true)
    (hs : st.ev s = .v v) (hx : st.ev x = .v (.slice (some ⟨b, off, none⟩) m c)) (ht : P.underlying t = some (.slice e)) (hi : P.info? e = some ii) (hz : ii.zero = some z) (hsz : ii.size = sz) (hbs : ii.bytes = bs) (hzs : z.cells.size = sz) (hp : 0 < sz)
    (hown : w.ownsRow base e sz v n xs) (hc : ∀ j y, news[j]? = some y → w.cell? ⟨b, off + j, none⟩ = some y) (hl : news.length = m * sz) (h1 : ∀ u ∈ news, u.oneCell' = true) (h63 : n + m ≤ 9223372036854775807) (hby : (n + m) * bs ≤ 140737488355328) (hbase : base ≤ w.heap.size) (hB : B ≤ base)
    (ha : AllMem (fun k => v.ownBlock ≠ some k) st)
    (h : ∀ v' w', w'.ownsRow base e sz v' (n + m) (xs ++ news) → w.grownBy w' v.ownBlock → (v'.ownBlock = v.ownBlock ∨ v'.ownBlock = some w.heap.size) → vOrd P B true ops Rs K rest (st.put (some d) (.v v')) w') : vOrd P B true ops Rs K (i :: rest) st w := by
  have es : st.rho s = v := by rw [St.rho, hs]; rfl
  have ex : st.rho x = .slice (some ⟨b, off, none⟩) m c := by rw [St.rho, hx]; rfl
  obtain ⟨v', w', hr, ho', hgr, _, hat⟩ := run_append_own_at (P := P) w base t ty e ii z sz bs ht hi hz hsz hbs hzs hp v n xs hown ⟨b, off, none⟩ m c news hl (fun j u hj => by
    rw [addr_add]; exact hc j u hj) h1 (by simp only [maxLen]; omega) hby hbase
  refine ⟨_, ho, .inr ⟨rfl, hg, hk, rfl, .inr (.inr (.inl (fun _ => ⟨v', w', v.ownBlock, ?_, hgr, fun k e => Nat.le_trans hB (hown.lt k e).1, ha, h v' w' ho' hgr hat⟩)))⟩⟩
  simp [execOp, es, ex, resolve, invoke, builtin, hr]
end
section
variable {P : Program} {B : Nat} {w : World} {st : St} {md : Region.Mode} {ops : Array Oper} {Rs : Nat → Value → World → Prop} {K : St → World → Prop}
theorem vTree_three {listed L1 L2 L3 : Array Bool} {m i k j : Nat} (hr : Region.ready md ops listed = [i, k, j]) (hL1 : listed.setIfInBounds i true = L1) (hL2 : listed.setIfInBounds k true = L2) (hL3 : listed.setIfInBounds j true = L3)
    (h1 : vOrd P B true ops Rs (vTree P md B ops Rs K m L1) [i] st w) (h2 : vOrd P B true ops Rs (vTree P md B ops Rs K m L2) [k] st w) (h3 : vOrd P B true ops Rs (vTree P md B ops Rs K m L3) [j] st w) : vTree P md B ops Rs K (m + 1) listed st w :=
  ⟨by rw [hr]; simp, fun q hq => by
    rw [hr] at hq
    simp only [List.mem_cons, List.not_mem_nil, or_false] at hq
    rcases hq with rfl | rfl | rfl
    · subst hL1; exact h1
    · subst hL2; exact h2
    · subst hL3; exact h3⟩
theorem vTree_four {listed L1 L2 L3 L4 : Array Bool} {m i k j l : Nat} (hr : Region.ready md ops listed = [i, k, j, l]) (hL1 : listed.setIfInBounds i true = L1) (hL2 : listed.setIfInBounds k true = L2) (hL3 : listed.setIfInBounds j true = L3) (hL4 : listed.setIfInBounds l true = L4)
    (h1 : vOrd P B true ops Rs (vTree P md B ops Rs K m L1) [i] st w) (h2 : vOrd P B true ops Rs (vTree P md B ops Rs K m L2) [k] st w) (h3 : vOrd P B true ops Rs (vTree P md B ops Rs K m L3) [j] st w) (h4 : vOrd P B true ops Rs (vTree P md B ops Rs K m L4) [l] st w) : vTree P md B ops Rs K (m + 1) listed st w :=
  ⟨by rw [hr]; simp, fun q hq => by
    rw [hr] at hq
    simp only [List.mem_cons, List.not_mem_nil, or_false] at hq
    rcases hq with rfl | rfl | rfl | rfl
    · subst hL1; exact h1
    · subst hL2; exact h2
    · subst hL3; exact h3
    · subst hL4; exact h4⟩
end
end Go.Proofs.Ytokpneglldfmjaa
