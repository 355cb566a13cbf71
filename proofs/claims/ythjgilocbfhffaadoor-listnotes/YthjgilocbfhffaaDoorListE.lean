/-
  Leap second files: the reference's Parse. Of any text.
-/
import Derived.Test.YthjgilocbfhffaaDoorListD
namespace Go.Proofs.YthjgilocbfhffaaDoor
open Go.RowKit
set_option maxRecDepth 100000

/-! ### Facts on rows of the call's own -/
theorem own_ne {w : World} {base : Nat} {e : TypeId} {sz : Nat} {v : Value} {n b : Nat} {xs : List Value} (h : w.ownsRow base e sz v n xs) (hb : b < base ∨ w.heap.size ≤ b) : v.ownBlock ≠ some b := by
  rcases h.2 with ⟨h1, _⟩ | ⟨g, cap, cur, h1, h2, h3, _⟩
  · subst h1; simp [Value.ownBlock]
  · subst h1
    have := (Array.getElem?_eq_some_iff.1 h3).1
    simp only [Value.ownBlock, ne_eq, Option.some.injEq]
    omega
theorem own_sto {w w' : World} {base : Nat} {e : TypeId} {sz : Nat} {v : Value} {n b : Nat} {xs : List Value} (h : w.ownsRow base e sz v n xs) (s : Stored b w w') (hb : v.ownBlock ≠ some b) : w'.ownsRow base e sz v n xs := h.kept (grown_of_stored s) (.inr hb)
theorem Var.sto {w w' : World} {g b : Nat} {cs : List Value} (h : Var w g cs) (s : Stored b w w') (hb : g ≠ b) : Var w' g cs := by
  obtain ⟨t, h⟩ := h
  exact ⟨t, by rw [s.block g hb]; exact h⟩
theorem Var.grown {w w' : World} {g : Nat} {row : Option Nat} {cs : List Value} (h : Var w g cs) (s : w.grownBy w' row) (hb : some g ≠ row) : Var w' g cs := by
  have hlt := h.lt
  obtain ⟨t, h⟩ := h
  exact ⟨t, by rw [s.block g hlt hb]; exact h⟩
/-- The cells of a list of entries. -/
def entC (es : List Ent) : List Value := (es.map fun a => [.int .i64 a.1, .int .i64 a.2]).flatten
theorem entC_app (es : List Ent) (a : Ent) : entC (es ++ [a]) = entC es ++ [.int .i64 a.1, .int .i64 a.2] := by simp [entC]
theorem entC_at : ∀ (es : List Ent) (j : Nat) (x : Ent), es[j]? = some x → (entC es)[j * 2]? = some (.int .i64 x.1) ∧ (entC es)[j * 2 + 1]? = some (.int .i64 x.2)
  | [], j, x, h => by simp at h
  | a :: es, 0, x, h => by
    simp only [List.getElem?_cons_zero, Option.some.injEq] at h
    subst h
    exact ⟨rfl, rfl⟩
  | a :: es, j + 1, x, h => by
    have := entC_at es j x (by simpa using h)
    rw [show (j + 1) * 2 = j * 2 + 1 + 1 by omega]
    exact this
theorem entC_len (es : List Ent) : (entC es).length = es.length * 2 := by
  induction es with
  | nil => rfl
  | cons a es ih => simp only [entC, List.map_cons, List.flatten_cons, List.length_append, List.length_cons, List.length_nil] at ih ⊢; omega
theorem ents_own {w : World} {base : Nat} {v : Value} {es : List Ent} (h : w.ownsRow base 43 2 v es.length (entC es)) (hi : ∀ j, j < es.length → okAt es j = true) : EntAt w v es := by
  rcases h.2 with ⟨h1, h2⟩ | ⟨g, cap, cur, h1, _, h3, h4, _, _, h7⟩
  · subst h1
    exact ⟨none, 0, by rw [h2], by omega, fun j x hj => by have := (List.getElem?_eq_some_iff.1 hj).1; omega⟩
  · refine ⟨_, cap, h1, h4, fun j x hj => ?_⟩
    have hx := ok_ents hi hj
    have hlt := (List.getElem?_eq_some_iff.1 hj).1
    have hc := entC_at es j x hj
    have key : ∀ q u, q < es.length * 2 → (entC es)[q]? = some u → w.cell? ⟨g, 0 + q, none⟩ = some u := fun q u hq hu => by
      rw [Nat.zero_add, cell_of_row w g q _ _ _ h3]
      rw [← h7, List.getElem?_take_of_lt hq] at hu
      simpa using hu
    refine ⟨by unfold I64; omega, by unfold I64; omega, g, 0, rfl, key _ _ (by omega) hc.1, ?_⟩
    have := key _ _ (by omega) hc.2
    rwa [← Nat.add_assoc] at this
theorem ents_calm {es : List Ent} (h : ∀ j, j < es.length → okAt es j = true) : Calm es := fun a ha => by
  have := (ok_ents h ha).2
  omega
theorem lines_own {w : World} {base : Nat} {v : Value} {L : List (List UInt8)} (h : w.ownsRow base 9 1 v L.length (strsV L)) : ∃ a c, v = .slice a L.length c ∧ (0 < L.length → ∃ g cs, a = some ⟨g, 0, none⟩ ∧ Var w g cs ∧ cs.take L.length = strsV L ∧ base ≤ g) := by
  by_cases h0 : 0 < L.length
  · obtain ⟨g, cap, cs, rfl, hg, hv, ht⟩ := own_row h h0
    exact ⟨_, _, rfl, fun _ => ⟨g, cs, rfl, hv, ht, hg⟩⟩
  · obtain ⟨a, c, rfl⟩ := own_slice h
    exact ⟨a, c, rfl, fun h => absurd h h0⟩
theorem line_cell {w : World} {g i : Nat} {cs : List Value} {L : List (List UInt8)} {x : List UInt8} (hv : Var w g cs) (ht : cs.take L.length = strsV L) (hx : L[i]? = some x) : w.cell? ⟨g, i, none⟩ = some (.string ⟨⟨x⟩⟩) := by
  obtain ⟨t, hg⟩ := hv
  have hlt := (List.getElem?_eq_some_iff.1 hx).1
  rw [cell_of_row w g i _ t (0, 0) hg]
  have : (strsV L)[i]? = some (.string ⟨⟨x⟩⟩) := by simp [strsV, hx]
  rw [← ht, List.getElem?_take_of_lt hlt] at this
  simpa using this
/-! ### What a line says, and a step -/
theorem scanP_some (l : List UInt8) : (scanP l).isSome = (scanL l).isSome := by rw [scan_P]; simp
theorem map_inj {f : Int → Value} (hf : ∀ x y, f x = f y → x = y) : ∀ {a b : List Int}, a.map f = b.map f → a = b
  | [], [], _ => rfl
  | [], _ :: _, h => by simp at h
  | _ :: _, [], h => by simp at h
  | x :: a, y :: b, h => by
    simp only [List.map_cons, List.cons.injEq] at h
    rw [hf x y h.1, map_inj hf h.2]
theorem lineQ_eq {k a b v0 v1 v2 v3 v4 : Int} {q : Int × Int × Int × List Int} (h : lineQ q = lineC k a b [v0, v1, v2, v3, v4]) : q = (k, a, b, [v0, v1, v2, v3, v4]) := by
  obtain ⟨k', a', b', ws⟩ := q
  simp only [lineQ, lineC, List.cons.injEq, Value.int.injEq, true_and] at h
  obtain ⟨rfl, rfl, rfl, h⟩ := h
  rw [map_inj (fun x y e => by cases e; rfl) h]
theorem refscanV (l : List UInt8) (hl : l.length ≤ 9223372036854775807) (w : World) :
    Calls Tryd.prog 32 #[.string ⟨⟨l⟩⟩] w fun e w' => ∃ r, e = .returned r ∧ (∃ k a b v0 v1 v2 v3 v4 : Int, r = .tuple #[.agg #[.int .i64 k, .int .i64 a, .int .i64 b, .int .u32 v0, .int .u32 v1, .int .u32 v2, .int .u32 v3, .int .u32 v4], .bool (scanP l).isSome] ∧ ∀ q, scanP l = some q → q = (k, a, b, [v0, v1, v2, v3, v4])) ∧ Below w.heap.size w w' := by
  refine Calls.mono (refscan_any l hl w) ?_
  rintro e w' ⟨r, rfl, ⟨cs, ok, rfl, h1, h2, k, a, b, v0, v1, v2, v3, v4, rfl⟩, hb⟩
  refine ⟨_, rfl, ⟨k, a, b, v0, v1, v2, v3, v4, by rw [scanP_some, h1]; rfl, fun q hq => ?_⟩, hb⟩
  have hs : scanL l = some (lineQ q) := by rw [scan_P, hq]; rfl
  rw [hs] at h1
  have := h2 h1.symm
  rw [hs] at this
  exact lineQ_eq (Option.some.inj this)
theorem scanV (l : List UInt8) (hl : l.length ≤ 9223372036854775807) (w : World) :
    Calls Tryd.prog 40 #[.string ⟨⟨l⟩⟩] w fun e w' => ∃ r, e = .returned r ∧ (∃ k a b v0 v1 v2 v3 v4 : Int, r = .tuple #[.agg #[.int .i64 k, .int .i64 a, .int .i64 b, .int .u32 v0, .int .u32 v1, .int .u32 v2, .int .u32 v3, .int .u32 v4], .bool (scanP l).isSome] ∧ ∀ q, scanP l = some q → q = (k, a, b, [v0, v1, v2, v3, v4])) ∧ Below w.heap.size w w' := by
  refine Calls.mono (scan_any l hl w) ?_
  rintro e w' ⟨r, rfl, rfl, hb⟩
  cases hq : scanP l with
  | none =>
    have hs : scanL l = none := by rw [scan_P, hq]; rfl
    rw [hs]
    exact ⟨_, rfl, ⟨0, 0, 0, 0, 0, 0, 0, 0, rfl, fun q h => by cases h⟩, hb⟩
  | some q =>
    obtain ⟨k, a, b, v0, v1, v2, v3, v4, e⟩ := scanL_form (l := l) (cs := lineQ q) (by rw [scan_P, hq]; rfl)
    have e2 := lineQ_eq e
    have hs : scanL l = some (lineC k a b [v0, v1, v2, v3, v4]) := by rw [scan_P, hq, ← e]; rfl
    rw [hs]
    exact ⟨_, rfl, ⟨k, a, b, v0, v1, v2, v3, v4, rfl, fun q' h => by cases h; exact e2⟩, hb⟩
/-- The lines that were seen, by kind. -/
structure SeenOf (F : Int → Int) (s : PS) : Prop where
  s2 : F 2 = s.a2
  s3 : F 3 = s.a3
  s4 : F 4 = s.a4
  s5 : F 5 = s.a5
theorem seen_step {F : Int → Int} {s s' : PS} {n : Nat} {l : List UInt8} {k a b : Int} {ws : List Int} (h : SeenOf F s) (hq : scanP l = some (k, a, b, ws)) (hs : stepP s n l = .ok s') : SeenOf (setF F k n) s' := by
  obtain ⟨h2, h3, h4, h5⟩ := h
  have hk := (scanP_ok hq).kind
  unfold stepP at hs
  rw [hq] at hs
  simp only at hs hk
  split at hs
  · rename_i e; subst e; split at hs <;> cases hs; exact ⟨rfl, h3, h4, h5⟩
  · split at hs
    · rename_i e; subst e; split at hs <;> cases hs; exact ⟨h2, rfl, h4, h5⟩
    · split at hs
      · rename_i e; subst e; split at hs <;> cases hs; exact ⟨h2, h3, rfl, h5⟩
      · split at hs
        · rename_i e; subst e; split at hs <;> cases hs; exact ⟨h2, h3, h4, rfl⟩
        · cases hs
          have : k = 1 := by omega
          subst this
          exact ⟨h2, h3, h4, h5⟩
theorem step_none {s : PS} {n : Nat} {l : List UInt8} (h : (scanP l).isSome = false) : stepP s n l = .error 4 := by
  unfold stepP
  cases hq : scanP l with
  | none => rfl
  | some q => rw [hq] at h; cases h
theorem step_seen {F : Int → Int} {s : PS} {n : Nat} {l : List UInt8} {k a b : Int} {ws : List Int} (h : SeenOf F s) (hq : scanP l = some (k, a, b, ws)) (h1 : 2 ≤ k) (h2 : k ≤ 4) (hF : F k ≠ 0) : stepP s n l = .error 4 := by
  obtain ⟨s2, s3, s4, _⟩ := h
  unfold stepP
  rw [hq]
  simp only
  by_cases e : k = 2
  · subst e; rw [if_pos rfl, if_neg (by omega)]
  · by_cases e' : k = 3
    · subst e'; rw [if_neg e, if_pos rfl, if_neg (by omega)]
    · have : k = 4 := by omega
      subst this
      rw [if_neg e, if_neg e', if_pos rfl, if_neg (by omega)]
theorem step_1 {s : PS} {n : Nat} {l : List UInt8} {k a b : Int} {ws : List Int} (hq : scanP l = some (k, a, b, ws)) (h : k = 1) : stepP s n l = .ok s := by
  unfold stepP; rw [hq]; subst h; rfl
theorem step_2 {F : Int → Int} {s : PS} {n : Nat} {l : List UInt8} {k a b : Int} {ws : List Int} (hF : SeenOf F s) (hq : scanP l = some (k, a, b, ws)) (h : k = 2) (h0 : F k = 0) : stepP s n l = .ok { s with a2 := n, t := { s.t with u := a } } := by
  have := hF.s2
  unfold stepP; rw [hq]; subst h; simp only; rw [if_pos (show s.a2 = 0 by omega)]; rfl
theorem step_3 {F : Int → Int} {s : PS} {n : Nat} {l : List UInt8} {k a b : Int} {ws : List Int} (hF : SeenOf F s) (hq : scanP l = some (k, a, b, ws)) (h : k = 3) (h0 : F k = 0) : stepP s n l = .ok { s with a3 := n, t := { s.t with e := a } } := by
  have := hF.s3
  unfold stepP; rw [hq]; subst h; simp only; rw [if_pos (show s.a3 = 0 by omega)]; rfl
theorem step_4 {F : Int → Int} {s : PS} {n : Nat} {l : List UInt8} {k a b : Int} {ws : List Int} (hF : SeenOf F s) (hq : scanP l = some (k, a, b, ws)) (h : k = 4) (h0 : F k = 0) : stepP s n l = .ok { s with a4 := n, ws := ws } := by
  have := hF.s4
  unfold stepP; rw [hq]; subst h; simp only; rw [if_pos (show s.a4 = 0 by omega)]; rfl
theorem step_5 {s : PS} {n : Nat} {l : List UInt8} {k a b : Int} {ws : List Int} (hq : scanP l = some (k, a, b, ws)) (h : k = 5) (hs : stand s.t.es (a, b) = true) : stepP s n l = .ok { s with a5 := n, t := { s.t with es := s.t.es ++ [(a, b)] } } := by
  unfold stepP; rw [hq]; subst h; simp only; rw [if_pos hs]; rfl
theorem step_5n {s : PS} {n : Nat} {l : List UInt8} {k a b : Int} {ws : List Int} (hq : scanP l = some (k, a, b, ws)) (h : k = 5) (hs : stand s.t.es (a, b) = false) : stepP s n l = .error 10 := by
  unfold stepP; rw [hq]; subst h; simp only; rw [if_neg (by decide), if_neg (by decide), if_neg (by decide), if_pos trivial, if_neg (by rw [hs]; decide)]
theorem run_ok {L : List (List UInt8)} {i : Nat} {l : List UInt8} {s s' : PS} (hl : L[i]? = some l) (hs : stepP s (i + 1) l = .ok s') : runP (L.drop i) i s = runP (L.drop (i + 1)) (i + 1) s' := by
  rw [List.drop_eq_getElem_cons (List.getElem?_eq_some_iff.1 hl).1, (List.getElem?_eq_some_iff.1 hl).2, runP, hs]
theorem run_no {L : List (List UInt8)} {i : Nat} {l : List UInt8} {s : PS} {e : Int} (hl : L[i]? = some l) (hs : stepP s (i + 1) l = .error e) : runP (L.drop i) i s = .error (i + 1, e) := by
  rw [List.drop_eq_getElem_cons (List.getElem?_eq_some_iff.1 hl).1, (List.getElem?_eq_some_iff.1 hl).2, runP, hs]
theorem parse_over {x : List UInt8} (h : 65536 < x.length) : parseL x = (⟨0, 0, []⟩, 0, 2) := if_pos h
theorem parse_no {x : List UInt8} {i : Nat} {l : List UInt8} {s : PS} {e : Int} (h : x.length ≤ 65536) (hr : runP ((linesL x).drop i) i s = runP (linesL x) 0 PS.zero) (hl : (linesL x)[i]? = some l) (hs : stepP s (i + 1) l = .error e) : parseL x = (⟨0, 0, []⟩, i + 1, e) := by
  unfold parseL
  rw [if_neg (by omega), ← hr, run_no hl hs]
theorem parse_end {x : List UInt8} {i : Nat} {s : PS} (h : x.length ≤ 65536) (hr : runP ((linesL x).drop i) i s = runP (linesL x) 0 PS.zero) (hi : i = (linesL x).length) : parseL x = endP s (linesL x).length := by
  unfold parseL
  rw [if_neg (by omega), ← hr, List.drop_of_length_le (by omega), runP]
theorem end_lacks {s : PS} {n : Nat} (h : s.a2 = 0 ∨ s.a3 = 0 ∨ s.a4 = 0 ∨ s.a5 = 0) : endP s n = (⟨0, 0, []⟩, n + 1, 4) := if_pos h
theorem end_hash {s : PS} {n : Nat} (h : ¬ (s.a2 = 0 ∨ s.a3 = 0 ∨ s.a4 = 0 ∨ s.a5 = 0)) (hw : s.ws ≠ sumL s.t) : endP s n = (⟨0, 0, []⟩, s.a4, 11) := by
  unfold endP; rw [if_neg h, if_neg hw]
theorem end_ok {s : PS} {n : Nat} (h : ¬ (s.a2 = 0 ∨ s.a3 = 0 ∨ s.a4 = 0 ∨ s.a5 = 0)) (hw : s.ws = sumL s.t) : endP s n = (s.t, 0, 0) := by
  unfold endP; rw [if_neg h, if_pos hw]
theorem line_le {x : List UInt8} : ∀ {L : List (List UInt8)} {i : Nat}, L[i]? = some x → x.length ≤ (joinL L).length := fun h => join_mem h
theorem lines_each : ∀ (x : List UInt8) (l : List UInt8), l ∈ linesL x → l.length ≤ x.length
  | [], l, h => by simp [linesL] at h
  | c :: x, l, h => by
    have ih := lines_each x
    rw [linesL] at h
    split at h
    · rcases List.mem_cons.1 h with e | e
      · subst e; simp
      · have := ih l e; simp; omega
    · split at h
      · rename_i e
        simp only [List.mem_singleton] at h
        subst h
        simp
      · rename_i y ys e
        rcases List.mem_cons.1 h with e' | e'
        · subst e'
          have := ih y (by rw [e]; simp)
          simp; omega
        · have := ih l (by rw [e]; simp [e'])
          simp; omega

end Go.Proofs.YthjgilocbfhffaaDoor
