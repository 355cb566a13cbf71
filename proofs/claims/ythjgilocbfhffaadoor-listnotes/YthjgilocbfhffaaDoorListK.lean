/-
  Leap second files in plain lists: the order in which the law ListNotes lays a file's lines, with a note among them, and its text as it grows. No program is spoken of but for rows of texts; no conditions.
-/
import Derived.Test.YthjgilocbfhffaaDoorListB
import Derived.Maps.AppendAt
namespace Go.Proofs.YthjgilocbfhffaaDoor
open Go.RowKit
set_option maxRecDepth 100000

theorem runQ_4 {t : Tb} (hb : canBe t = true) {a : Ent} {r : List Ent} (he : t.es = a :: r) : runQ (entQ a :: updQ t :: expQ t :: (r.map entQ ++ [sumQ t])) QS.zero = some ⟨true, true, true, true, t, sumL t⟩ := by
  have h1 := runQ_data [a] [] QS.zero rfl (fun j hj => by
    rw [List.nil_append] at hj ⊢
    have : j = 0 := by simp at hj; omega
    subst this
    have := can_all hb (j := 0) (by rw [he]; simp)
    rw [he] at this
    simpa [okAt] using this)
  have h2 : runQ [entQ a] QS.zero = some ⟨false, false, false, true, ⟨0, 0, [a]⟩, z5⟩ := h1
  have h3 := runQ_data r [a] ⟨true, true, false, true, ⟨t.u, t.e, [a]⟩, z5⟩ rfl (fun j hj => by
    have := can_all hb (j := j) (by rw [he]; simpa using hj)
    rw [he] at this
    exact this)
  have e1 : entQ a :: updQ t :: expQ t :: (r.map entQ ++ [sumQ t]) = [entQ a] ++ ([updQ t, expQ t] ++ (r.map entQ ++ [sumQ t])) := rfl
  rw [e1, runQ_app, h2, Option.bind_some, runQ_app]
  show (runQ (r.map entQ ++ [sumQ t]) ⟨true, true, false, true, ⟨t.u, t.e, [a]⟩, z5⟩) = _
  rw [runQ_app, h3, Option.bind_some]
  have e2 : [a] ++ r = t.es := he.symm
  rw [e2]
  rfl
/-- The order in which a file's lines stand there. -/
def orderK (t : Tb) (k : Nat) : List (List UInt8) :=
  if k = 2 then
    match t.es with
    | [] => fileL t
    | a :: r => lineD a :: lineU t.u :: lineE t.e :: (r.map lineD ++ [lineH (sumL t)])
  else orderOf t k
theorem perm_K (t : Tb) (k : Nat) : (orderK t k).Perm (fileL t) := by
  unfold orderK
  split
  · split
    · exact List.Perm.refl _
    · rename_i a r he
      unfold fileL
      rw [he]
      have h := List.perm_middle (a := lineD a) (l₁ := [lineU t.u, lineE t.e]) (l₂ := r.map lineD ++ [lineH (sumL t)])
      exact h.symm
  · unfold orderOf
    split
    · exact List.Perm.swap _ _ _
    · split
      · unfold fileL
        have h1 : (lineH (sumL t) :: lineU t.u :: lineE t.e :: t.es.map lineD).Perm ((lineU t.u :: lineE t.e :: t.es.map lineD) ++ [lineH (sumL t)]) := (List.perm_append_singleton _ _).symm
        exact h1
      · exact List.Perm.refl _
theorem runs_K {t : Tb} (hb : canBe t = true) (k : Nat) : ∃ qs : List Qn, (orderK t k).map scanP = qs.map some ∧ runQ qs QS.zero = some ⟨true, true, true, true, t, sumL t⟩ := by
  obtain ⟨⟨u0, u1⟩, ⟨e0, e1⟩, hpos⟩ := can_num hb
  have hU := scan_U u0 u1
  have hE := scan_E e0 e1
  have hH := scan_H (sumL_len t) (sumL_in t)
  have hD := map_D hb
  unfold orderK
  split
  · split
    · rename_i he; rw [he] at hpos; simp at hpos
    · rename_i a r he
      rw [he, List.map_cons, List.map_cons, List.map_cons, List.map_cons, List.cons.injEq] at hD
      exact ⟨_, by simp only [List.map_cons, List.map_append, List.map_nil, hU, hE, hH, hD.1, hD.2]; rfl, runQ_4 hb he⟩
  · unfold orderOf
    split
    · exact ⟨_, by simp only [List.map_cons, List.map_append, List.map_nil, hU, hE, hH, hD]; rfl, runQ_2 hb⟩
    · split
      · exact ⟨_, by simp only [List.map_cons, hU, hE, hH, hD]; rfl, runQ_3 hb⟩
      · exact ⟨_, by unfold fileL; simp only [List.map_cons, List.map_append, List.map_nil, hU, hE, hH, hD]; rfl, runQ_1 hb⟩
theorem join_perm : ∀ {L L' : List (List UInt8)}, L.Perm L' → (joinL L).length = (joinL L').length := by
  intro L L' h
  induction h with
  | nil => rfl
  | cons x _ ih => simp only [joinL, List.length_append, List.length_cons, ih]
  | swap x y l => simp only [joinL, List.length_append, List.length_cons]; omega
  | trans _ _ h1 h2 => rw [h1, h2]
theorem order_len {t : Tb} (hb : canBe t = true) (k : Nat) : (joinL (orderK t k)).length ≤ 4000 ∧ (orderK t k).length = t.es.length + 3 := by
  have h1 := join_perm (perm_K t k)
  have h2 := print_len hb
  have e : joinL (fileL t) = printL t := rfl
  rw [e] at h1
  exact ⟨by omega, by rw [(perm_K t k).length_eq]; exact file_len t (sumL t)⟩
theorem noted_len {t : Tb} (hb : canBe t = true) (k n : Nat) {m : List UInt8} (hml : m.length ≤ 100) : (joinL ((orderK t k).take n ++ (35 :: 32 :: m) :: (orderK t k).drop n)).length ≤ 4200 := by
  have e1 := join_perm (L := (orderK t k).take n ++ (35 :: 32 :: m) :: (orderK t k).drop n) (L' := (35 :: 32 :: m) :: orderK t k) (by
    have := List.perm_middle (a := (35 :: 32 :: m)) (l₁ := (orderK t k).take n) (l₂ := (orderK t k).drop n)
    rwa [List.take_append_drop] at this)
  have e2 := (order_len hb k).1
  rw [e1, joinL]
  simp only [List.length_append, List.length_cons]
  omega
theorem orderK_notes {t : Tb} (hb : canBe t = true) (k n : Nat) {m : List UInt8} (hm : m.all no10 = true) (hml : m.length ≤ 100) :
    parseL (joinL ((orderK t k).take n ++ (35 :: 32 :: m) :: (orderK t k).drop n)) = (t, 0, 0) := by
  have h10 : ∀ x ∈ orderK t k, x.all no10 = true := fun x hx => fileW_no10 t (sumL t) x ((perm_K t k).mem_iff.1 hx)
  obtain ⟨qs, hqm, hqr⟩ := runs_K hb k
  refine parse_good (qs := qs.take n ++ noteQ :: qs.drop n) (fun x hx => ?_) (Nat.le_trans (noted_len hb k n hml) (by decide)) ?_ (by rw [runQ_note, List.take_append_drop]; exact hqr)
  · rcases List.mem_append.1 hx with h | h
    · exact h10 x (List.mem_of_mem_take h)
    · rcases List.mem_cons.1 h with h | h
      · subst h; rw [List.all_cons, List.all_cons, hm]; rfl
      · exact h10 x (List.mem_of_mem_drop h)
  · rw [List.map_append, List.map_cons, List.map_append, List.map_cons, List.map_take, List.map_drop, hqm, List.map_take, List.map_drop, scan_note]
    rfl
/-- What the law does with the lines. -/
theorem first_K {t : Tb} (hpos : 0 < t.es.length) {k : Nat} {x : List UInt8} (hx : (fileL t)[k]? = some x) (hk : ¬ (2 < k ∧ k < t.es.length + 2)) : x :: ((fileL t).take k ++ (fileL t).drop (k + 1)) = orderK t k := by
  have hlt := (List.getElem?_eq_some_iff.1 hx).1
  have hlen : (fileL t).length = t.es.length + 3 := file_len t (sumL t)
  rcases (by omega : k = 0 ∨ k = 1 ∨ k = 2 ∨ k = t.es.length + 2) with rfl | rfl | rfl | rfl
  · cases hx
    unfold orderK orderOf
    rw [if_neg (by decide), if_neg (by decide), if_neg (by omega)]
    rfl
  · cases hx
    unfold orderK orderOf
    rw [if_neg (by decide), if_pos rfl]
    rfl
  · unfold orderK
    rw [if_pos rfl]
    cases he : t.es with
    | nil => rw [he] at hpos; simp at hpos
    | cons a r =>
      unfold fileL at hx ⊢
      rw [he] at hx ⊢
      cases hx
      rfl
  · unfold orderK orderOf
    rw [if_neg (by omega), if_neg (by omega), if_pos rfl]
    have e : fileL t = (lineU t.u :: lineE t.e :: t.es.map lineD) ++ [lineH (sumL t)] := rfl
    have hn : (lineU t.u :: lineE t.e :: t.es.map lineD).length = t.es.length + 2 := by simp
    rw [e] at hx ⊢
    rw [List.getElem?_append_right (by omega), hn, Nat.sub_self] at hx
    cases hx
    rw [List.take_append_of_le_length (by omega), List.take_of_length_le (by omega), List.drop_of_length_le (by simp), List.append_nil]
theorem same_K {t : Tb} {k : Nat} (hk : 2 < k ∧ k < t.es.length + 2) : fileL t = orderK t k := by
  unfold orderK orderOf
  rw [if_neg (by omega), if_neg (by omega), if_neg (by omega)]
/-- The text behind so many turns. -/
def accS (O : List (List UInt8)) (m : List UInt8) (a i : Nat) : List UInt8 := if a < i then joinL (O.take a ++ (35 :: 32 :: m) :: (O.take i).drop a) else joinL (O.take i)
theorem acc_zero (O : List (List UInt8)) (m : List UInt8) (a : Nat) : accS O m a 0 = [] := by
  unfold accS; rw [if_neg (by omega)]; rfl
theorem acc_note {O : List (List UInt8)} {m x : List UInt8} {a i : Nat} (hi : i = a) (hx : O[i]? = some x) : accS O m a i ++ [35, 32] ++ m ++ [10] ++ x ++ [10] = accS O m a (i + 1) := by
  subst hi
  unfold accS
  have hlt := (List.getElem?_eq_some_iff.1 hx).1
  rw [if_neg (by omega), if_pos (by omega), take_snoc hx, List.drop_append_of_le_length (by rw [List.length_take]; omega), List.drop_of_length_le (by rw [List.length_take]; omega), join_app]
  simp [joinL]
theorem acc_last {O : List (List UInt8)} {m : List UInt8} {a i : Nat} (hi : i = a) (hn : i = O.length) : accS O m a i ++ [35, 32] ++ m ++ [10] = accS O m a (i + 1) := by
  subst hi
  unfold accS
  rw [if_neg (by omega), if_pos (by omega), List.take_of_length_le (l := O) (i := i + 1) (by omega), List.drop_of_length_le (by omega), join_app]
  simp [joinL]
theorem acc_line {O : List (List UInt8)} {m x : List UInt8} {a i : Nat} (hi : i ≠ a) (hx : O[i]? = some x) : accS O m a i ++ x ++ [10] = accS O m a (i + 1) := by
  have hlt := (List.getElem?_eq_some_iff.1 hx).1
  unfold accS
  by_cases h : a < i
  · rw [if_pos h, if_pos (by omega), take_snoc hx, List.drop_append_of_le_length (by rw [List.length_take]; omega)]
    simp only [join_app, joinL, List.append_assoc, List.cons_append]
  · rw [if_neg h, if_neg (by omega), take_snoc hx, joinL_snoc, List.append_assoc]
theorem acc_none {O : List (List UInt8)} {m : List UInt8} {a i : Nat} (hi : i ≠ a) (hn : i = O.length) (ha : a ≤ O.length) : accS O m a i = accS O m a (i + 1) := by
  unfold accS
  rw [if_pos (by omega), if_pos (by omega), List.take_of_length_le (l := O) (i := i) (by omega), List.take_of_length_le (l := O) (i := i + 1) (by omega)]
theorem acc_end {O : List (List UInt8)} {m : List UInt8} {a i : Nat} (ha : a ≤ O.length) (hn : i = O.length + 1) : accS O m a i = joinL (O.take a ++ (35 :: 32 :: m) :: O.drop a) := by
  unfold accS
  rw [if_pos (by omega), List.take_of_length_le (l := O) (i := i) (by omega)]
theorem acc_len {O : List (List UInt8)} {m : List UInt8} {a i : Nat} : (accS O m a i).length ≤ (joinL O).length + m.length + 3 := by
  have h : ∀ i, (joinL (O.take i)).length ≤ (joinL O).length := fun i => by
    have := join_app (O.take i) (O.drop i)
    rw [List.take_append_drop] at this
    rw [this, List.length_append]
    omega
  unfold accS
  split
  · rename_i hlt
    have e : joinL (O.take i) = joinL (O.take a) ++ joinL ((O.take i).drop a) := by
      rw [← join_app]
      have h2 := List.take_append_drop a (O.take i)
      rw [List.take_take, Nat.min_eq_left (by omega)] at h2
      rw [h2]
    have h1 := h i
    rw [e, List.length_append] at h1
    rw [join_app, joinL]
    simp only [List.length_append, List.length_cons]
    omega
  · have := h i; omega

/-! ### Rows of texts -/
theorem own_row' {w : World} {base : Nat} {e : TypeId} {v : Value} {n : Nat} {xs : List Value} (h : w.ownsRow base e 1 v n xs) (hn : 0 < n) : ∃ g cap cs, v = .slice (some ⟨g, 0, none⟩) n cap ∧ base ≤ g ∧ n ≤ cap ∧ Var w g cs ∧ cs.take n = xs := by
  rcases h.2 with ⟨h1, h2⟩ | ⟨g, cap, cur, h1, h2, h3, h4, h5, h6, h7⟩
  · omega
  · exact ⟨g, cap, cur.toList, h1, h2, h4, ⟨e, by simpa using h3⟩, by simpa using h7⟩
theorem row_cell {w : World} {g j n : Nat} {cs xs : List Value} {y : Value} (hv : Var w g cs) (ht : cs.take n = xs) (hx : xs[j]? = some y) : w.cell? ⟨g, j, none⟩ = some y := by
  obtain ⟨t, hg⟩ := hv
  rw [cell_of_row w g j _ t (0, 0) hg]
  subst ht
  rw [List.getElem?_take] at hx
  split at hx
  · simpa using hx
  · cases hx
theorem strs_one (L : List (List UInt8)) : ∀ u ∈ strsV L, u.oneCell' = true := by
  intro u hu
  unfold strsV at hu
  rw [List.mem_map] at hu
  obtain ⟨x, _, rfl⟩ := hu
  rfl
theorem strs_at {L : List (List UInt8)} {j : Nat} {y : Value} (h : (strsV L)[j]? = some y) : ∃ x, L[j]? = some x ∧ y = .string ⟨⟨x⟩⟩ := by
  unfold strsV at h
  rw [List.getElem?_map, Option.map_eq_some_iff] at h
  obtain ⟨x, h1, h2⟩ := h
  exact ⟨x, h1, h2.symm⟩
theorem own_at_ne {w : World} {v v' : Value} {c : Nat} (hv : v'.ownBlock = v.ownBlock ∨ v'.ownBlock = some w.heap.size) (hne : v.ownBlock ≠ some c) (hc : c < w.heap.size) : v'.ownBlock ≠ some c := by
  rcases hv with e | e
  · rw [e]; exact hne
  · rw [e]; simp only [ne_eq, Option.some.injEq]; omega
section
variable {P : Program} {B : Nat} {lax : Bool} {ops : Array Oper} {Rs : Nat → Value → World → Prop} {K : St → World → Prop} {i : Nat} {rest : List Nat} {st : St} {w : World}
variable {d : Nat} {ty : TypeId} {pos : String} {aft : Array Edge} {g : Option (Nat × Bool)}
/-- append to a row of the call's own of what lies somewhere; where the new row lies. -/
theorem x_appendS {t e : TypeId} {ii : TypeInfo} {z : Value} {s x : Operand} {v : Value} {base n m n' c b off bs : Nat} {xs news xs' : List Value} (ho : ops[i]? = some ⟨some d, .call ⟨.builtin .append, #[s, x], #[t, t]⟩, ty, pos, aft, g⟩) (hg : gok ops st g = true) (hk : known st ⟨some d, .call ⟨.builtin .append, #[s, x], #[t, t]⟩, ty, pos, aft, g⟩ = true)
    (hs : st.ev s = .v v) (hx : st.ev x = .v (.slice (some ⟨b, off, none⟩) m c)) (ht : P.underlying t = some (.slice e)) (hi : P.info? e = some ii) (hz : ii.zero = some z) (hsz : ii.size = 1) (hbs : ii.bytes = bs) (hzs : z.cells.size = 1)
    (hown : w.ownsRow base e 1 v n xs) (hl : news.length = m) (hc : ∀ j y, news[j]? = some y → w.cell? ⟨b, off + j, none⟩ = some y) (h1 : ∀ u ∈ news, u.oneCell' = true) (hn : n + m = n') (hxs : xs ++ news = xs') (h63 : n' ≤ 1000) (hby : bs ≤ 1000) (hbase : base ≤ w.heap.size) (hB : B ≤ base)
    (ha : AllMem (fun k => v.ownBlock ≠ some k) st)
    (h : ∀ v' w', w'.ownsRow base e 1 v' n' xs' → w.grownBy w' v.ownBlock → (v'.ownBlock = v.ownBlock ∨ v'.ownBlock = some w.heap.size) → vOrd P B true ops Rs K rest (st.put (some d) (.v v')) w') : vOrd P B true ops Rs K (i :: rest) st w := by
  subst hn hxs
  have es : st.rho s = v := by rw [St.rho, hs]; rfl
  have ex : st.rho x = .slice (some ⟨b, off, none⟩) m c := by rw [St.rho, hx]; rfl
  have hby2 : (n + m) * bs ≤ 140737488355328 := Nat.le_trans (Nat.mul_le_mul h63 hby) (by decide)
  obtain ⟨v', w', hr, ho', hgr, _, hat⟩ := run_append_own_at (P := P) w base t ty e ii z 1 bs ht hi hz hsz hbs hzs (by decide) v n xs hown ⟨b, off, none⟩ m c news (by rw [hl, Nat.mul_one]) (fun j u hj => by
    rw [addr_add]; exact hc j u hj) h1 (by simp only [maxLen]; omega) hby2 hbase
  refine ⟨_, ho, .inr ⟨rfl, hg, hk, rfl, .inr (.inr (.inl (fun _ => ⟨v', w', v.ownBlock, ?_, hgr, fun k e => Nat.le_trans hB (hown.lt k e).1, ha, h v' w' ho' hgr hat⟩)))⟩⟩
  simp [execOp, es, ex, resolve, invoke, builtin, hr]
end
section
variable {P : Program} {n : Nat} {w0 w : World} {st : St} {K : Exit → St → World → Prop}
/-- What holds between two pieces of code. -/
theorem Wp.mid {x y : Code} (J : St → World → Prop) (h1 : Wp P n w0 x st w (thenK (fun st' w' => ∃ st0, St.le st0 st' ∧ J st0 w') (fun _ _ _ => False))) (h2 : ∀ st0 w', J st0 w' → Wp P n w0 y st0 w' K) : Wp P n w0 (.seq x y) st w K :=
  Wp.seq (Wp.mono h1 (fun e st' w' q => by
    cases e with
    | normal => obtain ⟨st0, hle, q⟩ := q; exact (h2 st0 w' q).le hle
    | _ => exact q.elim))
end
end Go.Proofs.YthjgilocbfhffaaDoor
