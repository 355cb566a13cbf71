/-
  Leap second files in plain lists: which entries may stand behind others, which tables may be, the digits of a table, its file, what a text is the file of. No program is spoken of but for how a table lies in memory; no conditions.
-/
import Derived.Test.YthjgilocbfhffaaDoorStdA
import Derived.Test.YthjgilocbfhffaaDoorShaS
namespace Go.Proofs.YthjgilocbfhffaaDoor
open Go.RowKit
set_option maxRecDepth 100000

abbrev Ent := Int × Int
structure Tb where
  u : Int
  e : Int
  es : List Ent
def entIn (e : Ent) : Bool := decide (0 ≤ e.1) && decide (e.1 ≤ 1125899906842624) && decide (e.1 % 86400 = 0) && decide (0 ≤ e.2) && decide (e.2 ≤ 1000)
def lastOk (l : List Ent) (e : Ent) : Bool :=
  match l[l.length - 1]? with
  | none => true
  | some a => decide (a.1 < e.1) && (decide (e.2 = a.2 + 1) || decide (e.2 = a.2 - 1))
def stand (l : List Ent) (e : Ent) : Bool := decide (l.length < 64) && entIn e && lastOk l e
theorem stand_full {l : List Ent} {e : Ent} (h : 64 ≤ l.length) : stand l e = false := by
  unfold stand; rw [decide_eq_false (by omega)]; rfl
theorem stand_in {l : List Ent} {e : Ent} (h : entIn e = false) : stand l e = false := by
  unfold stand; rw [h, Bool.and_false]; rfl
theorem stand_first {l : List Ent} {e : Ent} (hl : l.length = 0) (h : entIn e = true) : stand l e = true := by
  have : l = [] := List.eq_nil_of_length_eq_zero hl
  subst this
  unfold stand; rw [h]; rfl
theorem stand_next {l : List Ent} {e a : Ent} (h64 : l.length < 64) (ha : l[l.length - 1]? = some a) (h : entIn e = true) : stand l e = (decide (a.1 < e.1) && (decide (e.2 = a.2 + 1) || decide (e.2 = a.2 - 1))) := by
  unfold stand lastOk
  rw [h, ha, decide_eq_true h64]; rfl
theorem entIn_yes {a b : Int} (h1 : 0 ≤ a) (h2 : a ≤ 1125899906842624) (h3 : a % 86400 = 0) (h4 : 0 ≤ b) (h5 : b ≤ 1000) : entIn (a, b) = true := by
  simp [entIn, h1, h2, h3, h4, h5]
theorem entIn_no {a b : Int} (h : ¬ (0 ≤ a ∧ a ≤ 1125899906842624 ∧ a % 86400 = 0 ∧ 0 ≤ b ∧ b ≤ 1000)) : entIn (a, b) = false := by
  rw [← Bool.not_eq_true]
  intro q
  simp only [entIn, Bool.and_eq_true, decide_eq_true_eq] at q
  exact h ⟨q.1.1.1.1, q.1.1.1.2, q.1.1.2, q.1.2, q.2⟩
theorem stand_spec {l : List Ent} {e : Ent} (h : stand l e = true) : l.length < 64 ∧ (0 ≤ e.1 ∧ e.1 ≤ 1125899906842624) ∧ (0 ≤ e.2 ∧ e.2 ≤ 1000) := by
  simp only [stand, entIn, Bool.and_eq_true, decide_eq_true_eq] at h
  exact ⟨h.1.1, ⟨h.1.2.1.1.1.1, h.1.2.1.1.1.2⟩, h.1.2.1.2, h.1.2.2⟩
/-- The entry at a place may stand behind those ahead of it. -/
def okAt (es : List Ent) (j : Nat) : Bool :=
  match es[j]? with
  | some e => stand (es.take j) e
  | none => false
def badFrom (es : List Ent) : Nat → Nat → Nat
  | 0, i => i
  | f + 1, i => if okAt es i = true then badFrom es f (i + 1) else i
def firstBad (es : List Ent) : Nat := badFrom es es.length 0
theorem bad_le (es : List Ent) : ∀ f i, i ≤ badFrom es f i ∧ badFrom es f i ≤ i + f
  | 0, i => ⟨Nat.le_refl _, Nat.le_refl _⟩
  | f + 1, i => by
    rw [badFrom]
    split
    · have := bad_le es f (i + 1); omega
    · omega
theorem bad_ok (es : List Ent) : ∀ f i j, i ≤ j → j < badFrom es f i → okAt es j = true
  | 0, i, j, h1, h2 => by rw [badFrom] at h2; omega
  | f + 1, i, j, h1, h2 => by
    rw [badFrom] at h2
    split at h2
    · rename_i h
      by_cases q : j = i
      · subst q; exact h
      · exact bad_ok es f (i + 1) j (by omega) h2
    · omega
theorem bad_step {es : List Ent} {i : Nat} (hi : i < es.length) (h : badFrom es (es.length - i) i = firstBad es) : (okAt es i = true → badFrom es (es.length - (i + 1)) (i + 1) = firstBad es) ∧ (okAt es i = false → firstBad es = i) := by
  rw [show es.length - i = (es.length - (i + 1)) + 1 by omega, badFrom] at h
  constructor
  · intro q; rw [if_pos q] at h; exact h
  · intro q; rw [if_neg (by rw [q]; decide)] at h; exact h.symm
theorem bad_end {es : List Ent} {i : Nat} (hi : i = es.length) (h : badFrom es (es.length - i) i = firstBad es) : firstBad es = es.length := by
  rw [hi, Nat.sub_self, badFrom] at h
  exact h.symm
def inS (n : Int) : Bool := decide (0 ≤ n) && decide (n < 1000000000000000000)
def canBe (t : Tb) : Bool := decide (firstBad t.es = t.es.length) && decide (0 < t.es.length) && (inS t.u && inS t.e)
def place (t : Tb) : Nat := if canBe t = true then 0 else firstBad t.es
theorem inS_spec {n : Int} : inS n = true ↔ 0 ≤ n ∧ n < 1000000000000000000 := by simp [inS]
theorem can_all {t : Tb} (h : canBe t = true) {j : Nat} (hj : j < t.es.length) : okAt t.es j = true := by
  simp only [canBe, Bool.and_eq_true, decide_eq_true_eq] at h
  have h1 := h.1.1
  unfold firstBad at h1
  exact bad_ok t.es t.es.length 0 j (Nat.zero_le _) (by omega)
theorem can_num {t : Tb} (h : canBe t = true) : (0 ≤ t.u ∧ t.u < 1000000000000000000) ∧ (0 ≤ t.e ∧ t.e < 1000000000000000000) ∧ 0 < t.es.length := by
  simp only [canBe, Bool.and_eq_true, decide_eq_true_eq] at h
  exact ⟨inS_spec.1 h.2.1, inS_spec.1 h.2.2, h.1.2⟩
theorem ok_at {es : List Ent} {j : Nat} {e : Ent} (he : es[j]? = some e) : okAt es j = stand (es.take j) e := by unfold okAt; rw [he]
theorem can_ent {t : Tb} (h : canBe t = true) {j : Nat} {e : Ent} (he : t.es[j]? = some e) : (0 ≤ e.1 ∧ e.1 ≤ 1125899906842624) ∧ (0 ≤ e.2 ∧ e.2 ≤ 1000) := by
  have := can_all h (List.getElem?_eq_some_iff.1 he).1
  rw [ok_at he] at this
  exact (stand_spec this).2
theorem can_len {t : Tb} (h : canBe t = true) : t.es.length ≤ 64 := by
  rcases Nat.lt_or_ge 64 t.es.length with q | q
  · obtain ⟨e, he⟩ : ∃ e, t.es[64]? = some e := ⟨t.es[64], List.getElem?_eq_getElem q⟩
    have := can_all h q
    rw [ok_at he] at this
    have := (stand_spec this).1
    rw [List.length_take] at this
    omega
  · exact q
/-- What the last one of those ahead has. -/
theorem ok_last {es : List Ent} {i : Nat} (hi : i ≤ es.length) (h : ∀ j, j < i → okAt es j = true) {a : Ent} (ha : (es.take i)[(es.take i).length - 1]? = some a) : 0 ≤ a.2 ∧ a.2 ≤ 1000 := by
  have h0 : 0 < (es.take i).length := by
    have := (List.getElem?_eq_some_iff.1 ha).1
    omega
  rw [List.length_take, Nat.min_eq_left hi] at ha h0
  rw [List.getElem?_take_of_lt (by omega)] at ha
  have := h (i - 1) (by omega)
  rw [ok_at ha] at this
  exact (stand_spec this).2.2

/-! ### A table's digits and file -/
def entD (a : Ent) : List UInt8 := decD a.1 ++ decD a.2
def digitsL (t : Tb) : List UInt8 := decD t.u ++ decD t.e ++ (t.es.map entD).flatten
/-- The last k digits of a number. -/
def hexP : Nat → Nat → List UInt8
  | 0, _ => []
  | k + 1, m => hexP k (m / 16) ++ [hxd m]
theorem hexP_len : ∀ k m, (hexP k m).length = k
  | 0, _ => rfl
  | k + 1, m => by rw [hexP, List.length_append, hexP_len k]; rfl
theorem hexP_zero : ∀ k, hexP k 0 = List.replicate k 48
  | 0 => rfl
  | k + 1 => by
    have e : hxd 0 = 48 := by decide
    rw [hexP, Nat.zero_div, hexP_zero k, e, List.replicate_succ']
theorem hexF_len : ∀ f m, (hexF f m).length ≤ f + 1 ∧ 0 < (hexF f m).length
  | 0, _ => by simp [hexF]
  | f + 1, m => by
    have := hexF_len f (m / 16)
    rw [hexF]
    split <;> simp <;> omega
theorem hexF_pad : ∀ f m, m < 16 ^ (f + 1) → List.replicate (f + 1 - (hexF f m).length) 48 ++ hexF f m = hexP (f + 1) m
  | 0, m, _ => by simp [hexF, hexP]
  | f + 1, m, h => by
    by_cases q : m < 16
    · rw [hex_last q, hexP, show m / 16 = 0 by omega, hexP_zero]; simp
    · have ih := hexF_pad f (m / 16) (by rw [Nat.pow_succ] at h; omega)
      rw [hexP, ← ih, hexF, if_neg q, List.length_append, List.length_singleton, Nat.add_sub_add_right, List.append_assoc]
/-- A word as eight digits. -/
def hexW (n : Int) : List UInt8 := hexP 8 n.toNat
def fiveL : Five → List Int
  | (a, b, c, d, e) => [a, b, c, d, e]
def sumL (t : Tb) : List Int := fiveL (shaF (digitsL t))
def lineU (n : Int) : List UInt8 := [35, 36, 9] ++ decD n
def lineE (n : Int) : List UInt8 := [35, 64, 9] ++ decD n
def lineD (a : Ent) : List UInt8 := decD a.1 ++ 9 :: decD a.2
def lineH (ws : List Int) : List UInt8 := [35, 104] ++ (ws.map fun n => 9 :: hexW n).flatten
def fileL (t : Tb) : List (List UInt8) := lineU t.u :: lineE t.e :: (t.es.map lineD ++ [lineH (sumL t)])
def printL (t : Tb) : List UInt8 := joinL (fileL t)

/-! ### What a text is the file of -/
def stampP (k : Int) (l : List UInt8) : Option (Int × Int × Int × List Int) := if stOk l = true then some (k, numVal (aB l), 0, z5) else none
def hashP (l : List UInt8) : Option (Int × Int × Int × List Int) := if hOk l = true then some (4, 0, 0, hWs 5 l) else none
def dataP (l : List UInt8) : Option (Int × Int × Int × List Int) := if daOk l = true then some (5, numVal l, numVal (aB (dR 10 l)), z5) else none
def scanP (l : List UInt8) : Option (Int × Int × Int × List Int) :=
  if aB l = [] then some (1, 0, 0, z5)
  else if l.take 2 = [35, 36] then stampP 2 (l.drop 2)
  else if l.take 2 = [35, 64] then stampP 3 (l.drop 2)
  else if l.take 2 = [35, 104] then hashP (l.drop 2)
  else if l.take 1 = [35] then some (1, 0, 0, z5)
  else dataP l
def lineQ (q : Int × Int × Int × List Int) : List Value := lineC q.1 q.2.1 q.2.2.1 q.2.2.2
theorem scan_P (l : List UInt8) : scanL l = (scanP l).map lineQ := by
  have e1 : ∀ k l, stampL k l = (stampP k l).map lineQ := fun k l => by unfold stampL stampP; split <;> rfl
  have e2 : ∀ l, hashL l = (hashP l).map lineQ := fun l => by unfold hashL hashP; split <;> rfl
  have e3 : ∀ l, dataL l = (dataP l).map lineQ := fun l => by unfold dataL dataP; split <;> rfl
  unfold scanL scanP
  rw [e1, e1, e2, e3]
  split
  · rfl
  · split
    · rfl
    · split
      · rfl
      · split
        · rfl
        · split <;> rfl
/-- What a line that says something is like. -/
structure LineOk (q : Int × Int × Int × List Int) : Prop where
  kind : 1 ≤ q.1 ∧ q.1 ≤ 5
  a : 0 ≤ q.2.1 ∧ q.2.1 < 1000000000000000000
  b : 0 ≤ q.2.2.1 ∧ q.2.2.1 < 1000000000000000000
  len : q.2.2.2.length = 5
  ws : ∀ n ∈ q.2.2.2, 0 ≤ n ∧ n < 4294967296
theorem hWs_in (n : Nat) (l : List UInt8) : ∀ m ∈ hWs n l, 0 ≤ m ∧ m < 4294967296 := by
  intro m hm
  unfold hWs at hm
  rcases List.mem_append.1 hm with h | h
  · obtain ⟨j, _, rfl⟩ := List.mem_map.1 h
    exact wordVal_in _
  · rw [List.mem_replicate] at h; omega
theorem scanP_ok {l : List UInt8} {q : Int × Int × Int × List Int} (h : scanP l = some q) : LineOk q := by
  have z : ∀ m ∈ z5, (0 : Int) ≤ m ∧ m < 4294967296 := by simp [z5]
  have hs : ∀ (k : Int) (l : List UInt8), 1 ≤ k → k ≤ 5 → stampP k l = some q → LineOk q := fun k l h1 h2 h => by
    unfold stampP at h
    split at h <;> cases h
    exact ⟨⟨h1, h2⟩, numVal_in _, by constructor <;> simp, rfl, z⟩
  unfold scanP at h
  split at h
  · cases h; exact ⟨by simp, by simp, by simp, rfl, z⟩
  · split at h
    · exact hs 2 _ (by decide) (by decide) h
    · split at h
      · exact hs 3 _ (by decide) (by decide) h
      · split at h
        · unfold hashP at h
          split at h <;> cases h
          exact ⟨by simp, by simp, by simp, hWs_len (Nat.le_refl 5) _, hWs_in 5 _⟩
        · split at h
          · cases h; exact ⟨by simp, by simp, by simp, rfl, z⟩
          · unfold dataP at h
            split at h <;> cases h
            exact ⟨by simp, numVal_in _, numVal_in _, rfl, z⟩
/-- What was read so far: the lines of each kind (0: none), and what they say. -/
structure PS where
  a2 : Nat
  a3 : Nat
  a4 : Nat
  a5 : Nat
  t : Tb
  ws : List Int
def PS.zero : PS := ⟨0, 0, 0, 0, ⟨0, 0, []⟩, z5⟩
def stepP (s : PS) (n : Nat) (l : List UInt8) : Except Int PS :=
  match scanP l with
  | none => .error 4
  | some (k, a, b, ws) =>
    if k = 2 then (if s.a2 = 0 then .ok { s with a2 := n, t := { s.t with u := a } } else .error 4)
    else if k = 3 then (if s.a3 = 0 then .ok { s with a3 := n, t := { s.t with e := a } } else .error 4)
    else if k = 4 then (if s.a4 = 0 then .ok { s with a4 := n, ws := ws } else .error 4)
    else if k = 5 then (if stand s.t.es (a, b) = true then .ok { s with a5 := n, t := { s.t with es := s.t.es ++ [(a, b)] } } else .error 10)
    else .ok s
def runP : List (List UInt8) → Nat → PS → Except (Nat × Int) PS
  | [], _, s => .ok s
  | l :: r, n, s =>
    match stepP s (n + 1) l with
    | .error e => .error (n + 1, e)
    | .ok s' => runP r (n + 1) s'
def endP (s : PS) (n : Nat) : Tb × Nat × Int :=
  if s.a2 = 0 ∨ s.a3 = 0 ∨ s.a4 = 0 ∨ s.a5 = 0 then (⟨0, 0, []⟩, n + 1, 4)
  else if s.ws = sumL s.t then (s.t, 0, 0) else (⟨0, 0, []⟩, s.a4, 11)
def parseL (x : List UInt8) : Tb × Nat × Int :=
  if 65536 < x.length then (⟨0, 0, []⟩, 0, 2)
  else match runP (linesL x) 0 PS.zero with
    | .error (n, e) => (⟨0, 0, []⟩, n, e)
    | .ok s => endP s (linesL x).length
/-- What holds of what was read so far. -/
structure PS.Ok (s : PS) (n : Nat) : Prop where
  a : s.a2 ≤ n ∧ s.a3 ≤ n ∧ s.a4 ≤ n ∧ s.a5 ≤ n
  u : 0 ≤ s.t.u ∧ s.t.u < 1000000000000000000
  e : 0 ≤ s.t.e ∧ s.t.e < 1000000000000000000
  es : ∀ j, j < s.t.es.length → okAt s.t.es j = true
  len : s.ws.length = 5
  ws : ∀ n ∈ s.ws, 0 ≤ n ∧ n < 4294967296
  some : s.a5 ≠ 0 → 0 < s.t.es.length
theorem PS.Ok.zero : PS.zero.Ok 0 := ⟨by simp [PS.zero], by simp [PS.zero], by simp [PS.zero], fun j hj => by simp [PS.zero] at hj, rfl, by simp [PS.zero, z5], by simp [PS.zero]⟩
theorem okAt_app {es : List Ent} {e : Ent} {j : Nat} (hj : j < es.length) : okAt (es ++ [e]) j = okAt es j := by
  obtain ⟨x, hx⟩ : ∃ x, es[j]? = some x := ⟨es[j], List.getElem?_eq_getElem hj⟩
  rw [ok_at hx, ok_at (e := x) (by rw [List.getElem?_append_left hj]; exact hx), List.take_append_of_le_length (by omega)]
theorem okAt_new (es : List Ent) (e : Ent) : okAt (es ++ [e]) es.length = stand es e := by
  rw [ok_at (e := e) (by simp), List.take_append_of_le_length (Nat.le_refl _), List.take_length]
theorem PS.Ok.step {s s' : PS} {n m : Nat} {l : List UInt8} (h : s.Ok n) (hm : n < m) (hs : stepP s m l = .ok s') : s'.Ok m := by
  unfold stepP at hs
  split at hs
  · cases hs
  · rename_i k a b ws hq
    have ho := scanP_ok hq
    obtain ⟨h1, h2, h3, h4, h5, h6, h7⟩ := h
    split at hs
    · split at hs <;> cases hs
      exact ⟨by simp only; omega, ho.a, h3, h4, h5, h6, h7⟩
    · split at hs
      · split at hs <;> cases hs
        exact ⟨by simp only; omega, h2, ho.a, h4, h5, h6, h7⟩
      · split at hs
        · split at hs <;> cases hs
          exact ⟨by simp only; omega, h2, h3, h4, ho.len, ho.ws, h7⟩
        · split at hs
          · split at hs <;> cases hs
            rename_i hst
            refine ⟨by simp only; omega, h2, h3, fun j hj => ?_, h5, h6, fun _ => by simp⟩
            simp only [List.length_append, List.length_cons, List.length_nil] at hj
            by_cases q : j < s.t.es.length
            · rw [okAt_app q]; exact h4 j q
            · have : j = s.t.es.length := by omega
              subst this
              rw [okAt_new]; exact hst
          · cases hs
            exact ⟨by omega, h2, h3, h4, h5, h6, h7⟩
theorem ok_ents {es : List Ent} (h : ∀ j, j < es.length → okAt es j = true) {j : Nat} {e : Ent} (he : es[j]? = some e) : (0 ≤ e.1 ∧ e.1 ≤ 1125899906842624) ∧ (0 ≤ e.2 ∧ e.2 ≤ 1000) := by
  have := h j (List.getElem?_eq_some_iff.1 he).1
  rw [ok_at he] at this
  exact (stand_spec this).2
theorem ok_len {es : List Ent} (h : ∀ j, j < es.length → okAt es j = true) : es.length ≤ 64 := by
  rcases Nat.lt_or_ge 64 es.length with q | q
  · have := h 64 q
    rw [ok_at (List.getElem?_eq_getElem q)] at this
    have := (stand_spec this).1
    rw [List.length_take] at this
    omega
  · exact q
theorem bad_all {es : List Ent} (h : ∀ j, j < es.length → okAt es j = true) : firstBad es = es.length := by
  have key : ∀ f i, i + f = es.length → badFrom es f i = es.length := by
    intro f
    induction f with
    | zero => intro i hi; rw [badFrom]; exact hi
    | succ f ih => intro i hi; rw [badFrom, if_pos (h i (by omega))]; exact ih (i + 1) (by omega)
  exact key es.length 0 (by omega)
theorem PS.Ok.can {s : PS} {n : Nat} (h : s.Ok n) (h5 : s.a5 ≠ 0) : canBe s.t = true := by
  simp only [canBe, Bool.and_eq_true, decide_eq_true_eq]
  exact ⟨⟨bad_all h.es, h.some h5⟩, inS_spec.2 h.u, inS_spec.2 h.e⟩
theorem can_place {t : Tb} (h : canBe t = true) : place t = 0 := if_pos h
theorem can_bad {t : Tb} {i : Nat} (hi : i < t.es.length) (h : firstBad t.es = i) : canBe t = false ∧ place t = i := by
  have e : canBe t = false := by unfold canBe; rw [h, decide_eq_false (by omega)]; rfl
  exact ⟨e, by unfold place; rw [e, ← h]; rfl⟩
theorem can_end {t : Tb} (h : firstBad t.es = t.es.length) (hb : (decide (0 < t.es.length) && (inS t.u && inS t.e)) = false) : canBe t = false ∧ place t = t.es.length := by
  have e : canBe t = false := by unfold canBe; rw [h, decide_eq_true rfl, Bool.true_and]; exact hb
  exact ⟨e, by unfold place; rw [e, ← h]; rfl⟩
theorem can_yes {t : Tb} (h : firstBad t.es = t.es.length) (hb : (decide (0 < t.es.length) && (inS t.u && inS t.e)) = true) : canBe t = true := by
  unfold canBe; rw [h, decide_eq_true rfl, Bool.true_and]; exact hb
theorem decD_len (n : Int) : (decD n).length ≤ 18 := dec_len 17 _
theorem entD_len : ∀ l : List Ent, ((l.map entD).flatten).length ≤ 36 * l.length
  | [] => Nat.le_refl _
  | a :: l => by
    have := entD_len l
    have h1 := decD_len a.1
    have h2 := decD_len a.2
    simp only [List.map_cons, List.flatten_cons, List.length_append, List.length_cons, entD]
    omega
theorem take_snoc {α : Type} {l : List α} {i : Nat} {x : α} (h : l[i]? = some x) : l.take (i + 1) = l.take i ++ [x] := by rw [List.take_add_one, h]; rfl
theorem flat_snoc {α : Type} (f : α → List UInt8) {l : List α} {i : Nat} {x : α} (h : l[i]? = some x) : ((l.take (i + 1)).map f).flatten = ((l.take i).map f).flatten ++ f x := by
  rw [take_snoc h]; simp
/-! ### How a list of entries lies in memory -/
def EntAt (w : World) (v : Value) (es : List Ent) : Prop :=
  ∃ a c, v = .slice a es.length c ∧ es.length ≤ c ∧ ∀ j x, es[j]? = some x → I64 x.1 ∧ I64 x.2 ∧ ∃ b off, a = some ⟨b, off, none⟩ ∧ w.cell? ⟨b, off + j * 2, none⟩ = some (.int .i64 x.1) ∧ w.cell? ⟨b, off + j * 2 + 1, none⟩ = some (.int .i64 x.2)
theorem EntAt.later {w w' : World} {v : Value} {es : List Ent} (h : EntAt w v es) (l : Later w w') : EntAt w' v es := by
  obtain ⟨a, c, h1, h2, h3⟩ := h
  refine ⟨a, c, h1, h2, fun j x hj => ?_⟩
  obtain ⟨i1, i2, b, off, e, k1, k2⟩ := h3 j x hj
  exact ⟨i1, i2, b, off, e, (World.cell?_of_block (l.block b (World.block_lt_of_cell? w _ k1))).trans k1, (World.cell?_of_block (l.block b (World.block_lt_of_cell? w _ k2))).trans k2⟩
theorem EntAt.nil (w : World) : EntAt w (.slice none 0 0) [] := ⟨none, 0, rfl, Nat.le_refl _, fun j x hj => by simp at hj⟩
theorem EntAt.take {w : World} {a : Option Addr} {n c : Nat} {es : List Ent} (h : EntAt w (.slice a n c) es) {i : Nat} (hi : i ≤ es.length) : EntAt w (.slice a i c) (es.take i) := by
  obtain ⟨a', c', h1, h2, h3⟩ := h
  cases h1
  refine ⟨a, c, by rw [List.length_take, Nat.min_eq_left hi], by rw [List.length_take]; omega, fun j x hj => ?_⟩
  have hlt := (List.getElem?_eq_some_iff.1 hj).1
  rw [List.length_take] at hlt
  rw [List.getElem?_take_of_lt (by omega)] at hj
  exact h3 j x hj
end Go.Proofs.YthjgilocbfhffaaDoor
