/-
  The sum's words and bytes (wAt, bt) as values, and what is read of them. No conditions.
-/
import Derived.Test.YtlpenfganhaclaaShaA
namespace Go.Proofs.Ytlpenfganhaclaa
open Go.RowKit

def wAt : Five → Nat → Int
  | (a, b, c, d, e), i => if i = 0 then a else if i = 1 then b else if i = 2 then c else if i = 3 then d else e
theorem wAt_in {s : Five} (h : ok5 s) (i : Nat) : inW32 (wAt s i) := by
  obtain ⟨a, b, c, d, e⟩ := s
  obtain ⟨h1, h2, h3, h4, h5⟩ := h
  simp only [wAt]
  split
  · exact h1
  · split
    · exact h2
    · split
      · exact h3
      · split
        · exact h4
        · exact h5
def bt (s : Five) (j : Nat) : Int := wAt s (j / 4) / 2 ^ (24 - 8 * (j % 4)) % 256
theorem bt_in (s : Five) (j : Nat) : 0 ≤ bt s j ∧ bt s j < 256 := by unfold bt; omega
theorem bt_join {s : Five} (h : ok5 s) (i : Nat) : bt s (4 * i) * 16777216 + bt s (4 * i + 1) * 65536 + bt s (4 * i + 2) * 256 + bt s (4 * i + 3) = wAt s i := by
  have hw := wAt_in h i
  unfold inW32 at hw
  unfold bt
  rw [show 4 * i / 4 = i by omega, show (4 * i + 1) / 4 = i by omega, show (4 * i + 2) / 4 = i by omega, show (4 * i + 3) / 4 = i by omega,
    show 4 * i % 4 = 0 by omega, show (4 * i + 1) % 4 = 1 by omega, show (4 * i + 2) % 4 = 2 by omega, show (4 * i + 3) % 4 = 3 by omega]
  simp only [Nat.reduceMul, Nat.reduceSub, Int.reducePow]
  omega
def wordsC (s : Five) : List Value := [.int .u32 (wAt s 0), .int .u32 (wAt s 1), .int .u32 (wAt s 2), .int .u32 (wAt s 3), .int .u32 (wAt s 4)]
def fiveC (s : Five) : List Value := [.int .i64 (wAt s 0), .int .i64 (wAt s 1), .int .i64 (wAt s 2), .int .i64 (wAt s 3), .int .i64 (wAt s 4)]
def sumC (s : Five) : List Value := [.int .u8 (bt s 0), .int .u8 (bt s 1), .int .u8 (bt s 2), .int .u8 (bt s 3), .int .u8 (bt s 4), .int .u8 (bt s 5), .int .u8 (bt s 6), .int .u8 (bt s 7), .int .u8 (bt s 8), .int .u8 (bt s 9), .int .u8 (bt s 10), .int .u8 (bt s 11), .int .u8 (bt s 12), .int .u8 (bt s 13), .int .u8 (bt s 14), .int .u8 (bt s 15), .int .u8 (bt s 16), .int .u8 (bt s 17), .int .u8 (bt s 18), .int .u8 (bt s 19)]
def wordsV (s : Five) : Value := .agg #[.int .u32 (wAt s 0), .int .u32 (wAt s 1), .int .u32 (wAt s 2), .int .u32 (wAt s 3), .int .u32 (wAt s 4)]
def sumV (s : Five) : Value := .agg #[.int .u8 (bt s 0), .int .u8 (bt s 1), .int .u8 (bt s 2), .int .u8 (bt s 3), .int .u8 (bt s 4), .int .u8 (bt s 5), .int .u8 (bt s 6), .int .u8 (bt s 7), .int .u8 (bt s 8), .int .u8 (bt s 9), .int .u8 (bt s 10), .int .u8 (bt s 11), .int .u8 (bt s 12), .int .u8 (bt s 13), .int .u8 (bt s 14), .int .u8 (bt s 15), .int .u8 (bt s 16), .int .u8 (bt s 17), .int .u8 (bt s 18), .int .u8 (bt s 19)]
theorem fiveV_eq (s : Five) : fiveV s = .agg #[.int .i64 (wAt s 0), .int .i64 (wAt s 1), .int .i64 (wAt s 2), .int .i64 (wAt s 3), .int .i64 (wAt s 4)] := by
  obtain ⟨a, b, c, d, e⟩ := s
  rfl
theorem read_words {P : Program} {t : TypeId} (s : Five) {i j : Nat} (h : i < 5) (e : j = i) (ht : isAggT P t = some false) : readOf P t (wordsC s) j = some (.int .u32 (wAt s i)) := by
  subst e
  rw [read_one ht]
  match j, h with
  | 0, _ | 1, _ | 2, _ | 3, _ | 4, _ => rfl
theorem read_five {P : Program} {t : TypeId} (s : Five) {i j : Nat} (h : i < 5) (e : j = i) (ht : isAggT P t = some false) : readOf P t (fiveC s) j = some (.int .i64 (wAt s i)) := by
  subst e
  rw [read_one ht]
  match j, h with
  | 0, _ | 1, _ | 2, _ | 3, _ | 4, _ => rfl
theorem read_sum {P : Program} {t : TypeId} (s : Five) {i j : Nat} (h : i < 20) (e : j = i) (ht : isAggT P t = some false) : readOf P t (sumC s) j = some (.int .u8 (bt s i)) := by
  subst e
  rw [read_one ht]
  obtain rfl | rfl | rfl | rfl | rfl | rfl | rfl | rfl | rfl | rfl | rfl | rfl | rfl | rfl | rfl | rfl | rfl | rfl | rfl | rfl : j = 0 ∨ j = 1 ∨ j = 2 ∨ j = 3 ∨ j = 4 ∨ j = 5 ∨ j = 6 ∨ j = 7 ∨ j = 8 ∨ j = 9 ∨ j = 10 ∨ j = 11 ∨ j = 12 ∨ j = 13 ∨ j = 14 ∨ j = 15 ∨ j = 16 ∨ j = 17 ∨ j = 18 ∨ j = 19 := by omega
  all_goals rfl
theorem row_bytes {w : World} {c : Nat} {cs : List Value} {l : List UInt8} (h : Var w c cs) {cap : Nat} (hc : l.length ≤ cap) (hl : cs.take l.length = bytesV l) : BytesAt w (.slice (some ⟨c, 0, none⟩) l.length cap) l := by
  obtain ⟨t, ht⟩ := h
  refine .inl ⟨c, 0, cap, rfl, hc, fun j x hj => ?_⟩
  rw [Nat.zero_add, cell_of_row w c j cs.toArray t (0, 0) ht]
  have hjl := (List.getElem?_eq_some_iff.1 hj).1
  have e : (cs.take l.length)[j]? = (bytesV l)[j]? := by rw [hl]
  rw [List.getElem?_take_of_lt hjl] at e
  have e2 : (bytesV l)[j]? = some (.int .u8 x.toNat) := by unfold bytesV; rw [List.getElem?_map, hj]; rfl
  rw [e2] at e
  simpa using e
theorem bytes_of_cells {w : World} {c : Nat} {l : List UInt8} {cap : Nat} (hc : l.length ≤ cap) (h : ∀ j v, (bytesV l)[j]? = some v → w.cell? ⟨c, j, none⟩ = some v) : BytesAt w (.slice (some ⟨c, 0, none⟩) l.length cap) l :=
  .inl ⟨c, 0, cap, rfl, hc, fun j x hj => by rw [Nat.zero_add]; exact h j _ (by unfold bytesV; rw [List.getElem?_map, hj]; rfl)⟩
/-! ### A row of bytes that is filled one by one -/
def rowB (n : Nat) (f : Nat → Int) : List Value := (List.range n).map fun j => .int .u8 (f j)
theorem rowB_len (n : Nat) (f : Nat → Int) : (rowB n f).length = n := by simp [rowB]
theorem rowB_set {n : Nat} (f : Nat → Int) {i : Nat} (h : i < n) (v : Int) : (rowB n f).set i (.int .u8 v) = rowB n (updF f i v) := by
  apply List.ext_getElem?
  intro j
  rw [List.getElem?_set]
  have at' : ∀ (g : Nat → Int) (j : Nat), j < n → (rowB n g)[j]? = some (.int .u8 (g j)) := fun g j hj => by simp [rowB, hj]
  by_cases hj : j < n
  · by_cases e : i = j
    · subst e; rw [if_pos rfl, if_pos (by rw [rowB_len]; exact h), at' _ _ h, updF_same]
    · rw [if_neg e, at' _ _ hj, at' _ _ hj, updF_ne (fun q => e q.symm)]
  · have e1 : (rowB n f)[j]? = none := List.getElem?_eq_none (by rw [rowB_len]; omega)
    have e2 : (rowB n (updF f i v))[j]? = none := List.getElem?_eq_none (by rw [rowB_len]; omega)
    rw [if_neg (by omega), e1, e2]
theorem write_rowB {P : Program} {t : TypeId} {n : Nat} (f : Nat → Int) {j : Nat} (h : j < n) (v : Int) (hs : (P.info? t).map (·.size) = some 1) : writeOf P t (rowB n f) j (.int .u8 v) = some (rowB n (updF f j v)) := by
  rw [write_one hs rfl rfl (by rw [rowB_len]; exact h), rowB_set f h]
def bytesF (n : Nat) (f : Nat → Int) : List UInt8 := (List.range n).map fun j => UInt8.ofNat (f j).toNat
theorem bytesF_len (n : Nat) (f : Nat → Int) : (bytesF n f).length = n := by simp [bytesF]
theorem rowB_bytes {n : Nat} {f : Nat → Int} (h : ∀ j, 0 ≤ f j ∧ f j < 256) : rowB n f = bytesV (bytesF n f) := by
  unfold rowB bytesV bytesF
  rw [List.map_map]
  apply List.map_congr_left
  intro j _
  have := h j
  simp only [Function.comp, Value.int.injEq, true_and]
  rw [UInt8.toNat_ofNat', Nat.mod_eq_of_lt (by omega)]
  omega
theorem updF_byte {f : Nat → Int} {i : Nat} {v : Int} (h : ∀ j, 0 ≤ f j ∧ f j < 256) (hv : 0 ≤ v ∧ v < 256) : ∀ j, 0 ≤ updF f i v j ∧ updF f i v j < 256 := fun j => by
  by_cases e : j = i
  · subst e; rw [updF_same]; exact hv
  · rw [updF_ne e]; exact h j
theorem made_rowB (n : Nat) (z : Value) (hz : z.cells = #[.int .u8 0]) : (madeCells z.cells (n * 1)).toList = rowB n fun _ => 0 := by
  rw [hz]
  simp [madeCells, rowB, Nat.mod_one]
end Go.Proofs.Ytlpenfganhaclaa
