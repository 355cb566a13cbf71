/-
  What the program's own functions lay out, in plain numbers: rows of 80 words of 32 bits (rowW), the words of a block up to a step (rdF), the last blocks (tlF), and how they agree with what is summed. No conditions.
-/
import Derived.Test.YthjgilocbfhffaaDoorVcZ
import Derived.Test.YthjgilocbfhffaaDoorShaL
import Derived.Test.YthjgilocbfhffaaDoorShaR
namespace Go.Proofs.YthjgilocbfhffaaDoor
open Go.RowKit

def rowW (f : Nat → Int) : List Value := (List.range 80).map fun j => .int .u32 (f j)
theorem rowW_len (f : Nat → Int) : (rowW f).length = 80 := by simp [rowW]
theorem rowW_at (f : Nat → Int) {j : Nat} (h : j < 80) : (rowW f)[j]? = some (.int .u32 (f j)) := by simp [rowW, h]
theorem rowW_one (f : Nat → Int) : (rowW f).all (·.oneCell') = true := by
  rw [List.all_eq_true]
  intro x hx
  unfold rowW at hx
  rw [List.mem_map] at hx
  obtain ⟨j, _, rfl⟩ := hx
  rfl
theorem rowW_set (f : Nat → Int) {i : Nat} (h : i < 80) (v : Int) : (rowW f).set i (.int .u32 v) = rowW (updF f i v) := by
  apply List.ext_getElem?
  intro j
  rw [List.getElem?_set]
  by_cases hj : j < 80
  · by_cases e : i = j
    · subst e; rw [if_pos rfl, if_pos (by rw [rowW_len]; exact h), rowW_at _ h, updF_same]
    · rw [if_neg e, rowW_at _ hj, rowW_at _ hj, updF_ne (fun q => e q.symm)]
  · have e1 : (rowW f)[j]? = none := List.getElem?_eq_none (by rw [rowW_len]; omega)
    have e2 : (rowW (updF f i v))[j]? = none := List.getElem?_eq_none (by rw [rowW_len]; omega)
    rw [if_neg (by omega), e1, e2]
theorem read_rowW {P : Program} {t : TypeId} (f : Nat → Int) {j : Nat} (h : j < 80) (ht : isAggT P t = some false) : readOf P t (rowW f) j = some (.int .u32 (f j)) := by rw [read_one ht, rowW_at f h]
theorem write_rowW {P : Program} {t : TypeId} (f : Nat → Int) {j : Nat} (h : j < 80) (v : Int) (hs : (P.info? t).map (·.size) = some 1) : writeOf P t (rowW f) j (.int .u32 v) = some (rowW (updF f j v)) := by
  rw [write_one hs rfl rfl (by rw [rowW_len]; exact h), rowW_set f h]
theorem rowB_one (n : Nat) (f : Nat → Int) : (rowB n f).all (·.oneCell') = true := by
  rw [List.all_eq_true]
  intro x hx
  unfold rowB at hx
  rw [List.mem_map] at hx
  obtain ⟨j, _, rfl⟩ := hx
  rfl
theorem rowB_at {n : Nat} (f : Nat → Int) {j : Nat} (h : j < n) : (rowB n f)[j]? = some (.int .u8 (f j)) := by simp [rowB, h]
theorem rowB_congr {n : Nat} {f g : Nat → Int} (h : ∀ j, j < n → f j = g j) : rowB n f = rowB n g := by
  unfold rowB
  apply List.map_congr_left
  intro j hj
  rw [h j (List.mem_range.1 hj)]
def fiveU : Five → Value
  | (a, b, c, d, e) => .agg #[.int .u32 a, .int .u32 b, .int .u32 c, .int .u32 d, .int .u32 e]
theorem wordsV_eq (s : Five) : fiveU s = wordsV s := by
  obtain ⟨a, b, c, d, e⟩ := s
  rfl
/-! ### The words of a block -/
theorem updF_updF (f : Nat → Int) (i : Nat) (v v' : Int) : updF (updF f i v) i v' = updF f i v' := by
  funext j
  by_cases e : j = i
  · subst e; rw [updF_same, updF_same]
  · rw [updF_ne e, updF_ne e, updF_ne e]
theorem gf_step (m : List UInt8) (p t : Nat) : gf m p (4 * (t + 1)) = updF (gf m p (4 * t)) t (byteF m (p + 4 * t) * 16777216 + byteF m (p + (4 * t + 1)) * 65536 + byteF m (p + (4 * t + 2)) * 256 + byteF m (p + (4 * t + 3))) := by
  have h0 := gf_in m p (4 * t) t
  have h1 := h0.2.2.1 (by omega)
  rw [show 4 * t % 4 = 0 by omega, show capW 0 = 1 from rfl] at h1
  have hz : gf m p (4 * t) t = 0 := by have := h0.1; omega
  have e0 := gf_next (m := m) (p := p) (t := t) (k := 0) (by omega)
  have e1 := gf_next (m := m) (p := p) (t := t) (k := 1) (by omega)
  have e2 := gf_next (m := m) (p := p) (t := t) (k := 2) (by omega)
  have e3 := gf_next (m := m) (p := p) (t := t) (k := 3) (by omega)
  simp only [Nat.add_zero] at e0
  rw [hz] at e0
  rw [show 4 * (t + 1) = 4 * t + 3 + 1 by omega, e3, show 4 * t + 3 = 4 * t + 2 + 1 by omega, e2, show 4 * t + 2 = 4 * t + 1 + 1 by omega, e1, e0]
  simp only [updF_updF, updF_same]
  exact congrArg (updF (gf m p (4 * t)) t) (by omega)
theorem gf_congr {m m' : List UInt8} {p p' : Nat} (h : ∀ i, i < 64 → byteF m (p + i) = byteF m' (p' + i)) : ∀ i, i ≤ 64 → gf m p i = gf m' p' i
  | 0, _ => rfl
  | i + 1, hi => by simp only [gf]; rw [gf_congr h i (by omega), h i (by omega)]
theorem wf_congr {m m' : List UInt8} {p p' : Nat} (h : ∀ i, i < 64 → byteF m (p + i) = byteF m' (p' + i)) : ∀ n, wf m p n = wf m' p' n
  | 0 => gf_congr h 64 (by omega)
  | n + 1 => by simp only [wf]; rw [wf_congr h n]
/-- The words of the block with which m begins, ahead of step t. -/
def rdF (m : List UInt8) (t : Nat) : Nat → Int := if t ≤ 16 then gf m 0 (4 * t) else wf m 0 (t - 16)
theorem rdF_zero (m : List UInt8) : rdF m 0 = fun _ => 0 := rfl
theorem rdF_low {m : List UInt8} {t : Nat} (h : t < 16) : rdF m (t + 1) = updF (rdF m t) t (byteF m (4 * t) * 16777216 + byteF m (4 * t + 1) * 65536 + byteF m (4 * t + 2) * 256 + byteF m (4 * t + 3)) := by
  unfold rdF
  rw [if_pos (by omega), if_pos (by omega), gf_step]
  simp only [Nat.zero_add]
theorem rdF_wf {m : List UInt8} {t : Nat} (h : 16 ≤ t) : rdF m t = wf m 0 (t - 16) := by
  unfold rdF
  by_cases e : t = 16
  · subst e; rw [if_pos (by omega)]; rfl
  · rw [if_neg (by omega)]
theorem rdF_high {m : List UInt8} {t : Nat} (h : 16 ≤ t) : rdF m (t + 1) = updF (rdF m t) t (nextW (rdF m t) t) := by
  rw [rdF_wf (t := t + 1) (by omega), rdF_wf h, show t + 1 - 16 = (t - 16) + 1 by omega]
  simp only [wf]
  rw [show 16 + (t - 16) = t by omega]
theorem rdF_in {m : List UInt8} {t : Nat} (h : 16 ≤ t) (j : Nat) : inW32 (rdF m t j) := by rw [rdF_wf h]; exact wf_in m 0 _ j
/-! ### The last blocks -/
def kN (n : Nat) : Nat := if 56 ≤ n then 2 else 1
def tlF (l : List UInt8) (n k : Nat) : Nat → (Nat → Int)
  | 0 => updF (byteF l) l.length 128
  | i + 1 => updF (tlF l n k i) (64 * k - 1 - i) (IntKind.u8.wrap ((n : Int) * 8 / 2 ^ (8 * i)))
theorem tlF_byte (l : List UInt8) (n k : Nat) : ∀ i j, 0 ≤ tlF l n k i j ∧ tlF l n k i j < 256
  | 0 => updF_byte (byteF_in l) (by omega)
  | i + 1 => updF_byte (tlF_byte l n k i) (by rw [IntKind.wrap_u8']; omega)
theorem copied (l : List UInt8) (h : l.length ≤ 128) : bytesV l ++ (rowB 128 fun _ => 0).drop l.length = rowB 128 (byteF l) := by
  apply List.ext_getElem?
  intro j
  by_cases hj : j < l.length
  · rw [List.getElem?_append_left (by rw [bytesV_len]; exact hj), rowB_at _ (by omega)]
    unfold bytesV byteF
    rw [List.getElem?_map, List.getElem?_eq_getElem hj]
    simp [List.getD, hj]
  · rw [List.getElem?_append_right (by rw [bytesV_len]; omega), bytesV_len, List.getElem?_drop, show l.length + (j - l.length) = j by omega]
    by_cases g : j < 128
    · rw [rowB_at _ g, rowB_at _ g]
      unfold byteF
      simp [List.getD, Nat.le_of_not_lt hj]
    · rw [List.getElem?_eq_none (by rw [rowB_len]; omega), List.getElem?_eq_none (by rw [rowB_len]; omega)]
theorem byteF_app {a b : List UInt8} {j : Nat} (h : j < a.length) : byteF (a ++ b) j = byteF a j := by unfold byteF; simp [List.getD, List.getElem?_append_left h]
theorem byteF_app' {a b : List UInt8} {j : Nat} (h : a.length ≤ j) : byteF (a ++ b) j = byteF b (j - a.length) := by unfold byteF; simp [List.getD, List.getElem?_append_right h]
theorem byteF_drop (a : List UInt8) (p j : Nat) : byteF (a.drop p) j = byteF a (p + j) := by unfold byteF; simp [List.getD, List.getElem?_drop]
theorem byteF_off {a : List UInt8} {j : Nat} (h : a.length ≤ j) : byteF a j = 0 := by unfold byteF; simp [List.getD, h]
theorem byteF_zeros (z j : Nat) : byteF (List.replicate z 0) j = 0 := by
  unfold byteF
  by_cases h : j < z
  · simp [List.getD, h]
  · simp [List.getD, Nat.le_of_not_lt h]
theorem lenL_at (n : Nat) : ∀ j m, m < j → byteF (lenL n j) m = ((lenB n m).toNat : Int)
  | 0, m, h => by omega
  | j + 1, m, h => by
    rw [lenL]
    by_cases e : m < j
    · rw [byteF_app (by rw [lenL_len]; exact e), lenL_at n j m e]
    · have e' : m = j := by omega
      subst e'
      rw [byteF_app' (by rw [lenL_len]; omega), lenL_len, Nat.sub_self]
      rfl
theorem lenB_wrap (n j : Nat) : IntKind.u8.wrap ((n : Int) * 8 / 2 ^ (8 * (7 - j))) = ((lenB n j).toNat : Int) := by
  have h := lenB_is n j
  unfold bytesV at h
  simp only [List.map_cons, List.map_nil, List.cons.injEq, Value.int.injEq, true_and, and_true] at h
  exact h
theorem tlF_low {l : List UInt8} {n k : Nat} : ∀ {i j : Nat}, j + i < 64 * k → tlF l n k i j = tlF l n k 0 j
  | 0, _, _ => rfl
  | i + 1, j, h => by
    show updF (tlF l n k i) (64 * k - 1 - i) _ j = _
    rw [updF_ne (by omega)]
    exact tlF_low (by omega)
theorem tlF_high {l : List UInt8} {n k : Nat} : ∀ {i j : Nat}, i ≤ 64 * k → 64 * k ≤ j + i → j < 64 * k → tlF l n k i j = IntKind.u8.wrap ((n : Int) * 8 / 2 ^ (8 * (64 * k - 1 - j)))
  | 0, _, _, h1, h2 => by omega
  | i + 1, j, h0, h1, h2 => by
    rw [tlF]
    by_cases e : j = 64 * k - 1 - i
    · subst e; rw [updF_same, show 64 * k - 1 - (64 * k - 1 - i) = i by omega]
    · rw [updF_ne e]; exact tlF_high (by omega) (by omega) h2
theorem pad_blocks (n : Nat) : n + 9 + padK n = 64 * (n / 64) + 64 * kN (n % 64) := by
  unfold padK kN
  split <;> omega
theorem pad_blocks' (l : List UInt8) : (padL l).length / 64 = l.length / 64 + kN (l.length % 64) := by
  rw [(padL_len l).1, pad_blocks]
  omega
/-- The last blocks are what is summed behind the whole ones. -/
theorem tl_pad (l : List UInt8) {j : Nat} (hj : j < 64 * kN (l.length % 64)) : tlF (l.drop (64 * (l.length / 64))) l.length (kN (l.length % 64)) 8 j = byteF (padL l) (64 * (l.length / 64) + j) := by
  have hb := pad_blocks l.length
  have hlen : (l.drop (64 * (l.length / 64))).length = l.length % 64 := by rw [List.length_drop]; omega
  have hk : kN (l.length % 64) = 1 ∨ kN (l.length % 64) = 2 := by unfold kN; split <;> simp
  by_cases g : 64 * kN (l.length % 64) ≤ j + 8
  · rw [tlF_high (by omega) g hj]
    unfold padL
    rw [byteF_app' (by rw [padZ_len]; omega), padZ_len, lenL_at _ _ _ (by omega), ← lenB_wrap]
    congr 4
    omega
  · rw [tlF_low (by omega), tlF]
    unfold padL
    rw [byteF_app (by rw [padZ_len]; omega)]
    unfold padZ
    by_cases e : j = l.length % 64
    · subst e
      rw [hlen, updF_same, byteF_app (by simp; omega), byteF_app' (by omega), show 64 * (l.length / 64) + l.length % 64 - l.length = 0 by omega]
      rfl
    · rw [hlen, updF_ne e, byteF_drop]
      by_cases f : j < l.length % 64
      · rw [byteF_app (by simp; omega), byteF_app (by omega)]
      · rw [byteF_off (by omega), byteF_app' (by simp; omega), byteF_zeros]
theorem whole_pad {l : List UInt8} {p : Nat} (hp : p + 64 ≤ l.length) : wf (l.drop p) 0 64 = wf (padL l) p 64 := wf_congr (fun i hi => by
  rw [Nat.zero_add, byteF_drop]
  unfold padL padZ
  rw [byteF_app (by simp; omega), byteF_app (by simp; omega), byteF_app (by omega)]) 64
theorem bytesF_at {n : Nat} {f : Nat → Int} (h : ∀ j, 0 ≤ f j ∧ f j < 256) {j : Nat} (hj : j < n) : byteF (bytesF n f) j = f j := by
  have h1 := h j
  unfold byteF bytesF
  simp only [List.getD, List.getElem?_map, List.getElem?_range hj, Option.map_some, Option.getD_some]
  rw [UInt8.toNat_ofNat', Nat.mod_eq_of_lt (by omega)]
  omega
theorem tail_pad {l : List UInt8} {i : Nat} (hi : i < kN (l.length % 64)) : wf ((bytesF 128 (tlF (l.drop (64 * (l.length / 64))) l.length (kN (l.length % 64)) 8)).drop (64 * i)) 0 64 = wf (padL l) (64 * (l.length / 64 + i)) 64 := wf_congr (fun j hj => by
  have hk : kN (l.length % 64) = 1 ∨ kN (l.length % 64) = 2 := by unfold kN; split <;> simp
  rw [Nat.zero_add, byteF_drop, bytesF_at (tlF_byte _ _ _ _) (by omega), tl_pad l (by omega)]
  congr 1
  omega) 64
theorem bytes_off {w : World} {c : Nat} {T : List UInt8} (h : Var w c (bytesV T)) {off : Nat} (_ho : off ≤ T.length) {n cap : Nat} (hn : n = T.length - off) (hc : n ≤ cap) : BytesAt w (.slice (some ⟨c, off, none⟩) n cap) (T.drop off) := by
  obtain ⟨t, ht⟩ := h
  subst hn
  refine .inl ⟨c, off, cap, by rw [List.length_drop], by rw [List.length_drop]; exact hc, fun j x hj => ?_⟩
  rw [List.getElem?_drop] at hj
  rw [cell_of_row w c (off + j) (bytesV T).toArray t (0, 0) ht]
  unfold bytesV
  simp [hj]
theorem BytesAt.at {w : World} {u : Value} {l : List UInt8} (h : BytesAt w u l) (hl : 0 < l.length) : ∃ b off c, u = .slice (some ⟨b, off, none⟩) l.length c ∧ l.length ≤ c ∧ ∀ j, j < l.length → w.cell? ⟨b, off + j, none⟩ = some (.int .u8 (byteF l j)) := by
  rcases h with ⟨b, off, c, h1, h3, h2⟩ | ⟨h1, h2⟩
  · refine ⟨b, off, c, h1, h3, fun j hj => ?_⟩
    have e : l[j]? = some (l.getD j 0) := by simp [List.getD, hj]
    exact h2 j _ e
  · subst h2; simp at hl
theorem cell_after {w w' : World} {b off : Nat} {v : Value} (l : Later w w') (h : w.cell? ⟨b, off, none⟩ = some v) : w'.cell? ⟨b, off, none⟩ = some v := (World.cell?_of_block (l.block b (World.block_lt_of_cell? w _ h))).trans h
theorem wrap32_in (x : Int) : 0 ≤ IntKind.u32.wrap x ∧ IntKind.u32.wrap x ≤ 4294967295 := by rw [IntKind.wrap_u32']; omega
theorem sum5 (a b c d e : Int) : IntKind.u32.wrap (IntKind.u32.wrap (IntKind.u32.wrap (IntKind.u32.wrap (a + b) + c) + d) + e) = (a + b + c + d + e) % 4294967296 := by simp only [IntKind.wrap_u32']; omega
/-! ### The sum's bytes -/
def smF (s : Five) (m : Nat) : Nat → Int := fun j => if j < m then bt s j else 0
theorem smF_next (s : Five) (n i : Nat) (hi : i < 4) : updF (smF s (4 * n + i)) (4 * n + i) (IntKind.u8.wrap (wAt s n / 2 ^ (24 - 8 * i))) = smF s (4 * n + i + 1) := by
  funext j
  by_cases e : j = 4 * n + i
  · subst e
    rw [updF_same]
    unfold smF bt
    rw [if_pos (by omega), IntKind.wrap_u8', show (4 * n + i) / 4 = n by omega, show (4 * n + i) % 4 = i by omega]
  · rw [updF_ne e]
    unfold smF
    by_cases g : j < 4 * n + i
    · rw [if_pos g, if_pos (by omega)]
    · rw [if_neg g, if_neg (by omega)]
theorem smF_all (s : Five) : rowB 20 (smF s 20) = sumC s := by
  rw [rowB_congr (g := bt s) (fun j hj => by unfold smF; rw [if_pos hj])]
  rfl
theorem words_at (s : Five) {j : Int} (h0 : 0 ≤ j) (h1 : j < 5) : (wordsC s).toArray[j.toNat]? = some (.int .u32 (wAt s j.toNat)) := by
  obtain ⟨J, rfl⟩ := Int.eq_ofNat_of_zero_le h0
  obtain rfl | rfl | rfl | rfl | rfl : J = 0 ∨ J = 1 ∨ J = 2 ∨ J = 3 ∨ J = 4 := by omega
  all_goals rfl
end Go.Proofs.YthjgilocbfhffaaDoor
