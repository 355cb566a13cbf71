/-
  SHA-1 in plain numbers, as the document says it: rot, the rounds (rnd, rnds), the words of a block (gf, wf), a block (blk), the blocks (hAt), what is summed (padL), the sum's words (shaF). No conditions.
-/
import Derived.Test.YtlpenfganhaclaaVcY
namespace Go.Proofs.Ytlpenfganhaclaa
open Go.RowKit

abbrev Five := Int × Int × Int × Int × Int
def inW32 (x : Int) : Prop := 0 ≤ x ∧ x < 4294967296
def ok5 : Five → Prop
  | (a, b, c, d, e) => inW32 a ∧ inW32 b ∧ inW32 c ∧ inW32 d ∧ inW32 e
def rot (p q n : Int) : Int := n * p % 4294967296 + n / q
theorem rot1_in {n : Int} (h : inW32 n) : inW32 (rot 2 2147483648 n) := by unfold inW32 rot at *; omega
theorem rot5_in {n : Int} (h : inW32 n) : inW32 (rot 32 134217728 n) := by unfold inW32 rot at *; omega
theorem rot30_in {n : Int} (h : inW32 n) : inW32 (rot 1073741824 4 n) := by unfold inW32 rot at *; omega
def fT (t : Nat) (b c d : Int) : Int :=
  if t < 20 then bAnd b c + bAnd (4294967295 - b) d else if t < 40 then bXor (bXor b c) d else if t < 60 then bOr (bOr (bAnd b c) (bAnd b d)) (bAnd c d) else bXor (bXor b c) d
def kT (t : Nat) : Int := if t < 20 then 1518500249 else if t < 40 then 1859775393 else if t < 60 then 2400959708 else 3395469782
theorem kT_in (t : Nat) : 0 ≤ kT t ∧ kT t < 4294967296 := by unfold kT; split <;> (try split) <;> (try split) <;> omega
theorem fT_in {t : Nat} {b c d : Int} (hb : inW32 b) (hc : inW32 c) (hd : inW32 d) : inW32 (fT t b c d) := by
  unfold inW32 at *
  have h1 := bAnd_in (b := c) hb.1
  have h2 := bAnd_in (a := 4294967295 - b) (b := d) (by omega)
  have h3 := bXor32 hb.2 hc.2
  have h4 := bXor32 h3.2 hd.2
  have h5 := bAnd_in (b := d) hb.1
  have h6 := bAnd_in (b := d) hc.1
  have h7 := bOr32 (a := bAnd b c) (b := bAnd b d) (by omega) (by omega)
  have h8 := bOr32 (b := bAnd c d) h7.2 (by omega)
  unfold fT
  split
  · omega
  · split
    · exact h4
    · split
      · exact h8
      · exact h4
def rnd (wt : Int) (t : Nat) : Five → Five
  | (a, b, c, d, e) => ((rot 32 134217728 a + fT t b c d + e + kT t + wt) % 4294967296, a, rot 1073741824 4 b, c, d)
theorem rnd_in {wt : Int} {t : Nat} {s : Five} (h : ok5 s) : ok5 (rnd wt t s) := by
  obtain ⟨a, b, c, d, e⟩ := s
  obtain ⟨ha, hb, hc, hd, he⟩ := h
  exact ⟨by unfold inW32; omega, ha, rot30_in hb, hc, hd⟩
def rnds (W : Nat → Int) : Nat → Five → Five
  | 0, s => s
  | t + 1, s => rnd (W t) t (rnds W t s)
theorem rnds_in {W : Nat → Int} {s : Five} (h : ok5 s) : ∀ t, ok5 (rnds W t s)
  | 0 => h
  | t + 1 => rnd_in (rnds_in h t)
def updF (f : Nat → Int) (i : Nat) (v : Int) : Nat → Int := fun j => if j = i then v else f j
theorem updF_same (f : Nat → Int) (i : Nat) (v : Int) : updF f i v i = v := by unfold updF; rw [if_pos rfl]
theorem updF_ne {f : Nat → Int} {i j : Nat} {v : Int} (h : j ≠ i) : updF f i v j = f j := by unfold updF; rw [if_neg h]
def byteF (m : List UInt8) (i : Nat) : Int := ((m.getD i 0).toNat : Int)
theorem byteF_in (m : List UInt8) (i : Nat) : 0 ≤ byteF m i ∧ byteF m i < 256 := by
  unfold byteF
  have := (m.getD i 0).toNat_lt
  omega
/-- The words of a block that begins at p, behind its first i bytes. -/
def gf (m : List UInt8) (p : Nat) : Nat → (Nat → Int)
  | 0 => fun _ => 0
  | i + 1 => updF (gf m p i) (i / 4) (gf m p i (i / 4) * 256 + byteF m (p + i))
def capW (r : Nat) : Int := if r = 0 then 1 else if r = 1 then 256 else if r = 2 then 65536 else 16777216
theorem gf_in (m : List UInt8) (p : Nat) : ∀ i j, 0 ≤ gf m p i j ∧ (j < i / 4 → gf m p i j < 4294967296) ∧ (j = i / 4 → gf m p i j < capW (i % 4)) ∧ (i / 4 < j → gf m p i j = 0)
  | 0, j => ⟨by simp [gf], fun _ => by simp [gf], fun _ => by simp [gf, capW], fun _ => rfl⟩
  | i + 1, j => by
    have hb := byteF_in m (p + i)
    have ih := gf_in m p i j
    have ih' := gf_in m p i (i / 4)
    have hc := ih'.2.2.1 rfl
    have h0 := ih'.1
    simp only [gf]
    by_cases e : j = i / 4
    · subst e
      rw [updF_same]
      obtain h | h | h | h : i % 4 = 0 ∨ i % 4 = 1 ∨ i % 4 = 2 ∨ i % 4 = 3 := by omega
      · rw [h, show capW 0 = 1 from rfl] at hc
        refine ⟨by omega, fun _ => by omega, fun q => ?_, fun q => by omega⟩
        rw [show (i + 1) % 4 = 1 by omega, show capW 1 = 256 from rfl]; omega
      · rw [h, show capW 1 = 256 from rfl] at hc
        refine ⟨by omega, fun _ => by omega, fun q => ?_, fun q => by omega⟩
        rw [show (i + 1) % 4 = 2 by omega, show capW 2 = 65536 from rfl]; omega
      · rw [h, show capW 2 = 65536 from rfl] at hc
        refine ⟨by omega, fun _ => by omega, fun q => ?_, fun q => by omega⟩
        rw [show (i + 1) % 4 = 3 by omega, show capW 3 = 16777216 from rfl]; omega
      · rw [h, show capW 3 = 16777216 from rfl] at hc
        refine ⟨by omega, fun _ => by omega, fun q => ?_, fun q => by omega⟩
        omega
    · rw [updF_ne e]
      refine ⟨ih.1, fun q => ?_, fun q => ?_, fun q => ih.2.2.2 (by omega)⟩
      · by_cases g : j < i / 4
        · exact ih.2.1 g
        · omega
      · rw [ih.2.2.2 (by omega), show (i + 1) % 4 = 0 by omega]; simp [capW]
theorem gf_low {m : List UInt8} {p t k : Nat} (hk : k < 4) : 0 ≤ gf m p (4 * t + k) t ∧ gf m p (4 * t + k) t < 16777216 := by
  have h := gf_in m p (4 * t + k) t
  have h1 := h.2.2.1 (by omega)
  rw [show (4 * t + k) % 4 = k by omega] at h1
  refine ⟨h.1, Int.lt_of_lt_of_le h1 ?_⟩
  unfold capW; split <;> (try split) <;> (try split) <;> omega
theorem gf_next {m : List UInt8} {p t k : Nat} (hk : k < 4) : gf m p (4 * t + k + 1) = updF (gf m p (4 * t + k)) t (gf m p (4 * t + k) t * 256 + byteF m (p + (4 * t + k))) := by
  simp only [gf]; rw [show (4 * t + k) / 4 = t by omega]
def nextW (f : Nat → Int) (t : Nat) : Int := rot 2 2147483648 (bXor (bXor (bXor (f (t - 3)) (f (t - 8))) (f (t - 14))) (f (t - 16)))
/-- All 80 words, behind n of the last 64. -/
def wf (m : List UInt8) (p : Nat) : Nat → (Nat → Int)
  | 0 => gf m p 64
  | n + 1 => updF (wf m p n) (16 + n) (nextW (wf m p n) (16 + n))
theorem xor4_in {a b c d : Int} (ha : inW32 a) (hb : inW32 b) (hc : inW32 c) (hd : inW32 d) : inW32 (bXor a b) ∧ inW32 (bXor (bXor a b) c) ∧ inW32 (bXor (bXor (bXor a b) c) d) :=
  ⟨bXor32 ha.2 hb.2, bXor32 (bXor32 ha.2 hb.2).2 hc.2, bXor32 (bXor32 (bXor32 ha.2 hb.2).2 hc.2).2 hd.2⟩
theorem wf_in (m : List UInt8) (p : Nat) : ∀ n j, inW32 (wf m p n j)
  | 0, j => by
    have h := gf_in m p 64 j
    simp only [wf]
    refine ⟨h.1, ?_⟩
    by_cases g : j < 16
    · exact h.2.1 (by omega)
    · by_cases e : j = 16
      · have := h.2.2.1 (by omega); simp only [capW] at this; omega
      · rw [h.2.2.2 (by omega)]; decide
  | n + 1, j => by
    simp only [wf]
    by_cases e : j = 16 + n
    · subst e
      rw [updF_same]
      exact rot1_in (xor4_in (wf_in m p n _) (wf_in m p n _) (wf_in m p n _) (wf_in m p n _)).2.2
    · rw [updF_ne e]; exact wf_in m p n j
def addF : Five → Five → Five
  | (a, b, c, d, e), (a', b', c', d', e') => ((a + a') % 4294967296, (b + b') % 4294967296, (c + c') % 4294967296, (d + d') % 4294967296, (e + e') % 4294967296)
theorem addF_in (s s' : Five) : ok5 (addF s s') := by
  obtain ⟨a, b, c, d, e⟩ := s
  obtain ⟨a', b', c', d', e'⟩ := s'
  refine ⟨?_, ?_, ?_, ?_, ?_⟩ <;> unfold inW32 <;> omega
def blk (m : List UInt8) (p : Nat) (h : Five) : Five := addF h (rnds (wf m p 64) 80 h)
def h0F : Five := (1732584193, 4023233417, 2562383102, 271733878, 3285377520)
def hAt (m : List UInt8) : Nat → Five
  | 0 => h0F
  | i + 1 => blk m (64 * i) (hAt m i)
theorem hAt_in (m : List UInt8) : ∀ i, ok5 (hAt m i)
  | 0 => ⟨⟨by decide, by decide⟩, ⟨by decide, by decide⟩, ⟨by decide, by decide⟩, ⟨by decide, by decide⟩, ⟨by decide, by decide⟩⟩
  | i + 1 => by rw [hAt, blk]; exact addF_in _ _
def padK (n : Nat) : Nat := (119 - n % 64) % 64
theorem padK_is (n : Nat) : (n + 1 + padK n) % 64 = 56 ∧ padK n < 64 := by unfold padK; omega
def lenB (n j : Nat) : UInt8 := UInt8.ofNat (n * 8 / 2 ^ (8 * (7 - j)) % 256)
def lenL (n : Nat) : Nat → List UInt8
  | 0 => []
  | j + 1 => lenL n j ++ [lenB n j]
theorem lenL_len (n : Nat) : ∀ j, (lenL n j).length = j
  | 0 => rfl
  | j + 1 => by rw [lenL, List.length_append, lenL_len n j]; rfl
def padZ (l : List UInt8) (z : Nat) : List UInt8 := l ++ [128] ++ List.replicate z 0
theorem padZ_len (l : List UInt8) (z : Nat) : (padZ l z).length = l.length + 1 + z := by simp [padZ]; omega
theorem padZ_next (l : List UInt8) (z : Nat) : padZ l z ++ [0] = padZ l (z + 1) := by
  simp [padZ, List.replicate_succ']
/-- What is summed. -/
def padL (l : List UInt8) : List UInt8 := padZ l (padK l.length) ++ lenL l.length 8
theorem padL_len (l : List UInt8) : (padL l).length = l.length + 9 + padK l.length ∧ (padL l).length % 64 = 0 := by
  have h : (padL l).length = l.length + 9 + padK l.length := by rw [padL, List.length_append, padZ_len, lenL_len]; omega
  have := padK_is l.length
  exact ⟨h, by rw [h]; omega⟩
def shaF (l : List UInt8) : Five := hAt (padL l) ((padL l).length / 64)
/-- Five ints as a value. -/
def fiveV : Five → Value
  | (a, b, c, d, e) => .agg #[.int .i64 a, .int .i64 b, .int .i64 c, .int .i64 d, .int .i64 e]
/-! ### A row of 80 words -/
def rowF (f : Nat → Int) : List Value := (List.range 80).map fun j => .int .i64 (f j)
theorem rowF_len (f : Nat → Int) : (rowF f).length = 80 := by simp [rowF]
theorem rowF_at (f : Nat → Int) {j : Nat} (h : j < 80) : (rowF f)[j]? = some (.int .i64 (f j)) := by simp [rowF, h]
theorem rowF_set (f : Nat → Int) {i : Nat} (h : i < 80) (v : Int) : (rowF f).set i (.int .i64 v) = rowF (updF f i v) := by
  apply List.ext_getElem?
  intro j
  rw [List.getElem?_set]
  by_cases hj : j < 80
  · by_cases e : i = j
    · subst e; rw [if_pos rfl, if_pos (by rw [rowF_len]; exact h), rowF_at _ h, updF_same]
    · rw [if_neg e, rowF_at _ hj, rowF_at _ hj, updF_ne (fun q => e q.symm)]
  · have e1 : (rowF f)[j]? = none := List.getElem?_eq_none (by rw [rowF_len]; omega)
    have e2 : (rowF (updF f i v))[j]? = none := List.getElem?_eq_none (by rw [rowF_len]; omega)
    rw [if_neg (by omega), e1, e2]
theorem read_row {P : Program} {t : TypeId} (f : Nat → Int) {j : Nat} (h : j < 80) (ht : isAggT P t = some false) : readOf P t (rowF f) j = some (.int .i64 (f j)) := by rw [read_one ht, rowF_at f h]
theorem write_row {P : Program} {t : TypeId} (f : Nat → Int) {j : Nat} (h : j < 80) (v : Int) (hs : (P.info? t).map (·.size) = some 1) : writeOf P t (rowF f) j (.int .i64 v) = some (rowF (updF f j v)) := by
  rw [write_one hs rfl rfl (by rw [rowF_len]; exact h), rowF_set f h]
theorem read_byte {P : Program} {t : TypeId} {cs : List Value} {n j : Nat} {m : List UInt8} (h : cs.take n = bytesV m) (hn : m.length = n) (hj : j < n) (ht : isAggT P t = some false) : readOf P t cs j = some (.int .u8 (byteF m j)) := by
  rw [read_one ht]
  have e : (cs.take n)[j]? = (bytesV m)[j]? := by rw [h]
  rw [List.getElem?_take_of_lt hj] at e
  rw [e]
  unfold bytesV byteF
  rw [List.getElem?_map, List.getElem?_eq_getElem (by omega)]
  simp [List.getD, hn ▸ hj]
end Go.Proofs.Ytlpenfganhaclaa
