/-
  The sums of no bytes, and of three (what the laws' own answers ask for), reckoned word by word and round by round. No conditions.
-/
import Derived.Test.YtmaicamlemnbmaaShaA
namespace Go.Proofs.Ytmaicamlemnbmaa
open Go.RowKit
set_option maxRecDepth 100000

theorem wf_stay (m : List UInt8) (p : Nat) {j n : Nat} (h : j < 16 + n) : ∀ k, wf m p (n + k) j = wf m p n j
  | 0 => rfl
  | k + 1 => by
    rw [show n + (k + 1) = (n + k) + 1 from rfl, wf, updF_ne (by omega)]
    exact wf_stay m p h k
theorem gf_stay (m : List UInt8) (p : Nat) {j i : Nat} (h : 4 * j + 4 ≤ i) : ∀ k, gf m p (i + k) j = gf m p i j
  | 0 => rfl
  | k + 1 => by
    rw [show i + (k + 1) = (i + k) + 1 from rfl, gf, updF_ne (by omega)]
    exact gf_stay m p h k
theorem gf_word (m : List UInt8) (p j : Nat) : gf m p (4 * j + 4) j = ((byteF m (p + 4 * j) * 256 + byteF m (p + (4 * j + 1))) * 256 + byteF m (p + (4 * j + 2))) * 256 + byteF m (p + (4 * j + 3)) := by
  have h := (gf_in m p (4 * j) j).2.2.1 (by omega)
  have h0 := (gf_in m p (4 * j) j).1
  rw [show 4 * j % 4 = 0 by omega, show capW 0 = 1 from rfl] at h
  have e0 : gf m p (4 * j) j = 0 := by omega
  have e1 : gf m p (4 * j + 1) j = byteF m (p + 4 * j) := by rw [gf_next (t := j) (k := 0) (by omega), updF_same, Nat.add_zero, e0]; omega
  have e2 : gf m p (4 * j + 2) j = byteF m (p + 4 * j) * 256 + byteF m (p + (4 * j + 1)) := by rw [gf_next (t := j) (k := 1) (by omega), updF_same, e1]
  have e3 : gf m p (4 * j + 3) j = (byteF m (p + 4 * j) * 256 + byteF m (p + (4 * j + 1))) * 256 + byteF m (p + (4 * j + 2)) := by rw [gf_next (t := j) (k := 2) (by omega), updF_same, e2]
  rw [gf_next (t := j) (k := 3) (by omega), updF_same, e3]
/-- A block's first words. -/
theorem wf_low (m : List UInt8) (p : Nat) {j : Nat} (h : j < 16) : wf m p 64 j = ((byteF m (p + 4 * j) * 256 + byteF m (p + (4 * j + 1))) * 256 + byteF m (p + (4 * j + 2))) * 256 + byteF m (p + (4 * j + 3)) := by
  have e1 := wf_stay m p (j := j) (n := 0) (by omega) 64
  rw [Nat.zero_add] at e1
  rw [e1, wf, ← gf_word]
  have e2 := gf_stay m p (j := j) (i := 4 * j + 4) (by omega) (60 - 4 * j)
  rw [show 4 * j + 4 + (60 - 4 * j) = 64 by omega] at e2
  exact e2
/-- The other words. -/
theorem wf_high (m : List UInt8) (p : Nat) {j : Nat} (h : 16 ≤ j) (h1 : j < 80) : wf m p 64 j = nextW (wf m p 64) j := by
  obtain ⟨n, rfl⟩ : ∃ n, j = 16 + n := ⟨j - 16, by omega⟩
  have e1 := wf_stay m p (j := 16 + n) (n := n + 1) (by omega) (63 - n)
  rw [show n + 1 + (63 - n) = 64 by omega] at e1
  have st : ∀ i, i < 16 + n → wf m p 64 i = wf m p n i := fun i hi => by
    have e := wf_stay m p (j := i) (n := n) hi (64 - n)
    rw [show n + (64 - n) = 64 by omega] at e
    exact e
  rw [e1, wf, updF_same]
  unfold nextW
  rw [st _ (by omega), st _ (by omega), st _ (by omega), st _ (by omega)]
theorem wf_step (m : List UInt8) (p : Nat) {j : Nat} (h : 16 ≤ j) (h1 : j < 80) {a b c d : Int} (e1 : wf m p 64 (j - 3) = a) (e2 : wf m p 64 (j - 8) = b) (e3 : wf m p 64 (j - 14) = c) (e4 : wf m p 64 (j - 16) = d) : wf m p 64 j = rot 2 2147483648 (bXor (bXor (bXor a b) c) d) := by
  rw [wf_high m p h h1, nextW, e1, e2, e3, e4]
def nilM : List UInt8 := [128, 0, 0, 0, 0, 0, 0, 0, 0, 0, 0, 0, 0, 0, 0, 0, 0, 0, 0, 0, 0, 0, 0, 0, 0, 0, 0, 0, 0, 0, 0, 0, 0, 0, 0, 0, 0, 0, 0, 0, 0, 0, 0, 0, 0, 0, 0, 0, 0, 0, 0, 0, 0, 0, 0, 0, 0, 0, 0, 0, 0, 0, 0, 0]
theorem nilw0 : wf nilM 0 64 0 = 2147483648 := by rw [wf_low nilM 0 (by decide)]; decide
theorem nilw1 : wf nilM 0 64 1 = 0 := by rw [wf_low nilM 0 (by decide)]; decide
theorem nilw2 : wf nilM 0 64 2 = 0 := by rw [wf_low nilM 0 (by decide)]; decide
theorem nilw3 : wf nilM 0 64 3 = 0 := by rw [wf_low nilM 0 (by decide)]; decide
theorem nilw4 : wf nilM 0 64 4 = 0 := by rw [wf_low nilM 0 (by decide)]; decide
theorem nilw5 : wf nilM 0 64 5 = 0 := by rw [wf_low nilM 0 (by decide)]; decide
theorem nilw6 : wf nilM 0 64 6 = 0 := by rw [wf_low nilM 0 (by decide)]; decide
theorem nilw7 : wf nilM 0 64 7 = 0 := by rw [wf_low nilM 0 (by decide)]; decide
theorem nilw8 : wf nilM 0 64 8 = 0 := by rw [wf_low nilM 0 (by decide)]; decide
theorem nilw9 : wf nilM 0 64 9 = 0 := by rw [wf_low nilM 0 (by decide)]; decide
theorem nilw10 : wf nilM 0 64 10 = 0 := by rw [wf_low nilM 0 (by decide)]; decide
theorem nilw11 : wf nilM 0 64 11 = 0 := by rw [wf_low nilM 0 (by decide)]; decide
theorem nilw12 : wf nilM 0 64 12 = 0 := by rw [wf_low nilM 0 (by decide)]; decide
theorem nilw13 : wf nilM 0 64 13 = 0 := by rw [wf_low nilM 0 (by decide)]; decide
theorem nilw14 : wf nilM 0 64 14 = 0 := by rw [wf_low nilM 0 (by decide)]; decide
theorem nilw15 : wf nilM 0 64 15 = 0 := by rw [wf_low nilM 0 (by decide)]; decide
theorem nilw16 : wf nilM 0 64 16 = 1 := (wf_step nilM 0 (j := 16) (by decide) (by decide) nilw13 nilw8 nilw2 nilw0).trans (by decide)
theorem nilw17 : wf nilM 0 64 17 = 0 := (wf_step nilM 0 (j := 17) (by decide) (by decide) nilw14 nilw9 nilw3 nilw1).trans (by decide)
theorem nilw18 : wf nilM 0 64 18 = 0 := (wf_step nilM 0 (j := 18) (by decide) (by decide) nilw15 nilw10 nilw4 nilw2).trans (by decide)
theorem nilw19 : wf nilM 0 64 19 = 2 := (wf_step nilM 0 (j := 19) (by decide) (by decide) nilw16 nilw11 nilw5 nilw3).trans (by decide)
theorem nilw20 : wf nilM 0 64 20 = 0 := (wf_step nilM 0 (j := 20) (by decide) (by decide) nilw17 nilw12 nilw6 nilw4).trans (by decide)
theorem nilw21 : wf nilM 0 64 21 = 0 := (wf_step nilM 0 (j := 21) (by decide) (by decide) nilw18 nilw13 nilw7 nilw5).trans (by decide)
theorem nilw22 : wf nilM 0 64 22 = 4 := (wf_step nilM 0 (j := 22) (by decide) (by decide) nilw19 nilw14 nilw8 nilw6).trans (by decide)
theorem nilw23 : wf nilM 0 64 23 = 0 := (wf_step nilM 0 (j := 23) (by decide) (by decide) nilw20 nilw15 nilw9 nilw7).trans (by decide)
theorem nilw24 : wf nilM 0 64 24 = 2 := (wf_step nilM 0 (j := 24) (by decide) (by decide) nilw21 nilw16 nilw10 nilw8).trans (by decide)
theorem nilw25 : wf nilM 0 64 25 = 8 := (wf_step nilM 0 (j := 25) (by decide) (by decide) nilw22 nilw17 nilw11 nilw9).trans (by decide)
theorem nilw26 : wf nilM 0 64 26 = 0 := (wf_step nilM 0 (j := 26) (by decide) (by decide) nilw23 nilw18 nilw12 nilw10).trans (by decide)
theorem nilw27 : wf nilM 0 64 27 = 0 := (wf_step nilM 0 (j := 27) (by decide) (by decide) nilw24 nilw19 nilw13 nilw11).trans (by decide)
theorem nilw28 : wf nilM 0 64 28 = 16 := (wf_step nilM 0 (j := 28) (by decide) (by decide) nilw25 nilw20 nilw14 nilw12).trans (by decide)
theorem nilw29 : wf nilM 0 64 29 = 0 := (wf_step nilM 0 (j := 29) (by decide) (by decide) nilw26 nilw21 nilw15 nilw13).trans (by decide)
theorem nilw30 : wf nilM 0 64 30 = 10 := (wf_step nilM 0 (j := 30) (by decide) (by decide) nilw27 nilw22 nilw16 nilw14).trans (by decide)
theorem nilw31 : wf nilM 0 64 31 = 32 := (wf_step nilM 0 (j := 31) (by decide) (by decide) nilw28 nilw23 nilw17 nilw15).trans (by decide)
theorem nilw32 : wf nilM 0 64 32 = 6 := (wf_step nilM 0 (j := 32) (by decide) (by decide) nilw29 nilw24 nilw18 nilw16).trans (by decide)
theorem nilw33 : wf nilM 0 64 33 = 0 := (wf_step nilM 0 (j := 33) (by decide) (by decide) nilw30 nilw25 nilw19 nilw17).trans (by decide)
theorem nilw34 : wf nilM 0 64 34 = 64 := (wf_step nilM 0 (j := 34) (by decide) (by decide) nilw31 nilw26 nilw20 nilw18).trans (by decide)
theorem nilw35 : wf nilM 0 64 35 = 8 := (wf_step nilM 0 (j := 35) (by decide) (by decide) nilw32 nilw27 nilw21 nilw19).trans (by decide)
theorem nilw36 : wf nilM 0 64 36 = 40 := (wf_step nilM 0 (j := 36) (by decide) (by decide) nilw33 nilw28 nilw22 nilw20).trans (by decide)
theorem nilw37 : wf nilM 0 64 37 = 128 := (wf_step nilM 0 (j := 37) (by decide) (by decide) nilw34 nilw29 nilw23 nilw21).trans (by decide)
theorem nilw38 : wf nilM 0 64 38 = 8 := (wf_step nilM 0 (j := 38) (by decide) (by decide) nilw35 nilw30 nilw24 nilw22).trans (by decide)
theorem nilw39 : wf nilM 0 64 39 = 0 := (wf_step nilM 0 (j := 39) (by decide) (by decide) nilw36 nilw31 nilw25 nilw23).trans (by decide)
theorem nilw40 : wf nilM 0 64 40 = 264 := (wf_step nilM 0 (j := 40) (by decide) (by decide) nilw37 nilw32 nilw26 nilw24).trans (by decide)
theorem nilw41 : wf nilM 0 64 41 = 0 := (wf_step nilM 0 (j := 41) (by decide) (by decide) nilw38 nilw33 nilw27 nilw25).trans (by decide)
theorem nilw42 : wf nilM 0 64 42 = 160 := (wf_step nilM 0 (j := 42) (by decide) (by decide) nilw39 nilw34 nilw28 nilw26).trans (by decide)
theorem nilw43 : wf nilM 0 64 43 = 512 := (wf_step nilM 0 (j := 43) (by decide) (by decide) nilw40 nilw35 nilw29 nilw27).trans (by decide)
theorem nilw44 : wf nilM 0 64 44 = 100 := (wf_step nilM 0 (j := 44) (by decide) (by decide) nilw41 nilw36 nilw30 nilw28).trans (by decide)
theorem nilw45 : wf nilM 0 64 45 = 0 := (wf_step nilM 0 (j := 45) (by decide) (by decide) nilw42 nilw37 nilw31 nilw29).trans (by decide)
theorem nilw46 : wf nilM 0 64 46 = 1032 := (wf_step nilM 0 (j := 46) (by decide) (by decide) nilw43 nilw38 nilw32 nilw30).trans (by decide)
theorem nilw47 : wf nilM 0 64 47 = 136 := (wf_step nilM 0 (j := 47) (by decide) (by decide) nilw44 nilw39 nilw33 nilw31).trans (by decide)
theorem nilw48 : wf nilM 0 64 48 = 668 := (wf_step nilM 0 (j := 48) (by decide) (by decide) nilw45 nilw40 nilw34 nilw32).trans (by decide)
theorem nilw49 : wf nilM 0 64 49 = 2048 := (wf_step nilM 0 (j := 49) (by decide) (by decide) nilw46 nilw41 nilw35 nilw33).trans (by decide)
theorem nilw50 : wf nilM 0 64 50 = 128 := (wf_step nilM 0 (j := 50) (by decide) (by decide) nilw47 nilw42 nilw36 nilw34).trans (by decide)
theorem nilw51 : wf nilM 0 64 51 = 40 := (wf_step nilM 0 (j := 51) (by decide) (by decide) nilw48 nilw43 nilw37 nilw35).trans (by decide)
theorem nilw52 : wf nilM 0 64 52 = 4232 := (wf_step nilM 0 (j := 52) (by decide) (by decide) nilw49 nilw44 nilw38 nilw36).trans (by decide)
theorem nilw53 : wf nilM 0 64 53 = 0 := (wf_step nilM 0 (j := 53) (by decide) (by decide) nilw50 nilw45 nilw39 nilw37).trans (by decide)
theorem nilw54 : wf nilM 0 64 54 = 2624 := (wf_step nilM 0 (j := 54) (by decide) (by decide) nilw51 nilw46 nilw40 nilw38).trans (by decide)
theorem nilw55 : wf nilM 0 64 55 = 8192 := (wf_step nilM 0 (j := 55) (by decide) (by decide) nilw52 nilw47 nilw41 nilw39).trans (by decide)
theorem nilw56 : wf nilM 0 64 56 = 1640 := (wf_step nilM 0 (j := 56) (by decide) (by decide) nilw53 nilw48 nilw42 nilw40).trans (by decide)
theorem nilw57 : wf nilM 0 64 57 = 128 := (wf_step nilM 0 (j := 57) (by decide) (by decide) nilw54 nilw49 nilw43 nilw41).trans (by decide)
theorem nilw58 : wf nilM 0 64 58 = 16520 := (wf_step nilM 0 (j := 58) (by decide) (by decide) nilw55 nilw50 nilw44 nilw42).trans (by decide)
theorem nilw59 : wf nilM 0 64 59 = 2176 := (wf_step nilM 0 (j := 59) (by decide) (by decide) nilw56 nilw51 nilw45 nilw43).trans (by decide)
theorem nilw60 : wf nilM 0 64 60 = 10440 := (wf_step nilM 0 (j := 60) (by decide) (by decide) nilw57 nilw52 nilw46 nilw44).trans (by decide)
theorem nilw61 : wf nilM 0 64 61 = 32768 := (wf_step nilM 0 (j := 61) (by decide) (by decide) nilw58 nilw53 nilw47 nilw45).trans (by decide)
theorem nilw62 : wf nilM 0 64 62 = 2216 := (wf_step nilM 0 (j := 62) (by decide) (by decide) nilw59 nilw54 nilw48 nilw46).trans (by decide)
theorem nilw63 : wf nilM 0 64 63 = 128 := (wf_step nilM 0 (j := 63) (by decide) (by decide) nilw60 nilw55 nilw49 nilw47).trans (by decide)
theorem nilw64 : wf nilM 0 64 64 = 67816 := (wf_step nilM 0 (j := 64) (by decide) (by decide) nilw61 nilw56 nilw50 nilw48).trans (by decide)
theorem nilw65 : wf nilM 0 64 65 = 0 := (wf_step nilM 0 (j := 65) (by decide) (by decide) nilw62 nilw57 nilw51 nilw49).trans (by decide)
theorem nilw66 : wf nilM 0 64 66 = 40960 := (wf_step nilM 0 (j := 66) (by decide) (by decide) nilw63 nilw58 nilw52 nilw50).trans (by decide)
theorem nilw67 : wf nilM 0 64 67 = 131200 := (wf_step nilM 0 (j := 67) (by decide) (by decide) nilw64 nilw59 nilw53 nilw51).trans (by decide)
theorem nilw68 : wf nilM 0 64 68 = 25600 := (wf_step nilM 0 (j := 68) (by decide) (by decide) nilw65 nilw60 nilw54 nilw52).trans (by decide)
theorem nilw69 : wf nilM 0 64 69 = 0 := (wf_step nilM 0 (j := 69) (by decide) (by decide) nilw66 nilw61 nilw55 nilw53).trans (by decide)
theorem nilw70 : wf nilM 0 64 70 = 264192 := (wf_step nilM 0 (j := 70) (by decide) (by decide) nilw67 nilw62 nilw56 nilw54).trans (by decide)
theorem nilw71 : wf nilM 0 64 71 = 34816 := (wf_step nilM 0 (j := 71) (by decide) (by decide) nilw68 nilw63 nilw57 nilw55).trans (by decide)
theorem nilw72 : wf nilM 0 64 72 = 171024 := (wf_step nilM 0 (j := 72) (by decide) (by decide) nilw69 nilw64 nilw58 nilw56).trans (by decide)
theorem nilw73 : wf nilM 0 64 73 = 524288 := (wf_step nilM 0 (j := 73) (by decide) (by decide) nilw70 nilw65 nilw59 nilw57).trans (by decide)
theorem nilw74 : wf nilM 0 64 74 = 32896 := (wf_step nilM 0 (j := 74) (by decide) (by decide) nilw71 nilw66 nilw60 nilw58).trans (by decide)
theorem nilw75 : wf nilM 0 64 75 = 10272 := (wf_step nilM 0 (j := 75) (by decide) (by decide) nilw72 nilw67 nilw61 nilw59).trans (by decide)
theorem nilw76 : wf nilM 0 64 76 = 1083584 := (wf_step nilM 0 (j := 76) (by decide) (by decide) nilw73 nilw68 nilw62 nilw60).trans (by decide)
theorem nilw77 : wf nilM 0 64 77 = 0 := (wf_step nilM 0 (j := 77) (by decide) (by decide) nilw74 nilw69 nilw63 nilw61).trans (by decide)
theorem nilw78 : wf nilM 0 64 78 = 671936 := (wf_step nilM 0 (j := 78) (by decide) (by decide) nilw75 nilw70 nilw64 nilw62).trans (by decide)
theorem nilw79 : wf nilM 0 64 79 = 2097280 := (wf_step nilM 0 (j := 79) (by decide) (by decide) nilw76 nilw71 nilw65 nilw63).trans (by decide)
theorem nilr0 : rnds (wf nilM 0 64) 0 h0F = (1732584193, 4023233417, 2562383102, 271733878, 3285377520) := rfl
theorem nilr1 : rnds (wf nilM 0 64) 1 h0F = (531929267, 1732584193, 2079550178, 2562383102, 271733878) := by rw [rnds, nilr0, nilw0]; decide
theorem nilr2 : rnds (wf nilM 0 64) 2 h0F = (1564730224, 531929267, 1506887872, 2079550178, 2562383102) := by rw [rnds, nilr1, nilw1]; decide
theorem nilr3 : rnds (wf nilM 0 64) 3 h0F = (361574242, 1564730224, 3354207788, 1506887872, 2079550178) := by rw [rnds, nilr2, nilw2]; decide
theorem nilr4 : rnds (wf nilM 0 64) 4 h0F = (3454860125, 361574242, 391182556, 3354207788, 1506887872) := by rw [rnds, nilr3, nilw3]; decide
theorem nilr5 : rnds (wf nilM 0 64) 5 h0F = (1230198366, 3454860125, 2237877208, 391182556, 3354207788) := by rw [rnds, nilr4, nilw4]; decide
theorem nilr6 : rnds (wf nilM 0 64) 6 h0F = (3830101862, 1230198366, 1937456855, 2237877208, 391182556) := by rw [rnds, nilr5, nilw5]; decide
theorem nilr7 : rnds (wf nilM 0 64) 7 h0F = (3231547175, 3830101862, 2455033239, 1937456855, 2237877208) := by rw [rnds, nilr6, nilw6]; decide
theorem nilr8 : rnds (wf nilM 0 64) 8 h0F = (2265401344, 3231547175, 3105009113, 2455033239, 1937456855) := by rw [rnds, nilr7, nilw7]; decide
theorem nilr9 : rnds (wf nilM 0 64) 9 h0F = (1094149649, 2265401344, 4029112265, 3105009113, 2455033239) := by rw [rnds, nilr8, nilw8]; decide
theorem nilr10 : rnds (wf nilM 0 64) 10 h0F = (3420192561, 1094149649, 566350336, 4029112265, 3105009113) := by rw [rnds, nilr9, nilw9]; decide
theorem nilr11 : rnds (wf nilM 0 64) 11 h0F = (1075210611, 3420192561, 1347279236, 566350336, 4029112265) := by rw [rnds, nilr10, nilw10]; decide
theorem nilr12 : rnds (wf nilM 0 64) 12 h0F = (2915098826, 1075210611, 1928789964, 1347279236, 566350336) := by rw [rnds, nilr11, nilw11]; decide
theorem nilr13 : rnds (wf nilM 0 64) 13 h0F = (2227199666, 2915098826, 3490028124, 1928789964, 1347279236) := by rw [rnds, nilr12, nilw12]; decide
theorem nilr14 : rnds (wf nilM 0 64) 14 h0F = (353552569, 2227199666, 2876258354, 3490028124, 1928789964) := by rw [rnds, nilr13, nilw13]; decide
theorem nilr15 : rnds (wf nilM 0 64) 15 h0F = (1075325189, 353552569, 2704283564, 2876258354, 3490028124) := by rw [rnds, nilr14, nilw14]; decide
theorem nilr16 : rnds (wf nilM 0 64) 16 h0F = (3640485191, 1075325189, 1162129966, 2704283564, 2876258354) := by rw [rnds, nilr15, nilw15]; decide
theorem nilr17 : rnds (wf nilM 0 64) 17 h0F = (113217907, 3640485191, 1342573121, 1162129966, 2704283564) := by rw [rnds, nilr16, nilw16]; decide
theorem nilr18 : rnds (wf nilM 0 64) 18 h0F = (682185230, 113217907, 4131346769, 1342573121, 1162129966) := by rw [rnds, nilr17, nilw17]; decide
theorem nilr19 : rnds (wf nilM 0 64) 19 h0F = (187730141, 682185230, 3249529948, 4131346769, 1342573121) := by rw [rnds, nilr18, nilw18]; decide
theorem nilr20 : rnds (wf nilM 0 64) 20 h0F = (3881363674, 187730141, 2318029955, 3249529948, 4131346769) := by rw [rnds, nilr19, nilw19]; decide
theorem nilr21 : rnds (wf nilM 0 64) 21 h0F = (2431359056, 3881363674, 1120674359, 2318029955, 3249529948) := by rw [rnds, nilr20, nilw20]; decide
theorem nilr22 : rnds (wf nilM 0 64) 22 h0F = (2109438077, 2431359056, 3117824566, 1120674359, 2318029955) := by rw [rnds, nilr21, nilw21]; decide
theorem nilr23 : rnds (wf nilM 0 64) 23 h0F = (476368936, 2109438077, 607839764, 3117824566, 1120674359) := by rw [rnds, nilr22, nilw22]; decide
theorem nilr24 : rnds (wf nilM 0 64) 24 h0F = (513259322, 476368936, 1601101343, 607839764, 3117824566) := by rw [rnds, nilr23, nilw23]; decide
theorem nilr25 : rnds (wf nilM 0 64) 25 h0F = (1658320191, 513259322, 119092234, 1601101343, 607839764) := by rw [rnds, nilr24, nilw24]; decide
theorem nilr26 : rnds (wf nilM 0 64) 26 h0F = (888395480, 1658320191, 2275798478, 119092234, 1601101343) := by rw [rnds, nilr25, nilw25]; decide
theorem nilr27 : rnds (wf nilM 0 64) 27 h0F = (1328468417, 888395480, 3635805519, 2275798478, 119092234) := by rw [rnds, nilr26, nilw26]; decide
theorem nilr28 : rnds (wf nilM 0 64) 28 h0F = (3350273581, 1328468417, 222098870, 3635805519, 2275798478) := by rw [rnds, nilr27, nilw27]; decide
theorem nilr29 : rnds (wf nilM 0 64) 29 h0F = (2269870191, 3350273581, 1405858928, 222098870, 3635805519) := by rw [rnds, nilr28, nilw28]; decide
theorem nilr30 : rnds (wf nilM 0 64) 30 h0F = (3393541835, 2269870191, 1911310219, 1405858928, 222098870) := by rw [rnds, nilr29, nilw29]; decide
theorem nilr31 : rnds (wf nilM 0 64) 31 h0F = (1781417582, 3393541835, 3788693019, 1911310219, 1405858928) := by rw [rnds, nilr30, nilw30]; decide
theorem nilr32 : rnds (wf nilM 0 64) 32 h0F = (1659518297, 1781417582, 4069610930, 3788693019, 1911310219) := by rw [rnds, nilr31, nilw31]; decide
theorem nilr33 : rnds (wf nilM 0 64) 33 h0F = (3078335525, 1659518297, 2592838043, 4069610930, 3788693019) := by rw [rnds, nilr32, nilw32]; decide
theorem nilr34 : rnds (wf nilM 0 64) 34 h0F = (1259554786, 3078335525, 1488621398, 2592838043, 4069610930) := by rw [rnds, nilr33, nilw33]; decide
theorem nilr35 : rnds (wf nilM 0 64) 35 h0F = (958329028, 1259554786, 1843325705, 1488621398, 2592838043) := by rw [rnds, nilr34, nilw34]; decide
theorem nilr36 : rnds (wf nilM 0 64) 36 h0F = (2881141128, 958329028, 2462372344, 1843325705, 1488621398) := by rw [rnds, nilr35, nilw35]; decide
theorem nilr37 : rnds (wf nilM 0 64) 37 h0F = (82867817, 2881141128, 239582257, 2462372344, 1843325705) := by rw [rnds, nilr36, nilw36]; decide
theorem nilr38 : rnds (wf nilM 0 64) 38 h0F = (2986440843, 82867817, 720285282, 239582257, 2462372344) := by rw [rnds, nilr37, nilw37]; decide
theorem nilr39 : rnds (wf nilM 0 64) 39 h0F = (1646736209, 2986440843, 1094458778, 720285282, 239582257) := by rw [rnds, nilr38, nilw38]; decide
theorem nilr40 : rnds (wf nilM 0 64) 40 h0F = (2614877553, 1646736209, 3967835682, 1094458778, 720285282) := by rw [rnds, nilr39, nilw39]; decide
theorem nilr41 : rnds (wf nilM 0 64) 41 h0F = (2510961035, 2614877553, 1485425876, 3967835682, 1094458778) := by rw [rnds, nilr40, nilw40]; decide
theorem nilr42 : rnds (wf nilM 0 64) 42 h0F = (1579739224, 2510961035, 1727461212, 1485425876, 3967835682) := by rw [rnds, nilr41, nilw41]; decide
theorem nilr43 : rnds (wf nilM 0 64) 43 h0F = (2506368133, 1579739224, 3848965730, 1727461212, 1485425876) := by rw [rnds, nilr42, nilw42]; decide
theorem nilr44 : rnds (wf nilM 0 64) 44 h0F = (4204071610, 2506368133, 394934806, 3848965730, 1727461212) := by rw [rnds, nilr43, nilw43]; decide
theorem nilr45 : rnds (wf nilM 0 64) 45 h0F = (3726522881, 4204071610, 1700333857, 394934806, 3848965730) := by rw [rnds, nilr44, nilw44]; decide
theorem nilr46 : rnds (wf nilM 0 64) 46 h0F = (2951124395, 3726522881, 3198501550, 1700333857, 394934806) := by rw [rnds, nilr45, nilw45]; decide
theorem nilr47 : rnds (wf nilM 0 64) 47 h0F = (2710944400, 2951124395, 2005372544, 3198501550, 1700333857) := by rw [rnds, nilr46, nilw46]; decide
theorem nilr48 : rnds (wf nilM 0 64) 48 h0F = (3872628547, 2710944400, 3959006570, 2005372544, 3198501550) := by rw [rnds, nilr47, nilw47]; decide
theorem nilr49 : rnds (wf nilM 0 64) 49 h0F = (197826850, 3872628547, 677736100, 3959006570, 2005372544) := by rw [rnds, nilr48, nilw48]; decide
theorem nilr50 : rnds (wf nilM 0 64) 50 h0F = (1793599231, 197826850, 4189382608, 677736100, 3959006570) := by rw [rnds, nilr49, nilw49]; decide
theorem nilr51 : rnds (wf nilM 0 64) 51 h0F = (33501779, 1793599231, 2196940360, 4189382608, 677736100) := by rw [rnds, nilr50, nilw50]; decide
theorem nilr52 : rnds (wf nilM 0 64) 52 h0F = (3797425376, 33501779, 3669625279, 2196940360, 4189382608) := by rw [rnds, nilr51, nilw51]; decide
theorem nilr53 : rnds (wf nilM 0 64) 53 h0F = (1456370603, 3797425376, 3229600916, 3669625279, 2196940360) := by rw [rnds, nilr52, nilw52]; decide
theorem nilr54 : rnds (wf nilM 0 64) 54 h0F = (2924930370, 1456370603, 949356344, 3229600916, 3669625279) := by rw [rnds, nilr53, nilw53]; decide
theorem nilr55 : rnds (wf nilM 0 64) 55 h0F = (2240856296, 2924930370, 3585318122, 949356344, 3229600916) := by rw [rnds, nilr54, nilw54]; decide
theorem nilr56 : rnds (wf nilM 0 64) 56 h0F = (3192540138, 2240856296, 2878716240, 3585318122, 949356344) := by rw [rnds, nilr55, nilw55]; decide
theorem nilr57 : rnds (wf nilM 0 64) 57 h0F = (378331323, 3192540138, 560214074, 2878716240, 3585318122) := by rw [rnds, nilr56, nilw56]; decide
theorem nilr58 : rnds (wf nilM 0 64) 58 h0F = (3786386210, 378331323, 2945618682, 560214074, 2878716240) := by rw [rnds, nilr57, nilw57]; decide
theorem nilr59 : rnds (wf nilM 0 64) 59 h0F = (2553007050, 3786386210, 3315808302, 2945618682, 560214074) := by rw [rnds, nilr58, nilw58]; decide
theorem nilr60 : rnds (wf nilM 0 64) 60 h0F = (2610768147, 2553007050, 3094080200, 3315808302, 2945618682) := by rw [rnds, nilr59, nilw59]; decide
theorem nilr61 : rnds (wf nilM 0 64) 61 h0F = (3548231991, 2610768147, 2785735410, 3094080200, 3315808302) := by rw [rnds, nilr60, nilw60]; decide
theorem nilr62 : rnds (wf nilM 0 64) 62 h0F = (2243547687, 3548231991, 3873917508, 2785735410, 3094080200) := by rw [rnds, nilr61, nilw61]; decide
theorem nilr63 : rnds (wf nilM 0 64) 63 h0F = (3449355191, 2243547687, 4108283469, 3873917508, 2785735410) := by rw [rnds, nilr62, nilw62]; decide
theorem nilr64 : rnds (wf nilM 0 64) 64 h0F = (3138331247, 3449355191, 3782112393, 4108283469, 3873917508) := by rw [rnds, nilr63, nilw63]; decide
theorem nilr65 : rnds (wf nilM 0 64) 65 h0F = (3948495980, 3138331247, 4083564269, 3782112393, 4108283469) := by rw [rnds, nilr64, nilw64]; decide
theorem nilr66 : rnds (wf nilM 0 64) 66 h0F = (3547473355, 3948495980, 4005808283, 4083564269, 3782112393) := by rw [rnds, nilr65, nilw65]; decide
theorem nilr67 : rnds (wf nilM 0 64) 67 h0F = (286474739, 3547473355, 987123995, 4005808283, 4083564269) := by rw [rnds, nilr66, nilw66]; decide
theorem nilr68 : rnds (wf nilM 0 64) 68 h0F = (3885693936, 286474739, 4108093810, 987123995, 4005808283) := by rw [rnds, nilr67, nilw67]; decide
theorem nilr69 : rnds (wf nilM 0 64) 69 h0F = (2342520359, 3885693936, 3292844156, 4108093810, 987123995) := by rw [rnds, nilr68, nilw68]; decide
theorem nilr70 : rnds (wf nilM 0 64) 70 h0F = (1346140896, 2342520359, 971423484, 3292844156, 4108093810) := by rw [rnds, nilr69, nilw69]; decide
theorem nilr71 : rnds (wf nilM 0 64) 71 h0F = (1020598265, 1346140896, 3806855561, 971423484, 3292844156) := by rw [rnds, nilr70, nilw70]; decide
theorem nilr72 : rnds (wf nilM 0 64) 72 h0F = (3028147982, 1020598265, 336535224, 3806855561, 971423484) := by rw [rnds, nilr71, nilw71]; decide
theorem nilr73 : rnds (wf nilM 0 64) 73 h0F = (1580861312, 3028147982, 1328891390, 336535224, 3806855561) := by rw [rnds, nilr72, nilw72]; decide
theorem nilr74 : rnds (wf nilM 0 64) 74 h0F = (1675311026, 1580861312, 2904520643, 1328891390, 336535224) := by rw [rnds, nilr73, nilw73]; decide
theorem nilr75 : rnds (wf nilM 0 64) 75 h0F = (367627543, 1675311026, 395215328, 2904520643, 1328891390) := by rw [rnds, nilr74, nilw74]; decide
theorem nilr76 : rnds (wf nilM 0 64) 76 h0F = (2954138727, 367627543, 2566311404, 395215328, 2904520643) := by rw [rnds, nilr75, nilw75]; decide
theorem nilr77 : rnds (wf nilM 0 64) 77 h0F = (347541610, 2954138727, 3313132357, 2566311404, 395215328) := by rw [rnds, nilr76, nilw76]; decide
theorem nilr78 : rnds (wf nilM 0 64) 78 h0F = (1718324166, 347541610, 3959760153, 3313132357, 2566311404) := by rw [rnds, nilr77, nilw77]; decide
theorem nilr79 : rnds (wf nilM 0 64) 79 h0F = (1855823748, 1718324166, 2234369050, 3959760153, 3313132357) := by rw [rnds, nilr78, nilw78]; decide
theorem nilr80 : rnds (wf nilM 0 64) 80 h0F = (1928626413, 1855823748, 2577064689, 2234369050, 3959760153) := by rw [rnds, nilr79, nilw79]; decide
theorem nil_sum : shaF [] = (3661210606, 1584089869, 844480495, 2506102928, 2950170377) := by
  have e1 : padL [] = nilM := by decide
  have e2 : nilM.length / 64 = 1 := by decide
  unfold shaF
  rw [e1, e2]
  have e3 : hAt nilM 1 = addF h0F (rnds (wf nilM 0 64) 80 h0F) := rfl
  rw [e3, nilr80]
  decide
def abcM : List UInt8 := [97, 98, 99, 128, 0, 0, 0, 0, 0, 0, 0, 0, 0, 0, 0, 0, 0, 0, 0, 0, 0, 0, 0, 0, 0, 0, 0, 0, 0, 0, 0, 0, 0, 0, 0, 0, 0, 0, 0, 0, 0, 0, 0, 0, 0, 0, 0, 0, 0, 0, 0, 0, 0, 0, 0, 0, 0, 0, 0, 0, 0, 0, 0, 24]
theorem abcw0 : wf abcM 0 64 0 = 1633837952 := by rw [wf_low abcM 0 (by decide)]; decide
theorem abcw1 : wf abcM 0 64 1 = 0 := by rw [wf_low abcM 0 (by decide)]; decide
theorem abcw2 : wf abcM 0 64 2 = 0 := by rw [wf_low abcM 0 (by decide)]; decide
theorem abcw3 : wf abcM 0 64 3 = 0 := by rw [wf_low abcM 0 (by decide)]; decide
theorem abcw4 : wf abcM 0 64 4 = 0 := by rw [wf_low abcM 0 (by decide)]; decide
theorem abcw5 : wf abcM 0 64 5 = 0 := by rw [wf_low abcM 0 (by decide)]; decide
theorem abcw6 : wf abcM 0 64 6 = 0 := by rw [wf_low abcM 0 (by decide)]; decide
theorem abcw7 : wf abcM 0 64 7 = 0 := by rw [wf_low abcM 0 (by decide)]; decide
theorem abcw8 : wf abcM 0 64 8 = 0 := by rw [wf_low abcM 0 (by decide)]; decide
theorem abcw9 : wf abcM 0 64 9 = 0 := by rw [wf_low abcM 0 (by decide)]; decide
theorem abcw10 : wf abcM 0 64 10 = 0 := by rw [wf_low abcM 0 (by decide)]; decide
theorem abcw11 : wf abcM 0 64 11 = 0 := by rw [wf_low abcM 0 (by decide)]; decide
theorem abcw12 : wf abcM 0 64 12 = 0 := by rw [wf_low abcM 0 (by decide)]; decide
theorem abcw13 : wf abcM 0 64 13 = 0 := by rw [wf_low abcM 0 (by decide)]; decide
theorem abcw14 : wf abcM 0 64 14 = 0 := by rw [wf_low abcM 0 (by decide)]; decide
theorem abcw15 : wf abcM 0 64 15 = 24 := by rw [wf_low abcM 0 (by decide)]; decide
theorem abcw16 : wf abcM 0 64 16 = 3267675904 := (wf_step abcM 0 (j := 16) (by decide) (by decide) abcw13 abcw8 abcw2 abcw0).trans (by decide)
theorem abcw17 : wf abcM 0 64 17 = 0 := (wf_step abcM 0 (j := 17) (by decide) (by decide) abcw14 abcw9 abcw3 abcw1).trans (by decide)
theorem abcw18 : wf abcM 0 64 18 = 48 := (wf_step abcM 0 (j := 18) (by decide) (by decide) abcw15 abcw10 abcw4 abcw2).trans (by decide)
theorem abcw19 : wf abcM 0 64 19 = 2240384513 := (wf_step abcM 0 (j := 19) (by decide) (by decide) abcw16 abcw11 abcw5 abcw3).trans (by decide)
theorem abcw20 : wf abcM 0 64 20 = 0 := (wf_step abcM 0 (j := 20) (by decide) (by decide) abcw17 abcw12 abcw6 abcw4).trans (by decide)
theorem abcw21 : wf abcM 0 64 21 = 96 := (wf_step abcM 0 (j := 21) (by decide) (by decide) abcw18 abcw13 abcw7 abcw5).trans (by decide)
theorem abcw22 : wf abcM 0 64 22 = 185801731 := (wf_step abcM 0 (j := 22) (by decide) (by decide) abcw19 abcw14 abcw8 abcw6).trans (by decide)
theorem abcw23 : wf abcM 0 64 23 = 48 := (wf_step abcM 0 (j := 23) (by decide) (by decide) abcw20 abcw15 abcw9 abcw7).trans (by decide)
theorem abcw24 : wf abcM 0 64 24 = 2240384705 := (wf_step abcM 0 (j := 24) (by decide) (by decide) abcw21 abcw16 abcw10 abcw8).trans (by decide)
theorem abcw25 : wf abcM 0 64 25 = 371603462 := (wf_step abcM 0 (j := 25) (by decide) (by decide) abcw22 abcw17 abcw11 abcw9).trans (by decide)
theorem abcw26 : wf abcM 0 64 26 = 0 := (wf_step abcM 0 (j := 26) (by decide) (by decide) abcw23 abcw18 abcw12 abcw10).trans (by decide)
theorem abcw27 : wf abcM 0 64 27 = 384 := (wf_step abcM 0 (j := 27) (by decide) (by decide) abcw24 abcw19 abcw13 abcw11).trans (by decide)
theorem abcw28 : wf abcM 0 64 28 = 743206924 := (wf_step abcM 0 (j := 28) (by decide) (by decide) abcw25 abcw20 abcw14 abcw12).trans (by decide)
theorem abcw29 : wf abcM 0 64 29 = 240 := (wf_step abcM 0 (j := 29) (by decide) (by decide) abcw26 abcw21 abcw15 abcw13).trans (by decide)
theorem abcw30 : wf abcM 0 64 30 = 2477765895 := (wf_step abcM 0 (j := 30) (by decide) (by decide) abcw27 abcw22 abcw16 abcw14).trans (by decide)
theorem abcw31 : wf abcM 0 64 31 = 1486413896 := (wf_step abcM 0 (j := 31) (by decide) (by decide) abcw28 abcw23 abcw17 abcw15).trans (by decide)
theorem abcw32 : wf abcM 0 64 32 = 2392494594 := (wf_step abcM 0 (j := 32) (by decide) (by decide) abcw29 abcw24 abcw18 abcw16).trans (by decide)
theorem abcw33 : wf abcM 0 64 33 = 1536 := (wf_step abcM 0 (j := 33) (by decide) (by decide) abcw30 abcw25 abcw19 abcw17).trans (by decide)
theorem abcw34 : wf abcM 0 64 34 = 2972827888 := (wf_step abcM 0 (j := 34) (by decide) (by decide) abcw31 abcw26 abcw20 abcw18).trans (by decide)
theorem abcw35 : wf abcM 0 64 35 = 371604422 := (wf_step abcM 0 (j := 35) (by decide) (by decide) abcw32 abcw27 abcw21 abcw19).trans (by decide)
theorem abcw36 : wf abcM 0 64 36 = 1321128990 := (wf_step abcM 0 (j := 36) (by decide) (by decide) abcw33 abcw28 abcw22 abcw20).trans (by decide)
theorem abcw37 : wf abcM 0 64 37 = 1650688161 := (wf_step abcM 0 (j := 37) (by decide) (by decide) abcw34 abcw29 abcw23 abcw21).trans (by decide)
theorem abcw38 : wf abcM 0 64 38 = 371603462 := (wf_step abcM 0 (j := 38) (by decide) (by decide) abcw35 abcw30 abcw24 abcw22).trans (by decide)
theorem abcw39 : wf abcM 0 64 39 = 6336 := (wf_step abcM 0 (j := 39) (by decide) (by decide) abcw36 abcw31 abcw25 abcw23).trans (by decide)
theorem abcw40 : wf abcM 0 64 40 = 3537975492 := (wf_step abcM 0 (j := 40) (by decide) (by decide) abcw37 abcw32 abcw26 abcw24).trans (by decide)
theorem abcw41 : wf abcM 0 64 41 = 3840 := (wf_step abcM 0 (j := 41) (by decide) (by decide) abcw38 abcw33 abcw27 abcw25).trans (by decide)
theorem abcw42 : wf abcM 0 64 42 = 989548665 := (wf_step abcM 0 (j := 42) (by decide) (by decide) abcw39 abcw34 abcw28 abcw26).trans (by decide)
theorem abcw43 : wf abcM 0 64 43 = 2307785957 := (wf_step abcM 0 (j := 43) (by decide) (by decide) abcw40 abcw35 abcw29 abcw27).trans (by decide)
theorem abcw44 : wf abcM 0 64 44 = 3803855915 := (wf_step abcM 0 (j := 44) (by decide) (by decide) abcw41 abcw36 abcw30 abcw28).trans (by decide)
theorem abcw45 : wf abcM 0 64 45 = 24768 := (wf_step abcM 0 (j := 45) (by decide) (by decide) abcw42 abcw37 abcw31 abcw29).trans (by decide)
theorem abcw46 : wf abcM 0 64 46 = 87701453 := (wf_step abcM 0 (j := 46) (by decide) (by decide) abcw43 abcw38 abcw32 abcw30).trans (by decide)
theorem abcw47 : wf abcM 0 64 47 = 1950713159 := (wf_step abcM 0 (j := 47) (by decide) (by decide) abcw44 abcw39 abcw33 abcw31).trans (by decide)
theorem abcw48 : wf abcM 0 64 48 = 3667138029 := (wf_step abcM 0 (j := 48) (by decide) (by decide) abcw45 abcw40 abcw34 abcw32).trans (by decide)
theorem abcw49 : wf abcM 0 64 49 = 641206806 := (wf_step abcM 0 (j := 49) (by decide) (by decide) abcw46 abcw41 abcw35 abcw33).trans (by decide)
theorem abcw50 : wf abcM 0 64 50 = 1650688929 := (wf_step abcM 0 (j := 50) (by decide) (by decide) abcw47 abcw42 abcw36 abcw34).trans (by decide)
theorem abcw51 : wf abcM 0 64 51 = 1321161950 := (wf_step abcM 0 (j := 51) (by decide) (by decide) abcw48 abcw43 abcw37 abcw35).trans (by decide)
theorem abcw52 : wf abcM 0 64 52 = 943043659 := (wf_step abcM 0 (j := 52) (by decide) (by decide) abcw49 abcw44 abcw38 abcw36).trans (by decide)
theorem abcw53 : wf abcM 0 64 53 = 62976 := (wf_step abcM 0 (j := 53) (by decide) (by decide) abcw50 abcw45 abcw39 abcw37).trans (by decide)
theorem abcw54 : wf abcM 0 64 54 = 512018339 := (wf_step abcM 0 (j := 54) (by decide) (by decide) abcw51 abcw46 abcw40 abcw38).trans (by decide)
theorem abcw55 : wf abcM 0 64 55 = 2564836760 := (wf_step abcM 0 (j := 55) (by decide) (by decide) abcw52 abcw47 abcw41 abcw39).trans (by decide)
theorem abcw56 : wf abcM 0 64 56 = 1696405152 := (wf_step abcM 0 (j := 56) (by decide) (by decide) abcw53 abcw48 abcw42 abcw40).trans (by decide)
theorem abcw57 : wf abcM 0 64 57 = 1650822305 := (wf_step abcM 0 (j := 57) (by decide) (by decide) abcw54 abcw49 abcw43 abcw41).trans (by decide)
theorem abcw58 : wf abcM 0 64 58 = 1166361814 := (wf_step abcM 0 (j := 58) (by decide) (by decide) abcw55 abcw50 abcw44 abcw42).trans (by decide)
theorem abcw59 : wf abcM 0 64 59 = 1146637495 := (wf_step abcM 0 (j := 59) (by decide) (by decide) abcw56 abcw51 abcw45 abcw43).trans (by decide)
theorem abcw60 : wf abcM 0 64 60 = 2074109465 := (wf_step abcM 0 (j := 60) (by decide) (by decide) abcw57 abcw52 abcw46 abcw44).trans (by decide)
theorem abcw61 : wf abcM 0 64 61 = 1669377698 := (wf_step abcM 0 (j := 61) (by decide) (by decide) abcw58 abcw53 abcw47 abcw45).trans (by decide)
theorem abcw62 : wf abcM 0 64 62 = 182801001 := (wf_step abcM 0 (j := 62) (by decide) (by decide) abcw59 abcw54 abcw48 abcw46).trans (by decide)
theorem abcw63 : wf abcM 0 64 63 = 1652246945 := (wf_step abcM 0 (j := 63) (by decide) (by decide) abcw60 abcw55 abcw49 abcw47).trans (by decide)
theorem abcw64 : wf abcM 0 64 64 = 2094292125 := (wf_step abcM 0 (j := 64) (by decide) (by decide) abcw61 abcw56 abcw50 abcw48).trans (by decide)
theorem abcw65 : wf abcM 0 64 65 = 983040 := (wf_step abcM 0 (j := 65) (by decide) (by decide) abcw62 abcw57 abcw51 abcw49).trans (by decide)
theorem abcw66 : wf abcM 0 64 66 = 4216354106 := (wf_step abcM 0 (j := 66) (by decide) (by decide) abcw63 abcw58 abcw52 abcw50).trans (by decide)
theorem abcw67 : wf abcM 0 64 67 = 3966199272 := (wf_step abcM 0 (j := 67) (by decide) (by decide) abcw64 abcw59 abcw53 abcw51).trans (by decide)
theorem abcw68 : wf abcM 0 64 68 = 3124505570 := (wf_step abcM 0 (j := 68) (by decide) (by decide) abcw65 abcw60 abcw54 abcw52).trans (by decide)
theorem abcw69 : wf abcM 0 64 69 = 6340608 := (wf_step abcM 0 (j := 69) (by decide) (by decide) abcw66 abcw61 abcw55 abcw53).trans (by decide)
theorem abcw70 : wf abcM 0 64 70 = 976735493 := (wf_step abcM 0 (j := 70) (by decide) (by decide) abcw67 abcw62 abcw56 abcw54).trans (by decide)
theorem abcw71 : wf abcM 0 64 71 = 1166362356 := (wf_step abcM 0 (j := 71) (by decide) (by decide) abcw68 abcw63 abcw57 abcw55).trans (by decide)
theorem abcw72 : wf abcM 0 64 72 = 3092880854 := (wf_step abcM 0 (j := 72) (by decide) (by decide) abcw69 abcw64 abcw58 abcw56).trans (by decide)
theorem abcw73 : wf abcM 0 64 73 = 940186150 := (wf_step abcM 0 (j := 73) (by decide) (by decide) abcw70 abcw65 abcw59 abcw57).trans (by decide)
theorem abcw74 : wf abcM 0 64 74 = 31465987 := (wf_step abcM 0 (j := 74) (by decide) (by decide) abcw71 abcw66 abcw60 abcw58).trans (by decide)
theorem abcw75 : wf abcM 0 64 75 = 3888919638 := (wf_step abcM 0 (j := 75) (by decide) (by decide) abcw72 abcw67 abcw61 abcw59).trans (by decide)
theorem abcw76 : wf abcM 0 64 76 = 3873835881 := (wf_step abcM 0 (j := 76) (by decide) (by decide) abcw73 abcw68 abcw62 abcw60).trans (by decide)
theorem abcw77 : wf abcM 0 64 77 = 16124416 := (wf_step abcM 0 (j := 77) (by decide) (by decide) abcw74 abcw69 abcw63 abcw61).trans (by decide)
theorem abcw78 : wf abcM 0 64 78 = 1469443919 := (wf_step abcM 0 (j := 78) (by decide) (by decide) abcw75 abcw70 abcw64 abcw62).trans (by decide)
theorem abcw79 : wf abcM 0 64 79 = 2184054905 := (wf_step abcM 0 (j := 79) (by decide) (by decide) abcw76 abcw71 abcw65 abcw63).trans (by decide)
theorem abcr0 : rnds (wf abcM 0 64) 0 h0F = (1732584193, 4023233417, 2562383102, 271733878, 3285377520) := rfl
theorem abcr1 : rnds (wf abcM 0 64) 1 h0F = (18283571, 1732584193, 2079550178, 2562383102, 271733878) := by rw [rnds, abcr0, abcw0]; decide
theorem abcr2 : rnds (wf abcM 0 64) 2 h0F = (2307937133, 18283571, 1506887872, 2079550178, 2562383102) := by rw [rnds, abcr1, abcw1]; decide
theorem abcr3 : rnds (wf abcM 0 64) 3 h0F = (2704871176, 2307937133, 3225796364, 1506887872, 2079550178) := by rw [rnds, abcr2, abcw2]; decide
theorem abcr4 : rnds (wf abcM 0 64) 4 h0F = (3453542683, 2704871176, 1650726107, 3225796364, 1506887872) := by rw [rnds, abcr3, abcw3]; decide
theorem abcr5 : rnds (wf abcM 0 64) 5 h0F = (3486816734, 3453542683, 676217794, 1650726107, 3225796364) := by rw [rnds, abcr4, abcw4]; decide
theorem abcr6 : rnds (wf abcM 0 64) 6 h0F = (1070058048, 3486816734, 4084611142, 676217794, 1650726107) := by rw [rnds, abcr5, abcw5]; decide
theorem abcr7 : rnds (wf abcM 0 64) 7 h0F = (2570989761, 1070058048, 3019187831, 4084611142, 676217794) := by rw [rnds, abcr6, abcw6]; decide
theorem abcr8 : rnds (wf abcM 0 64) 8 h0F = (2659977172, 2570989761, 267514512, 3019187831, 4084611142) := by rw [rnds, abcr7, abcw7]; decide
theorem abcr9 : rnds (wf abcM 0 64) 9 h0F = (1265296168, 2659977172, 1716489264, 267514512, 3019187831) := by rw [rnds, abcr8, abcw8]; decide
theorem abcr10 : rnds (wf abcM 0 64) 10 h0F = (2203187497, 1265296168, 664994293, 1716489264, 267514512) := by rw [rnds, abcr9, abcw9]; decide
theorem abcr11 : rnds (wf abcM 0 64) 11 h0F = (4225408649, 2203187497, 316324042, 664994293, 1716489264) := by rw [rnds, abcr10, abcw10]; decide
theorem abcr12 : rnds (wf abcM 0 64) 12 h0F = (1662554084, 4225408649, 1624538698, 316324042, 664994293) := by rw [rnds, abcr11, abcw11]; decide
theorem abcr13 : rnds (wf abcM 0 64) 13 h0F = (1174910564, 1662554084, 2130093986, 1624538698, 316324042) := by rw [rnds, abcr12, abcw12]; decide
theorem abcr14 : rnds (wf abcM 0 64) 14 h0F = (2435380885, 1174910564, 415638521, 2130093986, 1624538698) := by rw [rnds, abcr13, abcw13]; decide
theorem abcr15 : rnds (wf abcM 0 64) 15 h0F = (426503799, 2435380885, 293727641, 415638521, 2130093986) := by rw [rnds, abcr14, abcw14]; decide
theorem abcr16 : rnds (wf abcM 0 64) 16 h0F = (549312047, 426503799, 1682587045, 293727641, 415638521) := by rw [rnds, abcr15, abcw15]; decide
theorem abcr17 : rnds (wf abcM 0 64) 17 h0F = (1318213667, 549312047, 3327851421, 1682587045, 293727641) := by rw [rnds, abcr16, abcw16]; decide
theorem abcr18 : rnds (wf abcM 0 64) 18 h0F = (2192205608, 1318213667, 3358553483, 3327851421, 1682587045) := by rw [rnds, abcr17, abcw17]; decide
theorem abcr19 : rnds (wf abcM 0 64) 19 h0F = (3697578013, 2192205608, 3550778888, 3358553483, 3327851421) := by rw [rnds, abcr18, abcw18]; decide
theorem abcr20 : rnds (wf abcM 0 64) 20 h0F = (4254997885, 3697578013, 548051402, 3550778888, 3358553483) := by rw [rnds, abcr19, abcw19]; decide
theorem abcr21 : rnds (wf abcM 0 64) 21 h0F = (439857354, 4254997885, 1998136327, 548051402, 3550778888) := by rw [rnds, abcr20, abcw20]; decide
theorem abcr22 : rnds (wf abcM 0 64) 22 h0F = (866270204, 439857354, 2137491295, 1998136327, 548051402) := by rw [rnds, abcr21, abcw21]; decide
theorem abcr23 : rnds (wf abcM 0 64) 23 h0F = (556283014, 866270204, 2257447986, 2137491295, 1998136327) := by rw [rnds, abcr22, abcw22]; decide
theorem abcr24 : rnds (wf abcM 0 64) 24 h0F = (3577868589, 556283014, 216567551, 2257447986, 2137491295) := by rw [rnds, abcr23, abcw23]; decide
theorem abcr25 : rnds (wf abcM 0 64) 25 h0F = (3344334278, 3577868589, 2286554401, 216567551, 2257447986) := by rw [rnds, abcr24, abcw24]; decide
theorem abcr26 : rnds (wf abcM 0 64) 26 h0F = (1212234660, 3344334278, 1968208971, 2286554401, 216567551) := by rw [rnds, abcr25, abcw25]; decide
theorem abcr27 : rnds (wf abcM 0 64) 27 h0F = (3191208917, 1212234660, 2983567217, 1968208971, 2286554401) := by rw [rnds, abcr26, abcw26]; decide
theorem abcr28 : rnds (wf abcM 0 64) 28 h0F = (1252543895, 3191208917, 303058665, 2983567217, 1968208971) := by rw [rnds, abcr27, abcw27]; decide
theorem abcr29 : rnds (wf abcM 0 64) 29 h0F = (2205201710, 1252543895, 1871544053, 303058665, 2983567217) := by rw [rnds, abcr28, abcw28]; decide
theorem abcr30 : rnds (wf abcM 0 64) 30 h0F = (3321605981, 2205201710, 3534361445, 1871544053, 303058665) := by rw [rnds, abcr29, abcw29]; decide
theorem abcr31 : rnds (wf abcM 0 64) 31 h0F = (308786183, 3321605981, 2698784075, 3534361445, 1871544053) := by rw [rnds, abcr30, abcw30]; decide
theorem abcr32 : rnds (wf abcM 0 64) 32 h0F = (998530355, 308786183, 1904143319, 2698784075, 3534361445) := by rw [rnds, abcr31, abcw31]; decide
theorem abcr33 : rnds (wf abcM 0 64) 33 h0F = (74426890, 998530355, 3298422017, 1904143319, 2698784075) := by rw [rnds, abcr32, abcw32]; decide
theorem abcr34 : rnds (wf abcM 0 64) 34 h0F = (739163153, 74426890, 3470858060, 3298422017, 1904143319) := by rw [rnds, abcr33, abcw33]; decide
theorem abcr35 : rnds (wf abcM 0 64) 35 h0F = (561605332, 739163153, 2166090370, 3470858060, 3298422017) := by rw [rnds, abcr34, abcw34]; decide
theorem abcr36 : rnds (wf abcM 0 64) 36 h0F = (3703288011, 561605332, 1258532612, 2166090370, 3470858060) := by rw [rnds, abcr35, abcw35]; decide
theorem abcr37 : rnds (wf abcM 0 64) 37 h0F = (256974808, 3703288011, 140401333, 1258532612, 2166090370) := by rw [rnds, abcr36, abcw36]; decide
theorem abcr38 : rnds (wf abcM 0 64) 38 h0F = (3697514303, 256974808, 4147047474, 140401333, 1258532612) := by rw [rnds, abcr37, abcw37]; decide
theorem abcr39 : rnds (wf abcM 0 64) 39 h0F = (1285055493, 3697514303, 64243702, 4147047474, 140401333) := by rw [rnds, abcr38, abcw38]; decide
theorem abcr40 : rnds (wf abcM 0 64) 40 h0F = (853417146, 1285055493, 4145604047, 64243702, 4147047474) := by rw [rnds, abcr39, abcw39]; decide
theorem abcr41 : rnds (wf abcM 0 64) 41 h0F = (4236762847, 853417146, 1395005697, 4145604047, 64243702) := by rw [rnds, abcr40, abcw40]; decide
theorem abcr42 : rnds (wf abcM 0 64) 42 h0F = (2534018396, 4236762847, 2360837934, 1395005697, 4145604047) := by rw [rnds, abcr41, abcw41]; decide
theorem abcr43 : rnds (wf abcM 0 64) 43 h0F = (2132360645, 2534018396, 4280416183, 2360837934, 1395005697) := by rw [rnds, abcr42, abcw42]; decide
theorem abcr44 : rnds (wf abcM 0 64) 44 h0F = (3994753711, 2132360645, 633504599, 4280416183, 2360837934) := by rw [rnds, abcr43, abcw43]; decide
theorem abcr45 : rnds (wf abcM 0 64) 45 h0F = (1089637897, 3994753711, 1606831985, 633504599, 4280416183) := by rw [rnds, abcr44, abcw44]; decide
theorem abcr46 : rnds (wf abcM 0 64) 46 h0F = (475128306, 1089637897, 4219913899, 1606831985, 633504599) := by rw [rnds, abcr45, abcw45]; decide
theorem abcr47 : rnds (wf abcM 0 64) 47 h0F = (2686157932, 475128306, 1346151298, 4219913899, 1606831985) := by rw [rnds, abcr46, abcw46]; decide
theorem abcr48 : rnds (wf abcM 0 64) 48 h0F = (3199009482, 2686157932, 2266265724, 1346151298, 4219913899) := by rw [rnds, abcr47, abcw47]; decide
theorem abcr49 : rnds (wf abcM 0 64) 49 h0F = (3136525111, 3199009482, 671539483, 2266265724, 1346151298) := by rw [rnds, abcr48, abcw48]; decide
theorem abcr50 : rnds (wf abcM 0 64) 50 h0F = (302461381, 3136525111, 2947236018, 671539483, 2266265724) := by rw [rnds, abcr49, abcw49]; decide
theorem abcr51 : rnds (wf abcM 0 64) 51 h0F = (1679667918, 302461381, 4005356749, 2947236018, 671539483) := by rw [rnds, abcr50, abcw50]; decide
theorem abcr52 : rnds (wf abcM 0 64) 52 h0F = (944221542, 1679667918, 1149357169, 4005356749, 2947236018) := by rw [rnds, abcr51, abcw51]; decide
theorem abcr53 : rnds (wf abcM 0 64) 53 h0F = (3834659693, 944221542, 2567400627, 1149357169, 4005356749) := by rw [rnds, abcr52, abcw52]; decide
theorem abcr54 : rnds (wf abcM 0 64) 54 h0F = (669643224, 3834659693, 2383539033, 2567400627, 1149357169) := by rw [rnds, abcr53, abcw53]; decide
theorem abcr55 : rnds (wf abcM 0 64) 55 h0F = (2071066477, 669643224, 2032406747, 2383539033, 2567400627) := by rw [rnds, abcr54, abcw54]; decide
theorem abcr56 : rnds (wf abcM 0 64) 56 h0F = (1583634095, 2071066477, 167410806, 2032406747, 2383539033) := by rw [rnds, abcr55, abcw55]; decide
theorem abcr57 : rnds (wf abcM 0 64) 57 h0F = (3360033087, 1583634095, 1591508443, 167410806, 2032406747) := by rw [rnds, abcr56, abcw56]; decide
theorem abcr58 : rnds (wf abcM 0 64) 58 h0F = (3529703248, 3360033087, 3617133995, 1591508443, 167410806) := by rw [rnds, abcr57, abcw57]; decide
theorem abcr59 : rnds (wf abcM 0 64) 59 h0F = (165119485, 3529703248, 4061233743, 3617133995, 1591508443) := by rw [rnds, abcr58, abcw58]; decide
theorem abcr60 : rnds (wf abcM 0 64) 60 h0F = (1062395482, 165119485, 882425812, 4061233743, 3617133995) := by rw [rnds, abcr59, abcw59]; decide
theorem abcr61 : rnds (wf abcM 0 64) 61 h0F = (3612787015, 1062395482, 1115021695, 882425812, 4061233743) := by rw [rnds, abcr60, abcw60]; decide
theorem abcr62 : rnds (wf abcM 0 64) 62 h0F = (1418501298, 3612787015, 2413082518, 1115021695, 882425812) := by rw [rnds, abcr61, abcw61]; decide
theorem abcr63 : rnds (wf abcM 0 64) 63 h0F = (3060531723, 1418501298, 4124422225, 2413082518, 1115021695) := by rw [rnds, abcr62, abcw62]; decide
theorem abcr64 : rnds (wf abcM 0 64) 64 h0F = (1801570785, 3060531723, 2502108972, 4124422225, 2413082518) := by rw [rnds, abcr63, abcw63]; decide
theorem abcr65 : rnds (wf abcM 0 64) 65 h0F = (434087852, 1801570785, 3986358402, 2502108972, 4124422225) := by rw [rnds, abcr64, abcw64]; decide
theorem abcr66 : rnds (wf abcM 0 64) 66 h0F = (269899257, 434087852, 1524134520, 3986358402, 2502108972) := by rw [rnds, abcr65, abcw65]; decide
theorem abcr67 : rnds (wf abcM 0 64) 67 h0F = (205386420, 269899257, 108521963, 1524134520, 3986358402) := by rw [rnds, abcr66, abcw66]; decide
theorem abcr68 : rnds (wf abcM 0 64) 68 h0F = (2027769131, 205386420, 1141216638, 108521963, 1524134520) := by rw [rnds, abcr67, abcw67]; decide
theorem abcr69 : rnds (wf abcM 0 64) 69 h0F = (1232114624, 2027769131, 51346605, 1141216638, 108521963) := by rw [rnds, abcr68, abcw68]; decide
theorem abcr70 : rnds (wf abcM 0 64) 70 h0F = (1059424450, 1232114624, 3728167754, 51346605, 1141216638) := by rw [rnds, abcr69, abcw69]; decide
theorem abcr71 : rnds (wf abcM 0 64) 71 h0F = (3248093383, 1059424450, 308028656, 3728167754, 51346605) := by rw [rnds, abcr70, abcw70]; decide
theorem abcr72 : rnds (wf abcM 0 64) 72 h0F = (965058023, 3248093383, 2412339760, 308028656, 3728167754) := by rw [rnds, abcr71, abcw71]; decide
theorem abcr73 : rnds (wf abcM 0 64) 73 h0F = (3988008420, 965058023, 4033248817, 2412339760, 308028656) := by rw [rnds, abcr72, abcw72]; decide
theorem abcr74 : rnds (wf abcM 0 64) 74 h0F = (293158767, 3988008420, 3462489977, 4033248817, 2412339760) := by rw [rnds, abcr73, abcw73]; decide
theorem abcr75 : rnds (wf abcM 0 64) 75 h0F = (1592223895, 293158767, 997002105, 3462489977, 4033248817) := by rw [rnds, abcr74, abcw74]; decide
theorem abcr76 : rnds (wf abcM 0 64) 76 h0F = (1677187767, 1592223895, 3294515163, 997002105, 3462489977) := by rw [rnds, abcr75, abcw75]; decide
theorem abcr77 : rnds (wf abcM 0 64) 77 h0F = (2692331481, 1677187767, 3619281445, 3294515163, 997002105) := by rw [rnds, abcr76, abcw76]; decide
theorem abcr78 : rnds (wf abcM 0 64) 78 h0F = (2249007564, 2692331481, 3640522413, 3619281445, 3294515163) := by rw [rnds, abcr77, abcw77]; decide
theorem abcr79 : rnds (wf abcM 0 64) 79 h0F = (1463342561, 2249007564, 1746824694, 3640522413, 3619281445) := by rw [rnds, abcr78, abcw78]; decide
theorem abcr80 : rnds (wf abcM 0 64) 80 h0F = (1112808245, 1463342561, 562251891, 1746824694, 3640522413) := by rw [rnds, abcr79, abcw79]; decide
theorem abc_sum : shaF [97, 98, 99] = (2845392438, 1191608682, 3124634993, 2018558572, 2630932637) := by
  have e1 : padL [97, 98, 99] = abcM := by decide
  have e2 : abcM.length / 64 = 1 := by decide
  unfold shaF
  rw [e1, e2]
  have e3 : hAt abcM 1 = addF h0F (rnds (wf abcM 0 64) 80 h0F) := rfl
  rw [e3, abcr80]
  decide
end Go.Proofs.Ytmaicamlemnbmaa
