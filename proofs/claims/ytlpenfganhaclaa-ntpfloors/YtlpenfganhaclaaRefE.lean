/-
  The contract of the reference numbers' Mul: the product of any two. No conditions beside the memory's own.
-/
import Derived.Test.YtlpenfganhaclaaRefD
namespace Go.Proofs.Ytlpenfganhaclaa
open Go.RowKit

theorem dg_set_at {zs : List Int} {k : Nat} (h : k < zs.length) (v : Int) : dg (zs.set k v) k = v := by
  simp [dg, List.getD, h]
theorem dg_set_other {zs : List Int} {k j : Nat} (h : j ≠ k) (v : Int) : dg (zs.set k v) j = dg zs j := by
  simp [dg, List.getD, List.getElem?_set_ne (Ne.symm h)]
theorem dig_set {zs : List Int} (h : Dig zs) {k : Nat} {v : Int} (h0 : 0 ≤ v) (h1 : v < 65536) : Dig (zs.set k v) := by
  intro j
  show 0 ≤ dg (zs.set k v) j ∧ dg (zs.set k v) j < 65536
  by_cases e : j = k
  · subst e
    by_cases hl : j < zs.length
    · rw [dg_set_at hl]; omega
    · rw [dg_end (by simp; omega)]; decide
  · rw [dg_set_other e]; exact h j
theorem val_set {zs : List Int} {k : Nat} (h : k < zs.length) (v : Int) : val (zs.set k v) = val zs + pw k * (v - dg zs k) := by
  induction zs generalizing k with
  | nil => simp at h
  | cons z zs ih =>
    cases k with
    | zero => simp only [List.set_cons_zero, val, pw_zero, dg, List.getD_cons_zero]; omega
    | succ k =>
      have := ih (k := k) (by simpa using h)
      simp only [List.set_cons_succ, val, this, pw_succ]
      have e : dg (z :: zs) (k + 1) = dg zs k := by simp [dg]
      rw [e, Int.mul_add, Int.mul_assoc]; omega
/-- So many noughts. -/
def zeros (n : Nat) : List Int := List.replicate n 0
theorem zeros_len (n : Nat) : (zeros n).length = n := by simp [zeros]
theorem dg_zeros (n k : Nat) : dg (zeros n) k = 0 := by
  simp only [dg, zeros, List.getD, List.getElem?_replicate]; split <;> rfl
theorem val_zeros (n : Nat) : val (zeros n) = 0 := by
  induction n with
  | zero => rfl
  | succ n ih => show val (0 :: zeros n) = 0; rw [val, ih]; rfl
theorem dig_zeros (n : Nat) : Dig (zeros n) := fun j => by have := dg_zeros n j; unfold dg at this; rw [this]; decide

/-- Row i is done. -/
def MulRow (xs ys : List Int) (i : Nat) (zs : List Int) : Prop :=
  zs.length = xs.length + ys.length ∧ Dig zs ∧ (∀ k, i + ys.length ≤ k → dg zs k = 0) ∧ val zs = val (xs.take i) * val ys
/-- In row i, column j is done, the carry is c. -/
def MulCol (xs ys : List Int) (i j : Nat) (c : Int) (zs : List Int) : Prop :=
  zs.length = xs.length + ys.length ∧ Dig zs ∧ (∀ k, i + ys.length ≤ k → dg zs k = 0) ∧ 0 ≤ c ∧ c < 65536 ∧ val zs + pw (i + j) * c = val (xs.take i) * val ys + pw i * (dg xs i * val (ys.take j))
theorem MulRow.start {xs ys zs : List Int} {i : Nat} (h : MulRow xs ys i zs) : MulCol xs ys i 0 0 zs := by
  obtain ⟨h1, h2, h3, h4⟩ := h
  exact ⟨h1, h2, h3, by omega, by omega, by simp [val]; exact h4⟩
theorem prod16 {x y : Int} (x0 : 0 ≤ x) (x1 : x < 65536) (y0 : 0 ≤ y) (y1 : y < 65536) : 0 ≤ x * y ∧ x * y ≤ 4294836225 := by
  refine ⟨Int.mul_nonneg x0 y0, ?_⟩
  have := Int.mul_le_mul (show x ≤ 65535 by omega) (show y ≤ 65535 by omega) y0 (by omega)
  omega
theorem MulCol.step {xs ys zs : List Int} {i j : Nat} {c : Int} (h : MulCol xs ys i j c zs) (dx : Dig xs) (dy : Dig ys) (hi : i < xs.length) (hj : j < ys.length) :
    MulCol xs ys i (j + 1) ((dg zs (i + j) + dg xs i * dg ys j + c) / 65536) (zs.set (i + j) ((dg zs (i + j) + dg xs i * dg ys j + c) % 65536)) := by
  obtain ⟨h1, h2, h3, h4, h5, h6⟩ := h
  obtain ⟨x0, x1⟩ := dg_ok dx i
  obtain ⟨y0, y1⟩ := dg_ok dy j
  obtain ⟨p0, p1⟩ := prod16 x0 x1 y0 y1
  obtain ⟨z0, z1⟩ := dg_ok h2 (i + j)
  refine ⟨by simp [h1], dig_set h2 (by omega) (by omega), fun k hk => ?_, by omega, by omega, ?_⟩
  · rw [dg_set_other (by omega)]; exact h3 k hk
  · rw [val_set (by omega), val_take_succ, show i + (j + 1) = (i + j) + 1 by omega, pw_succ]
    generalize hP : dg xs i * dg ys j = P at *
    have e1 : pw i * (dg xs i * (val (ys.take j) + pw j * ys.getD j 0)) = pw i * (dg xs i * val (ys.take j)) + pw (i + j) * P := by
      rw [← hP, pw_add, Int.mul_add, Int.mul_add, Int.mul_left_comm (dg xs i), Int.mul_assoc]; rfl
    rw [e1]
    have e2 : pw (i + j) * ((dg zs (i + j) + P + c) % 65536 - dg zs (i + j)) + 65536 * pw (i + j) * ((dg zs (i + j) + P + c) / 65536) = pw (i + j) * (P + c) := by
      rw [Int.mul_comm 65536 (pw (i + j)), Int.mul_assoc, ← Int.mul_add]; congr 1; omega
    rw [Int.mul_add] at e2
    omega
theorem MulCol.done {xs ys zs : List Int} {i : Nat} {c : Int} (h : MulCol xs ys i ys.length c zs) (hi : i < xs.length) : MulRow xs ys (i + 1) (zs.set (i + ys.length) c) := by
  obtain ⟨h1, h2, h3, h4, h5, h6⟩ := h
  refine ⟨by simp [h1], dig_set h2 h4 h5, fun k hk => ?_, ?_⟩
  · rw [dg_set_other (by omega)]; exact h3 k (by omega)
  · rw [val_set (by omega), h3 _ (Nat.le_refl _), val_take_succ, Int.add_mul, Int.mul_assoc]
    rw [List.take_length] at h6
    have e : dg xs i = xs.getD i 0 := rfl
    rw [e] at h6
    rw [Int.sub_zero]; exact h6

theorem ab_mul (x y : Int) : ab (x * y) = ab x * ab y := by
  by_cases h1 : x < 0 <;> by_cases h2 : y < 0
  · have : 0 ≤ x * y := by have := Int.mul_nonneg (show 0 ≤ -x by omega) (show 0 ≤ -y by omega); rwa [Int.neg_mul_neg] at this
    rw [ab_neg h1, ab_neg h2, ab_pos this, Int.neg_mul_neg]
  · have h3 : 0 ≤ -x * y := Int.mul_nonneg (by omega) (by omega)
    rw [Int.neg_mul] at h3
    rw [ab_neg h1, ab_pos (z := y) (by omega), Int.neg_mul]
    by_cases e : x * y < 0
    · rw [ab_neg e]
    · rw [ab_pos (by omega)]; omega
  · have h3 : 0 ≤ x * -y := Int.mul_nonneg (by omega) (by omega)
    rw [Int.mul_neg] at h3
    rw [ab_neg h2, ab_pos (z := x) (by omega), Int.mul_neg]
    by_cases e : x * y < 0
    · rw [ab_neg e]
    · rw [ab_pos (by omega)]; omega
  · rw [ab_pos (z := x) (by omega), ab_pos (z := y) (by omega), ab_pos (Int.mul_nonneg (by omega) (by omega))]
theorem mul_same {x y : Int} (h' : sg x = sg y) : sg (x * y) = false := by
  unfold sg at h'; rw [decide_eq_decide] at h'
  apply sg_pos
  by_cases h1 : x < 0
  · have := Int.mul_nonneg (show 0 ≤ -x by omega) (show 0 ≤ -y by omega); rwa [Int.neg_mul_neg] at this
  · exact Int.mul_nonneg (by omega) (by omega)
theorem mul_other {x y : Int} (h' : ¬ sg x = sg y) (hz : x * y ≠ 0) : sg (x * y) = true := by
  unfold sg at h'; rw [decide_eq_decide] at h'
  apply sg_neg
  by_cases h1 : x < 0
  · have h3 : 0 ≤ -x * y := Int.mul_nonneg (by omega) (by omega)
    rw [Int.neg_mul] at h3; omega
  · have h3 : 0 ≤ x * -y := Int.mul_nonneg (by omega) (by omega)
    rw [Int.mul_neg] at h3; omega

/-- What the memory of the call holds while it multiplies. -/
def BMem (w wr : World) (u0 u1 v0 v1 : Value) (zs : List Int) : Prop :=
  Two wr w.heap.size u0 u1 ∧ Two wr (w.heap.size + 1) v0 v1 ∧ Two wr (w.heap.size + 1 + 1) (.bool false) (.slice none 0 0) ∧
  (∀ k, k < zs.length → wr.cell? ⟨w.heap.size + 1 + 1 + 1, k, none⟩ = some (.int .i64 (dg zs k)) ∧ wr.frozen? ⟨w.heap.size + 1 + 1 + 1, k, none⟩ = false) ∧ Below w.heap.size w wr
theorem Two.other {w : World} {b r o : Nat} {u v x : Value} (h : Two w b u v) (hn : b ≠ r) : Two (w.setCell ⟨r, o, none⟩ x) b u v := by
  obtain ⟨h1, h2, h3, h4⟩ := h
  exact ⟨by rw [World.cell?_setCell_other _ _ _ _ (fun e => hn (congrArg Addr.block e).symm)]; exact h1, by rw [World.cell?_setCell_other _ _ _ _ (fun e => hn (congrArg Addr.block e).symm)]; exact h2, by rw [World.frozen?_setCell]; exact h3, by rw [World.frozen?_setCell]; exact h4⟩
theorem BMem.set {w wr : World} {u0 u1 v0 v1 : Value} {zs : List Int} (h : BMem w wr u0 u1 v0 v1 zs) {k : Nat} (hk : k < zs.length) (v : Int) :
    BMem w (wr.setCell ⟨w.heap.size + 1 + 1 + 1, k, none⟩ (.int .i64 v)) u0 u1 v0 v1 (zs.set k v) := by
  obtain ⟨h1, h2, h3, h4, h5⟩ := h
  refine ⟨h1.other (by omega), h2.other (by omega), h3.other (by omega), fun j hj => ?_, h5.setCell (by simp; omega) _⟩
  rw [List.length_set] at hj
  refine ⟨?_, by rw [World.frozen?_setCell]; exact (h4 j hj).2⟩
  by_cases e : j = k
  · subst e; rw [World.cell?_setCell_same _ _ _ (h4 j hj).1, dg_set_at hk]
  · rw [World.cell?_setCell_other _ _ _ _ (fun h => e (by simpa using h.symm)), dg_set_other e]; exact (h4 j hj).1
theorem BMem.drewN {w wr : World} {u0 u1 v0 v1 : Value} {zs : List Int} (h : BMem w wr u0 u1 v0 v1 zs) (n : Nat) : BMem w (wr.drewN n) u0 u1 v0 v1 zs := by
  obtain ⟨h1, h2, h3, h4, h5⟩ := h
  exact ⟨h1, h2, h3, h4, below_drewN h5 n⟩
theorem BMem.digs {w wr : World} {u0 u1 v0 v1 : Value} {zs : List Int} (h : BMem w wr u0 u1 v0 v1 zs) (hl : zs.length ≤ 1000000000) : Digs wr (.slice (some ⟨w.heap.size + 1 + 1 + 1, 0, none⟩) zs.length zs.length) zs :=
  ⟨_, w.heap.size + 1 + 1 + 1, 0, zs.length, rfl, Nat.le_refl _, by unfold maxLen; omega, .inr rfl, fun j hj => by rw [Nat.zero_add]; exact (h.2.2.2.1 j hj).1⟩

set_option maxRecDepth 100000 in
set_option maxHeartbeats 2000000 in
theorem bmul_any {n m : Nat} {a a' : Option Addr} {l l' c c' : Nat} {x y : Int} {w : World} (ha : BigIs n w (.slice a l c) x) (hb : BigIs m w (.slice a' l' c') y) (hn : n ≤ 10000000) (hm : m ≤ 10000000) :
    Calls Try.prog 15 #[.agg #[.bool (sg x), .slice a l c], .agg #[.bool (sg y), .slice a' l' c']] w fun e w' =>
      ∃ b k d, e = .returned (.agg #[.bool (sg (x * y)), .slice b k d]) ∧ BigIs (n + m) w' (.slice b k d) (x * y) ∧ Below w.heap.size w w' := by
  obtain ⟨xs, ⟨ao, b, off, cap, hs1, h2, h3, h4, h5⟩, d2, d3, d4, d5, rfl⟩ := ha.open
  obtain ⟨ys, ⟨bo, b', off', cap', hs2, k2, k3, k4, k5⟩, e2, e3, e4, e5, rfl⟩ := hb.open
  clear ha hb
  obtain ⟨P, hP⟩ : ∃ P, Hid (P = x * y) := ⟨_, rfl⟩
  rw [← hP.out]
  obtain ⟨rfl, rfl⟩ : a = ao ∧ c = cap := by simpa using hs1
  obtain ⟨rfl, rfl⟩ : a' = bo ∧ c' = cap' := by simpa using hs2
  have H5 := hid h5
  have K5 := hid k5
  have D5 := hid d5
  have E5 := hid e5
  clear h5 k5 hs1 hs2 d5 e5
  have hx : (xs.length : Int) ≤ 10000000 := by omega
  have hy : (ys.length : Int) ≤ 10000000 := by omega
  obtain ⟨W', mk1, mk2, mk3, mk4⟩ := made (xs.length + ys.length) (by omega) (((w.alloc (.cells #[.bool (sg x), .slice a xs.length c] 32)).alloc (.cells #[.bool (sg y), .slice a' ys.length c'] 32)).alloc (.cells #[.bool false, .slice none 0 0] 32))
  have ec : ((xs.length + ys.length : Nat) : Int) = (xs.length : Int) + (ys.length : Int) := by omega
  rw [ec] at mk1
  clear ec
  have mem0 : BMem w W' (.bool (sg x)) (.slice a xs.length c) (.bool (sg y)) (.slice a' ys.length c') (zeros (xs.length + ys.length)) := by
    refine ⟨(two_later mk3 ⟨by simp [go_sem], by simp [go_sem], by simp [go_sem], by simp [go_sem]⟩).1, (two_later mk3 ⟨by simp [go_sem], by simp [go_sem], by simp [go_sem], by simp [go_sem]⟩).1, (two_later mk3 ⟨by simp [go_sem], by simp [go_sem], by simp [go_sem], by simp [go_sem]⟩).1, fun k hk => ?_, bthen (by go_grown) (by go_size) mk3⟩
    rw [zeros_len] at hk
    rw [dg_zeros]
    have := mk2 k hk
    simpa using this
  have M0 := hid mem0
  clear mem0 mk2 mk3 mk4
  go_enter Try.func15, Try.ntmps15
  go_wp2_with fail
  clear mk1
  go_loopw [6] (fun t wr => ∃ (i : Nat) (zs : List Int), i ≤ xs.length ∧ t = .int .i64 i ∧ MulRow xs ys i zs ∧ BMem w wr (.bool (sg x)) (.slice a xs.length c) (.bool (sg y)) (.slice a' ys.length c') zs) (fun t _ => xs.length - (intOf t).toNat)
  case atStart => exact ⟨0, _, by omega, rfl, ⟨zeros_len _, dig_zeros _, fun k _ => dg_zeros _ k, by rw [val_zeros]; simp [val]⟩, M0.out⟩
  case round =>
    obtain ⟨i, zs, hi, rfl, row, mem⟩ := hrel
    clear M0
    obtain ⟨⟨p1, p2, p3, p4⟩, ⟨q1, q2, q3, q4⟩, ⟨r1, r2, r3, r4⟩, -, hbw⟩ := id mem
    have MEM := hid mem
    clear mem
    by_cases hi2 : i < xs.length
    · have z1 : (i : Int) < xs.length := by omega
      have z0 : (0 : Int) ≤ (i : Int) := by omega
      have ST := hid row.start
      clear row
      go_wp2
      go_loopw [7, 8] (fun cc t wv => ∃ (j : Nat) (c0 : Int) (zs : List Int), j ≤ ys.length ∧ t = .int .i64 j ∧ cc = .int .i64 c0 ∧ MulCol xs ys i j c0 zs ∧ BMem w wv (.bool (sg x)) (.slice a xs.length c) (.bool (sg y)) (.slice a' ys.length c') zs) (fun _ t _ => ys.length - (intOf t).toNat)
      case atStart => exact ⟨0, 0, zs, by omega, rfl, rfl, ST.out, MEM.out⟩
      case round =>
        clear p1 p2 p3 p4 q1 q2 q3 q4 r1 r2 r3 r4 hbw MEM ST
        obtain ⟨j, c0, zs, hj, rfl, rfl, col, mem⟩ := hrel
        obtain ⟨⟨p1, p2, p3, p4⟩, ⟨q1, q2, q3, q4⟩, ⟨r1, r2, r3, r4⟩, mz, hbw⟩ := id mem
        have MEM := hid mem
        clear mem
        have hzl : zs.length = xs.length + ys.length := col.1
        by_cases hj2 : j < ys.length
        · obtain rfl := some_of h4 (by omega)
          obtain rfl := some_of k4 (by omega)
          have cx := cell_later hbw (H5.out i (by omega))
          have cy := cell_later hbw (K5.out j (by omega))
          obtain ⟨cz, fz⟩ := mz (i + j) (by omega)
          obtain ⟨x0, x1⟩ := dg_ok d2 i
          obtain ⟨y0, y1⟩ := dg_ok e2 j
          obtain ⟨w0, w1⟩ := dg_ok col.2.1 (i + j)
          obtain ⟨pp0, pp1⟩ := prod16 x0 x1 y0 y1
          have cc0 : 0 ≤ c0 := col.2.2.2.1
          have cc1 : c0 < 65536 := col.2.2.2.2.1
          have ST := hid (col.step d2 e2 hi2 hj2)
          have NM := hid (MEM.out.set (k := i + j) (by omega) ((dg zs (i + j) + dg xs i * dg ys j + c0) % 65536))
          have z2 : (j : Int) < ys.length := by omega
          have z3 : (0 : Int) ≤ (j : Int) := by omega
          have z4 : (0 : Int) ≤ (i : Int) + (j : Int) := by omega
          have z5 : (i : Int) + (j : Int) < ((xs.length + ys.length : Nat) : Int) := by omega
          have z6 : ((i : Int) + (j : Int)).toNat = i + j := by omega
          have HZ := hid hzl
          have MZ := hid mz
          clear col hzl mz
          go_wp2
          go_quiet (fail)
          go_wp2
          go_roundw
          case rel => exact ⟨j + 1, _, _, by omega, by go_num, rfl, ST.out, (MEM.out.drewN _).set (by have := HZ.out; omega) _⟩
          case measure => simp [intOf]; omega
        · obtain rfl : j = ys.length := by omega
          obtain ⟨cz, fz⟩ := mz (i + ys.length) (by omega)
          have ST := hid (col.done hi2)
          have z4 : (0 : Int) ≤ (i : Int) + (ys.length : Int) := by omega
          have z5 : (i : Int) + (ys.length : Int) < ((xs.length + ys.length : Nat) : Int) := by omega
          have z6 : ((i : Int) + (ys.length : Int)).toNat = i + ys.length := by omega
          have HZ := hid hzl
          have MZ := hid mz
          clear col hzl mz
          go_wp2
          go_roundw
          case rel => exact ⟨i + 1, _, by omega, by go_num, ST.out, MEM.out.set (by have := HZ.out; omega) _⟩
          case measure => simp [intOf]; omega
    · obtain rfl : i = xs.length := by omega
      have hzl : zs.length = xs.length + ys.length := row.1
      have DG : Hid (Digs wr (.slice (some ⟨w.heap.size + 1 + 1 + 1, 0, none⟩) (xs.length + ys.length) (xs.length + ys.length)) zs) := by
        have h := MEM.out.digs (by omega); rw [hzl] at h; exact h
      have HV0 : Hid (val zs = ab P) := by
        have h := row.2.2.2; rw [List.take_length, D5.out, E5.out, ← ab_mul, ← hP.out] at h; exact h
      have DZ := hid row.2.1
      have HZ := hid hzl
      clear row hzl
      go_wp2_with fail
      refine (trim_b DG.out (by have := HZ.out; omega)).mono ?_
      rintro e w1 ⟨k, v', hk, hzr, hcn, rfl, hdg, hb1⟩
      obtain ⟨g, d, rfl⟩ := hdg.form
      have KF := hid (And.intro hk hcn)
      have HV : Hid (val (zs.take k) = ab P) := by rw [Hid, val_trim hk hzr]; exact HV0.out
      have HL : Hid ((zs.take k).length ≤ n + m) := by rw [Hid, List.length_take]; have := HZ.out; omega
      have HC : Hid (val (zs.take k) = 0 ↔ zs.take k = []) := canon_zero (dig_take DZ.out k) (canon_take hk hcn)
      have HG := hid hdg
      obtain ⟨tl, htl⟩ : ∃ tl, Hid (tl = (List.take k zs).length) := ⟨_, rfl⟩
      rw [← htl.out] at HG ⊢
      clear hk hzr hcn hdg
      obtain ⟨⟨a1, a2, a3, a4⟩, a5⟩ := two_later hb1 (b := w.heap.size) (u := .bool (sg x)) (v := .slice a xs.length c) ⟨p1, p2, p3, p4⟩
      obtain ⟨⟨b1, b2, b3, b4⟩, b5⟩ := two_later hb1 (b := w.heap.size + 1) (u := .bool (sg y)) (v := .slice a' ys.length c') ⟨q1, q2, q3, q4⟩
      obtain ⟨⟨c1, c2, c3, c4⟩, c5⟩ := two_later hb1 (b := w.heap.size + 1 + 1) (u := .bool false) (v := .slice none 0 0) ⟨r1, r2, r3, r4⟩
      have TW := hid (show Two w1 (w.heap.size + 1 + 1) (.bool false) (.slice none 0 0) from ⟨c1, c2, c3, c4⟩)
      have x1 := bthen hbw hbw.size hb1
      have zz1 := x1.size
      clear hb1 p1 p2 p3 p4 q1 q2 q3 q4 r1 r2 r3 r4 hbw
      by_cases hq : ¬ sg x = sg y
      · by_cases h0 : P = 0
        · have s3 := sg_pos (z := P) (by omega)
          have ht0 : tl = 0 := by rw [htl.out, HC.out.1 (by rw [HV.out, h0]; rfl)]; rfl
          have H0 := hid h0
          clear h0
          subst ht0
          go_wp2_with fail
          refine bodyPost_ret (v := .agg #[.bool false, .slice g 0 d]) (by simp [results, Try.results15, go_sem, *]) rfl ⟨_, _, _, by rw [s3], ?_, by go_grown⟩
          exact BigIs.put ⟨_, HG.out, dig_take DZ.out k, canon_take KF.out.1 KF.out.2, by have := HL.out; omega, HV.out⟩ TW.out (noInt_bool _) (noInt_slice _ _ _) _ _
        · have s3 : sg P = true := by rw [hP.out]; exact mul_other hq (by rw [← hP.out]; exact h0)
          have ht0 : 0 < tl := by
            rw [htl.out]; apply List.length_pos_iff.2; intro e
            have h := HC.out.2 e; rw [HV.out] at h; unfold ab at h; split at h <;> omega
          have ht1 : (0 : Int) < (tl : Int) := by omega
          go_wp2_with fail
          refine bodyPost_ret (v := .agg #[.bool true, .slice g tl d]) (by simp [results, Try.results15, go_sem, *]) rfl ⟨_, _, _, by rw [s3], ?_, by go_grown⟩
          exact BigIs.put ⟨_, HG.out, dig_take DZ.out k, canon_take KF.out.1 KF.out.2, by have := HL.out; omega, HV.out⟩ TW.out (noInt_bool _) (noInt_slice _ _ _) _ _
      · have hq' : sg x = sg y := by simpa using hq
        have s3 : sg P = false := by rw [hP.out]; exact mul_same hq'
        clear hq
        go_wp2_with fail
        refine bodyPost_ret (v := .agg #[.bool false, .slice g tl d]) (by simp [results, Try.results15, go_sem, *]) rfl ⟨_, _, _, by rw [s3], ?_, by go_grown⟩
        exact BigIs.put ⟨_, HG.out, dig_take DZ.out k, canon_take KF.out.1 KF.out.2, by have := HL.out; omega, HV.out⟩ TW.out (noInt_bool _) (noInt_slice _ _ _) _ _
end Go.Proofs.Ytlpenfganhaclaa
