/-
  Forms of a time in octets, in plain numbers: what they share; NTP's (P20.1, P20.2).
-/
import Derived.Test.YtlpenfganhaclaaPvA
import Derived.Test.YtlpenfganhaclaaFrD
namespace Go.Proofs.Ytlpenfganhaclaa
open Go.RowKit
set_option maxRecDepth 100000

/-! ### What they share -/
/-- The number of a field, in the era about a pivot; or that it does not fit. -/
def abE (f n p : Int) : Int := if inW (p - n / 2) = true ∧ inW (pnI f n p) = true then 0 else 2
def abZ (f n p : Int) : Int := if abE f n p = 0 then pnI f n p else 0
theorem ab_ok {f n p : Int} (h : inW (p - n / 2) = true ∧ inW (pnI f n p) = true) : abE f n p = 0 ∧ abZ f n p = pnI f n p := by
  have e : abE f n p = 0 := if_pos h
  exact ⟨e, if_pos e⟩
theorem ab_no {f n p : Int} (h : ¬ (inW (p - n / 2) = true ∧ inW (pnI f n p) = true)) : abE f n p = 2 ∧ abZ f n p = 0 := by
  have e : abE f n p = 2 := if_neg h
  exact ⟨e, if_neg (by rw [e]; decide)⟩
theorem ab_zero {f n p : Int} (h : abE f n p = 0) : abZ f n p = pnI f n p := if_pos h
theorem ab_two {f n p : Int} (h : abE f n p ≠ 0) : abE f n p = 2 ∧ abZ f n p = 0 := by
  by_cases q : inW (p - n / 2) = true ∧ inW (pnI f n p) = true
  · exact absurd (ab_ok q).1 h
  · exact ab_no q
theorem two_parts {s a P : Int} (hP : 0 < P) (ha : 0 ≤ a ∧ a < 1000000000000000000) : (s * 1000000000000000000 + a) % (P * 1000000000000000000) = s % P * 1000000000000000000 + a := by
  have h1 := Int.emod_add_mul_ediv s P
  have h2 := Int.emod_nonneg s (show P ≠ 0 by omega)
  have h3 := Int.emod_lt_of_pos s hP
  have e : s * 1000000000000000000 + a = (s % P * 1000000000000000000 + a) + P * 1000000000000000000 * (s / P) := by
    rw [Int.mul_assoc, Int.mul_comm 1000000000000000000, ← Int.mul_assoc]
    generalize P * (s / P) = X at h1 ⊢
    omega
  rw [e, Int.add_mul_emod_self_left, Int.emod_eq_of_lt (by omega) (by omega)]
theorem fc_near {a : Int} {k : Nat} : (a - flI (fcI a k) k) * oP k < 1000000000000000000 := by
  obtain ⟨h1, h2⟩ := fl_code a k
  unfold fcI at h2 ⊢
  rw [Int.sub_mul]
  generalize flI (a * oP k / 1000000000000000000) k * oP k = X at h2 ⊢
  generalize a * oP k = Y at h2 ⊢
  omega
/-- A time that is cut at its code's resolution comes again, about itself. -/
theorem back_near {n P a : Int} {k : Nat} (hP : 2 ≤ P) (ha : a = flI (fcI (n % 1000000000000000000) k) k) : pnI (n / 1000000000000000000 % P * 1000000000000000000 + a) (P * 1000000000000000000) n = n / 1000000000000000000 * 1000000000000000000 + a := by
  obtain ⟨h1, h2⟩ := fl_code (n % 1000000000000000000) k
  have h3 := fl_low (k := k) (fc_low (k := k) (Int.emod_nonneg n (show (1000000000000000000 : Int) ≠ 0 by decide)))
  have h4 := Int.emod_lt_of_pos n (show (0 : Int) < 1000000000000000000 by decide)
  have h5 := Int.emod_add_mul_ediv n 1000000000000000000
  rw [← two_parts (by omega) (by omega)]
  refine (pn_only (by omega)).2 ?_
  omega
/-- Both parts of a number that leaves this by an era. -/
theorem parts_of {m s a P : Int} (hP : 0 < P) (ha : 0 ≤ a ∧ a < 1000000000000000000) (h : m % (P * 1000000000000000000) = s * 1000000000000000000 + a) : m / 1000000000000000000 % P = s ∧ m % 1000000000000000000 = a := by
  have h1 := Int.emod_nonneg m (show (1000000000000000000 : Int) ≠ 0 by decide)
  have h2 := Int.emod_lt_of_pos m (show (0 : Int) < 1000000000000000000 by decide)
  have h3 := Int.emod_add_mul_ediv m 1000000000000000000
  have h4 := two_parts (s := m / 1000000000000000000) hP ⟨h1, h2⟩
  rw [show m / 1000000000000000000 * 1000000000000000000 + m % 1000000000000000000 = m by omega, h] at h4
  omega
theorem take_oct {l : List UInt8} {k : Nat} (h : k ≤ l.length) : octL (numL (l.take k)) k = l.take k := by
  have e := oct_num (l.take k)
  rw [List.length_take, Nat.min_eq_left h] at e
  exact e
theorem drop_oct {l : List UInt8} {k j : Nat} (h : l.length = k + j) : octL (numL (l.drop k)) j = l.drop k := by
  have e := oct_num (l.drop k)
  rw [List.length_drop, h, Nat.add_sub_cancel_left] at e
  exact e
theorem take_join {a b : List UInt8} {k : Nat} (h : a.length = k) : (a ++ b).take k = a ∧ (a ++ b).drop k = b := by
  subst h
  exact ⟨List.take_left' rfl, List.drop_left' rfl⟩
/-! ### NTP -/
def isN (b : Int) : Bool := decide (b = 32 ∨ b = 64 ∨ b = 128)
theorem isN_iff {b : Int} : isN b = true ↔ b = 32 ∨ b = 64 ∨ b = 128 := by unfold isN; exact decide_eq_true_iff
theorem isN_no {b : Int} : isN b = false ↔ ¬ (b = 32 ∨ b = 64 ∨ b = 128) := by unfold isN; exact decide_eq_false_iff_not
def ntK (b : Int) : Nat := (b / 16).toNat
def ntE (b n : Int) : Int := if isN b = true then (if b = 128 ∧ inI (n / 1000000000000000000) = false then 2 else 0) else 1
def ntO (b n : Int) : List UInt8 := octL (n / 1000000000000000000) (ntK b) ++ octL (fcI (n % 1000000000000000000) (ntK b)) (ntK b)
def ntL (b n : Int) : List UInt8 := if ntE b n = 0 then ntO b n else []
theorem nt_arg {b n : Int} (h : isN b = false) : ntE b n = 1 ∧ ntL b n = [] := by
  have e : ntE b n = 1 := if_neg (by rw [h]; decide)
  exact ⟨e, if_neg (by rw [e]; decide)⟩
theorem nt_over {b n : Int} (h : isN b = true) (k : b = 128 ∧ inI (n / 1000000000000000000) = false) : ntE b n = 2 ∧ ntL b n = [] := by
  have e : ntE b n = 2 := by unfold ntE; rw [if_pos h, if_pos k]
  exact ⟨e, if_neg (by rw [e]; decide)⟩
theorem nt_ok {b n : Int} (h : isN b = true) (k : ¬ (b = 128 ∧ inI (n / 1000000000000000000) = false)) : ntE b n = 0 ∧ ntL b n = ntO b n := by
  have e : ntE b n = 0 := by unfold ntE; rw [if_pos h, if_neg k]
  exact ⟨e, if_pos e⟩
theorem nt_zero {b n : Int} (h : ntE b n = 0) : isN b = true ∧ ¬ (b = 128 ∧ inI (n / 1000000000000000000) = false) := by
  cases q : isN b with
  | false => rw [(nt_arg q).1] at h; cases h
  | true =>
    refine ⟨rfl, fun k => ?_⟩
    rw [(nt_over q k).1] at h; cases h
theorem ntO_len (b n : Int) : (ntO b n).length = 2 * ntK b := by unfold ntO; rw [List.length_append, octL_len, octL_len]; omega
/-- Seconds of eight octets, with a sign. -/
def sgnO (s : Int) : Int := if 9223372036854775808 ≤ s then s - 18446744073709551616 else s
def ndF (l : List UInt8) (k : Nat) : Int := numL (l.take k) * 1000000000000000000 + flI (numL (l.drop k)) k
def ndE (b : Int) (l : List UInt8) (p : Int) : Int :=
  if isN b = true then (if l.length = 2 * ntK b then (if lsB (numL (l.drop (ntK b))) (ntK b) = true then (if b = 128 then 0 else abE (ndF l (ntK b)) (oP (ntK b) * 1000000000000000000) p) else 13) else 4) else 1
def ndZ (b : Int) (l : List UInt8) (p : Int) : Int :=
  if ndE b l p = 0 then (if b = 128 then sgnO (numL (l.take 8)) * 1000000000000000000 + flI (numL (l.drop 8)) 8 else pnI (ndF l (ntK b)) (oP (ntK b) * 1000000000000000000) p) else 0
theorem nd_arg {b : Int} {l : List UInt8} {p : Int} (h : isN b = false) : ndE b l p = 1 ∧ ndZ b l p = 0 := by
  have e : ndE b l p = 1 := if_neg (by rw [h]; decide)
  exact ⟨e, if_neg (by rw [e]; decide)⟩
theorem nd_form {b : Int} {l : List UInt8} {p : Int} (h : isN b = true) (k : ¬ l.length = 2 * ntK b) : ndE b l p = 4 ∧ ndZ b l p = 0 := by
  have e : ndE b l p = 4 := by unfold ndE; rw [if_pos h, if_neg k]
  exact ⟨e, if_neg (by rw [e]; decide)⟩
theorem nd_fine {b : Int} {l : List UInt8} {p : Int} (h : isN b = true) (k : l.length = 2 * ntK b) (q : lsB (numL (l.drop (ntK b))) (ntK b) = false) : ndE b l p = 13 ∧ ndZ b l p = 0 := by
  have e : ndE b l p = 13 := by unfold ndE; rw [if_pos h, if_pos k, q]; rfl
  exact ⟨e, if_neg (by rw [e]; decide)⟩
theorem nd_whole {l : List UInt8} {p : Int} (k : l.length = 16) (q : lsB (numL (l.drop 8)) 8 = true) : ndE 128 l p = 0 ∧ ndZ 128 l p = sgnO (numL (l.take 8)) * 1000000000000000000 + flI (numL (l.drop 8)) 8 := by
  have e : ndE 128 l p = 0 := by
    unfold ndE
    rw [if_pos (by decide), if_pos (show l.length = 2 * ntK 128 from k), if_pos (show lsB (numL (l.drop (ntK 128))) (ntK 128) = true from q), if_pos rfl]
  exact ⟨e, by unfold ndZ; rw [if_pos e, if_pos rfl]⟩
theorem nd_era {b : Int} {l : List UInt8} {p : Int} (h : isN b = true) (h8 : b ≠ 128) (k : l.length = 2 * ntK b) (q : lsB (numL (l.drop (ntK b))) (ntK b) = true) : ndE b l p = abE (ndF l (ntK b)) (oP (ntK b) * 1000000000000000000) p ∧ ndZ b l p = abZ (ndF l (ntK b)) (oP (ntK b) * 1000000000000000000) p := by
  have e : ndE b l p = abE (ndF l (ntK b)) (oP (ntK b) * 1000000000000000000) p := by unfold ndE; rw [if_pos h, if_pos k, if_pos q, if_neg h8]
  refine ⟨e, ?_⟩
  unfold ndZ abZ
  rw [e, if_neg h8]
theorem nd_zero {b : Int} {l : List UInt8} {p : Int} (h : ndE b l p = 0) : isN b = true ∧ l.length = 2 * ntK b ∧ lsB (numL (l.drop (ntK b))) (ntK b) = true := by
  cases q : isN b with
  | false => rw [(nd_arg q).1] at h; cases h
  | true =>
    by_cases k : l.length = 2 * ntK b
    · cases r : lsB (numL (l.drop (ntK b))) (ntK b) with
      | false => rw [(nd_fine q k r).1] at h; cases h
      | true => exact ⟨rfl, k, rfl⟩
    · rw [(nd_form q k).1] at h; cases h
theorem ls_spec {f : Int} {k : Nat} (h : lsB f k = true) : flI f k ≠ 1000000000000000000 ∧ fcI (flI f k) k = f := of_decide_eq_true h
theorem ls_in {f : Int} {k : Nat} (h : lsB f k = true) (hf : 0 ≤ f ∧ f < oP k) : 0 ≤ flI f k ∧ flI f k < 1000000000000000000 := by
  have h1 := fl_low (k := k) hf.1
  have h2 := fl_top hf.2
  have h3 := (ls_spec h).1
  omega
theorem sgn_back {s : Int} (h : inI s = true) : sgnO (s % oP 8) = s := by
  have h' := inI_iff.1 h
  have e : oP 8 = 18446744073709551616 := by decide
  unfold sgnO
  rw [e]
  split <;> omega
theorem sgn_in {s : Int} (h : 0 ≤ s ∧ s < oP 8) : inI (sgnO s) = true ∧ sgnO s % oP 8 = s := by
  have e : oP 8 = 18446744073709551616 := by decide
  rw [e] at h ⊢
  rw [inI_iff]
  unfold sgnO
  split <;> omega
theorem ntK_cases {b : Int} (h : isN b = true) : (b = 32 ∧ ntK b = 2) ∨ (b = 64 ∧ ntK b = 4) ∨ (b = 128 ∧ ntK b = 8) := by
  rcases isN_iff.1 h with rfl | rfl | rfl
  · exact .inl ⟨rfl, rfl⟩
  · exact .inr (.inl ⟨rfl, rfl⟩)
  · exact .inr (.inr ⟨rfl, rfl⟩)
/-- What is decided of a form, about its own time. -/
theorem nt_back {b n : Int} (h : ntE b n = 0) : (ndE b (ntO b n) n = 0 ∧ ndZ b (ntO b n) n ≤ n ∧ (n - ndZ b (ntO b n) n) * oP (ntK b) < 1000000000000000000 ∧ (b = 128 → ndZ b (ntO b n) n = n)) ∨ (ndE b (ntO b n) n = 2 ∧ b ≠ 128) := by
  obtain ⟨hN, hI⟩ := nt_zero h
  have h1 := Int.emod_nonneg n (show (1000000000000000000 : Int) ≠ 0 by decide)
  have h2 := Int.emod_lt_of_pos n (show (0 : Int) < 1000000000000000000 by decide)
  have h3 := Int.emod_add_mul_ediv n 1000000000000000000
  obtain ⟨k, hk⟩ : ∃ k, ntK b = k := ⟨_, rfl⟩
  have hlen := ntO_len b n
  obtain ⟨t1, t2⟩ := take_join (a := octL (n / 1000000000000000000) (ntK b)) (b := octL (fcI (n % 1000000000000000000) (ntK b)) (ntK b)) (k := ntK b) (octL_len _ _)
  have e1 : numL ((ntO b n).take (ntK b)) = n / 1000000000000000000 % oP (ntK b) := by unfold ntO; rw [t1, num_oct]
  have e2 : numL ((ntO b n).drop (ntK b)) = fcI (n % 1000000000000000000) (ntK b) := by unfold ntO; rw [t2, num_oct_of ⟨fc_low h1, fc_top h2⟩]
  obtain ⟨c1, c2⟩ := fl_code (n % 1000000000000000000) (ntK b)
  have c3 := fl_low (k := ntK b) (fc_low (k := ntK b) h1)
  have hls : lsB (numL ((ntO b n).drop (ntK b))) (ntK b) = true := by rw [e2]; exact ls_of c2 (by omega)
  have hnr := fc_near (a := n % 1000000000000000000) (k := ntK b)
  by_cases h8 : b = 128
  · subst h8
    have hi : inI (n / 1000000000000000000) = true := by cases q : inI (n / 1000000000000000000) with | true => rfl | false => exact absurd ⟨rfl, q⟩ hI
    have ce := fc_eight (k := 8) (Nat.le_refl 8) c2
    have k8 : ntK 128 = 8 := rfl
    rw [k8] at e1 e2 hls hlen ce
    obtain ⟨d1, d2⟩ := nd_whole (p := n) hlen hls
    rw [e1, e2, sgn_back hi, ce] at d2
    generalize ndZ 128 (ntO 128 n) n = z at d2 ⊢
    have e : z = n := by omega
    subst e
    exact .inl ⟨d1, Int.le_refl _, by rw [Int.sub_self, Int.zero_mul]; decide, fun _ => rfl⟩
  · obtain ⟨d1, d2⟩ := nd_era (p := n) hN h8 hlen hls
    have hF : ndF (ntO b n) (ntK b) = n / 1000000000000000000 % oP (ntK b) * 1000000000000000000 + flI (fcI (n % 1000000000000000000) (ntK b)) (ntK b) := by unfold ndF; rw [e1, e2]
    have hbk := back_near (n := n) (P := oP (ntK b)) (k := ntK b) (Int.le_trans (by decide) (oP_mono (show 1 ≤ ntK b by rcases ntK_cases hN with q | q | q <;> omega))) rfl
    by_cases q : abE (ndF (ntO b n) (ntK b)) (oP (ntK b) * 1000000000000000000) n = 0
    · refine .inl ⟨by rw [d1, q], ?_⟩
      rw [d2, ab_zero q, hF, hbk]
      refine ⟨by omega, ?_, fun e => absurd e h8⟩
      rw [show n - (n / 1000000000000000000 * 1000000000000000000 + flI (fcI (n % 1000000000000000000) (ntK b)) (ntK b)) = n % 1000000000000000000 - flI (fcI (n % 1000000000000000000) (ntK b)) (ntK b) by omega]
      exact hnr
    · exact .inr ⟨by rw [d1, (ab_two q).1], h8⟩
/-- What is encoded of what was decoded. -/
theorem nt_same {b p : Int} {l : List UInt8} (h : ndE b l p = 0) : ntE b (ndZ b l p) = 0 ∧ ntO b (ndZ b l p) = l := by
  obtain ⟨hN, hl, hls⟩ := nd_zero h
  have hd : (l.drop (ntK b)).length = ntK b := by rw [List.length_drop]; omega
  have ht : (l.take (ntK b)).length = ntK b := by rw [List.length_take]; omega
  have i1 := numL_in (l.take (ntK b))
  have i2 := numL_in (l.drop (ntK b))
  rw [ht] at i1
  rw [hd] at i2
  obtain ⟨f1, f2⟩ := ls_in hls i2
  have f3 := (ls_spec hls).2
  have o1 := take_oct (l := l) (k := ntK b) (by omega)
  have o2 := drop_oct (l := l) (k := ntK b) (j := ntK b) (by omega)
  have key : ∀ m : Int, m / 1000000000000000000 % oP (ntK b) = numL (l.take (ntK b)) → m % 1000000000000000000 = flI (numL (l.drop (ntK b))) (ntK b) → ntO b m = l := fun m q1 q2 => by
    unfold ntO
    rw [q2, f3, ← octL_mod, q1, o1, o2, List.take_append_drop]
  by_cases h8 : b = 128
  · subst h8
    obtain ⟨d1, d2⟩ := nd_whole (p := p) hl hls
    obtain ⟨s1, s2⟩ := sgn_in i1
    have e : ndZ 128 l p / 1000000000000000000 = sgnO (numL (l.take 8)) ∧ ndZ 128 l p % 1000000000000000000 = flI (numL (l.drop 8)) 8 := by
      rw [d2]
      have f1' : 0 ≤ flI (numL (l.drop 8)) 8 := f1
      have f2' : flI (numL (l.drop 8)) 8 < 1000000000000000000 := f2
      generalize flI (numL (l.drop 8)) 8 = a at f1' f2' ⊢
      omega
    refine ⟨(nt_ok hN (fun q => ?_)).1, key _ ?_ ?_⟩
    · rw [e.1] at q
      exact absurd q.2 (by rw [show sgnO (numL (l.take 8)) = sgnO (numL (l.take (ntK 128))) from rfl, s1]; decide)
    · rw [e.1]; exact s2
    · exact e.2
  · obtain ⟨d1, d2⟩ := nd_era (p := p) hN h8 hl hls
    have q : abE (ndF l (ntK b)) (oP (ntK b) * 1000000000000000000) p = 0 := by rw [← d1]; exact h
    have hp := oP_pos (ntK b)
    have hF : 0 ≤ ndF l (ntK b) ∧ ndF l (ntK b) < oP (ntK b) * 1000000000000000000 := by unfold ndF; omega
    have hfo := pn_fold (p := p) hF
    rw [d2, ab_zero q]
    obtain ⟨p1, p2⟩ := parts_of hp ⟨f1, f2⟩ hfo
    exact ⟨(nt_ok hN (fun r => h8 r.1)).1, key _ p1 p2⟩

end Go.Proofs.Ytlpenfganhaclaa
