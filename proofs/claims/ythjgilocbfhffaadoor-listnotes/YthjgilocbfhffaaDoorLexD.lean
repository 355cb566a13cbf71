/-
  The reference's Dec, and the walk of the law LexData of layer 10. Of notes of no more than 2^47 bytes.
-/
import Derived.Test.YthjgilocbfhffaaDoorLexB
namespace Go.Proofs.YthjgilocbfhffaaDoor
open Go.RowKit
set_option maxRecDepth 100000

theorem head_app {x r : List UInt8} (h : x ≠ []) : (x ++ r).head? = x.head? := by
  cases x with
  | nil => exact absurd rfl h
  | cons c x => rfl
def dgt (n : Nat) : UInt8 := UInt8.ofNat (48 + n % 10)
/-- A number's digits, of no more than f + 1. -/
def decF : Nat → Nat → List UInt8
  | 0, n => [dgt n]
  | f + 1, n => if n < 10 then [dgt n] else decF f (n / 10) ++ [dgt n]
theorem dig_nat (n : Nat) : (dgt n).toNat = 48 + n % 10 := by
  unfold dgt
  rw [UInt8.toNat_ofNat', Nat.mod_eq_of_lt (by omega)]
theorem dig_isD (n : Nat) : isD 10 (dgt n) = true := isD_ten.2 (by rw [dig_nat]; omega)
theorem dig_N (n : Nat) : digN (dgt n) = n % 10 := by rw [digN_a (by rw [dig_nat]; omega) (by rw [dig_nat]; omega), dig_nat]; omega
theorem dec_len : ∀ f n, (decF f n).length ≤ f + 1
  | 0, _ => Nat.le_refl _
  | f + 1, n => by
    rw [decF]
    split
    · simp
    · have := dec_len f (n / 10); simp; omega
theorem dec_all : ∀ f n, (decF f n).all (isD 10) = true
  | 0, n => by simp [decF, dig_isD]
  | f + 1, n => by
    rw [decF]
    split
    · simp [dig_isD]
    · rw [List.all_append, dec_all f (n / 10)]; simp [dig_isD]
theorem dec_ne : ∀ f n, decF f n ≠ []
  | 0, n => by simp [decF]
  | f + 1, n => by
    rw [decF]
    split <;> simp
theorem dec_cnt : ∀ f n, n < 10 ^ (f + 1) → cnt 10 (decF f n) 0 = n
  | 0, n, h => by show 10 * 0 + digN (dgt n) = n; rw [dig_N]; omega
  | f + 1, n, h => by
    rw [decF]
    split
    · show 10 * 0 + digN (dgt n) = n; rw [dig_N]; omega
    · rw [cnt_snoc, dec_cnt f (n / 10) (by rw [Nat.pow_succ] at h; omega), dig_N]; omega
theorem dec_head : ∀ f n, n < 10 ^ (f + 1) → (decF f n).head? = some 48 → n = 0
  | 0, n, h, hh => by
    simp only [decF, List.head?_cons, Option.some.injEq] at hh
    have := congrArg UInt8.toNat hh
    rw [dig_nat] at this
    have e : (48 : UInt8).toNat = 48 := rfl
    omega
  | f + 1, n, h, hh => by
    rw [decF] at hh
    split at hh
    · simp only [List.head?_cons, Option.some.injEq] at hh
      have := congrArg UInt8.toNat hh
      rw [dig_nat] at this
      have e : (48 : UInt8).toNat = 48 := rfl
      omega
    · rw [head_app (dec_ne f (n / 10))] at hh
      have := dec_head f (n / 10) (by rw [Nat.pow_succ] at h; omega) hh
      omega
theorem dec_one : ∀ f, decF f 0 = [48]
  | 0 => rfl
  | f + 1 => by rw [decF, if_pos (by decide)]; rfl
theorem one_byte (q : Nat) : bytesV [dgt q] = [.int .u8 (48 + (q : Int) % 10)] := by
  simp only [bytesV, List.map_cons, List.map_nil, dig_nat]
  rw [show ((48 + q % 10 : Nat) : Int) = 48 + (q : Int) % 10 by omega]
theorem refdec_any : ∀ (f n : Nat) (w : World), f ≤ 17 → n < 10 ^ (f + 1) →
    Calls Tryd.prog 30 #[.int .i64 (n : Int)] w fun e w' => ∃ r, e = .returned r ∧ r = .string ⟨⟨decF f n⟩⟩ ∧ Below w.heap.size w w' := by
  intro f
  induction f with
  | zero =>
    intro n w hf hn
    have hn : n < 10 := hn
    have e10 : (n : Int) % 10 = n := by omega
    refine calls_Wp (args := [_]) (n := 20) Tryd.func30 rfl rfl (by simp) ?_
    refine Wp.seq ?_
    refine Wp.region [0] (by kernel_rfl) (by kernel_rfl) ?_
    refine s_assign rfl rfl rfl rfl ?_
    refine vOrd_nil ?_
    refine Wp.seq ?_
    refine Wp.seq ?_
    refine Wp.region [0, 1] (by kernel_rfl) (by kernel_rfl) ?_
    refine s_move rfl rfl rfl rfl ?_
    refine t_lss rfl rfl rfl rfl rfl (by omega) ?_
    refine vOrd_nil ?_
    refine Wp.condT rfl rfl ?_
    refine Wp.seq ?_
    refine Wp.region [0, 1, 2, 3, 4, 5] (by kernel_rfl) (by kernel_rfl) ?_
    refine s_move rfl rfl rfl rfl ?_
    refine a_add (-9223372036854775808) 9223372036854775807 (by decide) rfl rfl rfl rfl rfl (by omega) (by omega) ?_
    refine a_conv (0) 255 (by decide) rfl rfl rfl rfl rfl rfl (by omega) (by omega) ?_
    refine s_bs (e := 5) (cs := [.int .u8 (48 + (n : Int))]) rfl rfl rfl (fun _ => by kernel_rfl) ?_
    intro cb wb hcb lb hrow
    have hrow1 : RowIs wb cb 5 (bytesV [dgt n]) := by rw [one_byte, e10]; exact hrow
    refine x_str (el := 5) (base := 0) (n := 1) (l := [dgt n]) rfl rfl rfl rfl rfl rfl rfl (own_of_row (xs := bytesV [dgt n]) hrow1 (Nat.zero_le _) rfl (by decide)) ?_
    refine s_assign rfl rfl rfl rfl ?_
    refine vOrd_nil ?_
    refine Wp.ret ⟨.inr rfl, fun lW => ⟨_, res_tmp (P := Tryd.prog) rfl rfl, _, rfl, ?_, lW⟩⟩
    clear lW
    rfl
  | succ f ih =>
    intro n w hf hn
    have hlen := dec_len f (n / 10)
    have hq : n / 10 < 10 ^ (f + 1) := by rw [Nat.pow_succ] at hn; omega
    have hbig : n < 1000000000000000000 := Nat.lt_of_lt_of_le hn (Nat.le_trans (Nat.pow_le_pow_right (by decide) (show f + 1 + 1 ≤ 18 by omega)) (by decide))
    refine calls_Wp (args := [_]) (n := 20) Tryd.func30 rfl rfl (by simp) ?_
    refine Wp.seq ?_
    refine Wp.region [0] (by kernel_rfl) (by kernel_rfl) ?_
    refine s_assign rfl rfl rfl rfl ?_
    refine vOrd_nil ?_
    refine Wp.seq ?_
    refine Wp.seq ?_
    refine Wp.region [0, 1] (by kernel_rfl) (by kernel_rfl) ?_
    refine s_move rfl rfl rfl rfl ?_
    refine p_lss rfl rfl rfl rfl rfl (fun h4 => ?_) (fun h4 => ?_)
    · have e10 : (n : Int) % 10 = n := by omega
      refine vOrd_nil ?_
      refine Wp.condT rfl rfl ?_
      refine Wp.seq ?_
      refine Wp.region [0, 1, 2, 3, 4, 5] (by kernel_rfl) (by kernel_rfl) ?_
      refine s_move rfl rfl rfl rfl ?_
      refine a_add (-9223372036854775808) 9223372036854775807 (by decide) rfl rfl rfl rfl rfl (by omega) (by omega) ?_
      refine a_conv (0) 255 (by decide) rfl rfl rfl rfl rfl rfl (by omega) (by omega) ?_
      refine s_bs (e := 5) (cs := [.int .u8 (48 + (n : Int))]) rfl rfl rfl (fun _ => by kernel_rfl) ?_
      intro cb wb hcb lb hrow
      have hrow1 : RowIs wb cb 5 (bytesV [dgt n]) := by rw [one_byte, e10]; exact hrow
      refine x_str (el := 5) (base := 0) (n := 1) (l := [dgt n]) rfl rfl rfl rfl rfl rfl rfl (own_of_row (xs := bytesV [dgt n]) hrow1 (Nat.zero_le _) rfl (by decide)) ?_
      refine s_assign rfl rfl rfl rfl ?_
      refine vOrd_nil ?_
      refine Wp.ret ⟨.inr rfl, fun lW => ⟨_, res_tmp (P := Tryd.prog) rfl rfl, _, rfl, ?_, lW⟩⟩
      clear lW
      rw [show decF (f + 1) n = [dgt n] by rw [decF, if_pos (by omega)]]
    · refine vOrd_nil ?_
      refine Wp.condF rfl rfl ?_
      refine Wp.skip ?_
      refine Wp.seq ?_
      refine (Wp.drawn2 (by kernel_rfl) (by kernel_rfl) [0, 1, 3, 4, 5, 6] [504, 505, 7, 15, 31, 63] [2, 7, 8, 9, 10] [0, 0, 0, 0] [7, 8, 2, 9, 10] [255, 0, 0, 0] (by kernel_rfl) (by kernel_rfl) (fun | 2 => fun v _ => v = .string ⟨⟨decF f (n / 10)⟩⟩ | 7 => fun v w => ∃ c, v = .slice (some ⟨c, 0, none⟩) 1 1 ∧ RowIs w c 5 [.int .u8 (48 + (n : Int) % 10)] | _ => fun _ _ => True) (fun _ _ => ?_))
      refine s_move rfl rfl rfl rfl ?_
      refine a_quo rfl rfl rfl rfl rfl (by omega) (by omega) (by show _ ≤ (9223372036854775807 : Int); omega) ?_
      refine s_move rfl rfl rfl rfl ?_
      refine a_rem rfl rfl rfl rfl rfl (by omega) (by omega) ?_
      refine a_add (-9223372036854775808) 9223372036854775807 (by decide) rfl rfl rfl rfl rfl (by omega) (by omega) ?_
      refine a_conv (0) 255 (by decide) rfl rfl rfl rfl rfl rfl (by omega) (by omega) ?_
      refine vOrd_nil ⟨?_, ?_⟩
      · refine s_callD rfl rfl rfl (by kernel_rfl) rfl (fun wc lc => ih (n / 10) wc (by omega) hq) ?_
        rintro v w5 u5 rfl lw5 mw5
        refine s_bsD (e := 5) (cs := [.int .u8 (48 + (n : Int) % 10)]) rfl rfl rfl (fun _ => by kernel_rfl) (fun c w' _ hr => ⟨c, rfl, hr⟩) ?_
        rintro v wq uq ⟨cb, rfl, hrow⟩ lwq mwq
        have hrow1 : RowIs uq cb 5 (bytesV [dgt n]) := by rw [one_byte]; exact hrow.later mwq
        refine x_str (el := 5) (base := 0) (n := 1) (l := [dgt n]) rfl rfl rfl rfl rfl rfl rfl (own_of_row (xs := bytesV [dgt n]) hrow1 (Nat.zero_le _) rfl (by decide)) ?_
        refine b_cat rfl rfl rfl rfl rfl (by simp; omega) ?_
        refine s_assign rfl rfl rfl rfl ?_
        refine vOrd_nil ?_
        refine Wp.ret ⟨.inr rfl, fun lW => ⟨_, res_tmp (P := Tryd.prog) rfl rfl, _, rfl, ?_, lW⟩⟩
        clear lW
        rw [show decF (f + 1) n = decF f (n / 10) ++ [dgt n] by rw [decF, if_neg (by omega)]]
      · refine s_bsD (e := 5) (cs := [.int .u8 (48 + (n : Int) % 10)]) rfl rfl rfl (fun _ => by kernel_rfl) (fun c w' _ hr => ⟨c, rfl, hr⟩) ?_
        rintro v wq uq ⟨cb, rfl, hrow⟩ lwq mwq
        have hrow1 : RowIs uq cb 5 (bytesV [dgt n]) := by rw [one_byte]; exact hrow.later mwq
        refine x_str (el := 5) (base := 0) (n := 1) (l := [dgt n]) rfl rfl rfl rfl rfl rfl rfl (own_of_row (xs := bytesV [dgt n]) hrow1 (Nat.zero_le _) rfl (by decide)) ?_
        refine s_callD rfl rfl rfl (by kernel_rfl) rfl (fun wc lc => ih (n / 10) wc (by omega) hq) ?_
        rintro v w14 u14 rfl lw14 mw14
        refine b_cat rfl rfl rfl rfl rfl (by simp; omega) ?_
        refine s_assign rfl rfl rfl rfl ?_
        refine vOrd_nil ?_
        refine Wp.ret ⟨.inr rfl, fun lW => ⟨_, res_tmp (P := Tryd.prog) rfl rfl, _, rfl, ?_, lW⟩⟩
        clear lW
        rw [show decF (f + 1) n = decF f (n / 10) ++ [dgt n] by rw [decF, if_neg (by omega)]]
theorem tw_app {p : UInt8 → Bool} {x r : List UInt8} (hx : x.all p = true) (hr : ∀ c, r.head? = some c → p c = false) : (x ++ r).takeWhile p = x ∧ (x ++ r).dropWhile p = r := by
  have := tw_at (p := p) (l := x ++ r) (i := x.length) (by simpa using hx) (fun c hc => by
    rw [List.getElem?_append_right (Nat.le_refl _), Nat.sub_self, ← List.head?_eq_getElem?] at hc; exact hr c hc)
  simpa using this
/-- The text of a number. -/
structure NumText (x : List UInt8) (n : Int) : Prop where
  all : x.all (isD 10) = true
  ne : x ≠ []
  len : x.length ≤ 18
  head : ¬ (1 < x.length ∧ x.head? = some 48)
  val : ((cnt 10 x 0 : Nat) : Int) = n
theorem num_dec {n : Nat} (h : n < 4294967296) : NumText (decF 9 n) n := by
  have h10 : n < 10 ^ (9 + 1) := by omega
  refine ⟨dec_all _ _, dec_ne _ _, Nat.le_trans (dec_len 9 n) (by decide), fun ⟨h1, h2⟩ => ?_, by rw [dec_cnt 9 n h10]⟩
  have := dec_head 9 n h10 h2
  subst this
  rw [dec_one] at h1
  simp at h1
theorem NumText.at {x r : List UInt8} {n : Int} (h : NumText x n) (hr : ∀ c, r.head? = some c → isD 10 c = false) : numBad (x ++ r) = false ∧ numVal (x ++ r) = n ∧ dR 10 (x ++ r) = r := by
  obtain ⟨t1, t2⟩ := tw_app h.all hr
  have hb : dgBad 10 18 (x ++ r) = false := by
    unfold dgBad dT
    rw [t1, decide_eq_false h.ne, decide_eq_false (by have := h.len; omega)]; rfl
  have hd : dg 10 18 (x ++ r) = x := by unfold dg dT; rw [if_neg (by rw [hb]; decide), t1]
  refine ⟨?_, by unfold numVal; rw [hd, h.val], t2⟩
  unfold numBad
  rw [hb, hd, Bool.false_or]
  cases hq : decide (1 < x.length) with
  | false => rfl
  | true => rw [Bool.true_and]; exact decide_eq_false (fun e => h.head ⟨of_decide_eq_true hq, e⟩)
theorem blanks_at {k : Nat} {c : UInt8} (hc : isBl c = true) {r : List UInt8} (hr : ∀ d, r.head? = some d → isBl d = false) : aB (List.replicate k c ++ r) = r ∧ (0 < k → nB (List.replicate k c ++ r) = false) := by
  obtain ⟨t1, t2⟩ := tw_app (p := isBl) (x := List.replicate k c) (r := r) (by simp [hc]) hr
  exact ⟨t2, fun h => decide_eq_false (fun e => by rw [t1] at e; have := congrArg List.length e; simp at this; omega)⟩
theorem dig_bl {c : UInt8} (h : isD 10 c = true) : isBl c = false := by
  have := isD_ten.1 h
  simp [isBl]; omega
theorem num_head {x r : List UInt8} {n : Int} (h : NumText x n) {d : UInt8} (hd : (x ++ r).head? = some d) : isD 10 d = true := by
  rw [head_app h.ne] at hd
  exact List.all_eq_true.1 h.all d (List.mem_of_mem_head? hd)
/-- Two numbers with blanks between, and what may stand behind. -/
theorem scan_nums {x y r : List UInt8} {n m : Int} {k : Nat} (hx : NumText x n) (hy : NumText y m) (hk : 0 < k) (hr : ∀ c, r.head? = some c → isD 10 c = false) (hok : aB r = [] ∨ (nB r = false ∧ (aB r).take 1 = [35])) :
    scanL (x ++ (List.replicate k 32 ++ (y ++ r))) = some (lineC 5 n m z5) := by
  have hsp : ∀ c, (List.replicate k (32 : UInt8) ++ (y ++ r)).head? = some c → isD 10 c = false := fun c hc => by
    rw [head_app (fun e => by have := congrArg List.length e; simp at this; omega), List.head?_replicate, if_neg (by omega)] at hc
    cases hc
    decide
  obtain ⟨a1, a2, a3⟩ := hx.at hsp
  obtain ⟨b1, b2⟩ := blanks_at (k := k) (c := 32) rfl (r := y ++ r) (fun d hd => dig_bl (num_head hy hd))
  obtain ⟨c1, c2, c3⟩ := hy.at hr
  obtain ⟨X, hX⟩ : ∃ X, X = x ++ (List.replicate k 32 ++ (y ++ r)) := ⟨_, rfl⟩
  have hh : ∀ d, X.head? = some d → isD 10 d = true := fun d hd => num_head hx (hX ▸ hd)
  have hne : X ≠ [] := by rw [hX]; simp [hx.ne]
  have h35 : ∀ (b : List UInt8) (i : Nat), 0 < i → X.take i = 35 :: b → False := fun b i hi e => by
    have h3 := congrArg List.head? e
    rw [List.head?_take, if_neg (by omega)] at h3
    have := hh 35 h3
    exact absurd this (by decide)
  have h0 : ¬ aB X = [] := by
    cases hc : X with
    | nil => exact absurd hc hne
    | cons d t =>
      have := dig_bl (hh d (by rw [hc]; rfl))
      unfold aB
      rw [List.dropWhile_cons_of_neg (by rw [this]; decide)]
      simp
  have hs : daOk X = true := by
    unfold daOk
    rw [hX, a1, a3, b1, b2 hk, c1, c3]
    rcases hok with e | ⟨e1, e2⟩
    · rw [e]; rfl
    · rw [e1, e2]; simp
  rw [← hX]
  unfold scanL
  rw [if_neg h0, if_neg (fun e => h35 _ 2 (by decide) e), if_neg (fun e => h35 _ 2 (by decide) e), if_neg (fun e => h35 _ 2 (by decide) e), if_neg (fun e => h35 _ 1 (by decide) e)]
  unfold dataL
  rw [if_pos hs, hX, a2, a3, b1, c2]
theorem tabs_end (k : Nat) : (∀ c, (List.replicate k (9 : UInt8)).head? = some c → isD 10 c = false) ∧ aB (List.replicate k 9) = [] := by
  constructor
  · intro c hc
    rw [List.head?_replicate] at hc
    split at hc
    · cases hc
    · cases hc; decide
  · have := (blanks_at (k := k) (c := 9) rfl (r := []) (fun d hd => by cases hd)).1
    rwa [List.append_nil] at this
theorem tabs_note (k : Nat) (t : List UInt8) : (∀ c, (List.replicate k (9 : UInt8) ++ ([32, 35] ++ t)).head? = some c → isD 10 c = false) ∧ nB (List.replicate k 9 ++ ([32, 35] ++ t)) = false ∧ (aB (List.replicate k 9 ++ ([32, 35] ++ t))).take 1 = [35] := by
  have h1 : (List.replicate k (9 : UInt8) ++ ([32, 35] ++ t)) = (List.replicate k 9 ++ [32]) ++ (35 :: t) := by simp
  obtain ⟨t1, t2⟩ := tw_app (p := isBl) (x := List.replicate k 9 ++ [32]) (r := 35 :: t) (by simp [isBl]) (fun c hc => by cases hc; rfl)
  refine ⟨fun c hc => ?_, ?_, ?_⟩
  · cases k with
    | zero => cases hc; decide
    | succ k => cases hc; decide
  · rw [h1]
    exact decide_eq_false (fun e => by rw [t1] at e; simp at e)
  · rw [h1]
    unfold aB
    rw [t2]; rfl
end Go.Proofs.YthjgilocbfhffaaDoor
