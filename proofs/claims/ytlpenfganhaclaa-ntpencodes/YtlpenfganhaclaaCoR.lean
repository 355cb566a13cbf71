/-
  The reference's Seconds, Cut, fold, join, About (layers 20 to 24); slices of bytes. Conditions: as each says.
-/
import Derived.Test.YtlpenfganhaclaaCoA
import Derived.Test.YtlpenfganhaclaaShaL
namespace Go.Proofs.Ytlpenfganhaclaa
open Go.RowKit
set_option maxRecDepth 100000

section
variable {P : Program} {B : Nat} {lax : Bool} {ops : Array Oper} {Rs : Nat → Value → World → Prop} {K : St → World → Prop} {i : Nat} {rest : List Nat} {st : St} {w : World}
variable {d : Nat} {ty : TypeId} {pos : String} {aft : Array Edge} {g : Option (Nat × Bool)}
theorem x_toB {t e : TypeId} {x y : Operand} {u : Value} {l : List UInt8} {k : IntKind} {j : Int} (ho : ops[i]? = some ⟨some d, .slice t x none (some y) none, ty, pos, aft, g⟩) (hg : gok ops st g = true) (hk : known st ⟨some d, .slice t x none (some y) none, ty, pos, aft, g⟩ = true) (hx : st.ev x = .v u) (hb : BytesAt w u l) (hy : st.ev y = .v (.int k j)) (hu : P.underlying t = some (.slice e)) (hs : (P.info? e).map (·.size) = some 1) (h0 : 0 ≤ j) (h1 : j ≤ l.length) (hl : 0 < l.length)
    (h : ∀ v, BytesAt w v (l.take j.toNat) → vOrd P B lax ops Rs K rest (st.put (some d) (.v v)) w) : vOrd P B lax ops Rs K (i :: rest) st w := by
  rcases hb with ⟨b, off, c, rfl, hc, hcell⟩ | ⟨rfl, rfl⟩
  · refine x_to (sz := 1) ho hg hk hx hy hu hs h0 (by omega) (h _ (.inl ⟨b, off, c, by rw [List.length_take]; congr 1; omega, by rw [List.length_take]; omega, fun m z hz => ?_⟩))
    have hm := (List.getElem?_eq_some_iff.1 hz).1
    rw [List.length_take] at hm
    rw [List.getElem?_take_of_lt (by omega)] at hz
    exact hcell m z hz
  · cases hl
theorem x_partB {t e : TypeId} {x y z : Operand} {u : Value} {l : List UInt8} {k k' : IntKind} {j j' : Int} (ho : ops[i]? = some ⟨some d, .slice t x (some y) (some z) none, ty, pos, aft, g⟩) (hg : gok ops st g = true) (hk : known st ⟨some d, .slice t x (some y) (some z) none, ty, pos, aft, g⟩ = true) (hx : st.ev x = .v u) (hb : BytesAt w u l) (hy : st.ev y = .v (.int k j)) (hz : st.ev z = .v (.int k' j')) (hu : P.underlying t = some (.slice e)) (hs : (P.info? e).map (·.size) = some 1) (h0 : 0 ≤ j) (h1 : j ≤ j') (h2 : j' ≤ l.length) (hl : 0 < l.length)
    (h : ∀ v, BytesAt w v ((l.take j'.toNat).drop j.toNat) → vOrd P B lax ops Rs K rest (st.put (some d) (.v v)) w) : vOrd P B lax ops Rs K (i :: rest) st w := by
  rcases hb with ⟨b, off, c, rfl, hc, hcell⟩ | ⟨rfl, rfl⟩
  · refine x_part (sz := 1) ho hg hk hx hy hz hu hs h0 h1 (by omega) (fun off' ho' => h _ (.inl ⟨b, off', c - j.toNat, by rw [List.length_drop, List.length_take]; congr 1; omega, by rw [List.length_drop, List.length_take]; omega, fun m z hz => ?_⟩))
    have hm := (List.getElem?_eq_some_iff.1 hz).1
    rw [List.length_drop, List.length_take] at hm
    rw [List.getElem?_drop, List.getElem?_take_of_lt (by omega)] at hz
    rw [ho' (by omega), Nat.mul_one, Nat.add_assoc]
    exact hcell _ z hz
  · cases hl
end
theorem fit_in {z : Int} (h0 : -170141183460469231731687303715884105728 ≤ z) (h1 : z < 170141183460469231731687303715884105728) : fitV z = z := by
  have e : inW z = true := by unfold inW; simpa using ⟨h0, h1⟩
  unfold fitV; rw [e]; rfl
theorem own_bytes {w : World} {base : Nat} {e : TypeId} {v : Value} {n : Nat} {l : List UInt8} (h : w.ownsRow base e 1 v n (bytesV l)) : BytesAt w v l := by
  have hn := h.1
  rw [bytesV_len] at hn
  rcases h.2 with ⟨h1, h2⟩ | ⟨g, cap, cur, h1, h2, h3, h4, h5, h6, h7⟩
  · subst h2; exact .inr ⟨h1, List.eq_nil_of_length_eq_zero (by omega)⟩
  · obtain rfl : n = l.length := by omega
    rw [h1]
    exact row_bytes ⟨e, by simpa using h3⟩ h4 (by simpa using h7)
theorem BytesAt.beg {w : World} {v : Value} {l : List UInt8} (_h : BytesAt w v l) : Later w w ∧ True := ⟨Later.refl w, trivial⟩
theorem rocb_any {n : Int} {u : Value} {m : Nat} {w : World} (hu : IsBig m n u w) (hm : m ≤ 1000) (k : Nat) {z : Int} (hz : (k : Int) = z) (hk : k ≤ 16) : Calls Try.prog 30 #[u, .int .i64 z] w fun e w' => ∃ r, e = .returned r ∧ BytesAt w' r (octL n k) ∧ Below w.heap.size w w' := by
  refine (rocts_any hu hm k hz hk).mono ?_
  rintro e w' ⟨r, rfl, ⟨c, rfl, -, hv⟩, hb⟩
  have h := row_octs hv
  rw [octL_len] at h
  exact ⟨_, rfl, h, hb⟩
theorem low_row {w : World} {c : Nat} {x : Int} (hx : 0 ≤ x ∧ x < 256) (h : RowIs w c 5 [.int .u8 x]) : BytesAt w (.slice (some ⟨c, 0, none⟩) 1 1) [lowB x] := by
  refine row_octs (l := [lowB x]) (show Var w c (bytesV [lowB x]) from ?_)
  have e : bytesV [lowB x] = [.int .u8 x] := by
    show [Value.int .u8 ((lowB x).toNat : Int)] = _
    rw [lowB_nat, Int.emod_eq_of_lt hx.1 hx.2]
  rw [e]; exact h.var
theorem low_row2 {w : World} {c : Nat} {x y : Int} (hx : 0 ≤ x ∧ x < 256) (hy : 0 ≤ y ∧ y < 256) (h : RowIs w c 5 [.int .u8 x, .int .u8 y]) : BytesAt w (.slice (some ⟨c, 0, none⟩) 2 2) [lowB x, lowB y] := by
  refine row_octs (l := [lowB x, lowB y]) (show Var w c (bytesV [lowB x, lowB y]) from ?_)
  have e : bytesV [lowB x, lowB y] = [.int .u8 x, .int .u8 y] := by
    show [Value.int .u8 ((lowB x).toNat : Int), Value.int .u8 ((lowB y).toNat : Int)] = _
    rw [lowB_nat, lowB_nat, Int.emod_eq_of_lt hx.1 hx.2, Int.emod_eq_of_lt hy.1 hy.2]
  rw [e]; exact h.var
theorem Later.pastO {a w w' : World} {o : Option Nat} (l : Later a w) (g : w.grownBy w' o) (h : ∀ b, o = some b → a.heap.size ≤ b) : Later a w' :=
  ⟨g.os.trans l.os, g.tape.trans l.tape, g.output.trans l.output, Nat.le_trans l.size g.size, fun k hk => (g.block k (Nat.lt_of_lt_of_le hk l.size) (fun q => by have := h k q.symm; omega)).trans (l.block k hk)⟩

theorem rsecs_any {n : Int} {u : Value} {m : Nat} {w : World} (hu : IsBig m n u w) (hm : m ≤ 1000) : Calls Try.prog 42 #[u] w fun e w' => ∃ r, e = .returned r ∧ IsBig (m + 5) (n * 1000000000000000000) r w' ∧ Below w.heap.size w w' := by
  obtain ⟨hua, hul, huc, rfl, -⟩ := id hu
  refine calls_Wp (args := [_]) (n := 6) Try.func42 rfl rfl (by simp) ?_
  refine Wp.seq ?_
  refine wR [0, 1] ?_
  refine sE (fun bk1 w1 kb1 lw1 => ?_)
  refine sO (fun bk2 w2 kb2 lw2 => ?_)
  refine vOrd_nil ?_
  refine Wp.seq ?_
  refine wD [0, 1, 2, 3] [2, 0, 0, 0] (fun | 1 => IsBig 5 1000000000000000000 | 2 => IsBig (m + 5) (n * 1000000000000000000) | _ => fun _ _ => True) (fun _ _ => ?_)
  refine sL ?_
  refine s_callD rfl rfl rfl (by kernel_rfl) rfl (fun wc lc => c_rint 1000000000000000000 (by decide) (by decide) wc) ?_
  rintro v w3 u3 h1 lw3 mw3
  refine s_callD rfl rfl rfl (by kernel_rfl) rfl (fun wc lc => c_mul (hu.kp) (h1.kp) (by omega) (by decide)) ?_
  rintro v w4 u4 h2 lw4 mw4
  obtain ⟨h2a, h2l, h2c, rfl, -⟩ := id h2
  refine sS (fun w5 sw5 vw5 => ?_)
  refine vOrd_nil ?_
  refine Wp.ret ⟨.inr rfl, fun lW => ⟨_, res_cell rfl rfl rfl rfl, _, rfl, ?_, lW⟩⟩
  clear lW
  exact h2.kp
theorem rcut_any {n : Int} {u : Value} {m : Nat} {w : World} (hu : IsBig m n u w) (hm : m ≤ 1000) : Calls Try.prog 27 #[u] w fun e w' => ∃ r, e = .returned r ∧ (∃ s, r = .tuple #[s, .int .i64 (n % 1000000000000000000)] ∧ IsBig (max m 4 + 1) (n / 1000000000000000000) s w') ∧ Below w.heap.size w w' := by
  obtain ⟨hua, hul, huc, rfl, -⟩ := id hu
  have q0 := Int.emod_nonneg n (show (1000000000000000000 : Int) ≠ 0 by decide)
  have q1 := Int.emod_lt_of_pos n (show (0 : Int) < 1000000000000000000 by decide)
  refine calls_Wp (args := [_]) (n := 21) Try.func27 rfl rfl (by simp) ?_
  refine Wp.seq ?_
  refine wR [0, 1, 2] ?_
  refine sE (fun bk1 w1 kb1 lw1 => ?_)
  refine sO (fun bk2 w2 kb2 lw2 => ?_)
  refine sZ 1 ?_
  refine Wp.seq ?_
  refine wD [0, 6, 7, 1, 2, 3, 4, 5, 8, 9] [194, 191, 127, 0, 0, 0, 239, 479, 0, 0] (fun | 1 => IsBig 5 1000000000000000000 | 2 => fun v w => ∃ x y, v = .tuple #[x, y] ∧ IsBig (max m 4 + 1) (n / 1000000000000000000) x w ∧ IsBig 6 (n % 1000000000000000000) y w | _ => fun _ _ => True) (fun _ _ => ?_)
  refine sL ?_
  refine sO (fun bk3 w3 kb3 lw3 => ?_)
  refine sO (fun bk4 w4 kb4 lw4 => ?_)
  refine s_callD rfl rfl rfl (by kernel_rfl) rfl (fun wc lc => c_rint 1000000000000000000 (by decide) (by decide) wc) ?_
  rintro v w5 u5 h1 lw5 mw5
  refine s_callD rfl rfl rfl (by kernel_rfl) rfl (fun wc lc => c_div (hu.kp) (h1.kp) (by decide) (by omega) (by decide)) ?_
  rintro v w6 u6 ⟨xv, yv, rfl, hx, hy⟩ lw6 mw6
  obtain ⟨hxa, hxl, hxc, rfl, -⟩ := id hx
  obtain ⟨hya, hyl, hyc, rfl, -⟩ := id hy
  refine sQ 3 ?_
  refine sS (fun w7 sw7 vw7 => ?_)
  refine sS (fun w8 sw8 vw8 => ?_)
  refine vOrd_nil ?_
  refine qQ 1 ?_
  refine s_callT rfl rfl rfl (by kernel_rfl) rfl (rsmall_any (hy.kp) (by decide)) ?_
  rintro v w9 rfl lw9
  rw [(int_yes (z := n % 1000000000000000000) (inI_iff.2 (by omega))).1]
  refine sZ 5 ?_
  refine qQ 2 ?_
  refine sS (fun w10 sw10 vw10 => ?_)
  refine sZ 1 ?_
  refine Wp.ret ⟨.inr rfl, fun lW => ⟨_, ⟨_, _, res_cell rfl rfl rfl rfl, res_tmp (P := Try.prog) rfl rfl, rfl⟩, _, rfl, ?_, lW⟩⟩
  clear lW
  exact ⟨_, rfl, hx.kp⟩
theorem rfold_any {n : Int} {u : Value} {m : Nat} {w : World} (hu : IsBig m n u w) (hm : m ≤ 1000) (k : Nat) {z : Int} (hz : (k : Int) = z) (hk : k ≤ 16) : Calls Try.prog 31 #[u, .int .i64 z] w fun e w' => ∃ r, e = .returned r ∧ IsBig 10 (n % oP k) r w' ∧ Below w.heap.size w w' := by
  obtain ⟨hua, hul, huc, rfl, -⟩ := id hu
  refine calls_Wp (args := [_, _]) (n := 15) Try.func31 rfl rfl (by simp) ?_
  refine Wp.seq ?_
  refine wR [0, 1] ?_
  refine sE (fun bk1 w1 kb1 lw1 => ?_)
  refine sO (fun bk2 w2 kb2 lw2 => ?_)
  refine vOrd_nil ?_
  refine Wp.seq ?_
  refine wD [0, 1, 7, 8, 2, 3, 4, 5, 6, 9, 10] [390, 385, 383, 255, 0, 0, 0, 479, 959, 0, 0] (fun | 2 => IsBig 9 (oP k) | 3 => fun v w => ∃ x y, v = .tuple #[x, y] ∧ IsBig (max m 4 + 1) (n / oP k) x w ∧ IsBig 10 (n % oP k) y w | _ => fun _ _ => True) (fun _ _ => ?_)
  refine sQ 2 ?_
  refine sO (fun bk3 w3 kb3 lw3 => ?_)
  refine sO (fun bk4 w4 kb4 lw4 => ?_)
  refine sD (fun wc lc => rpow_any k hz hk) ?_
  rintro v w5 u5 h1 lw5 mw5
  refine s_callD rfl rfl rfl (by kernel_rfl) rfl (fun wc lc => c_div (hu.kp) (h1.kp) (oP_pos k) (by omega) (by decide)) ?_
  rintro v w6 u6 ⟨xv, yv, rfl, hx, hy⟩ lw6 mw6
  obtain ⟨hxa, hxl, hxc, rfl, -⟩ := id hx
  obtain ⟨hya, hyl, hyc, rfl, -⟩ := id hy
  refine sQ 3 ?_
  refine sS (fun w7 sw7 vw7 => ?_)
  refine sS (fun w8 sw8 vw8 => ?_)
  refine vOrd_nil ?_
  refine qQ 1 ?_
  refine sS (fun w9 sw9 vw9 => ?_)
  refine vOrd_nil ?_
  refine Wp.ret ⟨.inr rfl, fun lW => ⟨_, res_cell rfl rfl rfl rfl, _, rfl, ?_, lW⟩⟩
  clear lW
  exact hy.kp
theorem rjn_any {l m : List UInt8} {u v : Value} {w : World} (hu : BytesAt w u l) (hv : BytesAt w v m) (hl : l.length ≤ 1000000) (hm : m.length ≤ 1000000) : Calls Try.prog 29 #[u, v] w fun e w' => ∃ r, e = .returned r ∧ BytesAt w' r (l ++ m) ∧ Below w.heap.size w w' := by
  refine calls_Wp (args := [_, _]) (n := 10) Try.func29 rfl rfl (by simp) ?_
  refine qZ ?_
  refine Wp.seq ?_
  refine wR [0, 1, 2, 3, 4, 5] ?_
  refine s_bs (e := 5) (cs := []) rfl rfl rfl (fun _ => by kernel_rfl) ?_
  intro c0 w2 hc0 l2 hrow0
  have hown0 : w2.ownsRow w.heap.size 5 1 (.slice (some ⟨c0, 0, none⟩) 0 0) 0 [] := own_of_row hrow0 (by omega) rfl (by decide)
  have z2 := l2.size
  refine sM ?_
  refine x_appendB (base := w.heap.size) (n := 0) (xs := []) (l := l) rfl rfl rfl rfl rfl rfl rfl rfl rfl rfl rfl hown0 (hu.later l2) (by omega) (by omega) (by omega) (by repeat (first | exact AllMem.args | exact AllMem.of (by simp only [AllL, and_true]; omega) | refine AllMem.put ?_ | refine AllMem.new ?_ (by omega) | refine AllMem.set ?_ (by omega))) ?_
  intro v3 w3 hown3 hg3
  have l3 := l2.pastO hg3 (fun b hq => (hown0.lt b hq).1)
  have z3 := l3.size
  simp only [Nat.zero_add, List.nil_append] at hown3
  obtain ⟨a3, c3, rfl⟩ := own_slice hown3
  refine sM ?_
  refine x_appendB (base := w.heap.size) (n := l.length) (xs := bytesV l) (l := m) rfl rfl rfl rfl rfl rfl rfl rfl rfl rfl rfl hown3 (hv.later l3) (by omega) (by omega) (by omega) (by repeat (first | exact AllMem.args | exact AllMem.of (by simp only [AllL, and_true]; omega) | refine AllMem.put ?_ | refine AllMem.new ?_ (by omega) | refine AllMem.set ?_ (by omega))) ?_
  intro v5 w5 hown5 hg5
  rw [← bytesV_app] at hown5
  refine sZ 1 ?_
  refine Wp.ret ⟨.inr rfl, fun lW => ⟨_, res_tmp (P := Try.prog) rfl rfl, _, rfl, ?_, lW⟩⟩
  clear lW
  exact own_bytes hown5
theorem rabout_any {f n p : Int} {u v x : Value} {a b c : Nat} {w : World} (hf : IsBig a f u w) (hn : IsBig b n v w) (hp : IsBig c p x w) (ha : a ≤ 1000) (hb : b ≤ 1000) (hc : c ≤ 1000) (h0 : 0 < n) : Calls Try.prog 44 #[u, v, x] w fun e w' => ∃ r, e = .returned r ∧ (∃ s, r = .tuple #[s, .int .i64 (abE f n p)] ∧ IsW (abZ f n p) s) ∧ Below w.heap.size w w' := by
  obtain ⟨hfa, hfl, hfc, rfl, -⟩ := id hf
  obtain ⟨hna, hnl, hnc, rfl, -⟩ := id hn
  obtain ⟨hpa, hpl, hpc, rfl, -⟩ := id hp
  cases hw1 : inW (p - n / 2) with
  | false =>
    obtain ⟨e1, e2⟩ := ab_no (f := f) (n := n) (p := p) (fun q => by rw [hw1] at q; cases q.1)
    rw [e1, e2]
    refine calls_Wp (args := [_, _, _]) (n := 54) Try.func44 rfl rfl (by simp) ?_
    refine Wp.seq ?_
    refine wR [0, 1, 2, 3, 4] ?_
    refine sE (fun bk1 w1 kb1 lw1 => ?_)
    refine sE (fun bk2 w2 kb2 lw2 => ?_)
    refine sE (fun bk3 w3 kb3 lw3 => ?_)
    refine sO (fun bk4 w4 kb4 lw4 => ?_)
    refine sZ 1 ?_
    refine Wp.seq ?_
    refine wD [0, 6, 7, 1, 2, 3, 4, 5, 8, 9] [194, 191, 127, 0, 0, 0, 239, 479, 0, 0] (fun | 1 => IsBig 5 2 | 2 => fun v w => ∃ x y, v = .tuple #[x, y] ∧ IsBig (max b 4 + 1) (n / 2) x w ∧ IsBig 6 (n % 2) y w | _ => fun _ _ => True) (fun _ _ => ?_)
    refine sL ?_
    refine sO (fun bk5 w5 kb5 lw5 => ?_)
    refine sO (fun bk6 w6 kb6 lw6 => ?_)
    refine s_callD rfl rfl rfl (by kernel_rfl) rfl (fun wc lc => c_rint 2 (by decide) (by decide) wc) ?_
    rintro v w7 u7 h2 lw7 mw7
    refine s_callD rfl rfl rfl (by kernel_rfl) rfl (fun wc lc => c_div (hn.kp) (h2.kp) (by decide) (by omega) (by decide)) ?_
    rintro v w8 u8 ⟨xv, yv, rfl, hh, hq⟩ lw8 mw8
    obtain ⟨hha, hhl, hhc, rfl, -⟩ := id hh
    obtain ⟨hqa, hql, hqc, rfl, -⟩ := id hq
    refine sQ 3 ?_
    refine sS (fun w9 sw9 vw9 => ?_)
    refine sS (fun w10 sw10 vw10 => ?_)
    refine vOrd_nil ?_
    refine qQ 2 ?_
    refine s_callT rfl rfl rfl (by kernel_rfl) rfl (c_rsub (hp.kp) (hh.kp) (by omega) (by omega)) ?_
    rintro v w11 hl lw11
    obtain ⟨hla, hll, hlc, rfl, -⟩ := id hl
    refine sO (fun bk12 w12 kb12 lw12 => ?_)
    refine sS (fun w13 sw13 vw13 => ?_)
    refine vOrd_nil ?_
    refine Wp.seq ?_
    refine wD [0, 1, 3, 8, 9, 2, 4, 5, 6, 7, 10, 11] [778, 777, 775, 767, 511, 0, 0, 0, 959, 1919, 0, 0] (fun | 2 => IsBig (max a (max c (max b 4 + 1) + 1) + 1) (f - (p - n / 2)) | 4 => fun v w => ∃ x y, v = .tuple #[x, y] ∧ IsBig (max (max a (max c (max b 4 + 1) + 1) + 1) 4 + 1) ((f - (p - n / 2)) / n) x w ∧ IsBig (b + 1) ((f - (p - n / 2)) % n) y w | _ => fun _ _ => True) (fun _ _ => ?_)
    refine sQ 3 ?_
    refine sO (fun bk14 w14 kb14 lw14 => ?_)
    refine sO (fun bk15 w15 kb15 lw15 => ?_)
    refine s_callD rfl rfl rfl (by kernel_rfl) rfl (fun wc lc => c_rsub (hf.kp) (hl.kp) (by omega) (by omega)) ?_
    rintro v w16 u16 hd lw16 mw16
    obtain ⟨hda, hdl, hdc, rfl, -⟩ := id hd
    refine s_callD rfl rfl rfl (by kernel_rfl) rfl (fun wc lc => c_div (hd.kp) (hn.kp) h0 (by omega) (by omega)) ?_
    rintro v w17 u17 ⟨xw, yw, rfl, hx, hy⟩ lw17 mw17
    obtain ⟨hxa, hxl, hxc, rfl, -⟩ := id hx
    obtain ⟨hya, hyl, hyc, rfl, -⟩ := id hy
    refine sQ 3 ?_
    refine sS (fun w18 sw18 vw18 => ?_)
    refine sS (fun w19 sw19 vw19 => ?_)
    refine vOrd_nil ?_
    refine qQ 1 ?_
    refine s_callT rfl rfl rfl (by kernel_rfl) rfl (c_rwide (hl.kp) (by omega)) ?_
    rintro v w20 ⟨su, rfl, sh, sl, rfl, hs1⟩ lw20
    rw [hw1]
    refine sQ 3 ?_
    refine sO (fun bk21 w21 kb21 lw21 => ?_)
    refine sS (fun w22 sw22 vw22 => ?_)
    refine sZ 1 ?_
    refine qQ 2 ?_
    refine s_callT rfl rfl rfl (by kernel_rfl) rfl (c_add (hl.kp) (hy.kp) (by omega) (by omega)) ?_
    rintro v w23 hr lw23
    replace hr := hr.eq (show _ = pnI f n p from rfl)
    refine s_callT rfl rfl rfl (by kernel_rfl) rfl (c_rwide (hr.kp) (by omega)) ?_
    rintro v w24 ⟨tu, rfl, th, tl, rfl, ht1⟩ lw24
    refine sQ 3 ?_
    refine sO (fun bk25 w25 kb25 lw25 => ?_)
    refine sS (fun w26 sw26 vw26 => ?_)
    refine sZ 1 ?_
    refine Wp.seq ?_
    refine qZ ?_
    refine Wp.condT rfl rfl ?_
    refine Wp.seq ?_
    refine wR [0, 1, 2] ?_
    refine sB ?_
    refine sS (fun w27 sw27 vw27 => ?_)
    refine sZ 1 ?_
    refine Wp.ret ⟨.inr rfl, fun lW => ⟨_, ⟨_, _, res_cell rfl rfl rfl rfl, res_tmp (P := Try.prog) rfl rfl, rfl⟩, _, rfl, ?_, lW⟩⟩
    clear lW
    exact ⟨_, rfl, _, _, rfl, (by unfold WideIs; omega)⟩
  | true =>
    cases hw2 : inW (pnI f n p) with
    | false =>
      obtain ⟨e1, e2⟩ := ab_no (f := f) (n := n) (p := p) (fun q => by rw [hw2] at q; cases q.2)
      rw [e1, e2]
      refine calls_Wp (args := [_, _, _]) (n := 54) Try.func44 rfl rfl (by simp) ?_
      refine Wp.seq ?_
      refine wR [0, 1, 2, 3, 4] ?_
      refine sE (fun bk1 w1 kb1 lw1 => ?_)
      refine sE (fun bk2 w2 kb2 lw2 => ?_)
      refine sE (fun bk3 w3 kb3 lw3 => ?_)
      refine sO (fun bk4 w4 kb4 lw4 => ?_)
      refine sZ 1 ?_
      refine Wp.seq ?_
      refine wD [0, 6, 7, 1, 2, 3, 4, 5, 8, 9] [194, 191, 127, 0, 0, 0, 239, 479, 0, 0] (fun | 1 => IsBig 5 2 | 2 => fun v w => ∃ x y, v = .tuple #[x, y] ∧ IsBig (max b 4 + 1) (n / 2) x w ∧ IsBig 6 (n % 2) y w | _ => fun _ _ => True) (fun _ _ => ?_)
      refine sL ?_
      refine sO (fun bk5 w5 kb5 lw5 => ?_)
      refine sO (fun bk6 w6 kb6 lw6 => ?_)
      refine s_callD rfl rfl rfl (by kernel_rfl) rfl (fun wc lc => c_rint 2 (by decide) (by decide) wc) ?_
      rintro v w7 u7 h2 lw7 mw7
      refine s_callD rfl rfl rfl (by kernel_rfl) rfl (fun wc lc => c_div (hn.kp) (h2.kp) (by decide) (by omega) (by decide)) ?_
      rintro v w8 u8 ⟨xv, yv, rfl, hh, hq⟩ lw8 mw8
      obtain ⟨hha, hhl, hhc, rfl, -⟩ := id hh
      obtain ⟨hqa, hql, hqc, rfl, -⟩ := id hq
      refine sQ 3 ?_
      refine sS (fun w9 sw9 vw9 => ?_)
      refine sS (fun w10 sw10 vw10 => ?_)
      refine vOrd_nil ?_
      refine qQ 2 ?_
      refine s_callT rfl rfl rfl (by kernel_rfl) rfl (c_rsub (hp.kp) (hh.kp) (by omega) (by omega)) ?_
      rintro v w11 hl lw11
      obtain ⟨hla, hll, hlc, rfl, -⟩ := id hl
      refine sO (fun bk12 w12 kb12 lw12 => ?_)
      refine sS (fun w13 sw13 vw13 => ?_)
      refine vOrd_nil ?_
      refine Wp.seq ?_
      refine wD [0, 1, 3, 8, 9, 2, 4, 5, 6, 7, 10, 11] [778, 777, 775, 767, 511, 0, 0, 0, 959, 1919, 0, 0] (fun | 2 => IsBig (max a (max c (max b 4 + 1) + 1) + 1) (f - (p - n / 2)) | 4 => fun v w => ∃ x y, v = .tuple #[x, y] ∧ IsBig (max (max a (max c (max b 4 + 1) + 1) + 1) 4 + 1) ((f - (p - n / 2)) / n) x w ∧ IsBig (b + 1) ((f - (p - n / 2)) % n) y w | _ => fun _ _ => True) (fun _ _ => ?_)
      refine sQ 3 ?_
      refine sO (fun bk14 w14 kb14 lw14 => ?_)
      refine sO (fun bk15 w15 kb15 lw15 => ?_)
      refine s_callD rfl rfl rfl (by kernel_rfl) rfl (fun wc lc => c_rsub (hf.kp) (hl.kp) (by omega) (by omega)) ?_
      rintro v w16 u16 hd lw16 mw16
      obtain ⟨hda, hdl, hdc, rfl, -⟩ := id hd
      refine s_callD rfl rfl rfl (by kernel_rfl) rfl (fun wc lc => c_div (hd.kp) (hn.kp) h0 (by omega) (by omega)) ?_
      rintro v w17 u17 ⟨xw, yw, rfl, hx, hy⟩ lw17 mw17
      obtain ⟨hxa, hxl, hxc, rfl, -⟩ := id hx
      obtain ⟨hya, hyl, hyc, rfl, -⟩ := id hy
      refine sQ 3 ?_
      refine sS (fun w18 sw18 vw18 => ?_)
      refine sS (fun w19 sw19 vw19 => ?_)
      refine vOrd_nil ?_
      refine qQ 1 ?_
      refine s_callT rfl rfl rfl (by kernel_rfl) rfl (c_rwide (hl.kp) (by omega)) ?_
      rintro v w20 ⟨su, rfl, sh, sl, rfl, hs1⟩ lw20
      rw [hw1]
      refine sQ 3 ?_
      refine sO (fun bk21 w21 kb21 lw21 => ?_)
      refine sS (fun w22 sw22 vw22 => ?_)
      refine sZ 1 ?_
      refine qQ 2 ?_
      refine s_callT rfl rfl rfl (by kernel_rfl) rfl (c_add (hl.kp) (hy.kp) (by omega) (by omega)) ?_
      rintro v w23 hr lw23
      replace hr := hr.eq (show _ = pnI f n p from rfl)
      refine s_callT rfl rfl rfl (by kernel_rfl) rfl (c_rwide (hr.kp) (by omega)) ?_
      rintro v w24 ⟨tu, rfl, th, tl, rfl, ht1⟩ lw24
      rw [hw2]
      refine sQ 3 ?_
      refine sO (fun bk25 w25 kb25 lw25 => ?_)
      refine sS (fun w26 sw26 vw26 => ?_)
      refine sZ 1 ?_
      refine Wp.seq ?_
      refine qZ ?_
      refine Wp.condT rfl rfl ?_
      refine Wp.seq ?_
      refine wR [0, 1, 2] ?_
      refine sB ?_
      refine sS (fun w27 sw27 vw27 => ?_)
      refine sZ 1 ?_
      refine Wp.ret ⟨.inr rfl, fun lW => ⟨_, ⟨_, _, res_cell rfl rfl rfl rfl, res_tmp (P := Try.prog) rfl rfl, rfl⟩, _, rfl, ?_, lW⟩⟩
      clear lW
      exact ⟨_, rfl, _, _, rfl, (by unfold WideIs; omega)⟩
    | true =>
      obtain ⟨e1, e2⟩ := ab_ok (f := f) (n := n) (p := p) ⟨hw1, hw2⟩
      rw [e1, e2]
      have ft : fitV (pnI f n p) = pnI f n p := by unfold fitV; rw [hw2]; rfl
      refine calls_Wp (args := [_, _, _]) (n := 54) Try.func44 rfl rfl (by simp) ?_
      refine Wp.seq ?_
      refine wR [0, 1, 2, 3, 4] ?_
      refine sE (fun bk1 w1 kb1 lw1 => ?_)
      refine sE (fun bk2 w2 kb2 lw2 => ?_)
      refine sE (fun bk3 w3 kb3 lw3 => ?_)
      refine sO (fun bk4 w4 kb4 lw4 => ?_)
      refine sZ 1 ?_
      refine Wp.seq ?_
      refine wD [0, 6, 7, 1, 2, 3, 4, 5, 8, 9] [194, 191, 127, 0, 0, 0, 239, 479, 0, 0] (fun | 1 => IsBig 5 2 | 2 => fun v w => ∃ x y, v = .tuple #[x, y] ∧ IsBig (max b 4 + 1) (n / 2) x w ∧ IsBig 6 (n % 2) y w | _ => fun _ _ => True) (fun _ _ => ?_)
      refine sL ?_
      refine sO (fun bk5 w5 kb5 lw5 => ?_)
      refine sO (fun bk6 w6 kb6 lw6 => ?_)
      refine s_callD rfl rfl rfl (by kernel_rfl) rfl (fun wc lc => c_rint 2 (by decide) (by decide) wc) ?_
      rintro v w7 u7 h2 lw7 mw7
      refine s_callD rfl rfl rfl (by kernel_rfl) rfl (fun wc lc => c_div (hn.kp) (h2.kp) (by decide) (by omega) (by decide)) ?_
      rintro v w8 u8 ⟨xv, yv, rfl, hh, hq⟩ lw8 mw8
      obtain ⟨hha, hhl, hhc, rfl, -⟩ := id hh
      obtain ⟨hqa, hql, hqc, rfl, -⟩ := id hq
      refine sQ 3 ?_
      refine sS (fun w9 sw9 vw9 => ?_)
      refine sS (fun w10 sw10 vw10 => ?_)
      refine vOrd_nil ?_
      refine qQ 2 ?_
      refine s_callT rfl rfl rfl (by kernel_rfl) rfl (c_rsub (hp.kp) (hh.kp) (by omega) (by omega)) ?_
      rintro v w11 hl lw11
      obtain ⟨hla, hll, hlc, rfl, -⟩ := id hl
      refine sO (fun bk12 w12 kb12 lw12 => ?_)
      refine sS (fun w13 sw13 vw13 => ?_)
      refine vOrd_nil ?_
      refine Wp.seq ?_
      refine wD [0, 1, 3, 8, 9, 2, 4, 5, 6, 7, 10, 11] [778, 777, 775, 767, 511, 0, 0, 0, 959, 1919, 0, 0] (fun | 2 => IsBig (max a (max c (max b 4 + 1) + 1) + 1) (f - (p - n / 2)) | 4 => fun v w => ∃ x y, v = .tuple #[x, y] ∧ IsBig (max (max a (max c (max b 4 + 1) + 1) + 1) 4 + 1) ((f - (p - n / 2)) / n) x w ∧ IsBig (b + 1) ((f - (p - n / 2)) % n) y w | _ => fun _ _ => True) (fun _ _ => ?_)
      refine sQ 3 ?_
      refine sO (fun bk14 w14 kb14 lw14 => ?_)
      refine sO (fun bk15 w15 kb15 lw15 => ?_)
      refine s_callD rfl rfl rfl (by kernel_rfl) rfl (fun wc lc => c_rsub (hf.kp) (hl.kp) (by omega) (by omega)) ?_
      rintro v w16 u16 hd lw16 mw16
      obtain ⟨hda, hdl, hdc, rfl, -⟩ := id hd
      refine s_callD rfl rfl rfl (by kernel_rfl) rfl (fun wc lc => c_div (hd.kp) (hn.kp) h0 (by omega) (by omega)) ?_
      rintro v w17 u17 ⟨xw, yw, rfl, hx, hy⟩ lw17 mw17
      obtain ⟨hxa, hxl, hxc, rfl, -⟩ := id hx
      obtain ⟨hya, hyl, hyc, rfl, -⟩ := id hy
      refine sQ 3 ?_
      refine sS (fun w18 sw18 vw18 => ?_)
      refine sS (fun w19 sw19 vw19 => ?_)
      refine vOrd_nil ?_
      refine qQ 1 ?_
      refine s_callT rfl rfl rfl (by kernel_rfl) rfl (c_rwide (hl.kp) (by omega)) ?_
      rintro v w20 ⟨su, rfl, sh, sl, rfl, hs1⟩ lw20
      rw [hw1]
      refine sQ 3 ?_
      refine sO (fun bk21 w21 kb21 lw21 => ?_)
      refine sS (fun w22 sw22 vw22 => ?_)
      refine sZ 1 ?_
      refine qQ 2 ?_
      refine s_callT rfl rfl rfl (by kernel_rfl) rfl (c_add (hl.kp) (hy.kp) (by omega) (by omega)) ?_
      rintro v w23 hr lw23
      replace hr := hr.eq (show _ = pnI f n p from rfl)
      refine s_callT rfl rfl rfl (by kernel_rfl) rfl (c_rwide (hr.kp) (by omega)) ?_
      rintro v w24 ⟨tu, rfl, th, tl, rfl, ht1⟩ lw24
      rw [hw2]
      rw [ft] at ht1
      refine sQ 3 ?_
      refine sO (fun bk25 w25 kb25 lw25 => ?_)
      refine sS (fun w26 sw26 vw26 => ?_)
      refine sZ 1 ?_
      refine Wp.seq ?_
      refine qZ ?_
      refine Wp.condF rfl rfl ?_
      refine Wp.skip ?_
      refine qQ 1 ?_
      refine sS (fun w27 sw27 vw27 => ?_)
      refine sZ 1 ?_
      refine Wp.ret ⟨.inr rfl, fun lW => ⟨_, ⟨_, _, res_cell rfl rfl rfl rfl, res_tmp (P := Try.prog) rfl rfl, rfl⟩, _, rfl, ?_, lW⟩⟩
      clear lW
      exact ⟨_, rfl, _, _, rfl, ht1⟩
end Go.Proofs.Ytlpenfganhaclaa
