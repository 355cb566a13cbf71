/-
 The contracts of rubber.New, First and latest: what is made of segments that may be, and which segment has begun last. No conditions beyond those at each.
-/
import Derived.Test.YthihioakjpmnbaaGreatRubS
import Derived.Test.YthihioakjpmnbaaGreatSegM
import Derived.Test.YthihioakjpmnbaaGreatSegS
namespace Go.Proofs.YthihioakjpmnbaaGreat
open Go.RowKit
set_option maxRecDepth 100000

/-- Block b is a Rubber of these segments; bs: its other block. -/
def Rb (w : World) (b : Nat) (bs : List Nat) (l : List Sg) (day off : Int) : Prop := ∃ c cs, bs = [c] ∧ b ≠ c ∧ Var w b [.slice (some ⟨c, 0, none⟩) l.length l.length] ∧ Var w c cs ∧ PartC l day off cs
theorem Rb.later {w w' : World} {b : Nat} {bs : List Nat} {l : List Sg} {day off : Int} (h : Rb w b bs l day off) (g : Later w w') : Rb w' b bs l day off := by
 obtain ⟨c, cs, h1, h2, h3, h4, h5⟩ := h
 exact ⟨c, cs, h1, h2, h3.later g, h4.later g, h5⟩
theorem Rb.ne {w : World} {b q : Nat} {bs : List Nat} {l : List Sg} {day off : Int} (h : Rb w b bs l day off) (hq : w.heap.size ≤ q) : ∀ x ∈ b :: bs, x ≠ q := by
 obtain ⟨c, cs, rfl, h2, h3, h4, h5⟩ := h
 intro x hx
 have l3 := h3.lt
 have l4 := h4.lt
 simp only [List.mem_cons, List.not_mem_nil, or_false] at hx
 omega
theorem Rb.sto {w w' : World} {b q : Nat} {bs : List Nat} {l : List Sg} {day off : Int} (h : Rb w b bs l day off) (s : Stored q w w') (hq : ∀ x ∈ b :: bs, x ≠ q) : Rb w' b bs l day off := by
 obtain ⟨c, cs, rfl, h2, h3, h4, h5⟩ := h
 exact ⟨c, cs, rfl, h2, h3.sto s (hq b (by simp)), h4.sto s (hq c (by simp)), h5⟩
/-- What a part's cells hold, one by one. -/
theorem part_cells {cs vs : List Value} {j : Nat} (h : (cs.drop (j * 9)).take 9 = vs) {k : Nat} {u : Value} (hk : vs[k]? = some u) : cs[j * 9 + k]? = some u := by
 subst h
 rw [List.getElem?_take] at hk
 split at hk
 ·rw [List.getElem?_drop] at hk; exact hk
 ·cases hk
theorem cut_late {l : List Sg} {day off : Int} (h : mayS l day off = true) {d : Int} {K : Nat} (hcut : CutP (pSD d) l K) {s : Sg} (hK : 0 < K) (hs : l[K - 1]? = some s) : untS l day (K - 1) ≤ d ↔ day ≤ d := by
 have hu := unt_le h hs
 constructor
 ·intro q
  rcases (by have := hcut.1; omega : K = l.length ∨ K < l.length) with g | g
  ·rw [unt_none (by omega)] at q; exact q
  ·obtain ⟨y, hy⟩ : ∃ y, l[K]? = some y := ⟨_, List.getElem?_eq_getElem g⟩
   have hc := hcut.2 K y hy
   unfold pSD at hc
   rw [decide_eq_decide] at hc
   rw [unt_some (y := y) (by rw [show K - 1 + 1 = K by omega]; exact hy)] at q
   omega
 ·omega

theorem bnew1_any {s : Sg} (hs : sgIn s = true) {la bh bl eh el x : Int} (hl : -1048577 ≤ la ∧ la ≤ 1048576) (hx : WideIs eh el x) {w : World} : Calls Tryz.prog 62 #[.agg #[.int .i64 s.d, .int .i64 s.b, .int .i64 s.f, .int .i64 s.r, .int .i64 la, .int .i64 bh, .int .u64 bl, .int .i64 eh, .int .u64 el]] w fun e w' => ∃ r, e = .returned r ∧ r = .bool (!(decide (fZ s (cnt la 0 0) < x) && decide (x ≤ fZ s (cnt (la + 1) 1 0)))) ∧ Below w.heap.size w w' := by
 refine calls_Wp (args := [_]) (n := 6) Tryz.func62 rfl rfl (by simp) ?_
 refine Wp.seq ?_
 refine wR [0, 1] ?_
 refine sE (fun bk1 w1 kb1 lw1 => ?_)
 refine sZ 1 ?_
 refine qQ 1 ?_
 refine sT (bends_any hs hl hx) ?_
 rintro v w2 rfl lw2
 refine sZ 2 ?_
 refine Wp.ret ⟨.inr rfl, fun lW => ⟨_, res_tmp (P := Tryz.prog) rfl rfl, _, rfl, ?_, lW⟩⟩
 clear lW
 rfl
theorem bindex_any {l : List Sg} {day off : Int} {c : Nat} {cs : List Value} {w : World} (vc : Var w c cs) (hp : PartC l day off cs) (hn : l.length ≤ 1000) {f : FuncId} {caps : List Value} (hf : goFn Tryz.prog f = true) {p : Nat → Sg → Bool} (hc : ∀ (W : World) (j : Nat) (s : Sg) (bh bl eh el : Int), Later w W → l[j]? = some s → WideIs bh bl (begS s) → WideIs eh el (endS l day off j) → Calls Tryz.prog f (.agg (partL s (untS l day j - 1) bh bl eh el).toArray :: caps).toArray W fun e w' => ∃ r, e = .returned r ∧ r = .bool (p j s) ∧ Below W.heap.size W w') : Calls Tryz.prog 96 #[.slice (some ⟨c, 0, none⟩) l.length l.length, .func (.func f) #[] caps.toArray] w fun e w' => ∃ r, e = .returned r ∧ ((∃ (j : Nat) (s : Sg), l[j]? = some s ∧ p j s = true ∧ r = .int .i64 (j : Int)) ∨ ((∀ j s, l[j]? = some s → p j s = false) ∧ r = .int .i64 (-1))) ∧ Below w.heap.size w w' := by
 refine calls_Wp (args := [_, _]) (n := 19) Tryz.func96 rfl rfl (by simp) ?_
 refine qZ ?_
 refine Wp.seq ?_
 refine qQ 1 ?_
 refine x_len rfl rfl rfl rfl rfl ?_
 refine sZ 1 ?_
 refine Wp.block ?_
 refine Wp.loop (fun m st W => ∃ (i : Nat) (pi : Int), st = St.of [(0, .v (.slice (some ⟨c, 0, none⟩) l.length l.length)), (1, .v (.func (.func f) #[] caps.toArray)), (7, .v (.int .i64 (l.length : Int))), (8, .v (.int .i64 pi))] [] ∧ pi = i ∧ i ≤ l.length ∧ (∀ j s, j < i → l[j]? = some s → p j s = false) ∧ m = l.length - i) ?_ ?_
 ·exact ⟨_, _, (St.of_le' (env := [(0, .v _), (1, .v _), (7, .v _), (8, .v _)]) (mem := []) ⟨rfl, rfl, rfl, rfl, trivial⟩ trivial), 0, _, rfl, rfl, Nat.zero_le _, fun j s hj => by omega, rfl⟩
 ·rintro k st w1 ⟨i, pi, rfl, hpi, hil, hno, rfl⟩
  refine Wp.seq ?_
  refine wR [0] ?_
  refine p_lss rfl rfl rfl rfl rfl (fun h9 => ?_) (fun h9 => ?_)
  ·refine vOrd_nil ?_
   refine Wp.seq ?_
   refine Wp.condT rfl rfl ?_
   refine Wp.skip ?_
   refine Wp.seq ?_
   refine Wp.block ?_
   refine qZ ?_
   refine Wp.seq ?_
   refine Wp.old (fun lo => ?_)
   obtain ⟨s, hs⟩ : ∃ s, l[i]? = some s := ⟨_, List.getElem?_eq_getElem (by omega)⟩
   obtain ⟨bh, bl, eh, el, kb, ke, hpc⟩ := hp.2 i s hs
   refine wQ 3 ?_
   refine sI (sz := 9) (i * 9) ?_
   refine x_ldA (partL s (untS l day i - 1) bh bl eh el) rfl rfl rfl rfl rfl rfl (Nat.lt_of_lt_of_le vc.lt lo.size) (fun j u hj => (cell_var (vc.later lo) _).trans (part_cells hpc hj)) ?_
   refine s_callF rfl rfl rfl hf rfl rfl (hc _ i s bh bl eh el lo hs kb ke) ?_
   rintro v w4 rfl lw4
   rcases Bool.eq_false_or_eq_true (p i s) with h16 | h16
   ·rw [h16]
    refine vOrd_nil ?_
    refine Wp.condT rfl rfl ?_
    refine qZ ?_
    refine Wp.ret ⟨.inr rfl, fun lW => ⟨_, res_tmp (P := Tryz.prog) rfl rfl, _, rfl, ?_, lW⟩⟩
    clear lW
    exact .inl ⟨i, s, hs, h16, by rw [hpi]⟩
   ·rw [h16]
    refine vOrd_nil ?_
    refine Wp.condF rfl rfl ?_
    refine Wp.skip ?_
    refine wR [0, 1] ?_
    refine aP (-9223372036854775808) 9223372036854775807 ?_
    refine sZ 1 ?_
    exact ⟨l.length - (i + 1), _, by omega, (St.of_le' (env := [(0, .v _), (1, .v _), (7, .v _), (8, .v _)]) (mem := []) ⟨rfl, rfl, rfl, rfl, trivial⟩ trivial), i + 1, _, rfl, by omega, by omega, fun j y hj hy => by rcases (by omega : j < i ∨ j = i) with q | q; exact hno j y q hy; subst q; rw [hs] at hy; cases hy; exact h16, rfl⟩
  ·refine vOrd_nil ?_
   refine Wp.seq ?_
   refine Wp.condF rfl rfl ?_
   refine Wp.exit ?_
   refine qZ ?_
   refine Wp.ret ⟨.inr rfl, fun lW => ⟨_, res_tmp (P := Tryz.prog) rfl rfl, _, rfl, ?_, lW⟩⟩
   clear lW
   exact .inr ⟨fun j y hy => hno j y (by have := (List.getElem?_eq_some_iff.1 hy).1; omega) hy, rfl⟩
theorem bcontains_any {l : List Sg} {day off : Int} {c : Nat} {cs : List Value} {w : World} (vc : Var w c cs) (hp : PartC l day off cs) (hn : l.length ≤ 1000) {f : FuncId} {caps : List Value} (hf : goFn Tryz.prog f = true) {p : Nat → Sg → Bool} (hc : ∀ (W : World) (j : Nat) (s : Sg) (bh bl eh el : Int), Later w W → l[j]? = some s → WideIs bh bl (begS s) → WideIs eh el (endS l day off j) → Calls Tryz.prog f (.agg (partL s (untS l day j - 1) bh bl eh el).toArray :: caps).toArray W fun e w' => ∃ r, e = .returned r ∧ r = .bool (p j s) ∧ Below W.heap.size W w') {B : Bool} (hB : B = true ↔ ∃ j s, l[j]? = some s ∧ p j s = true) : Calls Tryz.prog 61 #[.slice (some ⟨c, 0, none⟩) l.length l.length, .func (.func f) #[] caps.toArray] w fun e w' => ∃ r, e = .returned r ∧ r = .bool B ∧ Below w.heap.size w w' := by
 cases B with
 | true =>
  refine calls_Wp (args := [_, _]) (n := 9) Tryz.func61 rfl rfl (by simp) ?_
  refine qZ ?_
  refine qQ 2 ?_
  refine sT (bindex_any vc hp hn hf hc) ?_
  rintro v w1 hidx lw1
  obtain ⟨k, hk0, rfl⟩ : ∃ k : Int, 0 ≤ k ∧ v = .int .i64 k := by
   rcases hidx with ⟨j, s, _, _, h⟩ | ⟨hno, _⟩
   ·exact ⟨_, Int.natCast_nonneg j, h⟩
   ·obtain ⟨j, s, h1, h2⟩ := hB.1 rfl; rw [hno j s h1] at h2; cases h2
  refine t_geq rfl rfl rfl rfl rfl (by omega) ?_
  refine sZ 1 ?_
  refine Wp.ret ⟨.inr rfl, fun lW => ⟨_, res_tmp (P := Tryz.prog) rfl rfl, _, rfl, ?_, lW⟩⟩
  clear lW
  rfl
 | false =>
  refine calls_Wp (args := [_, _]) (n := 9) Tryz.func61 rfl rfl (by simp) ?_
  refine qZ ?_
  refine qQ 2 ?_
  refine sT (bindex_any vc hp hn hf hc) ?_
  rintro v w1 hidx lw1
  obtain rfl : v = .int .i64 (-1) := by
   rcases hidx with ⟨j, s, h1, h2, _⟩ | ⟨_, h⟩
   ·have := hB.2 ⟨j, s, h1, h2⟩; cases this
   ·exact h
  refine f_geq rfl rfl rfl rfl rfl (by decide) ?_
  refine sZ 1 ?_
  refine Wp.ret ⟨.inr rfl, fun lW => ⟨_, res_tmp (P := Tryz.prog) rfl rfl, _, rfl, ?_, lW⟩⟩
  clear lW
  rfl
theorem may_of {l : List Sg} {day off : Int} (h : bddB l day off = true) : mayS l day off = true ↔ ¬ ∃ j s, l[j]? = some s ∧ (!(decide (fZ s (cnt (untS l day j - 1) 0 0) < endS l day off j) && decide (endS l day off j ≤ fZ s (cnt (untS l day j - 1 + 1) 1 0)))) = true := by
 obtain ⟨h1, h2⟩ := bddB_iff.1 h
 rw [may_spec]
 constructor
 ·rintro ⟨_, _, h3⟩ ⟨j, s, hs, hn⟩
  have := h3 j (List.getElem?_eq_some_iff.1 hs).1
  unfold may2 at this
  rw [hs] at this
  simp only at this
  rw [show untS l day j - 1 + 1 = untS l day j by omega, this] at hn
  cases hn
 ·intro hn
  refine ⟨h1, h2, fun i hi => ?_⟩
  unfold may2
  obtain ⟨s, hs⟩ : ∃ s, l[i]? = some s := ⟨_, List.getElem?_eq_getElem hi⟩
  rw [hs]
  simp only
  cases q : (decide (fZ s (cnt (untS l day i - 1) 0 0) < endS l day off i) && decide (endS l day off i ≤ fZ s (cnt (untS l day i) 1 0))) with
  | true => rfl
  | false => exact absurd ⟨i, s, hs, by rw [show untS l day i - 1 + 1 = untS l day i by omega, q]; rfl⟩ hn
theorem may_bdd {l : List Sg} {day off : Int} (h : mayS l day off = true) : bddB l day off = true := by
 obtain ⟨h1, h2, _⟩ := may_spec.1 h
 exact bddB_iff.2 ⟨h1, h2⟩
theorem bunt_in {l : List Sg} {day off : Int} (h : bddB l day off = true) {j : Nat} {s : Sg} (_hs : l[j]? = some s) : -1048577 ≤ untS l day j - 1 ∧ untS l day j - 1 ≤ 1048576 := by
 obtain ⟨h1, h2⟩ := bddB_iff.1 h
 have h0 := (may0_iff.1 h1).2.1
 rcases (by omega : j + 1 < l.length ∨ l.length ≤ j + 1) with q | q
 ·obtain ⟨y, hy⟩ : ∃ y, l[j + 1]? = some y := ⟨_, List.getElem?_eq_getElem q⟩
  rw [unt_some hy]
  have := (sgIn_iff.1 (may1_at h2 hy).1).1
  omega
 ·rw [unt_none q]
  omega

theorem pnew_yes (l : List Sg) (hlc : l.length ≤ 9223372036854775807) {day off : Int} (_hd : I64 day) (_ho : I64 off) (hm : mayS l day off = true) {v : Value} {w : World} (hv : SegAt w v l) : Calls Tryz.prog 38 #[v, .int .i64 day, .int .i64 off] w fun e w' => ∃ r, e = .returned r ∧ (∃ b bs, r = .tuple #[.pointer (some ⟨b, 0, none⟩), .int .i64 0] ∧ (∀ x ∈ b :: bs, w.heap.size ≤ x) ∧ Rb w' b bs l day off) ∧ Below w.heap.size w w' := by
 have hb := may_bdd hm
 have hl := (may0_iff.1 (bddB_iff.1 hb).1).1
 refine calls_Wp (args := [_, _, _]) (n := 23) Tryz.func38 rfl rfl (by simp) ?_
 refine qZ ?_
 refine Wp.seq ?_
 refine qQ 3 ?_
 refine sT (bbounded_any hv) ?_
 rintro v w1 rfl lw1
 try replace vc := vc.later lw1
 rw [hb]
 refine sZ 1 ?_
 refine Wp.condF rfl rfl ?_
 refine Wp.skip ?_
 refine Wp.seq ?_
 refine Wp.old (fun lo3 => ?_)
 refine wQ 3 ?_
 refine sT (bsplit_any (bddB_iff.1 hb) (hv.later lo3)) ?_
 rintro v w2 ⟨c, rfl, hc0, cs, vc, hpc⟩ lw2
 try replace vc := vc.later lw2
 refine sZ 1 ?_
 refine Wp.seq ?_
 refine qQ 1 ?_
 refine s_callT rfl rfl rfl (by kernel_rfl) rfl (bcontains_any vc hpc (by omega) (f := 62) (caps := []) (by kernel_rfl) (p := fun j s => !(decide (fZ s (cnt (untS l day j - 1) 0 0) < endS l day off j) && decide (endS l day off j ≤ fZ s (cnt (untS l day j - 1 + 1) 1 0)))) (fun W j s bh bl eh el _ hj _ he => bnew1_any (may1_at (bddB_iff.1 hb).2 hj).1 (bunt_in hb hj) he) (B := false) (by constructor; (intro h; cases h); (intro h; exact absurd h ((may_of hb).1 hm)))) ?_
 rintro v w3 rfl lw3
 try replace vc := vc.later lw3
 refine vOrd_nil ?_
 refine Wp.condF rfl rfl ?_
 refine Wp.skip ?_
 refine Wp.seq ?_
 refine Wp.old (fun lo6 => ?_)
 have hcl := vc.lt
 have hsz3 := lo3.size
 have hsz6 := lo6.size
 refine wQ 1 ?_
 refine sB ?_
 refine sE (fun bk4 w4 kb4 lw4 => ?_)
 try replace vc := vc.later lw4
 refine sZ 2 ?_
 refine Wp.var (h := 22) rfl (fun v22 => ?_)
 have q22 := v22.lt
 refine Wp.ret ⟨.inr rfl, fun lW => ⟨_, ⟨_, _, res_ptr (P := Tryz.prog) rfl, res_tmp (P := Tryz.prog) rfl rfl, rfl⟩, _, rfl, ?_, lW⟩⟩
 clear lW
 exact ⟨_, [c], rfl, fun x hx => by simp only [List.mem_cons, List.not_mem_nil, or_false] at hx; omega, c, cs, rfl, by omega, v22, vc, hpc⟩
def zeroP : List Value := [.int .i64 0, .int .i64 0, .int .i64 0, .int .i64 0, .int .i64 0, .int .i64 0, .int .u64 0, .int .i64 0, .int .u64 0]

/-- What latest answers: of K segments that have begun. -/
def lastP (l : List Sg) (day off : Int) (K : Nat) (r : Value) : Prop := (K = 0 ∧ r = .tuple #[.agg zeroP.toArray, .bool false]) ∨ (0 < K ∧ ∃ s bh bl eh el, l[K - 1]? = some s ∧ WideIs bh bl (begS s) ∧ WideIs eh el (endS l day off (K - 1)) ∧ r = .tuple #[.agg (partL s (untS l day (K - 1) - 1) bh bl eh el).toArray, .bool true])
theorem blatest_any {l : List Sg} {day off : Int} {b : Nat} {bs : List Nat} {w : World} (hR : Rb w b bs l day off) (hn : l.length ≤ 1000) {p : Sg → Bool} {K : Nat} (hcut : CutP p l K) {f : FuncId} {caps : List Value} (hf : goFn Tryz.prog f = true) (hc : ∀ (W : World) (j : Nat) (s : Sg) (bh bl eh el : Int), Later w W → l[j]? = some s → WideIs bh bl (begS s) → WideIs eh el (endS l day off j) → Calls Tryz.prog f (.agg (partL s (untS l day j - 1) bh bl eh el).toArray :: caps).toArray W fun e w' => ∃ r, e = .returned r ∧ r = .bool (p s) ∧ Below W.heap.size W w') : Calls Tryz.prog 109 #[.pointer (some ⟨b, 0, none⟩), .func (.func f) #[] caps.toArray] w fun e w' => ∃ r, e = .returned r ∧ lastP l day off K r ∧ Below w.heap.size w w' := by
 obtain ⟨c, cs, rfl, hbc, hv, vc, hp⟩ := hR
 have hKl := hcut.1
 refine calls_Wp (args := [_, _]) (n := 43) Tryz.func109 rfl rfl (by simp) ?_
 refine Wp.seq ?_
 refine wR [0, 1] ?_
 refine sO (fun bk1 w1 kb1 lw1 => ?_)
 refine sZ 1 ?_
 refine Wp.scope ?_
 refine Wp.seq ?_
 refine Wp.label ?_
 refine Wp.seq ?_
 refine Wp.seq ?_
 refine Wp.old (fun lo => ?_)
 refine wQ 1 ?_
 refine s_nilV rfl rfl rfl rfl ?_
 refine s_fieldV 0 rfl rfl rfl rfl 0 rfl rfl ?_
 refine s_ldU rfl rfl rfl rfl (hv.later lo) rfl ?_
 refine x_len rfl rfl rfl rfl rfl ?_
 refine sZ 1 ?_
 refine Wp.block ?_
 refine Wp.loop (fun m st W => ∃ (i b4 : Nat) (pi : Int), st = St.of [(0, .v (.pointer (some ⟨b, 0, none⟩))), (1, .v (.func (.func f) #[] caps.toArray)), (4, .p 4 b4 0), (13, .v (.slice (some ⟨c, 0, none⟩) l.length l.length)), (14, .v (.int .i64 (l.length : Int))), (15, .v (.int .i64 pi))] [(4, b4, [.int .i64 0, .int .i64 0, .int .i64 0, .int .i64 0, .int .i64 0, .int .i64 0, .int .u64 0, .int .i64 0, .int .u64 0])] ∧ pi = i ∧ i ≤ l.length ∧ (i < K ∨ (i = 0 ∧ K = 0)) ∧ m = l.length - i) ?_ ?_
 ·exact ⟨_, _, (St.of_le' (env := [(0, .v _), (1, .v _), (4, .p 4 _ 0), (13, .v _), (14, .v _), (15, .v _)]) (mem := [(4, _, [_, _, _, _, _, _, _, _, _])]) ⟨rfl, rfl, rfl, rfl, rfl, rfl, trivial⟩ ⟨rfl, trivial⟩), 0, _, _, rfl, rfl, Nat.zero_le _, by omega, rfl⟩
 ·rintro k st w5 ⟨i, b4, pi, rfl, hpi, hil, hiK, rfl⟩
  refine Wp.seq ?_
  refine wR [0] ?_
  refine p_lss rfl rfl rfl rfl rfl (fun h16 => ?_) (fun h16 => ?_)
  ·refine vOrd_nil ?_
   refine Wp.seq ?_
   refine Wp.condT rfl rfl ?_
   refine Wp.skip ?_
   refine Wp.seq ?_
   refine Wp.block ?_
   refine Wp.seq ?_
   refine Wp.old (fun lo => ?_)
   obtain ⟨s, hs⟩ : ∃ s, l[i]? = some s := ⟨_, List.getElem?_eq_getElem (by omega)⟩
   obtain ⟨bh, bl, eh, el, kb, ke, hpc⟩ := hp.2 i s hs
   have hps := hcut.2 i s hs
   refine wQ 1 ?_
   refine sI (sz := 9) (i * 9) ?_
   refine x_ldA (partL s (untS l day i - 1) bh bl eh el) rfl rfl rfl rfl rfl rfl (Nat.lt_of_lt_of_le vc.lt lo.size) (fun j u hj => (cell_var (vc.later lo) _).trans (part_cells hpc hj)) ?_
   refine sO (fun bk8 w8 kb8 lw8 => ?_)
   refine sA ?_
   refine sS (fun w9 sw9 vw9 => ?_)
   refine vOrd_nil ?_
   refine Wp.seq ?_
   refine Wp.seq ?_
   refine Wp.old (fun lo => ?_)
   refine wQ 2 ?_
   refine s_callF rfl rfl rfl hf rfl rfl (hc _ i s bh bl eh el lo hs kb ke) ?_
   rintro v w10 rfl lw10
   rcases Bool.eq_false_or_eq_true (p s) with h22 | h22
   ·rw [h22]
    rw [hps] at h22
    replace h22 := of_decide_eq_true h22
    refine sZ 1 ?_
    refine Wp.condF rfl rfl ?_
    refine Wp.skip ?_
    refine Wp.seq ?_
    refine Wp.seq ?_
    refine Wp.old (fun lo => ?_)
    refine wQ 1 ?_
    refine s_nilV rfl rfl rfl rfl ?_
    refine s_fieldV 0 rfl rfl rfl rfl 0 rfl rfl ?_
    refine s_ldU rfl rfl rfl rfl (hv.later lo) rfl ?_
    refine sM ?_
    refine aP (-9223372036854775808) 9223372036854775807 ?_
    refine x_from (sz := 9) rfl rfl rfl rfl rfl rfl rfl (by omega) (by omega) (by omega) (fun so hso => ?_)
    obtain ⟨ln, hln⟩ : ∃ ln, ln = l.length - (pi + 1).toNat := ⟨_, rfl⟩
    rw [← hln]
    refine x_len rfl rfl rfl rfl rfl ?_
    refine sZ 1 ?_
    refine Wp.block ?_
    refine Wp.loop (fun m st W => ∃ (j b7 : Nat) (pj : Int), st = St.of [(0, .v (.pointer (some ⟨b, 0, none⟩))), (1, .v (.func (.func f) #[] caps.toArray)), (4, .p 4 b4 0), (6, .v (.int .i64 pi)), (7, .p 7 b7 0), (13, .v (.slice (some ⟨c, 0, none⟩) l.length l.length)), (14, .v (.int .i64 (l.length : Int))), (15, .v (.int .i64 pi)), (30, .v (.slice (some ⟨c, so, none⟩) ln ln)), (31, .v (.int .i64 (ln : Int))), (32, .v (.int .i64 pj))] [(4, b4, [.int .i64 0, .int .i64 0, .int .i64 0, .int .i64 0, .int .i64 0, .int .i64 0, .int .u64 0, .int .i64 0, .int .u64 0]), (7, b7, partL s (untS l day i - 1) bh bl eh el)] ∧ pj = j ∧ j ≤ ln ∧ (j = 0 ∨ K = i + 1) ∧ m = ln - j) ?_ ?_
    ·exact ⟨_, _, (St.of_le' (env := [(0, .v _), (1, .v _), (4, .p 4 _ 0), (6, .v _), (7, .p 7 _ 0), (13, .v _), (14, .v _), (15, .v _), (30, .v _), (31, .v _), (32, .v _)]) (mem := [(4, _, [_, _, _, _, _, _, _, _, _]), (7, _, [_, _, _, _, _, _, _, _, _])]) ⟨rfl, rfl, rfl, rfl, rfl, rfl, rfl, rfl, rfl, rfl, rfl, trivial⟩ ⟨rfl, rfl, trivial⟩), 0, _, _, rfl, rfl, Nat.zero_le _, by omega, rfl⟩
    ·rintro k st w17 ⟨j, b7, pj, rfl, hpj, hjl, hjK, rfl⟩
     refine Wp.seq ?_
     refine wR [0] ?_
     refine p_lss rfl rfl rfl rfl rfl (fun h33 => ?_) (fun h33 => ?_)
     ·refine vOrd_nil ?_
      refine Wp.seq ?_
      refine Wp.condT rfl rfl ?_
      refine Wp.skip ?_
      refine Wp.seq ?_
      refine Wp.block ?_
      refine Wp.seq ?_
      refine Wp.old (fun lo => ?_)
      obtain ⟨y, hy⟩ : ∃ y, l[i + 1 + j]? = some y := ⟨_, List.getElem?_eq_getElem (by omega)⟩
      obtain ⟨ah, al, dh, dl, kb2, ke2, hpc2⟩ := hp.2 _ y hy
      have hps2 := hcut.2 _ y hy
      have hso2 := hso (by omega)
      refine wR [0, 1, 2, 3] ?_
      refine sI (sz := 9) ((i + 1 + j) * 9) ?_
      refine x_ldA (partL y (untS l day (i + 1 + j) - 1) ah al dh dl) rfl rfl rfl rfl rfl rfl (Nat.lt_of_lt_of_le vc.lt lo.size) (fun j u hj => (cell_var (vc.later lo) _).trans (part_cells hpc2 hj)) ?_
      refine sO (fun bk20 w20 kb20 lw20 => ?_)
      refine sS (fun w21 sw21 vw21 => ?_)
      refine vOrd_nil ?_
      refine Wp.seq ?_
      refine Wp.old (fun lo => ?_)
      refine wQ 2 ?_
      refine s_callF rfl rfl rfl hf rfl rfl (hc _ (i + 1 + j) y ah al dh dl lo hy kb2 ke2) ?_
      rintro v w22 rfl lw22
      rcases Bool.eq_false_or_eq_true (p y) with h38 | h38
      ·rw [h38]
       rw [hps2] at h38
       replace h38 := of_decide_eq_true h38
       refine vOrd_nil ?_
       refine Wp.condT rfl rfl ?_
       refine Wp.exit ?_
       refine wR [0, 1] ?_
       refine aP (-9223372036854775808) 9223372036854775807 ?_
       refine sZ 1 ?_
       exact ⟨l.length - (i + 1), _, by omega, (St.of_le' (env := [(0, .v _), (1, .v _), (4, .p 4 _ 0), (13, .v _), (14, .v _), (15, .v _)]) (mem := [(4, _, [_, _, _, _, _, _, _, _, _])]) ⟨rfl, rfl, rfl, rfl, rfl, rfl, trivial⟩ ⟨rfl, trivial⟩), i + 1, _, _, rfl, by omega, by omega, by omega, rfl⟩
      ·rw [h38]
       rw [hps2] at h38
       replace h38 := of_decide_eq_false h38
       refine vOrd_nil ?_
       refine Wp.condF rfl rfl ?_
       refine Wp.skip ?_
       refine wR [0, 1] ?_
       refine aP (-9223372036854775808) 9223372036854775807 ?_
       refine sZ 1 ?_
       exact ⟨ln - (j + 1), _, by omega, (St.of_le' (env := [(0, .v _), (1, .v _), (4, .p 4 _ 0), (6, .v _), (7, .p 7 _ 0), (13, .v _), (14, .v _), (15, .v _), (30, .v _), (31, .v _), (32, .v _)]) (mem := [(4, _, [_, _, _, _, _, _, _, _, _]), (7, _, [_, _, _, _, _, _, _, _, _])]) ⟨rfl, rfl, rfl, rfl, rfl, rfl, rfl, rfl, rfl, rfl, rfl, trivial⟩ ⟨rfl, rfl, trivial⟩), j + 1, _, _, rfl, by omega, by omega, by omega, rfl⟩
     ·refine vOrd_nil ?_
      refine Wp.seq ?_
      refine Wp.condF rfl rfl ?_
      refine Wp.exit ?_
      refine qQ 1 ?_
      refine sS (fun w23 sw23 vw23 => ?_)
      refine sZ 1 ?_
      refine Wp.ret ⟨.inr rfl, fun lW => ⟨_, ⟨_, _, res_cell rfl rfl rfl rfl, res_tmp (P := Tryz.prog) rfl rfl, rfl⟩, _, rfl, ?_, lW⟩⟩
      clear lW
      obtain rfl : K = i + 1 := by omega
      exact .inr ⟨by omega, s, bh, bl, eh, el, hs, kb, ke, rfl⟩
   ·rw [h22]
    rw [hps] at h22
    replace h22 := of_decide_eq_false h22
    refine sZ 1 ?_
    refine Wp.condT rfl rfl ?_
    refine Wp.exit ?_
    refine Wp.seq ?_
    refine wR [0, 1, 2] ?_
    refine sB ?_
    refine sS (fun w24 sw24 vw24 => ?_)
    refine sZ 1 ?_
    refine Wp.ret ⟨.inr rfl, fun lW => ⟨_, ⟨_, _, res_cell rfl rfl rfl rfl, res_tmp (P := Tryz.prog) rfl rfl, rfl⟩, _, rfl, ?_, lW⟩⟩
    clear lW
    exact .inl ⟨by omega, rfl⟩
  ·refine vOrd_nil ?_
   refine Wp.seq ?_
   refine Wp.condF rfl rfl ?_
   refine Wp.exit ?_
   refine Wp.seq ?_
   refine wR [0, 1, 2] ?_
   refine sB ?_
   refine sS (fun w25 sw25 vw25 => ?_)
   refine sZ 1 ?_
   refine Wp.ret ⟨.inr rfl, fun lW => ⟨_, ⟨_, _, res_cell rfl rfl rfl rfl, res_tmp (P := Tryz.prog) rfl rfl, rfl⟩, _, rfl, ?_, lW⟩⟩
   clear lW
   exact .inl ⟨by omega, rfl⟩
end Go.Proofs.YthihioakjpmnbaaGreat
