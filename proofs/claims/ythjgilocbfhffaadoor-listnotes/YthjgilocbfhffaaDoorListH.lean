/-
  Leap second files: the program's Parse. Of any text of no more than 2^47 bytes.
-/
import Derived.Test.YthjgilocbfhffaaDoorListG
namespace Go.Proofs.YthjgilocbfhffaaDoor
open Go.RowKit
set_option maxRecDepth 100000

theorem run_eq_ints {P : Program} {t e : TypeId} {len d : Nat} {k : IntKind} {ii : TypeInfo} {xs ys : Array Value} {X Y : Nat → Int} (ht : P.underlying t = some (.array len e)) (he : P.underlying e = some (.int k)) (hi : P.info? e = some ii) (hs : ii.size = 1)
    (hx : ∀ i, i < len → xs[i]? = some (.int k (X i))) (hy : ∀ i, i < len → ys[i]? = some (.int k (Y i))) (w : World) : (Op.equalIn (d + 1 + 1) t (.agg xs) (.agg ys)).run P w = .ok ((List.range' 0 len).all fun i => decide (X i = Y i)) w := by
  obtain ⟨D, hD⟩ : ∃ D, d + 1 = D := ⟨_, rfl⟩
  rw [hD]
  have hel : ∀ m n w, (Op.equalIn D e (.int k m) (.int k n)).run P w = .ok (decide (m = n)) w := by
    subst hD; intro m n w; rw [run_equalIn_int w d e k k m n he]; simp; rfl
  have hpart : ∀ (zs : Array Value) (Z : Nat → Int), (∀ i, i < len → zs[i]? = some (.int k (Z i))) → ∀ i, i < len → ∀ w, (part e zs (i * 1)).run P w = .ok (.int k (Z i)) w := fun zs Z h i hi w => by
    simp [part, isAgg, run_underlying he, h i hi]
  have key : ∀ (L : List Nat), (∀ i ∈ L, i < len) → ∀ w, (forIn L ((none : Option Bool), ()) (fun i (_ : Option Bool × Unit) => do
      if (!(← Op.equalIn D e (← part e xs (i * 1)) (← part e ys (i * 1)))) = true then pure (ForInStep.done (some false, ())) else pure (ForInStep.yield (none, ()))) : Sem (Option Bool × Unit)).run P w = .ok (if (L.all fun i => decide (X i = Y i)) = true then none else some false, ()) w := by
    intro L
    induction L with
    | nil => intro _ w; simp
    | cons i L ih =>
      intro h w
      have hin := h i (by simp)
      have ih' := ih (fun j hj => h j (by simp [hj])) w
      simp only [List.forIn_cons, Sem.run_bind, hpart xs X hx i hin, hpart ys Y hy i hin, Result.andThen_ok, hel]
      cases q : decide (X i = Y i) with
      | true =>
        simp only [Bool.not_true, Bool.false_eq_true, if_false, Sem.run_pure, Result.andThen_ok]
        rw [ih']
        simp only [List.all_cons, q, Bool.true_and]
      | false =>
        simp only [Bool.not_false, if_true, Sem.run_pure, Result.andThen_ok]
        simp [q]
  simp only [Op.equalIn, Sem.run_bind, run_underlying ht, Result.andThen_ok]
  have hsz : (sizeOf e).run P w = .ok 1 w := by simp [sizeOf, typeInfo, hi, hs]
  rw [hsz]
  simp only [Result.andThen_ok, Std.Legacy.Range.forIn_eq_forIn_range', Std.Legacy.Range.size]
  have h5 : (len - 0 + 1 - 1) / 1 = len := by omega
  rw [h5]
  have := key (List.range' 0 len) (fun i hi => by simp at hi; omega) w
  rw [this]
  split <;> simp_all
theorem run_ne_words (a b : List Int) (ha : a.length = 5) (hb : b.length = 5) (w : World) : (binOp .neq 50 (wsV a) (wsV b)).run Tryd.prog w = .ok (.bool (!decide (a = b))) w := by
  have at5 : ∀ (c : List Int), c.length = 5 → ∀ i, i < 5 → (c.map (Value.int .u32)).toArray[i]? = some (.int .u32 (c.getD i 0)) := fun c hc i hi => by
    have := List.getElem?_eq_getElem (l := c) (i := i) (by omega)
    simp [List.getD, this]
  have h := run_eq_ints (P := Tryd.prog) (t := 50) (e := 49) (len := 5) (d := 9998) (k := .u32) (X := fun i => a.getD i 0) (Y := fun i => b.getD i 0) rfl rfl rfl rfl (at5 a ha) (at5 b hb) w
  have e : ((List.range' 0 5).all fun i => decide (a.getD i 0 = b.getD i 0)) = decide (a = b) := by
    match a, b, ha, hb with
    | [a0, a1, a2, a3, a4], [b0, b1, b2, b3, b4], _, _ =>
      simp [List.range', List.getD]
  rw [e] at h
  show (do pure (.bool (!(← Op.equal 50 (.agg (a.map (Value.int .u32)).toArray) (.agg (b.map (Value.int .u32)).toArray)))) : Sem Value).run Tryd.prog w = _
  simp only [Op.equal, Op.maxDepth, Sem.run_bind]
  rw [h]
  rfl

set_option maxHeartbeats 4000000 in
theorem parse_any (x : List UInt8) (hx0 : x.length ≤ 140737488351232) {w : World} (hT : Tab w) : Calls Tryd.prog 14 #[.string ⟨⟨x⟩⟩] w fun e w' => ∃ r, e = .returned r ∧ (∃ v, r = .tuple #[tbV (parseL x).1 v, .int .i64 (parseL x).2.1, .int .i64 (parseL x).2.2] ∧ EntAt w' v (parseL x).1.es) ∧ Below w.heap.size w w' := by
  refine calls_Wp (args := [_]) (n := 54) Tryd.func14 rfl rfl (by simp) ?_
  refine Wp.seq ?_
  refine Wp.region [0, 1, 2] (by kernel_rfl) (by kernel_rfl) ?_
  refine s_allocS ([.int .i64 0, .int .i64 0, .slice none 0 0]) rfl rfl rfl rfl (by kernel_rfl) (fun b2 wb2 kb2 lb2 => ?_)
  refine s_assign rfl rfl rfl rfl ?_
  refine s_assign rfl rfl rfl rfl ?_
  refine vOrd_nil ?_
  refine Wp.seq ?_
  refine Wp.seq ?_
  refine Wp.old (fun lo => ?_)
  have tb := hT.later lo
  clear lo
  refine Wp.region [0, 1, 2] (by kernel_rfl) (by kernel_rfl) ?_
  refine s_move rfl rfl rfl rfl ?_
  refine b_len rfl rfl rfl rfl rfl ?_
  refine p_gtr rfl rfl rfl rfl rfl (fun h12 => ?_) (fun h12 => ?_)
  · refine vOrd_nil ?_
    refine Wp.condT rfl rfl ?_
    refine Wp.seq ?_
    refine Wp.region [0, 1, 2, 3] (by kernel_rfl) (by kernel_rfl) ?_
    refine s_build rfl rfl rfl rfl rfl (by kernel_rfl) ?_
    refine s_store rfl rfl rfl rfl rfl rfl rfl (fun w2 sw2 vw2 => ?_)
    refine s_assign rfl rfl rfl rfl ?_
    refine s_assign rfl rfl rfl rfl ?_
    refine vOrd_nil ?_
    refine Wp.ret ⟨.inr rfl, fun lW => ⟨_, ⟨_, _, _, res_cell rfl rfl rfl rfl, res_tmp (P := Tryd.prog) rfl rfl, res_tmp (P := Tryd.prog) rfl rfl, rfl⟩, _, rfl, ?_, lW⟩⟩
    clear lW
    rw [parse_over (by omega)]
    exact ⟨_, rfl, EntAt.nil _⟩
  · have hx : x.length ≤ 65536 := by omega
    have hlle := lines_len x
    refine vOrd_nil ?_
    refine Wp.condF rfl rfl ?_
    refine Wp.skip ?_
    refine Wp.seq ?_
    refine Wp.var (h := 2) rfl (fun q2 => ?_)
    replace q2 := q2.lt
    refine Wp.region [0, 1, 2, 3] (by kernel_rfl) (by kernel_rfl) ?_
    refine s_makeMap (kt := 3) rfl rfl rfl (fun mb wm kmb lm hM0 => ?_)
    have hM : MapI wm mb 0 (fun _ => 0) := hM0
    clear hM0
    refine s_build rfl rfl rfl rfl rfl (by kernel_rfl) ?_
    refine s_allocS ([.int .i64 0, .int .i64 0, .slice none 0 0, .map none, .int .u32 0, .int .u32 0, .int .u32 0, .int .u32 0, .int .u32 0]) rfl rfl rfl rfl (by kernel_rfl) (fun b5 wb5 kb5 lb5 => ?_)
    have hmb5 : mb < b5 := by have := hM.lt; omega
    replace hM := hM.later lb5
    refine s_storeS rfl rfl rfl rfl rfl rfl (write_all (n := 9) (xs := fileC PS.zero (.slice none 0 0) mb 0 0 0 0 0) rfl rfl rfl rfl) (fun ws3 ss3 vs3 => ?_)
    replace hM := hM.sto ss3 (by omega)
    have hb5s := vs3.lt
    rw [← ss3.size] at hb5s
    refine vOrd_nil ?_
    refine Wp.seq ?_
    refine Wp.old (fun lo => ?_)
    have tb := hT.later lo
    clear lo
    refine Wp.region [0, 1, 2] (by kernel_rfl) (by kernel_rfl) ?_
    refine s_move rfl rfl rfl rfl ?_
    refine s_callT rfl rfl rfl (by kernel_rfl) rfl (lines_any x (by omega) _) ?_
    rintro v w13 hls lw13
    replace tb := tb.later lw13
    obtain ⟨la, lc, rfl, hln0⟩ := lines_own hls
    replace hM := hM.later lw13
    obtain ⟨B0, hB0⟩ : ∃ B0, B0 = w13.heap.size := ⟨_, rfl⟩
    have hB5 : b5 < B0 := by have := lw13.size; omega
    have hln : 0 < (linesL x).length → ∃ g cs, la = some ⟨g, 0, none⟩ ∧ Var w13 g cs ∧ cs.take (linesL x).length = strsV (linesL x) ∧ b5 < g ∧ g < B0 := fun h => by
      obtain ⟨g, cs, h1, h2, h3, h4⟩ := hln0 h
      exact ⟨g, cs, h1, h2, h3, by omega, by have := h2.lt; omega⟩
    clear hln0
    refine s_assign rfl rfl rfl rfl ?_
    refine vOrd_nil ?_
    refine Wp.seq ?_
    refine Wp.seq ?_
    refine Wp.old (fun lo => ?_)
    have tb := hT.later lo
    clear lo
    refine Wp.region [0, 1, 2] (by kernel_rfl) (by kernel_rfl) ?_
    refine s_move rfl rfl rfl rfl ?_
    refine x_len rfl rfl rfl rfl rfl ?_
    refine s_move rfl rfl rfl rfl ?_
    refine vOrd_nil ?_
    refine Wp.block ?_
    refine Wp.loop (fun k st W => ∃ (i : Nat) (p : Int) (s : PS) (F : Int → Int) (ea : Option Addr) (ec : Nat) (x0 x1 x2 x3 x4 : Int) (m : Nat), st = St.of [(2, .p 2 b2 0), (5, .p 5 b5 0), (6, .v (.slice la (linesL x).length lc)), (18, .v (.slice la (linesL x).length lc)), (19, .v (.int .i64 ((linesL x).length : Int))), (20, .v (.int .i64 p))] [(2, b2, [.int .i64 0, .int .i64 0, .slice none 0 0]), (5, b5, fileC s (.slice ea s.t.es.length ec) mb x0 x1 x2 x3 x4)] ∧ p = i ∧ i ≤ (linesL x).length ∧ runP ((linesL x).drop i) i s = runP (linesL x) 0 PS.zero ∧ s.Ok i ∧ SeenOf F s ∧ s.ws = [x0, x1, x2, x3, x4] ∧ MapI W mb m F ∧ m ≤ i ∧ W.ownsRow B0 43 2 (.slice ea s.t.es.length ec) s.t.es.length (entC s.t.es) ∧ B0 ≤ W.heap.size ∧ (0 < (linesL x).length → ∃ g cs, la = some ⟨g, 0, none⟩ ∧ Var W g cs ∧ cs.take (linesL x).length = strsV (linesL x) ∧ b5 < g ∧ g < B0) ∧ k = (linesL x).length - i) ?_ ?_
    · exact ⟨_, _, (St.of_le' (env := [(2, .p 2 _ 0), (5, .p 5 _ 0), (6, .v _), (18, .v _), (19, .v _), (20, .v _)]) (mem := [(2, _, [_, _, _]), (5, _, _)]) ⟨rfl, rfl, rfl, rfl, rfl, rfl, trivial⟩ ⟨rfl, rfl, trivial⟩), 0, _, PS.zero, (fun _ => 0), none, 0, 0, 0, 0, 0, 0, 0, rfl, rfl, Nat.zero_le _, rfl, PS.Ok.zero, ⟨rfl, rfl, rfl, rfl⟩, rfl, hM, Nat.le_refl _, ⟨rfl, .inl ⟨rfl, rfl⟩⟩, by omega, hln, rfl⟩
    · rintro k st w14 ⟨i, p, s, F, ea, ec, x0, x1, x2, x3, x4, m, rfl, rfl, hi, hrun, hso, hF, hws, hM, hm, hown, hsz, hln, rfl⟩
      refine Wp.seq ?_
      refine Wp.region [0] (by kernel_rfl) (by kernel_rfl) ?_
      refine p_lss rfl rfl rfl rfl rfl (fun h21 => ?_) (fun h21 => ?_)
      · obtain ⟨g, cs, rfl, hvl, hcs, hg1, hg2⟩ := hln (by omega)
        obtain ⟨l, hl⟩ := get_line (L := linesL x) (i := i) (by omega)
        have hll := lines_each x l (List.mem_of_getElem? hl)
        refine vOrd_nil ?_
        refine Wp.seq ?_
        refine Wp.condT rfl rfl ?_
        refine Wp.skip ?_
        refine Wp.seq ?_
        refine Wp.block ?_
        refine Wp.seq ?_
        refine Wp.region [0, 1, 2, 3, 4] (by kernel_rfl) (by kernel_rfl) ?_
        refine s_move rfl rfl rfl rfl ?_
        refine s_idx (sz := 1) i rfl rfl rfl rfl rfl rfl rfl (by omega) (by omega) (by omega) ?_
        refine x_ldc rfl rfl rfl rfl rfl (line_cell hvl hcs hl) ?_
        refine s_assign rfl rfl rfl rfl ?_
        refine s_assign rfl rfl rfl rfl ?_
        refine vOrd_nil ?_
        refine Wp.seq ?_
        refine Wp.old (fun lo => ?_)
        have tb := hT.later lo
        clear lo
        refine Wp.region [0, 1, 2, 3, 4] (by kernel_rfl) (by kernel_rfl) ?_
        refine s_move rfl rfl rfl rfl ?_
        refine a_add (-9223372036854775808) 9223372036854775807 (by decide) rfl rfl rfl rfl rfl (by omega) (by omega) ?_
        rw [show (i : Int) + 1 = ((i + 1 : Nat) : Int) by omega]
        refine s_move rfl rfl rfl rfl ?_
        refine s_callM (R := fun v cs w => ReadR s (i + 1) l mb m g B0 _ v cs w) 5 mb (fun g => Nat.beq g 2) rfl rfl rfl (by kernel_rfl) rfl rfl (Nat.le_of_lt hmb5) (by omega) (keep_1 rfl (by omega)) (fun vr => fread_any vr hws hM (by omega) hmb5 hF hso hown hB5 hsz hvl hg1 hg2 (by omega) (by omega)) ?_
        rintro _ cs8 w8 ⟨rfl, hok⟩ uw8 vw8
        refine s_assign rfl rfl rfl rfl ?_
        refine vOrd_nil ?_
        refine Wp.seq ?_
        refine Wp.region [0, 1] (by kernel_rfl) (by kernel_rfl) ?_
        refine s_move rfl rfl rfl rfl ?_
        refine p_neq rfl rfl rfl rfl rfl (fun h30 => ?_) (fun h30 => ?_)
        · have hst := err_ne (s := s) (n := i + 1) (l := l) (by omega)
          refine vOrd_nil ?_
          refine Wp.condT rfl rfl ?_
          refine Wp.seq ?_
          refine Wp.region [0, 1, 2, 3, 4, 5, 6] (by kernel_rfl) (by kernel_rfl) ?_
          refine s_build rfl rfl rfl rfl rfl (by kernel_rfl) ?_
          refine s_move rfl rfl rfl rfl ?_
          refine a_add (-9223372036854775808) 9223372036854775807 (by decide) rfl rfl rfl rfl rfl (by omega) (by omega) ?_
          rw [show (i : Int) + 1 = ((i + 1 : Nat) : Int) by omega]
          refine s_move rfl rfl rfl rfl ?_
          refine s_store rfl rfl rfl rfl rfl rfl rfl (fun w23 sw23 vw23 => ?_)
          refine s_assign rfl rfl rfl rfl ?_
          refine s_assign rfl rfl rfl rfl ?_
          refine vOrd_nil ?_
          refine Wp.ret ⟨.inr rfl, fun lW => ⟨_, ⟨_, _, _, res_cell rfl rfl rfl rfl, res_tmp (P := Tryd.prog) rfl rfl, res_tmp (P := Tryd.prog) rfl rfl, rfl⟩, _, rfl, ?_, lW⟩⟩
          clear lW
          rw [parse_no hx hrun hl hst]
          exact ⟨_, rfl, EntAt.nil _⟩
        · obtain ⟨s2, hst⟩ := err_ok (s := s) (n := i + 1) (l := l) (by omega)
          obtain ⟨ea2, ec2, y0, y1, y2, y3, y4, F2, rfl, hws2, hM2, hF2, hown2, hsz2, hvl2⟩ := hok s2 hst
          clear hok
          refine vOrd_nil ?_
          refine Wp.condF rfl rfl ?_
          refine Wp.skip ?_
          refine Wp.region [0, 1] (by kernel_rfl) (by kernel_rfl) ?_
          refine a_add (-9223372036854775808) 9223372036854775807 (by decide) rfl rfl rfl rfl rfl (by omega) (by omega) ?_
          refine s_move rfl rfl rfl rfl ?_
          refine vOrd_nil ?_
          exact ⟨_, _, by omega, (St.of_le' (env := [(2, .p 2 _ 0), (5, .p 5 _ 0), (6, .v _), (18, .v _), (19, .v _), (20, .v _)]) (mem := [(2, _, [_, _, _]), (5, _, _)]) ⟨rfl, rfl, rfl, rfl, rfl, rfl, trivial⟩ ⟨rfl, rfl, trivial⟩), i + 1, _, s2, F2, ea2, ec2, y0, y1, y2, y3, y4, m + 1, rfl, by omega, by omega, (run_ok hl hst).symm.trans hrun, hso.step (by omega) hst, hF2, hws2, hM2, by omega, hown2, hsz2, fun _ => ⟨g, cs, rfl, hvl2, hcs, hg1, hg2⟩, rfl⟩
      · have hie : i = (linesL x).length := by omega
        refine vOrd_nil ?_
        refine Wp.seq ?_
        refine Wp.condF rfl rfl ?_
        refine Wp.exit ?_
        refine Wp.seq ?_
        refine Wp.seq ?_
        refine Wp.var (h := 5) rfl (fun hv5 => ?_)
        refine Wp.old (fun lo => ?_)
        have tb := hT.later lo
        clear lo
        refine Wp.region [0, 1] (by kernel_rfl) (by kernel_rfl) ?_
        refine s_bs (e := 3) (cs := ([2, 3, 4, 5] : List Int).map (Value.int .i64)) rfl rfl rfl (fun _ => by kernel_rfl) ?_
        intro cbk wbk hcbk lbk hrowk
        replace hv5 := hv5.later lbk
        replace hown := own_later hown lbk
        replace hsz := Nat.le_trans hsz lbk.size
        replace hM := hM.later lbk
        refine s_callT rfl rfl rfl (by kernel_rfl) rfl (lacks_any (ks := [2, 3, 4, 5]) hv5 rfl hM hrowk (fun q hq => by simp only [List.mem_cons, List.not_mem_nil, or_false] at hq; omega) (by simp)) ?_
        rintro v w30 rfl lw30
        replace hown := own_later hown lw30
        replace hsz := Nat.le_trans hsz lw30.size
        replace hM := hM.later lw30
        rcases Bool.eq_false_or_eq_true ((([2, 3, 4, 5] : List Int).any fun k => decide (F k = 0))) with h37 | h37
        · rw [h37]
          simp only [List.any_cons, List.any_nil, Bool.or_false, Bool.or_eq_true, decide_eq_true_eq] at h37
          refine vOrd_nil ?_
          refine Wp.condT rfl rfl ?_
          refine Wp.seq ?_
          refine Wp.old (fun lo => ?_)
          have tb := hT.later lo
          clear lo
          refine Wp.region [0, 1, 2, 3, 4, 5, 6] (by kernel_rfl) (by kernel_rfl) ?_
          refine s_build rfl rfl rfl rfl rfl (by kernel_rfl) ?_
          refine s_move rfl rfl rfl rfl ?_
          refine x_len rfl rfl rfl rfl rfl ?_
          refine a_add (-9223372036854775808) 9223372036854775807 (by decide) rfl rfl rfl rfl rfl (by omega) (by omega) ?_
          refine s_store rfl rfl rfl rfl rfl rfl rfl (fun w31 sw31 vw31 => ?_)
          replace hown := own_sto hown sw31 (own_ne hown (.inl (by omega)))
          replace hsz := Nat.le_trans hsz (Nat.le_of_eq sw31.size.symm)
          replace hM := hM.sto sw31 (by omega)
          refine s_assign rfl rfl rfl rfl ?_
          refine s_assign rfl rfl rfl rfl ?_
          refine vOrd_nil ?_
          refine Wp.ret ⟨.inr rfl, fun lW => ⟨_, ⟨_, _, _, res_cell rfl rfl rfl rfl, res_tmp (P := Tryd.prog) rfl rfl, res_tmp (P := Tryd.prog) rfl rfl, rfl⟩, _, rfl, ?_, lW⟩⟩
          clear lW
          rw [parse_end hx hrun hie, end_lacks (by have := hF.s2; have := hF.s3; have := hF.s4; have := hF.s5; omega)]
          exact ⟨_, rfl, EntAt.nil _⟩
        · rw [h37]
          simp only [List.any_cons, List.any_nil, Bool.or_false, Bool.or_eq_false_iff, decide_eq_false_iff_not] at h37
          have hnz : ¬ (s.a2 = 0 ∨ s.a3 = 0 ∨ s.a4 = 0 ∨ s.a5 = 0) := by have := hF.s2; have := hF.s3; have := hF.s4; have := hF.s5; omega
          have hcan := hso.can (by omega)
          have hu := hso.u
          have he := hso.e
          refine vOrd_nil ?_
          refine Wp.condF rfl rfl ?_
          refine Wp.skip ?_
          refine Wp.seq ?_
          refine Wp.seq ?_
          refine Wp.old (fun lo => ?_)
          have tb := hT.later lo
          clear lo
          refine (Wp.drawn (by kernel_rfl) (by kernel_rfl) [0, 1, 2, 3, 4, 5] [28, 29, 0, 0, 0, 0] (by kernel_rfl) (by kernel_rfl) (fun | 4 => fun v _ => v = wsV (sumL s.t) | _ => fun _ _ => True) (fun wd ld => ?_))
          replace tb := tb.later ld
          replace hown := own_later hown ld
          replace hsz := Nat.le_trans hsz ld.size
          replace hM := hM.later ld
          clear ld
          refine s_field 4 rfl rfl rfl rfl rfl ?_
          refine s_load rfl rfl rfl rfl rfl rfl rfl ?_
          refine s_field 0 rfl rfl rfl rfl rfl ?_
          refine s_load rfl rfl rfl rfl rfl rfl rfl ?_
          refine s_callD rfl rfl rfl (by kernel_rfl) rfl (fun wc lc => psum_any s.t hcan (by unfold I64; omega) (by unfold I64; omega) ((ents_own hown hso.es).later lc) (tb.later lc)) ?_
          rintro v w32 u32 rfl lw32 mw32
          replace tb := (tb.later lw32).later mw32
          replace hown := own_later hown lw32
          replace hsz := Nat.le_trans hsz lw32.size
          replace hM := hM.later lw32
          replace hown := own_later hown mw32
          replace hsz := Nat.le_trans hsz mw32.size
          replace hM := hM.later mw32
          refine s_eqv (c := !decide ([x0, x1, x2, x3, x4] = sumL s.t)) rfl rfl rfl rfl rfl (fun _ => by kernel_rfl) (fun w => run_ne_words [x0, x1, x2, x3, x4] (sumL s.t) rfl (sumL_len _) w) ?_
          refine vOrd_nil ?_
          refine Wp.cond rfl (okOpd_spec rfl) (fun c47 => ?_) (fun c47 => ?_)
          · have hne : s.ws ≠ sumL s.t := by rw [hws]; simpa using c47
            refine Wp.seq ?_
            refine Wp.drawnX (by kernel_rfl) (by kernel_rfl) (by kernel_rfl) [0, 1] 5 #[true, true, false, false, false, false, false] rfl (by kernel_rfl) (by kernel_rfl) (fun wd ld => ?_)
            replace hown := own_later hown ld
            replace hsz := Nat.le_trans hsz ld.size
            replace hM := hM.later ld
            refine s_build rfl rfl rfl rfl rfl (by kernel_rfl) ?_
            refine s_field 3 rfl rfl rfl rfl rfl ?_
            refine vOrd_nil ?_
            refine vTree_two (i := 2) (k := 4) (L1 := #[true, true, true, false, false, false, false]) (L2 := #[true, true, false, false, true, false, false]) (by kernel_rfl) (by kernel_rfl) (by kernel_rfl) ?_ ?_
            · refine s_load rfl rfl rfl rfl rfl rfl rfl ?_
              refine vOrd_nil ?_
              refine vTree_two (i := 3) (k := 4) (L1 := #[true, true, true, true, false, false, false]) (L2 := #[true, true, true, false, true, false, false]) (by kernel_rfl) (by kernel_rfl) (by kernel_rfl) ?_ ?_
              · refine x_lookup (kt := 3) rfl rfl rfl rfl rfl rfl rfl Tryd.zeroValue3 (by decide) hM ?_
                refine vOrd_nil ?_
                refine vTree_one (i := 4) (L := #[true, true, true, true, true, false, false]) (by kernel_rfl) (by kernel_rfl) ?_
                refine s_store rfl rfl rfl rfl rfl rfl rfl (fun w35 sw35 vw35 => ?_)
                replace hown := own_sto hown sw35 (own_ne hown (.inl (by omega)))
                replace hsz := Nat.le_trans hsz (Nat.le_of_eq sw35.size.symm)
                replace hM := hM.sto sw35 (by omega)
                refine vOrd_nil ?_
                refine vTree_one (i := 5) (L := #[true, true, true, true, true, true, false]) (by kernel_rfl) (by kernel_rfl) ?_
                refine s_assign rfl rfl rfl rfl ?_
                refine vOrd_nil ?_
                refine vTree_one (i := 6) (L := #[true, true, true, true, true, true, true]) (by kernel_rfl) (by kernel_rfl) ?_
                refine s_assign rfl rfl rfl rfl ?_
                refine vOrd_nil ?_
                refine vTree_end (by kernel_rfl) ?_
                refine Wp.ret ⟨.inr rfl, fun lW => ⟨_, ⟨_, _, _, res_cell rfl rfl rfl rfl, res_tmp (P := Tryd.prog) rfl rfl, res_tmp (P := Tryd.prog) rfl rfl, rfl⟩, _, rfl, ?_, lW⟩⟩
                clear lW
                rw [parse_end hx hrun hie, end_hash hnz hne, hF.s4]
                exact ⟨_, rfl, EntAt.nil _⟩
              · refine s_store rfl rfl rfl rfl rfl rfl rfl (fun w36 sw36 vw36 => ?_)
                replace hown := own_sto hown sw36 (own_ne hown (.inl (by omega)))
                replace hsz := Nat.le_trans hsz (Nat.le_of_eq sw36.size.symm)
                replace hM := hM.sto sw36 (by omega)
                refine vOrd_nil ?_
                refine vTree_one (i := 3) (L := #[true, true, true, true, true, false, false]) (by kernel_rfl) (by kernel_rfl) ?_
                refine x_lookup (kt := 3) rfl rfl rfl rfl rfl rfl rfl Tryd.zeroValue3 (by decide) hM ?_
                refine vOrd_nil ?_
                refine vTree_one (i := 5) (L := #[true, true, true, true, true, true, false]) (by kernel_rfl) (by kernel_rfl) ?_
                refine s_assign rfl rfl rfl rfl ?_
                refine vOrd_nil ?_
                refine vTree_one (i := 6) (L := #[true, true, true, true, true, true, true]) (by kernel_rfl) (by kernel_rfl) ?_
                refine s_assign rfl rfl rfl rfl ?_
                refine vOrd_nil ?_
                refine vTree_end (by kernel_rfl) ?_
                refine Wp.ret ⟨.inr rfl, fun lW => ⟨_, ⟨_, _, _, res_cell rfl rfl rfl rfl, res_tmp (P := Tryd.prog) rfl rfl, res_tmp (P := Tryd.prog) rfl rfl, rfl⟩, _, rfl, ?_, lW⟩⟩
                clear lW
                rw [parse_end hx hrun hie, end_hash hnz hne, hF.s4]
                exact ⟨_, rfl, EntAt.nil _⟩
            · refine s_store rfl rfl rfl rfl rfl rfl rfl (fun w38 sw38 vw38 => ?_)
              replace hown := own_sto hown sw38 (own_ne hown (.inl (by omega)))
              replace hsz := Nat.le_trans hsz (Nat.le_of_eq sw38.size.symm)
              replace hM := hM.sto sw38 (by omega)
              refine vOrd_nil ?_
              refine vTree_one (i := 2) (L := #[true, true, true, false, true, false, false]) (by kernel_rfl) (by kernel_rfl) ?_
              refine s_load rfl rfl rfl rfl rfl rfl rfl ?_
              refine vOrd_nil ?_
              refine vTree_one (i := 3) (L := #[true, true, true, true, true, false, false]) (by kernel_rfl) (by kernel_rfl) ?_
              refine x_lookup (kt := 3) rfl rfl rfl rfl rfl rfl rfl Tryd.zeroValue3 (by decide) hM ?_
              refine vOrd_nil ?_
              refine vTree_one (i := 5) (L := #[true, true, true, true, true, true, false]) (by kernel_rfl) (by kernel_rfl) ?_
              refine s_assign rfl rfl rfl rfl ?_
              refine vOrd_nil ?_
              refine vTree_one (i := 6) (L := #[true, true, true, true, true, true, true]) (by kernel_rfl) (by kernel_rfl) ?_
              refine s_assign rfl rfl rfl rfl ?_
              refine vOrd_nil ?_
              refine vTree_end (by kernel_rfl) ?_
              refine Wp.ret ⟨.inr rfl, fun lW => ⟨_, ⟨_, _, _, res_cell rfl rfl rfl rfl, res_tmp (P := Tryd.prog) rfl rfl, res_tmp (P := Tryd.prog) rfl rfl, rfl⟩, _, rfl, ?_, lW⟩⟩
              clear lW
              rw [parse_end hx hrun hie, end_hash hnz hne, hF.s4]
              exact ⟨_, rfl, EntAt.nil _⟩
          · have heq : s.ws = sumL s.t := by rw [hws]; simpa using c47
            refine Wp.skip ?_
            refine Wp.seq ?_
            refine Wp.region [0, 1, 2, 3, 4] (by kernel_rfl) (by kernel_rfl) ?_
            refine s_field 0 rfl rfl rfl rfl rfl ?_
            refine s_load rfl rfl rfl rfl rfl rfl rfl ?_
            refine s_store rfl rfl rfl rfl rfl rfl rfl (fun w40 sw40 vw40 => ?_)
            replace hown := own_sto hown sw40 (own_ne hown (.inl (by omega)))
            replace hsz := Nat.le_trans hsz (Nat.le_of_eq sw40.size.symm)
            replace hM := hM.sto sw40 (by omega)
            refine s_assign rfl rfl rfl rfl ?_
            refine s_assign rfl rfl rfl rfl ?_
            refine vOrd_nil ?_
            refine Wp.ret ⟨.inr rfl, fun lW => ⟨_, ⟨_, _, _, res_cell rfl rfl rfl rfl, res_tmp (P := Tryd.prog) rfl rfl, res_tmp (P := Tryd.prog) rfl rfl, rfl⟩, _, rfl, ?_, lW⟩⟩
            clear lW
            rw [parse_end hx hrun hie, end_ok hnz heq]
            exact ⟨_, rfl, ents_own hown hso.es⟩
end Go.Proofs.YthjgilocbfhffaaDoor
