/-
  The contracts of lex.Lines, of what it calls of package strings, and of the reference's Lines. Of texts of no more than 2^21 bytes.
-/
import Derived.Test.YthjgilocbfhffaaDoorLexS
namespace Go.Proofs.YthjgilocbfhffaaDoor
open Go.RowKit
set_option maxRecDepth 100000

def strsV (L : List (List UInt8)) : List Value := L.map fun x => .string ⟨⟨x⟩⟩
theorem strsV_len (L : List (List UInt8)) : (strsV L).length = L.length := by simp [strsV]
theorem strsV_app (a b : List (List UInt8)) : strsV (a ++ b) = strsV a ++ strsV b := by simp [strsV]
theorem own_nil (w : World) (base : Nat) (e : TypeId) : w.ownsRow base e 1 (.slice none 0 0) 0 [] := ⟨rfl, .inl ⟨rfl, rfl⟩⟩
theorem rest_lt {m : List UInt8} (h : m ≠ []) : ((m.dropWhile no10).drop 1).length < m.length := by
  have h1 := tw_len no10 m
  have h2 : 0 < m.length := List.length_pos_iff.2 h
  rw [List.length_drop]
  omega
theorem sep_len : ((([10] : List UInt8).length : Nat) : Int) = 1 := rfl
theorem indexByteLite_any (l : List UInt8) (z : Int) (hz : Lib.indexByte l 10 = z) (w : World) :
    Calls Tryd.prog 89 #[.string ⟨⟨l⟩⟩, .int .u8 10] w fun e w' => ∃ r, e = .returned r ∧ r = .int .i64 z ∧ Below w.heap.size w w' := by
  subst hz
  refine calls_Wp (args := [_, _]) (n := 8) Tryd.func89 rfl rfl (by simp) ?_
  refine Wp.seq ?_
  refine Wp.region [0] (by kernel_rfl) (by kernel_rfl) ?_
  refine s_assign rfl rfl rfl rfl ?_
  refine vOrd_nil ?_
  refine Wp.seq ?_
  refine Wp.region [0, 1, 2, 3] (by kernel_rfl) (by kernel_rfl) ?_
  refine s_move rfl rfl rfl rfl ?_
  refine s_move rfl rfl rfl rfl ?_
  refine x_ext rfl rfl rfl rfl (fun w => run_index Tryd.func99 rfl rfl (by kernel_rfl) (by kernel_rfl) l 10 w) ?_
  refine s_assign rfl rfl rfl rfl ?_
  refine vOrd_nil ?_
  refine Wp.ret ⟨.inr rfl, fun lW => ⟨_, res_tmp (P := Tryd.prog) rfl rfl, _, rfl, ?_, lW⟩⟩
  clear lW
  rfl
theorem indexLite_any (l : List UInt8) (z : Int) (hz : Lib.indexByte l 10 = z) (w : World) :
    Calls Tryd.prog 75 #[.string ⟨⟨l⟩⟩, .string ⟨⟨[10]⟩⟩] w fun e w' => ∃ r, e = .returned r ∧ r = .int .i64 z ∧ Below w.heap.size w w' := by
  refine calls_Wp (args := [_, _]) (n := 143) Tryd.func75 rfl rfl (by simp) ?_
  refine Wp.seq ?_
  refine Wp.region [0] (by kernel_rfl) (by kernel_rfl) ?_
  refine s_assign rfl rfl rfl rfl ?_
  refine vOrd_nil ?_
  refine Wp.seq ?_
  refine Wp.region [0, 1, 2] (by kernel_rfl) (by kernel_rfl) ?_
  refine s_move rfl rfl rfl rfl ?_
  refine b_len rfl rfl rfl rfl rfl ?_
  refine s_assign rfl rfl rfl rfl ?_
  refine vOrd_nil ?_
  refine Wp.seq ?_
  refine Wp.block ?_
  refine Wp.seq ?_
  refine Wp.region [0, 1, 2, 3, 4, 5, 6, 7] (by kernel_rfl) (by kernel_rfl) ?_
  refine s_move rfl rfl rfl rfl ?_
  refine f_eql rfl rfl rfl rfl rfl (by rw [sep_len]; decide) ?_
  refine s_move rfl rfl rfl rfl ?_
  refine s_move rfl rfl rfl rfl ?_
  refine s_move rfl rfl rfl rfl ?_
  refine b_eq rfl rfl rfl rfl rfl (fun h22 => ?_) (fun h22 => ?_)
  · refine s_pick rfl rfl rfl rfl rfl ?_
    refine s_assign rfl rfl rfl rfl ?_
    refine vOrd_nil ?_
    refine Wp.condT rfl rfl ?_
    refine Wp.seq ?_
    refine Wp.region [0] (by kernel_rfl) (by kernel_rfl) ?_
    refine s_assign rfl rfl rfl rfl ?_
    refine vOrd_nil ?_
    refine Wp.ret ⟨.inr rfl, fun lW => ⟨_, res_tmp (P := Tryd.prog) rfl rfl, _, rfl, ?_, lW⟩⟩
    clear lW
    rw [← hz, ← h22]
    rfl
  · refine s_pick rfl rfl rfl rfl rfl ?_
    refine s_assign rfl rfl rfl rfl ?_
    refine vOrd_nil ?_
    refine Wp.condF rfl rfl ?_
    refine Wp.seq ?_
    refine Wp.region [0, 1, 2] (by kernel_rfl) (by kernel_rfl) ?_
    refine s_move rfl rfl rfl rfl ?_
    refine t_eql rfl rfl rfl rfl rfl (by rw [sep_len]) ?_
    refine s_assign rfl rfl rfl rfl ?_
    refine vOrd_nil ?_
    refine Wp.condT rfl rfl ?_
    refine Wp.seq ?_
    refine Wp.region [0, 1, 2, 3, 4] (by kernel_rfl) (by kernel_rfl) ?_
    refine s_move rfl rfl rfl rfl ?_
    refine s_move rfl rfl rfl rfl ?_
    refine b_byte rfl rfl rfl rfl rfl rfl (by omega) ((rfl : ([10] : List UInt8)[Int.toNat 0]? = some 10)) ?_
    refine s_callT rfl rfl rfl (by kernel_rfl) rfl (indexByteLite_any l z hz _) ?_
    rintro v w1 rfl lw1
    refine s_assign rfl rfl rfl rfl ?_
    refine vOrd_nil ?_
    refine Wp.ret ⟨.inr rfl, fun lW => ⟨_, res_tmp (P := Tryd.prog) rfl rfl, _, rfl, ?_, lW⟩⟩
    clear lW
    rfl
theorem cutLite_any (l : List UInt8) (hl : l.length ≤ 2097152) (w : World) :
    Calls Tryd.prog 57 #[.string ⟨⟨l⟩⟩, .string ⟨⟨[10]⟩⟩] w fun e w' => ∃ r, e = .returned r ∧ (∃ f, r = .tuple #[.string ⟨⟨l.takeWhile no10⟩⟩, .string ⟨⟨(l.dropWhile no10).drop 1⟩⟩, .bool f]) ∧ Below w.heap.size w w' := by
  obtain ⟨z, hz⟩ : ∃ z, Lib.indexByte l 10 = z := ⟨_, rfl⟩
  have hge := Lib.indexByte_ge l 10
  have hsl := sep_len
  refine calls_Wp (args := [_, _]) (n := 23) Tryd.func57 rfl rfl (by simp) ?_
  refine Wp.seq ?_
  refine Wp.region [0, 1, 2] (by kernel_rfl) (by kernel_rfl) ?_
  refine s_assign rfl rfl rfl rfl ?_
  refine s_assign rfl rfl rfl rfl ?_
  refine s_assign rfl rfl rfl rfl ?_
  refine vOrd_nil ?_
  refine Wp.seq ?_
  refine Wp.seq ?_
  refine Wp.region [0, 1, 2, 3] (by kernel_rfl) (by kernel_rfl) ?_
  refine s_move rfl rfl rfl rfl ?_
  refine s_move rfl rfl rfl rfl ?_
  refine s_callT rfl rfl rfl (by kernel_rfl) rfl (indexLite_any l z hz _) ?_
  rintro v w1 rfl lw1
  refine s_assign rfl rfl rfl rfl ?_
  refine vOrd_nil ?_
  refine Wp.seq ?_
  refine Wp.region [0, 1] (by kernel_rfl) (by kernel_rfl) ?_
  refine s_move rfl rfl rfl rfl ?_
  refine p_geq rfl rfl rfl rfl rfl (fun h12 => ?_) (fun h12 => ?_)
  · obtain ⟨t1, t2, t3⟩ := index_at hz h12
    have hbig : z + 1 ≤ 9223372036854775807 := by omega
    refine vOrd_nil ?_
    refine Wp.condT rfl rfl ?_
    refine Wp.seq ?_
    refine (Wp.drawn (by kernel_rfl) (by kernel_rfl) [0, 1, 2, 3, 4, 5, 9, 6, 7, 8, 10, 11] [506, 505, 507, 759, 623, 543, 511, 0, 0, 0, 0, 0] (by kernel_rfl) (by kernel_rfl) (fun | 6 => fun v _ => v = .int .i64 (([10] : List UInt8).length : Int) | _ => fun _ _ => True) (fun _ _ => ?_))
    refine s_move rfl rfl rfl rfl ?_
    refine s_move rfl rfl rfl rfl ?_
    refine b_to rfl rfl rfl rfl rfl rfl (by omega) (by omega) ?_
    refine s_move rfl rfl rfl rfl ?_
    refine s_move rfl rfl rfl rfl ?_
    refine s_move rfl rfl rfl rfl ?_
    refine s_assign rfl rfl rfl rfl ?_
    refine b_lenD rfl rfl rfl rfl rfl (fun _ => rfl) (fun _ _ h => h) (fun w9 lw9 => ?_)
    refine a_add (-9223372036854775808) 9223372036854775807 (by decide) rfl rfl rfl rfl rfl (by omega) (by omega) ?_
    refine b_from rfl rfl rfl rfl rfl rfl (by omega) (by omega) ?_
    refine s_assign rfl rfl rfl rfl ?_
    refine s_assign rfl rfl rfl rfl ?_
    refine vOrd_nil ?_
    refine Wp.ret ⟨.inr rfl, fun lW => ⟨_, ⟨_, _, _, res_tmp (P := Tryd.prog) rfl rfl, res_tmp (P := Tryd.prog) rfl rfl, res_tmp (P := Tryd.prog) rfl rfl, rfl⟩, _, rfl, ?_, lW⟩⟩
    clear lW
    rw [t1, t2, show z.toNat + 1 = (z + (([10] : List UInt8).length : Int)).toNat by omega]
    exact ⟨_, rfl⟩
  · refine vOrd_nil ?_
    refine Wp.condF rfl rfl ?_
    refine Wp.skip ?_
    refine Wp.seq ?_
    refine Wp.region [0, 1, 2, 3] (by kernel_rfl) (by kernel_rfl) ?_
    refine s_move rfl rfl rfl rfl ?_
    refine s_assign rfl rfl rfl rfl ?_
    refine s_assign rfl rfl rfl rfl ?_
    refine s_assign rfl rfl rfl rfl ?_
    refine vOrd_nil ?_
    refine Wp.ret ⟨.inr rfl, fun lW => ⟨_, ⟨_, _, _, res_tmp (P := Tryd.prog) rfl rfl, res_tmp (P := Tryd.prog) rfl rfl, res_tmp (P := Tryd.prog) rfl rfl, rfl⟩, _, rfl, ?_, lW⟩⟩
    clear lW
    obtain ⟨t1, t2⟩ := index_no (l := l) (by omega)
    rw [t1, t2]
    exact ⟨_, rfl⟩
theorem cut_any (l : List UInt8) (hl : l.length ≤ 2097152) (w : World) :
    Calls Tryd.prog 38 #[.string ⟨⟨l⟩⟩, .string ⟨⟨[10]⟩⟩] w fun e w' => ∃ r, e = .returned r ∧ (∃ f, r = .tuple #[.string ⟨⟨l.takeWhile no10⟩⟩, .string ⟨⟨(l.dropWhile no10).drop 1⟩⟩, .bool f]) ∧ Below w.heap.size w w' := by
  refine calls_Wp (args := [_, _]) (n := 13) Tryd.func38 rfl rfl (by simp) ?_
  refine Wp.seq ?_
  refine Wp.region [0, 1, 2] (by kernel_rfl) (by kernel_rfl) ?_
  refine s_assign rfl rfl rfl rfl ?_
  refine s_assign rfl rfl rfl rfl ?_
  refine s_assign rfl rfl rfl rfl ?_
  refine vOrd_nil ?_
  refine Wp.seq ?_
  refine Wp.region [0, 1, 2, 3, 4, 5, 6, 7, 8] (by kernel_rfl) (by kernel_rfl) ?_
  refine s_move rfl rfl rfl rfl ?_
  refine s_move rfl rfl rfl rfl ?_
  refine s_callT rfl rfl rfl (by kernel_rfl) rfl (cutLite_any l hl _) ?_
  rintro v w1 ⟨f, rfl⟩ lw1
  refine s_extract rfl rfl rfl rfl rfl ?_
  refine s_extract rfl rfl rfl rfl rfl ?_
  refine s_extract rfl rfl rfl rfl rfl ?_
  refine s_assign rfl rfl rfl rfl ?_
  refine s_assign rfl rfl rfl rfl ?_
  refine s_assign rfl rfl rfl rfl ?_
  refine vOrd_nil ?_
  refine Wp.ret ⟨.inr rfl, fun lW => ⟨_, ⟨_, _, _, res_tmp (P := Tryd.prog) rfl rfl, res_tmp (P := Tryd.prog) rfl rfl, res_tmp (P := Tryd.prog) rfl rfl, rfl⟩, _, rfl, ?_, lW⟩⟩
  clear lW
  exact ⟨_, rfl⟩
theorem made_len (n : Nat) : (madeCells (Value.int .u8 0).cells (n * 1)).toList.length = n := by rw [Array.length_toList, size_madeCells]; simp
theorem cloneLite_any (l : List UInt8) (hl : l.length ≤ 2097152) (w : World) :
    Calls Tryd.prog 58 #[.string ⟨⟨l⟩⟩] w fun e w' => ∃ r, e = .returned r ∧ r = .string ⟨⟨l⟩⟩ ∧ Below w.heap.size w w' := by
  refine calls_Wp (args := [_]) (n := 18) Tryd.func58 rfl rfl (by simp) ?_
  refine Wp.seq ?_
  refine Wp.region [0] (by kernel_rfl) (by kernel_rfl) ?_
  refine s_assign rfl rfl rfl rfl ?_
  refine vOrd_nil ?_
  refine Wp.seq ?_
  refine Wp.seq ?_
  refine Wp.region [0, 1, 2] (by kernel_rfl) (by kernel_rfl) ?_
  refine s_move rfl rfl rfl rfl ?_
  refine b_len rfl rfl rfl rfl rfl ?_
  refine p_eql rfl rfl rfl rfl rfl (fun h6 => ?_) (fun h6 => ?_)
  · refine vOrd_nil ?_
    refine Wp.condT rfl rfl ?_
    refine Wp.seq ?_
    refine Wp.region [0] (by kernel_rfl) (by kernel_rfl) ?_
    refine s_assign rfl rfl rfl rfl ?_
    refine vOrd_nil ?_
    refine Wp.ret ⟨.inr rfl, fun lW => ⟨_, res_tmp (P := Tryd.prog) rfl rfl, _, rfl, ?_, lW⟩⟩
    clear lW
    rw [show l = [] from List.eq_nil_of_length_eq_zero (by omega)]
  · have hne : l ≠ [] := fun e => h6 (by rw [e]; rfl)
    refine vOrd_nil ?_
    refine Wp.condF rfl rfl ?_
    refine Wp.skip ?_
    refine Wp.seq ?_
    refine Wp.region [0, 1, 2, 3] (by kernel_rfl) (by kernel_rfl) ?_
    refine s_move rfl rfl rfl rfl ?_
    refine b_len rfl rfl rfl rfl rfl ?_
    refine s_make (k1 := .i64) (k2 := .i64) (n := l.length) (e := 5) rfl rfl rfl rfl rfl rfl rfl rfl (by show (1 : Int) * _ ≤ _; omega) (by omega) ?_
    intro c1 w1 hc1 l1 hrow1
    refine s_assign rfl rfl rfl rfl ?_
    refine vOrd_nil ?_
    refine Wp.seq ?_
    refine Wp.region [0, 1, 2] (by kernel_rfl) (by kernel_rfl) ?_
    refine s_move rfl rfl rfl rfl ?_
    refine s_move rfl rfl rfl rfl ?_
    refine x_copyS rfl rfl rfl rfl rfl rfl rfl hrow1 (made_len _) rfl (by omega) (by repeat (first | exact AllMem.of trivial | exact AllMem.args | refine AllMem.put ?_)) ?_
    intro w2 hrow2 hg2
    refine vOrd_nil ?_
    refine Wp.seq ?_
    refine Wp.region [0, 1, 2, 3, 4, 5] (by kernel_rfl) (by kernel_rfl) ?_
    refine s_move rfl rfl rfl rfl ?_
    refine s_idx (sz := 1) 0 rfl rfl rfl rfl rfl rfl rfl (by omega) (by omega) (by omega) ?_
    refine s_move rfl rfl rfl rfl ?_
    refine x_len rfl rfl rfl rfl rfl ?_
    refine x_unsafeS rfl rfl rfl rfl rfl rfl (by kernel_rfl) hrow2 hne (by omega) (by omega) (by repeat (first | exact AllMem.of trivial | exact AllMem.args | refine AllMem.put ?_)) ?_
    intro w3 hg3
    refine s_assign rfl rfl rfl rfl ?_
    refine vOrd_nil ?_
    refine Wp.ret ⟨.inr rfl, fun lW => ⟨_, res_tmp (P := Tryd.prog) rfl rfl, _, rfl, ?_, lW⟩⟩
    clear lW
    rfl
theorem clone_any (l : List UInt8) (hl : l.length ≤ 2097152) (w : World) :
    Calls Tryd.prog 39 #[.string ⟨⟨l⟩⟩] w fun e w' => ∃ r, e = .returned r ∧ r = .string ⟨⟨l⟩⟩ ∧ Below w.heap.size w w' := by
  refine calls_Wp (args := [_]) (n := 5) Tryd.func39 rfl rfl (by simp) ?_
  refine Wp.seq ?_
  refine Wp.region [0] (by kernel_rfl) (by kernel_rfl) ?_
  refine s_assign rfl rfl rfl rfl ?_
  refine vOrd_nil ?_
  refine Wp.seq ?_
  refine Wp.region [0, 1, 2] (by kernel_rfl) (by kernel_rfl) ?_
  refine s_move rfl rfl rfl rfl ?_
  refine s_callT rfl rfl rfl (by kernel_rfl) rfl (cloneLite_any l hl _) ?_
  rintro v w1 rfl lw1
  refine s_assign rfl rfl rfl rfl ?_
  refine vOrd_nil ?_
  refine Wp.ret ⟨.inr rfl, fun lW => ⟨_, res_tmp (P := Tryd.prog) rfl rfl, _, rfl, ?_, lW⟩⟩
  clear lW
  rfl
theorem lines_any (l : List UInt8) (hl : l.length ≤ 2097152) (w : World) :
    Calls Tryd.prog 27 #[.string ⟨⟨l⟩⟩] w fun e w' => ∃ r, e = .returned r ∧ w'.ownsRow w.heap.size 9 1 r (linesL l).length (strsV (linesL l)) ∧ Below w.heap.size w w' := by
  refine calls_Wp (args := [_]) (n := 22) Tryd.func27 rfl rfl (by simp) ?_
  refine Wp.seq ?_
  refine Wp.region [0] (by kernel_rfl) (by kernel_rfl) ?_
  refine s_assign rfl rfl rfl rfl ?_
  refine vOrd_nil ?_
  refine Wp.seq ?_
  refine Wp.region [0] (by kernel_rfl) (by kernel_rfl) ?_
  refine s_assign rfl rfl rfl rfl ?_
  refine vOrd_nil ?_
  refine Wp.seq ?_
  refine Wp.block ?_
  refine Wp.loop (fun k st w1 => ∃ (m : List UInt8) (dn : List (List UInt8)) (v : Value), st = St.of [(0, .v (.string ⟨⟨m⟩⟩)), (3, .v v)] [] ∧ w1.ownsRow w.heap.size 9 1 v (dn).length (strsV (dn)) ∧ dn ++ linesL m = linesL l ∧ m.length ≤ l.length ∧ k = m.length) ?_ ?_
  · exact ⟨_, _, (St.of_le' (env := [(0, .v _), (3, .v _)]) (mem := []) ⟨rfl, rfl, trivial⟩ trivial), l, [], _, rfl, own_nil _ _ _, rfl, Nat.le_refl _, rfl⟩
  · rintro k st w1 ⟨m, dn, v, rfl, hown, hdn, hm, rfl⟩
    refine Wp.seq ?_
    refine Wp.seq ?_
    refine Wp.region [0, 1] (by kernel_rfl) (by kernel_rfl) ?_
    refine s_move rfl rfl rfl rfl ?_
    refine b_ne rfl rfl rfl rfl rfl (fun h8 => ?_) (fun h8 => ?_)
    · refine vOrd_nil ?_
      refine Wp.condT rfl rfl ?_
      refine Wp.skip ?_
      refine Wp.block ?_
      refine Wp.seq ?_
      refine Wp.old (fun lo => ?_)
      have z0 := lo.size
      have hdl : dn.length ≤ l.length := by have h1 := congrArg List.length hdn; rw [List.length_append] at h1; have h2 := lines_len l; omega
      have htl := tw_len no10 m
      refine Wp.region [0, 1, 2, 3, 4, 5, 6, 7, 8] (by kernel_rfl) (by kernel_rfl) ?_
      refine s_move rfl rfl rfl rfl ?_
      refine s_callT rfl rfl rfl (by kernel_rfl) rfl (cut_any m (by omega) _) ?_
      rintro v w2 ⟨f, rfl⟩ lw2
      replace hown := own_later hown lw2
      have z1 := lw2.size
      refine s_move rfl rfl rfl rfl ?_
      refine s_extract rfl rfl rfl rfl rfl ?_
      refine s_extract rfl rfl rfl rfl rfl ?_
      refine s_extract rfl rfl rfl rfl rfl ?_
      refine s_assign rfl rfl rfl rfl ?_
      refine s_assign rfl rfl rfl rfl ?_
      refine s_assign rfl rfl rfl rfl ?_
      refine vOrd_nil ?_
      refine Wp.seq ?_
      refine Wp.region [0, 1, 2, 3, 4, 5] (by kernel_rfl) (by kernel_rfl) ?_
      refine s_move rfl rfl rfl rfl ?_
      refine s_move rfl rfl rfl rfl ?_
      refine s_callT rfl rfl rfl (by kernel_rfl) rfl (clone_any (m.takeWhile no10) (by omega) _) ?_
      rintro v w3 rfl lw3
      replace hown := own_later hown lw3
      have z2 := lw3.size
      refine s_bs (e := 9) (cs := [.string ⟨⟨m.takeWhile no10⟩⟩]) rfl rfl rfl (fun _ => by kernel_rfl) ?_
      intro cb wb hcb lb hrow
      have zb := lb.size
      refine x_append (base := w.heap.size) (sz := 1) (bs := 16) (n := (dn).length) (xs := strsV (dn)) rfl rfl rfl rfl rfl rfl rfl rfl rfl rfl rfl (by decide) (own_later hown lb) hrow rfl rfl (by omega) (by omega) (by omega) (Nat.le_refl _) (by intro h b cs e; cases e) ?_
      intro v5 w5 hown5 hg5
      refine s_assign rfl rfl rfl rfl ?_
      refine vOrd_nil ?_
      refine Wp.region [0, 1] (by kernel_rfl) (by kernel_rfl) ?_
      refine s_move rfl rfl rfl rfl ?_
      refine s_assign rfl rfl rfl rfl ?_
      refine vOrd_nil ?_
      exact ⟨_, _, rest_lt h8, (St.of_le' (env := [(0, .v _), (3, .v _)]) (mem := []) ⟨rfl, rfl, trivial⟩ trivial), _, dn ++ [m.takeWhile no10], _, rfl, by rw [List.length_append, strsV_app]; exact hown5, by rw [← hdn, lines_cut h8, List.append_assoc]; rfl, by have := rest_lt h8; omega, rfl⟩
    · refine vOrd_nil ?_
      refine Wp.condF rfl rfl ?_
      refine Wp.exit ?_
      refine Wp.seq ?_
      refine Wp.region [0, 1] (by kernel_rfl) (by kernel_rfl) ?_
      refine s_move rfl rfl rfl rfl ?_
      refine s_assign rfl rfl rfl rfl ?_
      refine vOrd_nil ?_
      refine Wp.ret ⟨.inr rfl, fun lW => ⟨_, res_tmp (P := Tryd.prog) rfl rfl, _, rfl, ?_, lW⟩⟩
      clear lW
      rw [h8, show linesL [] = [] from rfl, List.append_nil] at hdn
      rw [← hdn]
      exact hown
theorem ref_cut {l : List UInt8} {a i : Nat} {c : UInt8} (ha : a ≤ i) (hc : l[i]? = some c) (h10 : c.toNat = 10) (hall : ((l.drop a).take (i - a)).all no10 = true) : linesL (l.drop a) = (l.take i).drop a :: linesL (l.drop (i + 1)) := by
  have e1 : (l.drop a).take (i - a) = (l.take i).drop a := List.drop_take.symm
  have hi := (List.getElem?_eq_some_iff.1 hc).1
  have e2 : l.drop a = (l.take i).drop a ++ c :: l.drop (i + 1) := by
    have h1 : l = l.take i ++ c :: l.drop (i + 1) := by
      rw [← (List.getElem?_eq_some_iff.1 hc).2, List.getElem_cons_drop, List.take_append_drop]
    have h2 := congrArg (List.drop a) h1
    rwa [List.drop_append_of_le_length (by rw [List.length_take]; omega)] at h2
  have e3 : c = 10 := UInt8.toNat_inj.1 h10
  rw [e1] at hall
  rw [e2, e3, lines_app hall]
theorem ref_more {l : List UInt8} {a i : Nat} {c : UInt8} (ha : a ≤ i) (hc : l[i]? = some c) (h10 : ¬ c.toNat = 10) (hall : ((l.drop a).take (i - a)).all no10 = true) : ((l.drop a).take (i + 1 - a)).all no10 = true := by
  rw [show i + 1 - a = (i - a) + 1 by omega]
  exact all_snoc hall (by rw [List.getElem?_drop, show a + (i - a) = i by omega]; exact hc) (by simp [no10, h10])
theorem ref_last {l : List UInt8} {a i : Nat} (hi : i = l.length) (ha : a < l.length) (hall : ((l.drop a).take (i - a)).all no10 = true) : linesL (l.drop a) = [l.drop a] := by
  rw [List.take_of_length_le (by rw [List.length_drop]; omega)] at hall
  exact lines_one hall (fun e => by have := congrArg List.length e; rw [List.length_drop] at this; simp at this; omega)
theorem reflines_any (l : List UInt8) (hl : l.length ≤ 2097152) (w : World) :
    Calls Tryd.prog 19 #[.string ⟨⟨l⟩⟩] w fun e w' => ∃ r, e = .returned r ∧ w'.ownsRow w.heap.size 9 1 r (linesL l).length (strsV (linesL l)) ∧ Below w.heap.size w w' := by
  refine calls_Wp (args := [_]) (n := 36) Tryd.func19 rfl rfl (by simp) ?_
  refine Wp.seq ?_
  refine Wp.region [0] (by kernel_rfl) (by kernel_rfl) ?_
  refine s_assign rfl rfl rfl rfl ?_
  refine vOrd_nil ?_
  refine Wp.seq ?_
  refine Wp.region [0] (by kernel_rfl) (by kernel_rfl) ?_
  refine s_assign rfl rfl rfl rfl ?_
  refine vOrd_nil ?_
  refine Wp.seq ?_
  refine Wp.region [0] (by kernel_rfl) (by kernel_rfl) ?_
  refine s_assign rfl rfl rfl rfl ?_
  refine vOrd_nil ?_
  refine Wp.seq ?_
  refine Wp.seq ?_
  refine Wp.region [0] (by kernel_rfl) (by kernel_rfl) ?_
  refine s_assign rfl rfl rfl rfl ?_
  refine vOrd_nil ?_
  refine Wp.block ?_
  refine Wp.loop (fun k st w1 => ∃ (i a : Nat) (ai : Int) (dn : List (List UInt8)) (v : Value), st = St.of [(0, .v (.string ⟨⟨l⟩⟩)), (3, .v v), (4, .v (.int .i64 ai)), (5, .v (.int .i64 i))] [] ∧ ai = a ∧ w1.ownsRow w.heap.size 9 1 v (dn).length (strsV (dn)) ∧ dn ++ linesL (l.drop a) = linesL l ∧ a ≤ i ∧ i ≤ l.length ∧ ((l.drop a).take (i - a)).all no10 = true ∧ k = l.length - i) ?_ ?_
  · exact ⟨_, _, (St.of_le' (env := [(0, .v _), (3, .v _), (4, .v _), (5, .v _)]) (mem := []) ⟨rfl, rfl, rfl, rfl, trivial⟩ trivial), 0, 0, _, [], _, rfl, rfl, own_nil _ _ _, rfl, Nat.le_refl _, by omega, rfl, rfl⟩
  · rintro k st w1 ⟨i, a, ai, dn, v, rfl, hai, hown, hdn, ha, hi, hall, rfl⟩
    refine Wp.seq ?_
    refine Wp.seq ?_
    refine Wp.region [0, 1, 2, 3] (by kernel_rfl) (by kernel_rfl) ?_
    refine s_move rfl rfl rfl rfl ?_
    refine s_move rfl rfl rfl rfl ?_
    refine b_len rfl rfl rfl rfl rfl ?_
    refine p_lss rfl rfl rfl rfl rfl (fun h9 => ?_) (fun h9 => ?_)
    · refine vOrd_nil ?_
      refine Wp.condT rfl rfl ?_
      refine Wp.skip ?_
      refine Wp.seq ?_
      refine Wp.block ?_
      refine Wp.seq ?_
      obtain ⟨c, hc⟩ := get_some (l := l) (i := i) (by omega)
      refine Wp.region [0, 1, 2, 3] (by kernel_rfl) (by kernel_rfl) ?_
      refine s_move rfl rfl rfl rfl ?_
      refine s_move rfl rfl rfl rfl ?_
      refine b_byte rfl rfl rfl rfl rfl rfl (by omega) (hc) ?_
      refine p_eql rfl rfl rfl rfl rfl (fun h15 => ?_) (fun h15 => ?_)
      · refine vOrd_nil ?_
        refine Wp.condT rfl rfl ?_
        refine Wp.seq ?_
        refine Wp.old (fun lo => ?_)
        have z0 := lo.size
        have hdl : dn.length ≤ l.length := by have h1 := congrArg List.length hdn; rw [List.length_append] at h1; have h2 := lines_len l; omega
        have ex : (l.take i).drop a = (l.take (i : Int).toNat).drop ai.toNat := by rw [show ai.toNat = a by omega]; rfl
        refine Wp.region [0, 1, 2, 3, 4, 5, 6, 7] (by kernel_rfl) (by kernel_rfl) ?_
        refine s_move rfl rfl rfl rfl ?_
        refine s_move rfl rfl rfl rfl ?_
        refine s_move rfl rfl rfl rfl ?_
        refine s_move rfl rfl rfl rfl ?_
        refine b_part rfl rfl rfl rfl rfl rfl rfl (by omega) (by omega) (by omega) ?_
        rw [← ex]
        refine s_bs (e := 9) (cs := [.string ⟨⟨(l.take i).drop a⟩⟩]) rfl rfl rfl (fun _ => by kernel_rfl) ?_
        intro cb wb hcb lb hrow
        have zb := lb.size
        refine x_append (base := w.heap.size) (sz := 1) (bs := 16) (n := (dn).length) (xs := strsV (dn)) rfl rfl rfl rfl rfl rfl rfl rfl rfl rfl rfl (by decide) (own_later hown lb) hrow rfl rfl (by omega) (by omega) (by omega) (Nat.le_refl _) (by intro h b cs e; cases e) ?_
        intro v5 w5 hown5 hg5
        refine s_assign rfl rfl rfl rfl ?_
        refine vOrd_nil ?_
        refine Wp.region [0, 1, 2] (by kernel_rfl) (by kernel_rfl) ?_
        refine s_move rfl rfl rfl rfl ?_
        refine a_add (-9223372036854775808) 9223372036854775807 (by decide) rfl rfl rfl rfl rfl (by omega) (by omega) ?_
        refine s_assign rfl rfl rfl rfl ?_
        refine vOrd_nil ?_
        refine Wp.region [0, 1, 2] (by kernel_rfl) (by kernel_rfl) ?_
        refine s_move rfl rfl rfl rfl ?_
        refine a_add (-9223372036854775808) 9223372036854775807 (by decide) rfl rfl rfl rfl rfl (by omega) (by omega) ?_
        refine s_assign rfl rfl rfl rfl ?_
        refine vOrd_nil ?_
        exact ⟨_, _, by omega, (St.of_le' (env := [(0, .v _), (3, .v _), (4, .v _), (5, .v _)]) (mem := []) ⟨rfl, rfl, rfl, rfl, trivial⟩ trivial), i + 1, i + 1, _, dn ++ [(l.take i).drop a], _, rfl, by omega, by rw [List.length_append, strsV_app]; exact hown5, by rw [← hdn, ref_cut ha hc (by omega) hall, List.append_assoc]; rfl, Nat.le_refl _, by omega, by simp, rfl⟩
      · refine vOrd_nil ?_
        refine Wp.condF rfl rfl ?_
        refine Wp.skip ?_
        refine Wp.region [0, 1, 2] (by kernel_rfl) (by kernel_rfl) ?_
        refine s_move rfl rfl rfl rfl ?_
        refine a_add (-9223372036854775808) 9223372036854775807 (by decide) rfl rfl rfl rfl rfl (by omega) (by omega) ?_
        refine s_assign rfl rfl rfl rfl ?_
        refine vOrd_nil ?_
        exact ⟨_, _, by omega, (St.of_le' (env := [(0, .v _), (3, .v _), (4, .v _), (5, .v _)]) (mem := []) ⟨rfl, rfl, rfl, rfl, trivial⟩ trivial), i + 1, a, _, dn, _, rfl, hai, hown, hdn, by omega, by omega, ref_more ha hc (by omega) hall, rfl⟩
    · refine vOrd_nil ?_
      refine Wp.condF rfl rfl ?_
      refine Wp.exit ?_
      refine Wp.seq ?_
      refine Wp.seq ?_
      refine Wp.region [0, 1, 2, 3] (by kernel_rfl) (by kernel_rfl) ?_
      refine s_move rfl rfl rfl rfl ?_
      refine s_move rfl rfl rfl rfl ?_
      refine b_len rfl rfl rfl rfl rfl ?_
      refine p_lss rfl rfl rfl rfl rfl (fun h28 => ?_) (fun h28 => ?_)
      · refine vOrd_nil ?_
        refine Wp.condT rfl rfl ?_
        refine Wp.old (fun lo => ?_)
        have z0 := lo.size
        have hdl : dn.length ≤ l.length := by have h1 := congrArg List.length hdn; rw [List.length_append] at h1; have h2 := lines_len l; omega
        have ex : l.drop a = l.drop ai.toNat := by rw [show ai.toNat = a by omega]
        refine Wp.region [0, 1, 2, 3, 4, 5, 6] (by kernel_rfl) (by kernel_rfl) ?_
        refine s_move rfl rfl rfl rfl ?_
        refine s_move rfl rfl rfl rfl ?_
        refine s_move rfl rfl rfl rfl ?_
        refine b_from rfl rfl rfl rfl rfl rfl (by omega) (by omega) ?_
        rw [← ex]
        refine s_bs (e := 9) (cs := [.string ⟨⟨l.drop a⟩⟩]) rfl rfl rfl (fun _ => by kernel_rfl) ?_
        intro cb wb hcb lb hrow
        have zb := lb.size
        refine x_append (base := w.heap.size) (sz := 1) (bs := 16) (n := (dn).length) (xs := strsV (dn)) rfl rfl rfl rfl rfl rfl rfl rfl rfl rfl rfl (by decide) (own_later hown lb) hrow rfl rfl (by omega) (by omega) (by omega) (Nat.le_refl _) (by intro h b cs e; cases e) ?_
        intro v5 w5 hown5 hg5
        refine s_assign rfl rfl rfl rfl ?_
        refine vOrd_nil ?_
        refine Wp.seq ?_
        refine Wp.region [0, 1] (by kernel_rfl) (by kernel_rfl) ?_
        refine s_move rfl rfl rfl rfl ?_
        refine s_assign rfl rfl rfl rfl ?_
        refine vOrd_nil ?_
        refine Wp.ret ⟨.inr rfl, fun lW => ⟨_, res_tmp (P := Tryd.prog) rfl rfl, _, rfl, ?_, lW⟩⟩
        clear lW
        rw [ref_last (i := i) (by omega) (by omega) hall] at hdn
        rw [← hdn, List.length_append, strsV_app]
        exact hown5
      · refine vOrd_nil ?_
        refine Wp.condF rfl rfl ?_
        refine Wp.skip ?_
        refine Wp.seq ?_
        refine Wp.region [0, 1] (by kernel_rfl) (by kernel_rfl) ?_
        refine s_move rfl rfl rfl rfl ?_
        refine s_assign rfl rfl rfl rfl ?_
        refine vOrd_nil ?_
        refine Wp.ret ⟨.inr rfl, fun lW => ⟨_, res_tmp (P := Tryd.prog) rfl rfl, _, rfl, ?_, lW⟩⟩
        clear lW
        rw [List.drop_of_length_le (by omega), show linesL [] = [] from rfl, List.append_nil] at hdn
        rw [← hdn]
        exact hown
end Go.Proofs.YthjgilocbfhffaaDoor
