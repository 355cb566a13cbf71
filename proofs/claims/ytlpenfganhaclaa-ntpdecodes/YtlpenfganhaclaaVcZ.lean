/-
  More of the small logic: whole arrays (read_all, write_all, s_allocS, s_boxS, res_cellS), an element of an array that is a value (s_idxV), slices of arrays of the call's own (s_sliceO, s_sliceF), of bytes that are handed in (x_fromB), copy (x_copyB), '^' (a_com32), and some arithmetic of bits. No conditions.
-/
import Derived.Test.YtlpenfganhaclaaVcY
import Derived.Laws.CopyRow
import Derived.Laws.Unary
namespace Go.Proofs.Ytlpenfganhaclaa
open Go.RowKit

theorem read_all {P : Program} {t : TypeId} {cs : List Value} {n : Nat} (ha : isAggT P t = some true) (hs : (P.info? t).map (·.size) = some n) (hn : cs.length = n) : readOf P t cs 0 = some (.agg cs.toArray) := by
  unfold readOf
  cases hp : P.info? t with
  | none => rw [hp] at hs; cases hs
  | some i =>
    rw [hp] at hs
    simp only [Option.map_some, Option.some.injEq] at hs
    simp only [ha]
    rw [if_pos (by omega), List.drop_zero, hs, ← hn, List.take_length]
theorem write_all {P : Program} {t : TypeId} {cs xs : List Value} {n : Nat} (hs : (P.info? t).map (·.size) = some n) (hn : cs.length = n) (hx : xs.length = n) (h1 : xs.all (·.oneCell') = true) : writeOf P t cs 0 (.agg xs.toArray) = some xs := by
  unfold writeOf
  cases hp : P.info? t with
  | none => rw [hp] at hs; cases hs
  | some i =>
    rw [hp] at hs
    simp only [Option.map_some, Option.some.injEq] at hs
    simp only [Value.cells]
    rw [if_pos ⟨by simp; omega, by omega, h1⟩, if_pos ⟨trivial, by omega⟩]
section
variable {P : Program} {B : Nat} {lax : Bool} {ops : Array Oper} {Rs : Nat → Value → World → Prop} {K : St → World → Prop} {i : Nat} {rest : List Nat} {st : St} {w : World}
variable {d : Nat} {ty : TypeId} {pos : String} {aft : Array Edge} {g : Option (Nat × Bool)}
theorem s_allocS {t : TypeId} {z : Value} (cs : List Value) (ho : ops[i]? = some ⟨some d, .alloc t, ty, pos, aft, g⟩) (hg : gok ops st g = true) (hm : st.mem d = none) (hz : zeroOf P t = some z) (hc : z.cells.toList = cs)
    (h : ∀ b w', w.heap.size ≤ b → Later w w' → vOrd P B lax ops Rs K rest (st.new d b cs) w') : vOrd P B lax ops Rs K (i :: rest) st w := by
  subst hc
  exact vOrd_op ho hg ⟨rfl, rfl, d, z, rfl, hm, hz, h⟩
theorem s_boxS {t : TypeId} {x : Operand} {cs : List Value} (ho : ops[i]? = some ⟨some d, .box t x, ty, pos, aft, g⟩) (hg : gok ops st g = true) (hk : known st ⟨some d, .box t x, ty, pos, aft, g⟩ = true) (hm : st.mem d = none) (hx : st.ev x = .v (.agg cs.toArray))
    (h : ∀ b w', w.heap.size ≤ b → Later w w' → vOrd P B lax ops Rs K rest (st.new d b cs) w') : vOrd P B lax ops Rs K (i :: rest) st w := by
  have e : st.rho x = .agg cs.toArray := by rw [St.rho, hx]; rfl
  refine vOrd_op ho hg ⟨hk, rfl, d, rfl, hm, fun b w' h1 h2 => ?_⟩
  rw [e]
  exact h b w' h1 h2
theorem res_cellS {p t h b off : Nat} {cs : List Value} {v : Value} (h1 : st.env p = some (.p h b off)) (h2 : st.mem h = some (b, cs)) (h3 : readOf P t cs off = some v) : Res1 P st (.cell p t) v :=
  ⟨h, b, off, cs, h1, h2, h3⟩
/-- An element of an array that is a value. -/
theorem s_idxV {t e : TypeId} {x ix : Operand} {xs : Array Value} {n : Nat} {k : IntKind} {j : Int} {v : Value} (ho : ops[i]? = some ⟨some d, .index t x ix, ty, pos, aft, g⟩) (hg : gok ops st g = true) (hk : known st ⟨some d, .index t x ix, ty, pos, aft, g⟩ = true)
    (hx : st.ev x = .v (.agg xs)) (hi : st.ev ix = .v (.int k j)) (hu : P.underlying t = some (.array n e)) (hs : (P.info? e).map (·.size) = some 1) (ha : isAggT P e = some false) (h0 : 0 ≤ j) (h1 : j < n) (hv : xs[j.toNat]? = some v)
    (h : vOrd P B lax ops Rs K rest (st.put (some d) (.v v)) w) : vOrd P B lax ops Rs K (i :: rest) st w := by
  have ex : st.rho x = .agg xs := by rw [St.rho, hx]; rfl
  have ey : st.rho ix = .int k j := by rw [St.rho, hi]; rfl
  refine s_val ho hg rfl hk (fun w => ?_) h
  cases hp : P.info? e with
  | none => rw [hp] at hs; cases hs
  | some ii =>
    rw [hp] at hs
    simp only [Option.map_some, Option.some.injEq] at hs
    have hagg : (isAgg e).run P w = .ok false w := by
      unfold isAggT at ha
      cases hu : P.underlying e with
      | none => rw [hu] at ha; cases ha
      | some de =>
        rw [hu, Option.map_some, Option.some.injEq] at ha
        unfold isAgg
        rw [Sem.run_bind, run_underlying hu w]
        cases de <;> simp [aggD] at ha ⊢
    simp [execOp, ex, ey, Instr.index, asIntOf, run_underlying hu w, h0, h1, sizeOf, typeInfo, hp, hs, part, Sem.run_bind, hagg, hv]
/-- An array of the call's own as a slice; what of it begins at an index. -/
theorem s_sliceO {t e : TypeId} {x : Operand} {q b n sz : Nat} (ho : ops[i]? = some ⟨some d, .slice t x none none none, ty, pos, aft, g⟩) (hg : gok ops st g = true) (hk : known st ⟨some d, .slice t x none none none, ty, pos, aft, g⟩ = true) (hx : st.ev x = .p q b 0) (hu : P.underlying t = some (.array n e)) (hs : (P.info? e).map (·.size) = some sz)
    (h : vOrd P B lax ops Rs K rest (st.put (some d) (.v (.slice (some ⟨b, 0, none⟩) n n))) w) : vOrd P B lax ops Rs K (i :: rest) st w := by
  refine s_val ho hg rfl hk (fun w => ?_) h
  have ex : st.rho x = .pointer (some ⟨b, 0, none⟩) := by rw [St.rho, hx]; rfl
  cases hp : P.info? e with
  | none => rw [hp] at hs; cases hs
  | some ii => simp [execOp, ex, Instr.sliceAt, Instr.sureAddr, Instr.sliceBounds, run_underlying hu w, sizeOf, typeInfo, hp, addr_add]
theorem s_sliceF {t e : TypeId} {x y : Operand} {q b n : Nat} {k : IntKind} {j : Int} (ho : ops[i]? = some ⟨some d, .slice t x (some y) none none, ty, pos, aft, g⟩) (hg : gok ops st g = true) (hk : known st ⟨some d, .slice t x (some y) none none, ty, pos, aft, g⟩ = true) (hx : st.ev x = .p q b 0) (hy : st.ev y = .v (.int k j)) (hu : P.underlying t = some (.array n e)) (hs : (P.info? e).map (·.size) = some 1) (h0 : 0 ≤ j) (h1 : j < n)
    (h : vOrd P B lax ops Rs K rest (st.put (some d) (.v (.slice (some ⟨b, j.toNat, none⟩) (n - j.toNat) (n - j.toNat)))) w) : vOrd P B lax ops Rs K (i :: rest) st w := by
  refine s_val ho hg rfl hk (fun w => ?_) h
  have ex : st.rho x = .pointer (some ⟨b, 0, none⟩) := by rw [St.rho, hx]; rfl
  have ey : st.rho y = .int k j := by rw [St.rho, hy]; rfl
  have h2 : ¬ n = j.toNat := by omega
  cases hp : P.info? e with
  | none => rw [hp] at hs; cases hs
  | some ii =>
    rw [hp] at hs
    simp only [Option.map_some, Option.some.injEq] at hs
    simp [execOp, ex, ey, Instr.sliceAt, Instr.sureAddr, Instr.sliceBounds, run_sliceBound w k j n _ h0 (by omega), run_underlying hu w, sizeOf, typeInfo, hp, hs, h2, addr_add]
/-- What of bytes that are handed in begins at an index. -/
theorem x_fromB {t e : TypeId} {x y : Operand} {u : Value} {l : List UInt8} {k : IntKind} {j : Int} (ho : ops[i]? = some ⟨some d, .slice t x (some y) none none, ty, pos, aft, g⟩) (hg : gok ops st g = true) (hk : known st ⟨some d, .slice t x (some y) none none, ty, pos, aft, g⟩ = true) (hx : st.ev x = .v u) (hb : BytesAt w u l) (hy : st.ev y = .v (.int k j)) (hu : P.underlying t = some (.slice e)) (hs : (P.info? e).map (·.size) = some 1) (h0 : 0 ≤ j) (h1 : j ≤ l.length)
    (h : ∀ v, BytesAt w v (l.drop j.toNat) → vOrd P B lax ops Rs K rest (st.put (some d) (.v v)) w) : vOrd P B lax ops Rs K (i :: rest) st w := by
  rcases hb with ⟨b, off, c, rfl, hc, hcell⟩ | ⟨rfl, rfl⟩
  · refine x_from (sz := 1) ho hg hk hx hy hu hs h0 h1 hc (fun off' ho' => h _ (.inl ⟨b, off', c - j.toNat, by rw [List.length_drop], by rw [List.length_drop]; omega, fun m z hz => ?_⟩))
    rw [List.getElem?_drop] at hz
    have hm := (List.getElem?_eq_some_iff.1 hz).1
    rw [ho' (by omega), Nat.mul_one, Nat.add_assoc]
    exact hcell _ _ hz
  · have ej : j = 0 := by simp at h1; omega
    subst ej
    have ex : st.rho x = .slice none 0 0 := by rw [St.rho, hx]; rfl
    have ey : st.rho y = .int k 0 := by rw [St.rho, hy]; rfl
    refine s_val ho hg rfl hk (fun w => ?_) (h (.slice none 0 0) (.inr ⟨rfl, by simp⟩))
    cases hp : P.info? e with
    | none => rw [hp] at hs; cases hs
    | some ii => simp [execOp, ex, ey, Instr.sliceAt, Instr.slice, Instr.sliceBounds, run_sliceBound w k 0 0 _ (by omega) (by omega), run_underlying hu w, sizeOf, typeInfo, hp]
/-- copy of bytes that are handed in to the beginning of an array of the call's own, that is no variable while that goes on. -/
theorem x_copyB {t s e : TypeId} {x y : Operand} {u : Value} {b n c : Nat} {cs : List Value} {l : List UInt8} (ho : ops[i]? = some ⟨some d, .call ⟨.builtin .copy, #[x, y], #[t, s]⟩, ty, pos, aft, g⟩) (hg : gok ops st g = true) (hk : known st ⟨some d, .call ⟨.builtin .copy, #[x, y], #[t, s]⟩, ty, pos, aft, g⟩ = true)
    (hx : st.ev x = .v (.slice (some ⟨b, 0, none⟩) n c)) (hy : st.ev y = .v u) (ht : P.underlying t = some (.slice e)) (hs : (P.info? e).map (·.size) = some 1) (hv : Var w b cs) (hn : cs.length = n) (hb : BytesAt w u l) (hl : l.length ≤ n) (hB : B ≤ b) (ha : AllMem (· ≠ b) st)
    (h : ∀ w', Var w' b (bytesV l ++ cs.drop l.length) → w.grownBy w' (some b) → vOrd P B true ops Rs K rest (st.put (some d) (.v (.int .i64 l.length))) w') : vOrd P B true ops Rs K (i :: rest) st w := by
  have ex : st.rho x = .slice (some ⟨b, 0, none⟩) n c := by rw [St.rho, hx]; rfl
  have ey : st.rho y = u := by rw [St.rho, hy]; rfl
  have ha' : ∀ q b' cs', st.mem q = some (b', cs') → some b ≠ some b' := fun q b' cs' e z => ha q b' cs' e (by simpa using z.symm)
  rcases hb with ⟨b', off, c', rfl, _, hcell⟩ | ⟨rfl, rfl⟩
  · obtain ⟨tt, hg'⟩ := hv
    have hr := run_copy_row (P := P) w t s ty e b 0 n c ⟨b', off, none⟩ l.length c' cs.toArray tt (bytesV l) ht hs hg' (by rw [bytesV_len]; exact (Nat.min_eq_left hl).symm) (fun j y hj => by
      obtain ⟨q, h1, rfl⟩ := bytes_cell hj
      rw [addr_add]; exact hcell j q h1) (by rw [bytesV_len]; simp; omega) (bytes_one l)
    rw [bytesV_len] at hr
    simp only [List.take_zero, List.nil_append, Nat.zero_add] at hr
    have hgr := grown_of_stored (Stored.setRow b w (bytesV l ++ cs.drop l.length).toArray)
    refine ⟨_, ho, .inr ⟨rfl, hg, hk, rfl, .inr (.inr (.inl (fun _ => ⟨_, _, some b, ?_, hgr, fun k e => by rw [Option.some.injEq] at e; omega, ha', h _ ⟨tt, setRow_heap w b cs.toArray _ tt _ hg'⟩ hgr⟩)))⟩⟩
    simp [execOp, ex, ey, resolve, invoke, builtin, hr, goInt]
  · have hr := run_copy_nil (P := P) w t s ty e ⟨b, 0, none⟩ n c ht (by rw [hs]; rfl)
    have hgr : w.grownBy w (some b) := ⟨rfl, rfl, rfl, Nat.le_refl _, fun _ _ _ => rfl⟩
    refine ⟨_, ho, .inr ⟨rfl, hg, hk, rfl, .inr (.inr (.inl (fun _ => ⟨_, _, some b, ?_, hgr, fun k e => by rw [Option.some.injEq] at e; omega, ha', h w (by simpa [bytesV] using hv) hgr⟩)))⟩⟩
    simp [execOp, ex, ey, resolve, invoke, builtin, hr, goInt]
theorem xor_ones {a : Int} (h0 : 0 ≤ a) (h1 : a ≤ 4294967295) : bXor 4294967295 a = 4294967295 - a := by
  obtain ⟨A, rfl⟩ := Int.eq_ofNat_of_zero_le h0
  have e : (BitVec.allOnes 32 ^^^ BitVec.ofNat 32 A).toNat = 4294967295 - A := by
    rw [BitVec.allOnes_xor, BitVec.toNat_not, BitVec.toNat_ofNat, Nat.mod_eq_of_lt (by omega)]
  rw [BitVec.toNat_xor, BitVec.toNat_allOnes, BitVec.toNat_ofNat, Nat.mod_eq_of_lt (by omega)] at e
  unfold bXor
  rw [show (4294967295 : Int).toNat = 2 ^ 32 - 1 from rfl, Int.toNat_natCast, e]
  omega
/-- '^' of a number of 32 bits. -/
theorem a_com32 {t : TypeId} {x : Operand} {a : Int} (ho : ops[i]? = some ⟨some d, .unOp .xor t x, ty, pos, aft, g⟩) (hg : gok ops st g = true) (hk : known st ⟨some d, .unOp .xor t x, ty, pos, aft, g⟩ = true) (hx : st.ev x = .v (.int .u32 a)) (h0 : 0 ≤ a) (h1 : a ≤ 4294967295)
    (h : vOrd P B lax ops Rs K rest (st.put (some d) (.v (.int .u32 (4294967295 - a)))) w) : vOrd P B lax ops Rs K (i :: rest) st w := by
  refine s_val ho hg rfl hk (fun w => ?_) h
  have ex : st.rho x = .int .u32 a := by rw [St.rho, hx]; rfl
  have e := run_xor (k := .u32) (m := 32) (hi := 4294967295) (a := 4294967295) (b := a) (by decide) (by decide) (by decide) h0 h1
  rw [xor_ones h0 h1] at e
  have e2 : Op.unary .xor (.int .u32 a) = Op.intBits .xor .u32 4294967295 a := rfl
  simp [execOp, ex, e2, e]
end
theorem or_part {A C n : Nat} (h : C < 2 ^ n) : bOr ((2 ^ n * A : Nat) : Int) (C : Int) = ((2 ^ n * A + C : Nat) : Int) := by
  unfold bOr
  rw [Int.toNat_natCast, Int.toNat_natCast, Nat.two_pow_add_eq_or_of_lt h]
/-- 'or' of what has no bit in common. -/
theorem or_choose {b c d : Int} (b0 : 0 ≤ b) (b1 : b ≤ 4294967295) (c0 : 0 ≤ c) (c1 : c ≤ 4294967295) (d0 : 0 ≤ d) (d1 : d ≤ 4294967295) : bOr (bAnd b c) (bAnd (4294967295 - b) d) = bAnd b c + bAnd (4294967295 - b) d := by
  obtain ⟨X, rfl⟩ := Int.eq_ofNat_of_zero_le b0
  obtain ⟨Y, rfl⟩ := Int.eq_ofNat_of_zero_le c0
  obtain ⟨Z, rfl⟩ := Int.eq_ofNat_of_zero_le d0
  have e1 : ((4294967295 : Int) - (X : Int)).toNat = 4294967295 - X := by omega
  have h1 : X &&& Y ≤ X := Nat.and_le_left
  have h2 : (4294967295 - X) &&& Z ≤ 4294967295 - X := Nat.and_le_left
  have key := BitVec.add_eq_or_of_and_eq_zero (BitVec.ofNat 32 X &&& BitVec.ofNat 32 Y) (~~~(BitVec.ofNat 32 X) &&& BitVec.ofNat 32 Z) (by
    ext i hi
    simp only [BitVec.getElem_and, BitVec.getElem_not, BitVec.getElem_zero]
    cases (BitVec.ofNat 32 X)[i] <;> simp)
  have k2 := congrArg BitVec.toNat key
  rw [BitVec.toNat_add, BitVec.toNat_or, BitVec.toNat_and, BitVec.toNat_and, BitVec.toNat_not, BitVec.toNat_ofNat, BitVec.toNat_ofNat, BitVec.toNat_ofNat, Nat.mod_eq_of_lt (show X < 2 ^ 32 by omega), Nat.mod_eq_of_lt (show Y < 2 ^ 32 by omega), Nat.mod_eq_of_lt (show Z < 2 ^ 32 by omega),
    show 2 ^ 32 - 1 - X = 4294967295 - X from rfl, Nat.mod_eq_of_lt (by omega)] at k2
  unfold bOr bAnd
  rw [e1]
  simp only [Int.toNat_natCast]
  rw [← k2]
  omega
theorem rot_or1 {n : Int} (h0 : 0 ≤ n) (h1 : n < 4294967296) : bOr (IntKind.u32.wrap (n * 2)) (n / 2147483648) = n * 2 % 4294967296 + n / 2147483648 := by
  rw [IntKind.wrap_u32']
  obtain ⟨N, rfl⟩ := Int.eq_ofNat_of_zero_le h0
  have e := or_part (A := N % 2147483648) (C := N / 2147483648) (n := 1) (by omega)
  rw [show ((N : Int) * 2 % 4294967296) = ((2 ^ 1 * (N % 2147483648) : Nat) : Int) by omega, show ((N : Int) / 2147483648) = ((N / 2147483648 : Nat) : Int) by omega, e]
  omega
theorem rot_or5 {n : Int} (h0 : 0 ≤ n) (h1 : n < 4294967296) : bOr (IntKind.u32.wrap (n * 32)) (n / 134217728) = n * 32 % 4294967296 + n / 134217728 := by
  rw [IntKind.wrap_u32']
  obtain ⟨N, rfl⟩ := Int.eq_ofNat_of_zero_le h0
  have e := or_part (A := N % 134217728) (C := N / 134217728) (n := 5) (by omega)
  rw [show ((N : Int) * 32 % 4294967296) = ((2 ^ 5 * (N % 134217728) : Nat) : Int) by omega, show ((N : Int) / 134217728) = ((N / 134217728 : Nat) : Int) by omega, e]
  omega
theorem rot_or30 {n : Int} (h0 : 0 ≤ n) (h1 : n < 4294967296) : bOr (IntKind.u32.wrap (n * 1073741824)) (n / 4) = n * 1073741824 % 4294967296 + n / 4 := by
  rw [IntKind.wrap_u32']
  obtain ⟨N, rfl⟩ := Int.eq_ofNat_of_zero_le h0
  have e := or_part (A := N % 4) (C := N / 4) (n := 30) (by omega)
  rw [show ((N : Int) * 1073741824 % 4294967296) = ((2 ^ 30 * (N % 4) : Nat) : Int) by omega, show ((N : Int) / 4) = ((N / 4 : Nat) : Int) by omega, e]
  omega
/-- Four bytes, the highest first. -/
theorem or_bytes {a b c d : Int} (ha : 0 ≤ a ∧ a < 256) (hb : 0 ≤ b ∧ b < 256) (hc : 0 ≤ c ∧ c < 256) (hd : 0 ≤ d ∧ d < 256) :
    bOr (a * 16777216) (b * 65536) = a * 16777216 + b * 65536 ∧ bOr (a * 16777216 + b * 65536) (c * 256) = a * 16777216 + b * 65536 + c * 256 ∧ bOr (a * 16777216 + b * 65536 + c * 256) d = a * 16777216 + b * 65536 + c * 256 + d := by
  obtain ⟨A, rfl⟩ := Int.eq_ofNat_of_zero_le ha.1
  obtain ⟨C, rfl⟩ := Int.eq_ofNat_of_zero_le hb.1
  obtain ⟨D, rfl⟩ := Int.eq_ofNat_of_zero_le hc.1
  obtain ⟨E, rfl⟩ := Int.eq_ofNat_of_zero_le hd.1
  have e1 := or_part (A := A) (C := C * 65536) (n := 24) (by omega)
  have e2 := or_part (A := A * 256 + C) (C := D * 256) (n := 16) (by omega)
  have e3 := or_part (A := A * 65536 + C * 256 + D) (C := E) (n := 8) (by omega)
  refine ⟨?_, ?_, ?_⟩
  · rw [show ((A : Int) * 16777216) = ((2 ^ 24 * A : Nat) : Int) by omega, show ((C : Int) * 65536) = ((C * 65536 : Nat) : Int) by omega, e1]; omega
  · rw [show ((A : Int) * 16777216 + (C : Int) * 65536) = ((2 ^ 16 * (A * 256 + C) : Nat) : Int) by omega, show ((D : Int) * 256) = ((D * 256 : Nat) : Int) by omega, e2]; omega
  · rw [show ((A : Int) * 16777216 + (C : Int) * 65536 + (D : Int) * 256) = ((2 ^ 8 * (A * 65536 + C * 256 + D) : Nat) : Int) by omega, e3]; omega
end Go.Proofs.Ytlpenfganhaclaa
