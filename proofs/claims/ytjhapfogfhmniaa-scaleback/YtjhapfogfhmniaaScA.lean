/-
 Scales in plain numbers: zeros, counts and instants; and the contract of the reference's Zero.
-/
import Derived.Test.YtjhapfogfhmniaaDayR
import Derived.Test.YtjhapfogfhmniaaNumB
namespace Go.Proofs.Ytjhapfogfhmniaa
open Go.RowKit
set_option maxRecDepth 100000

def isSc (n : Int) : Bool := decide (1 ≤ n ∧ n ≤ 4)
theorem isSc_iff {n : Int} : isSc n = true ↔ 1 ≤ n ∧ n ≤ 4 := by unfold isSc; exact decide_eq_true_iff
theorem isSc_no {n : Int} : isSc n = false ↔ ¬ (1 ≤ n ∧ n ≤ 4) := by unfold isSc; exact decide_eq_false_iff_not
/-- A scale's zero. -/
def zerZ (n : Int) : Int := if n = 1 then cnt 36204 0 0 else if n = 2 then cnt 51544 43167 816000000000000000 else if n = 3 then cnt 44244 19 0 else cnt 40587 0 0
theorem zer_1 : zerZ 1 = cnt 36204 0 0 := rfl
theorem zer_2 : zerZ 2 = cnt 51544 43167 816000000000000000 := rfl
theorem zer_3 : zerZ 3 = cnt 44244 19 0 := rfl
theorem zer_in (n : Int) : 3000000000000000000000000000 ≤ zerZ n ∧ zerZ n ≤ 5000000000000000000000000000 := by
 unfold zerZ cnt
 split
 ·omega
 ·split
  ·omega
  ·split <;> omega
/-- What is told of an instant's count, and of a count's instant. -/
def toE (n z : Int) : Int := if isSc n = true then (if inB (dayZ z) = true then 0 else 2) else 1
def toZ (n z : Int) : Int := if toE n z = 0 then z - zerZ n else 0
def frE (n a : Int) : Int := toE n (a + zerZ n)
def frZ (n a : Int) : Int := if frE n a = 0 then a + zerZ n else 0
theorem to_none {n z : Int} (h : isSc n = false) : toE n z = 1 ∧ toZ n z = 0 := by
 have e : toE n z = 1 := by unfold toE; rw [h]; rfl
 exact ⟨e, if_neg (by rw [e]; decide)⟩
theorem to_out {n z : Int} (h : isSc n = true) (k : inB (dayZ z) = false) : toE n z = 2 ∧ toZ n z = 0 := by
 have e : toE n z = 2 := by unfold toE; rw [if_pos h, k]; rfl
 exact ⟨e, if_neg (by rw [e]; decide)⟩
theorem to_ok {n z : Int} (h : isSc n = true) (k : inB (dayZ z) = true) : toE n z = 0 ∧ toZ n z = z - zerZ n := by
 have e : toE n z = 0 := by unfold toE; rw [if_pos h, if_pos k]
 exact ⟨e, if_pos e⟩
theorem to_zero {n z : Int} (h : toE n z = 0) : isSc n = true ∧ inB (dayZ z) = true := by
 cases q : isSc n with
 | false => rw [(to_none q).1] at h; cases h
 | true =>
  cases k : inB (dayZ z) with
  | false => rw [(to_out q k).1] at h; cases h
  | true => exact ⟨rfl, rfl⟩
theorem fr_none {n a : Int} (h : isSc n = false) : frE n a = 1 ∧ frZ n a = 0 := by
 have e : frE n a = 1 := (to_none h).1
 exact ⟨e, if_neg (by rw [e]; decide)⟩
theorem fr_out {n a : Int} (h : isSc n = true) (k : inB (dayZ (a + zerZ n)) = false) : frE n a = 2 ∧ frZ n a = 0 := by
 have e : frE n a = 2 := (to_out h k).1
 exact ⟨e, if_neg (by rw [e]; decide)⟩
theorem fr_ok {n a : Int} (h : isSc n = true) (k : inB (dayZ (a + zerZ n)) = true) : frE n a = 0 ∧ frZ n a = a + zerZ n := by
 have e : frE n a = 0 := (to_ok h k).1
 exact ⟨e, if_pos e⟩
/-- What is in range is far from the ends. -/
theorem inB_near {z : Int} (h : inB (dayZ z) = true) : -100000000000000000000000000000000000 ≤ z ∧ z ≤ 100000000000000000000000000000000000 := by
 have := inB_iff.1 h
 unfold dayZ at this
 omega

theorem rzero_no {n : Int} (h : isSc n = false) {w : World} : Calls Try.prog 7 #[.int .i64 n] w fun e w' => ∃ r, e = .returned r ∧ r = .tuple #[.agg #[.bool false, .slice none 0 0], .bool false] ∧ Below w.heap.size w w' := by
 rw [isSc_no] at h
 refine calls_Wp (args := [_]) (n := 22) Try.func7 rfl rfl (by simp) ?_
 refine Wp.seq ?_
 refine wR [0, 1] ?_
 refine sO (fun bk1 w1 kb1 lw1 => ?_)
 refine sZ 1 ?_
 refine Wp.seq ?_
 refine qZ ?_
 refine Wp.block ?_
 refine Wp.seq ?_
 refine wR [0, 1] ?_
 refine f_eql rfl rfl rfl rfl rfl (by omega) ?_
 refine sZ 1 ?_
 refine Wp.condF rfl rfl ?_
 refine Wp.seq ?_
 refine wR [0, 1] ?_
 refine f_eql rfl rfl rfl rfl rfl (by omega) ?_
 refine sZ 1 ?_
 refine Wp.condF rfl rfl ?_
 refine Wp.seq ?_
 refine wR [0, 1] ?_
 refine f_eql rfl rfl rfl rfl rfl (by omega) ?_
 refine sZ 1 ?_
 refine Wp.condF rfl rfl ?_
 refine Wp.seq ?_
 refine wR [0, 1] ?_
 refine f_eql rfl rfl rfl rfl rfl (by omega) ?_
 refine sZ 1 ?_
 refine Wp.condF rfl rfl ?_
 refine Wp.skip ?_
 refine Wp.seq ?_
 refine wR [0, 1, 2] ?_
 refine sB ?_
 refine sS (fun w2 sw2 vw2 => ?_)
 refine sZ 1 ?_
 refine Wp.ret ⟨.inr rfl, fun lW => ⟨_, ⟨_, _, res_cell rfl rfl rfl rfl, res_tmp (P := Try.prog) rfl rfl, rfl⟩, _, rfl, ?_, lW⟩⟩
 clear lW
 rfl
theorem rzero_yes {n : Int} (h : isSc n = true) {w : World} : Calls Try.prog 7 #[.int .i64 n] w fun e w' => ∃ r, e = .returned r ∧ (∃ u, r = .tuple #[u, .bool true] ∧ IsBig 17 (zerZ n) u w') ∧ Below w.heap.size w w' := by
 rw [isSc_iff] at h
 refine calls_Wp (args := [_]) (n := 22) Try.func7 rfl rfl (by simp) ?_
 refine Wp.seq ?_
 refine wR [0, 1] ?_
 refine sO (fun bk1 w1 kb1 lw1 => ?_)
 refine sZ 1 ?_
 refine Wp.seq ?_
 refine qZ ?_
 refine Wp.block ?_
 refine Wp.seq ?_
 refine wR [0, 1] ?_
 refine p_eql rfl rfl rfl rfl rfl (fun h6 => ?_) (fun h6 => ?_)
 ·refine sZ 1 ?_
  refine Wp.condT rfl rfl ?_
  refine Wp.seq ?_
  refine wR [0, 1, 2, 3] ?_
  refine sB ?_
  refine sT (rjoin_any (d := 36204) (s := 0) (a := 0) ⟨by decide, by decide⟩ ⟨by decide, by decide⟩ ⟨by decide, by decide⟩ _) ?_
  rintro v w2 hj lw2
  replace hj := hj.eq (show _ = zerZ n by rw [show n = 1 by omega]; rfl)
  obtain ⟨hja, hjl, hjc, rfl, -⟩ := id hj
  refine sS (fun w3 sw3 vw3 => ?_)
  refine sZ 1 ?_
  refine Wp.ret ⟨.inr rfl, fun lW => ⟨_, ⟨_, _, res_cell rfl rfl rfl rfl, res_tmp (P := Try.prog) rfl rfl, rfl⟩, _, rfl, ?_, lW⟩⟩
  clear lW
  exact ⟨_, rfl, hj.kp⟩
 ·refine sZ 1 ?_
  refine Wp.condF rfl rfl ?_
  refine Wp.seq ?_
  refine wR [0, 1] ?_
  refine p_eql rfl rfl rfl rfl rfl (fun h10 => ?_) (fun h10 => ?_)
  ·refine sZ 1 ?_
   refine Wp.condT rfl rfl ?_
   refine Wp.seq ?_
   refine wR [0, 1, 2, 3] ?_
   refine sB ?_
   refine sT (rjoin_any (d := 51544) (s := 43167) (a := 816000000000000000) ⟨by decide, by decide⟩ ⟨by decide, by decide⟩ ⟨by decide, by decide⟩ _) ?_
   rintro v w4 hj lw4
   replace hj := hj.eq (show _ = zerZ n by rw [show n = 2 by omega]; rfl)
   obtain ⟨hja, hjl, hjc, rfl, -⟩ := id hj
   refine sS (fun w5 sw5 vw5 => ?_)
   refine sZ 1 ?_
   refine Wp.ret ⟨.inr rfl, fun lW => ⟨_, ⟨_, _, res_cell rfl rfl rfl rfl, res_tmp (P := Try.prog) rfl rfl, rfl⟩, _, rfl, ?_, lW⟩⟩
   clear lW
   exact ⟨_, rfl, hj.kp⟩
  ·refine sZ 1 ?_
   refine Wp.condF rfl rfl ?_
   refine Wp.seq ?_
   refine wR [0, 1] ?_
   refine p_eql rfl rfl rfl rfl rfl (fun h14 => ?_) (fun h14 => ?_)
   ·refine sZ 1 ?_
    refine Wp.condT rfl rfl ?_
    refine Wp.seq ?_
    refine wR [0, 1, 2, 3] ?_
    refine sB ?_
    refine sT (rjoin_any (d := 44244) (s := 19) (a := 0) ⟨by decide, by decide⟩ ⟨by decide, by decide⟩ ⟨by decide, by decide⟩ _) ?_
    rintro v w6 hj lw6
    replace hj := hj.eq (show _ = zerZ n by rw [show n = 3 by omega]; rfl)
    obtain ⟨hja, hjl, hjc, rfl, -⟩ := id hj
    refine sS (fun w7 sw7 vw7 => ?_)
    refine sZ 1 ?_
    refine Wp.ret ⟨.inr rfl, fun lW => ⟨_, ⟨_, _, res_cell rfl rfl rfl rfl, res_tmp (P := Try.prog) rfl rfl, rfl⟩, _, rfl, ?_, lW⟩⟩
    clear lW
    exact ⟨_, rfl, hj.kp⟩
   ·refine sZ 1 ?_
    refine Wp.condF rfl rfl ?_
    refine Wp.seq ?_
    refine wR [0, 1] ?_
    refine t_eql rfl rfl rfl rfl rfl (by omega) ?_
    refine sZ 1 ?_
    refine Wp.condT rfl rfl ?_
    refine Wp.seq ?_
    refine wR [0, 1, 2, 3] ?_
    refine sB ?_
    refine sT (rjoin_any (d := 40587) (s := 0) (a := 0) ⟨by decide, by decide⟩ ⟨by decide, by decide⟩ ⟨by decide, by decide⟩ _) ?_
    rintro v w8 hj lw8
    replace hj := hj.eq (show _ = zerZ n by rw [show n = 4 by omega]; rfl)
    obtain ⟨hja, hjl, hjc, rfl, -⟩ := id hj
    refine sS (fun w9 sw9 vw9 => ?_)
    refine sZ 1 ?_
    refine Wp.ret ⟨.inr rfl, fun lW => ⟨_, ⟨_, _, res_cell rfl rfl rfl rfl, res_tmp (P := Try.prog) rfl rfl, rfl⟩, _, rfl, ?_, lW⟩⟩
    clear lW
    exact ⟨_, rfl, hj.kp⟩
theorem lin_any {k : Nat} {z : Int} {u : Value} {w : World} (hu : IsBig k z u w) (hk : k ≤ 1000) : Calls Try.prog 9 #[u] w fun e w' => ∃ r, e = .returned r ∧ r = .bool (inB (dayZ z)) ∧ Below w.heap.size w w' := by
 obtain ⟨ua, ul, uc, rfl, -⟩ := id hu
 refine calls_Wp (args := [_]) (n := 11) Try.func9 rfl rfl (by simp) ?_
 refine Wp.seq ?_
 refine wR [0, 1] ?_
 refine sE (fun bk1 w1 kb1 lw1 => ?_)
 refine sZ 1 ?_
 refine qQ 1 ?_
 refine s_callT rfl rfl rfl (by kernel_rfl) rfl (rsplit_any (hu.kp) hk) ?_
 rintro v w2 rfl lw2
 refine sQ 3 ?_
 refine sO (fun bk3 w3 kb3 lw3 => ?_)
 refine sS (fun w4 sw4 vw4 => ?_)
 refine sZ 1 ?_
 refine qZ ?_
 refine Wp.ret ⟨.inr rfl, fun lW => ⟨_, res_tmp (P := Try.prog) rfl rfl, _, rfl, ?_, lW⟩⟩
 clear lW
 rfl
end Go.Proofs.Ytjhapfogfhmniaa
