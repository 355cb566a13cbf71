/-
  What the proofs of the laws over Limbs share: a Limb that is read as data, and read again. No conditions.
-/
import Derived.Test.YtdefgplehkbpcaaLimbA
import Derived.ProofKit
import Derived.Lib.SmallJoins
namespace Go.Proofs.Ytdefgplehkbpcaa
open Go.ChangeShapes Go.WideShapes Go.ChangeAt Go.RowKit Go.Joins

theorem Try.own : ownKnob Try.prog.godebug = none := by kernel_rfl
theorem Try.cellsLimb : Try.prog.cellsOf 24 = 2 := by kernel_rfl
theorem limb_of_wf {h l : Int} (wh : (Lit.int .u64 h).wf = true) (wl : (Lit.int .u64 l).wf = true) : LimbIs h l (h * 18446744073709551616 + l) := by
  simp [Lit.wf, IntKind.min, IntKind.max, IntKind.signed, IntKind.bits] at wh wl
  exact ⟨by omega, by omega, by omega, by omega, rfl⟩
theorem limb_reads {H : Type} {enc : TypeId × Value → H} {W' : World} {base : Nat} {sp : Nat → Bool} {hd : Bool} {h l : Int} (wh : (Lit.int .u64 h).wf = true) (wl : (Lit.int .u64 l).wf = true) :
    DataW.Trod enc Try.prog W' base sp hd 24 (.agg #[.int .u64 h, .int .u64 l]) (.agg [.lit (.int .u64 h), .lit (.int .u64 l)]) [] :=
  shut_agg2 (y0 := (.lit (.int .u64 h), [])) (y1 := (.lit (.int .u64 l), [])) Try.underlying24 (by kernel_rfl) Try.cellsLimb ⟨1, by simp [DataW.trod, Try.underlying22, wh]⟩ ⟨1, by simp [DataW.trod, Try.underlying22, wl]⟩
end Go.Proofs.Ytdefgplehkbpcaa
