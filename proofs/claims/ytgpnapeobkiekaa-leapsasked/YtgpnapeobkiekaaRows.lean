/-
  No cell of these rows narrows 'for every input' (looked for: loops, veiled, ifaces, maps, wideKeys, modest, calm, conditions, laid).
  DERIVED. THE GIVEN ROWS OF THIS SEAT. 7 by the template 'for every input the law returns true; each argument reads behind the call as it read before'; 0 by the template 'total and deterministic' (their statements: YtgpnapeobkiekaaTotals.lean).
  GIVEN WITH THE SEED: the statements are not yours to turn. If you find one false, say at which input.
  Laid BY PROGRAM, IN A SANDBOX (cutbox-rows.mjs): the forced cells as the released guide's own fill.sh prints them over the translation 64920fe96bb83c26… (all of the seat's roots in one cut). By AI agents, Wed Nov 11 2026. No macro, syntax, notation, axiom, sorry.
-/
import Derived.Test.YtgpnapeobkiekaaChecked
import GoSem.Claim
import GoSem.ClaimJoined
import GoSem.ClaimMapViews
import Derived.JoinedTies
import Derived.KernelRfl
namespace Go.Proofs.Ytgpnapeobkiekaa
/- THE CELL 'sum', in the pinned program and in every row, IS THE sha256 OF THE DUMP (.gsa) THAT YtgpnapeobkiekaaProg.lean LOADS. Nothing in Lean hashes anything: it is a label: what it is worth is what the hold of that sum in a sandbox is worth. -/
noncomputable def Try.pinned : Pinned := { name := "ytgpnapeobkiekaa", sum := "64920fe96bb83c2683dcb38add151f5d3655d4a3c18d2cfdbc3d925a77e6c2c7", checked := Try.checked }
namespace Rows
def none {H : Type} : Left H := { results := [], args := [] }

/-- 'epactlaw12.LeapsNews': WHATEVER THE INPUT: true; the input reads as it did. -/
def leapsNewsSpec : ChangeSpec := { name := "leapsNews", fn := fun _ => fun
  | [d] => { results := [.lit (.bool true)], args := [d] }
  | _ => none }
def leapsNewsRow : OpenClaim := { program := "ytgpnapeobkiekaa", sum := "64920fe96bb83c2683dcb38add151f5d3655d4a3c18d2cfdbc3d925a77e6c2c7", func := "epact/epactlaw12.LeapsNews", spec := "leapsNews", inPlace := ["sync/atomic.LoadUint32", "(*internal/sync.Mutex).Lock", "internal/race.Disable", "sync/atomic.CompareAndSwapInt32", "internal/race.Enable", "internal/race.Acquire", "(*internal/sync.Mutex).lockSlow", "internal/sync.runtime_canSpin", "internal/sync.runtime_doSpin", "internal/sync.throw", "internal/sync.runtime_nanotime", "internal/sync.runtime_SemacquireMutex", "sync/atomic.AddInt32", "(*internal/sync.Mutex).Unlock", "internal/race.ReleaseMerge", "(*internal/sync.Mutex).unlockSlow", "internal/sync.fatal", "internal/sync.runtime_Semrelease", "sync/atomic.StoreUint32", "sync/atomic.AddInt64", "sync/atomic.LoadInt64"], unfollowed := true, recurses := true, apart := false }
def LeapsNewsSaid : Prop := leapsNewsRow.holds Try.pinned (OpenSpec.ofChange leapsNewsSpec)

/-- ITS FALSE NEIGHBOUR: 'it returns false'. Refute it at one input. -/
def leapsNewsWrong : ChangeSpec := { name := "leapsNews", fn := fun _ => fun
  | [d] => { results := [.lit (.bool false)], args := [d] }
  | _ => none }
def LeapsNewsWrongFalsely : Prop := leapsNewsRow.holds Try.pinned (OpenSpec.ofChange leapsNewsWrong)

/-- 'epactlaw12.LeapsDays': WHATEVER THE INPUT: true; the input reads as it did. -/
def leapsDaysSpec : ChangeSpec := { name := "leapsDays", fn := fun _ => fun
  | [d1, d2] => { results := [.lit (.bool true)], args := [d1, d2] }
  | _ => none }
def leapsDaysRow : OpenClaim := { program := "ytgpnapeobkiekaa", sum := "64920fe96bb83c2683dcb38add151f5d3655d4a3c18d2cfdbc3d925a77e6c2c7", func := "epact/epactlaw12.LeapsDays", spec := "leapsDays", inPlace := ["sync/atomic.LoadUint32", "(*internal/sync.Mutex).Lock", "internal/race.Disable", "sync/atomic.CompareAndSwapInt32", "internal/race.Enable", "internal/race.Acquire", "(*internal/sync.Mutex).lockSlow", "internal/sync.runtime_canSpin", "internal/sync.runtime_doSpin", "internal/sync.throw", "internal/sync.runtime_nanotime", "internal/sync.runtime_SemacquireMutex", "sync/atomic.AddInt32", "(*internal/sync.Mutex).Unlock", "internal/race.ReleaseMerge", "(*internal/sync.Mutex).unlockSlow", "internal/sync.fatal", "internal/sync.runtime_Semrelease", "sync/atomic.StoreUint32", "sync/atomic.AddInt64", "sync/atomic.LoadInt64"], unfollowed := true, recurses := true, apart := false }
def LeapsDaysSaid : Prop := leapsDaysRow.holds Try.pinned (OpenSpec.ofChange leapsDaysSpec)

/-- ITS FALSE NEIGHBOUR: 'it returns false'. Refute it at one input. -/
def leapsDaysWrong : ChangeSpec := { name := "leapsDays", fn := fun _ => fun
  | [d1, d2] => { results := [.lit (.bool false)], args := [d1, d2] }
  | _ => none }
def LeapsDaysWrongFalsely : Prop := leapsDaysRow.holds Try.pinned (OpenSpec.ofChange leapsDaysWrong)

/-- 'epactlaw12.LeapsAt': WHATEVER THE INPUT: true; the input reads as it did. -/
def leapsAtSpec : ChangeSpec := { name := "leapsAt", fn := fun _ => fun
  | [d1, d2] => { results := [.lit (.bool true)], args := [d1, d2] }
  | _ => none }
def leapsAtRow : OpenClaim := { program := "ytgpnapeobkiekaa", sum := "64920fe96bb83c2683dcb38add151f5d3655d4a3c18d2cfdbc3d925a77e6c2c7", func := "epact/epactlaw12.LeapsAt", spec := "leapsAt", inPlace := ["sync/atomic.LoadUint32", "(*internal/sync.Mutex).Lock", "internal/race.Disable", "sync/atomic.CompareAndSwapInt32", "internal/race.Enable", "internal/race.Acquire", "(*internal/sync.Mutex).lockSlow", "internal/sync.runtime_canSpin", "internal/sync.runtime_doSpin", "internal/sync.throw", "internal/sync.runtime_nanotime", "internal/sync.runtime_SemacquireMutex", "sync/atomic.AddInt32", "(*internal/sync.Mutex).Unlock", "internal/race.ReleaseMerge", "(*internal/sync.Mutex).unlockSlow", "internal/sync.fatal", "internal/sync.runtime_Semrelease", "sync/atomic.StoreUint32", "sync/atomic.AddInt64", "sync/atomic.LoadInt64"], unfollowed := true, recurses := true, apart := false }
def LeapsAtSaid : Prop := leapsAtRow.holds Try.pinned (OpenSpec.ofChange leapsAtSpec)

/-- ITS FALSE NEIGHBOUR: 'it returns false'. Refute it at one input. -/
def leapsAtWrong : ChangeSpec := { name := "leapsAt", fn := fun _ => fun
  | [d1, d2] => { results := [.lit (.bool false)], args := [d1, d2] }
  | _ => none }
def LeapsAtWrongFalsely : Prop := leapsAtRow.holds Try.pinned (OpenSpec.ofChange leapsAtWrong)

/-- 'epactlaw12.LeapsSums': WHATEVER THE INPUT: true; the input reads as it did. -/
def leapsSumsSpec : ChangeSpec := { name := "leapsSums", fn := fun _ => fun
  | [d1, d2] => { results := [.lit (.bool true)], args := [d1, d2] }
  | _ => none }
def leapsSumsRow : OpenClaim := { program := "ytgpnapeobkiekaa", sum := "64920fe96bb83c2683dcb38add151f5d3655d4a3c18d2cfdbc3d925a77e6c2c7", func := "epact/epactlaw12.LeapsSums", spec := "leapsSums", inPlace := ["sync/atomic.LoadUint32", "(*internal/sync.Mutex).Lock", "internal/race.Disable", "sync/atomic.CompareAndSwapInt32", "internal/race.Enable", "internal/race.Acquire", "(*internal/sync.Mutex).lockSlow", "internal/sync.runtime_canSpin", "internal/sync.runtime_doSpin", "internal/sync.throw", "internal/sync.runtime_nanotime", "internal/sync.runtime_SemacquireMutex", "sync/atomic.AddInt32", "(*internal/sync.Mutex).Unlock", "internal/race.ReleaseMerge", "(*internal/sync.Mutex).unlockSlow", "internal/sync.fatal", "internal/sync.runtime_Semrelease", "sync/atomic.StoreUint32", "sync/atomic.AddInt64", "sync/atomic.LoadInt64"], unfollowed := true, recurses := true, apart := false }
def LeapsSumsSaid : Prop := leapsSumsRow.holds Try.pinned (OpenSpec.ofChange leapsSumsSpec)

/-- ITS FALSE NEIGHBOUR: 'it returns false'. Refute it at one input. -/
def leapsSumsWrong : ChangeSpec := { name := "leapsSums", fn := fun _ => fun
  | [d1, d2] => { results := [.lit (.bool false)], args := [d1, d2] }
  | _ => none }
def LeapsSumsWrongFalsely : Prop := leapsSumsRow.holds Try.pinned (OpenSpec.ofChange leapsSumsWrong)

/-- 'epactlaw12.LeapsAsked': WHATEVER THE INPUT: true; the input reads as it did. -/
def leapsAskedSpec : ChangeSpec := { name := "leapsAsked", fn := fun _ => fun
  | [d1, d2] => { results := [.lit (.bool true)], args := [d1, d2] }
  | _ => none }
def leapsAskedRow : OpenClaim := { program := "ytgpnapeobkiekaa", sum := "64920fe96bb83c2683dcb38add151f5d3655d4a3c18d2cfdbc3d925a77e6c2c7", func := "epact/epactlaw12.LeapsAsked", spec := "leapsAsked", inPlace := ["sync/atomic.LoadUint32", "(*internal/sync.Mutex).Lock", "internal/race.Disable", "sync/atomic.CompareAndSwapInt32", "internal/race.Enable", "internal/race.Acquire", "(*internal/sync.Mutex).lockSlow", "internal/sync.runtime_canSpin", "internal/sync.runtime_doSpin", "internal/sync.throw", "internal/sync.runtime_nanotime", "internal/sync.runtime_SemacquireMutex", "sync/atomic.AddInt32", "(*internal/sync.Mutex).Unlock", "internal/race.ReleaseMerge", "(*internal/sync.Mutex).unlockSlow", "internal/sync.fatal", "internal/sync.runtime_Semrelease", "sync/atomic.StoreUint32", "sync/atomic.AddInt64", "sync/atomic.LoadInt64"], unfollowed := true, recurses := true, apart := false }
def LeapsAskedSaid : Prop := leapsAskedRow.holds Try.pinned (OpenSpec.ofChange leapsAskedSpec)

/-- ITS FALSE NEIGHBOUR: 'it returns false'. Refute it at one input. -/
def leapsAskedWrong : ChangeSpec := { name := "leapsAsked", fn := fun _ => fun
  | [d1, d2] => { results := [.lit (.bool false)], args := [d1, d2] }
  | _ => none }
def LeapsAskedWrongFalsely : Prop := leapsAskedRow.holds Try.pinned (OpenSpec.ofChange leapsAskedWrong)

/-- 'epactlaw12.LeapsOwn': WHATEVER THE INPUT: true; the input reads as it did. -/
def leapsOwnSpec : ChangeSpec := { name := "leapsOwn", fn := fun _ => fun
  | [d] => { results := [.lit (.bool true)], args := [d] }
  | _ => none }
def leapsOwnRow : OpenClaim := { program := "ytgpnapeobkiekaa", sum := "64920fe96bb83c2683dcb38add151f5d3655d4a3c18d2cfdbc3d925a77e6c2c7", func := "epact/epactlaw12.LeapsOwn", spec := "leapsOwn", inPlace := ["sync/atomic.LoadUint32", "(*internal/sync.Mutex).Lock", "internal/race.Disable", "sync/atomic.CompareAndSwapInt32", "internal/race.Enable", "internal/race.Acquire", "(*internal/sync.Mutex).lockSlow", "internal/sync.runtime_canSpin", "internal/sync.runtime_doSpin", "internal/sync.throw", "internal/sync.runtime_nanotime", "internal/sync.runtime_SemacquireMutex", "sync/atomic.AddInt32", "(*internal/sync.Mutex).Unlock", "internal/race.ReleaseMerge", "(*internal/sync.Mutex).unlockSlow", "internal/sync.fatal", "internal/sync.runtime_Semrelease", "sync/atomic.StoreUint32", "sync/atomic.AddInt64", "sync/atomic.LoadInt64"], unfollowed := true, recurses := true, apart := false }
def LeapsOwnSaid : Prop := leapsOwnRow.holds Try.pinned (OpenSpec.ofChange leapsOwnSpec)

/-- ITS FALSE NEIGHBOUR: 'it returns false'. Refute it at one input. -/
def leapsOwnWrong : ChangeSpec := { name := "leapsOwn", fn := fun _ => fun
  | [d] => { results := [.lit (.bool false)], args := [d] }
  | _ => none }
def LeapsOwnWrongFalsely : Prop := leapsOwnRow.holds Try.pinned (OpenSpec.ofChange leapsOwnWrong)

/-- 'epactlaw12.LeapsNone': WHATEVER THE INPUT: true; the input reads as it did. -/
def leapsNoneSpec : ChangeSpec := { name := "leapsNone", fn := fun _ => fun
  | [d] => { results := [.lit (.bool true)], args := [d] }
  | _ => none }
def leapsNoneRow : OpenClaim := { program := "ytgpnapeobkiekaa", sum := "64920fe96bb83c2683dcb38add151f5d3655d4a3c18d2cfdbc3d925a77e6c2c7", func := "epact/epactlaw12.LeapsNone", spec := "leapsNone", inPlace := ["sync/atomic.LoadUint32", "(*internal/sync.Mutex).Lock", "internal/race.Disable", "sync/atomic.CompareAndSwapInt32", "internal/race.Enable", "internal/race.Acquire", "(*internal/sync.Mutex).lockSlow", "internal/sync.runtime_canSpin", "internal/sync.runtime_doSpin", "internal/sync.throw", "internal/sync.runtime_nanotime", "internal/sync.runtime_SemacquireMutex", "sync/atomic.AddInt32", "(*internal/sync.Mutex).Unlock", "internal/race.ReleaseMerge", "(*internal/sync.Mutex).unlockSlow", "internal/sync.fatal", "internal/sync.runtime_Semrelease", "sync/atomic.StoreUint32", "sync/atomic.AddInt64", "sync/atomic.LoadInt64"], unfollowed := true, recurses := true, apart := false }
def LeapsNoneSaid : Prop := leapsNoneRow.holds Try.pinned (OpenSpec.ofChange leapsNoneSpec)

/-- ITS FALSE NEIGHBOUR: 'it returns false'. Refute it at one input. -/
def leapsNoneWrong : ChangeSpec := { name := "leapsNone", fn := fun _ => fun
  | [d] => { results := [.lit (.bool false)], args := [d] }
  | _ => none }
def LeapsNoneWrongFalsely : Prop := leapsNoneRow.holds Try.pinned (OpenSpec.ofChange leapsNoneWrong)

/- THE SECOND FORM. 'bulk': how many values and letters a reading holds, each counted each time it is reached (what is shared counts as often as it is met; a slice's spare places count too). A statement '..UptoSaid' is the law's where the arguments, and the package variables that the reading takes, are together of bulk at most 1048576: NARROWER than '..Said'. Prove '..Said' where nothing that the law and all that it calls make is longer than what came in: it says more and counts as full. Else prove '..UptoSaid'. A law counts once. -/
mutual
def uptoBulk {H : Type} : DataW H → Nat
  | .lit (.string bytes) => bytes.length + 1
  | .lit _ => 1
  | .nil => 1
  | .ptr d => uptoBulk d + 1
  | .slice elems spare => uptoBulkAll elems + uptoBulkAll spare + 1
  | .agg parts => uptoBulkAll parts + 1
  | .iface _ d => uptoBulk d + 1
  | .map entries => uptoBulkEntries entries + 1
  | .held _ => 1
def uptoBulkAll {H : Type} : List (DataW H) → Nat
  | [] => 0
  | d :: r => uptoBulk d + uptoBulkAll r
def uptoBulkEntries {H : Type} : List (Lit × DataW H) → Nat
  | [] => 0
  | x :: r => uptoBulkEntry x + uptoBulkEntries r
def uptoBulkEntry {H : Type} : Lit × DataW H → Nat
  | (.string bytes, d) => bytes.length + uptoBulk d + 1
  | (_, d) => uptoBulk d + 1
 end
def uptoSmall : (H : Type) → List (DataW H) → Bool := fun _ ds => decide (uptoBulkAll ds ≤ 1048576)
def OpenSpec.upto (s : _root_.Go.ChangeSpec) : _root_.Go.OpenSpec := { _root_.Go.OpenSpec.ofChange s with cond := some uptoSmall }

/-- 'epactlaw12.LeapsNews', WHERE WHAT IT READS IS OF BULK AT MOST 1048576: true; the input reads as it did. -/
def leapsNewsUptoRow : OpenClaim := { program := "ytgpnapeobkiekaa", sum := "64920fe96bb83c2683dcb38add151f5d3655d4a3c18d2cfdbc3d925a77e6c2c7", func := "epact/epactlaw12.LeapsNews", spec := "leapsNews", inPlace := ["sync/atomic.LoadUint32", "(*internal/sync.Mutex).Lock", "internal/race.Disable", "sync/atomic.CompareAndSwapInt32", "internal/race.Enable", "internal/race.Acquire", "(*internal/sync.Mutex).lockSlow", "internal/sync.runtime_canSpin", "internal/sync.runtime_doSpin", "internal/sync.throw", "internal/sync.runtime_nanotime", "internal/sync.runtime_SemacquireMutex", "sync/atomic.AddInt32", "(*internal/sync.Mutex).Unlock", "internal/race.ReleaseMerge", "(*internal/sync.Mutex).unlockSlow", "internal/sync.fatal", "internal/sync.runtime_Semrelease", "sync/atomic.StoreUint32", "sync/atomic.AddInt64", "sync/atomic.LoadInt64"], unfollowed := true, recurses := true, apart := false, narrowed := true }
def LeapsNewsUptoSaid : Prop := leapsNewsUptoRow.holds Try.pinned (OpenSpec.upto leapsNewsSpec)

/-- 'epactlaw12.LeapsDays', WHERE WHAT IT READS IS OF BULK AT MOST 1048576: true; the input reads as it did. -/
def leapsDaysUptoRow : OpenClaim := { program := "ytgpnapeobkiekaa", sum := "64920fe96bb83c2683dcb38add151f5d3655d4a3c18d2cfdbc3d925a77e6c2c7", func := "epact/epactlaw12.LeapsDays", spec := "leapsDays", inPlace := ["sync/atomic.LoadUint32", "(*internal/sync.Mutex).Lock", "internal/race.Disable", "sync/atomic.CompareAndSwapInt32", "internal/race.Enable", "internal/race.Acquire", "(*internal/sync.Mutex).lockSlow", "internal/sync.runtime_canSpin", "internal/sync.runtime_doSpin", "internal/sync.throw", "internal/sync.runtime_nanotime", "internal/sync.runtime_SemacquireMutex", "sync/atomic.AddInt32", "(*internal/sync.Mutex).Unlock", "internal/race.ReleaseMerge", "(*internal/sync.Mutex).unlockSlow", "internal/sync.fatal", "internal/sync.runtime_Semrelease", "sync/atomic.StoreUint32", "sync/atomic.AddInt64", "sync/atomic.LoadInt64"], unfollowed := true, recurses := true, apart := false, narrowed := true }
def LeapsDaysUptoSaid : Prop := leapsDaysUptoRow.holds Try.pinned (OpenSpec.upto leapsDaysSpec)

/-- 'epactlaw12.LeapsAt', WHERE WHAT IT READS IS OF BULK AT MOST 1048576: true; the input reads as it did. -/
def leapsAtUptoRow : OpenClaim := { program := "ytgpnapeobkiekaa", sum := "64920fe96bb83c2683dcb38add151f5d3655d4a3c18d2cfdbc3d925a77e6c2c7", func := "epact/epactlaw12.LeapsAt", spec := "leapsAt", inPlace := ["sync/atomic.LoadUint32", "(*internal/sync.Mutex).Lock", "internal/race.Disable", "sync/atomic.CompareAndSwapInt32", "internal/race.Enable", "internal/race.Acquire", "(*internal/sync.Mutex).lockSlow", "internal/sync.runtime_canSpin", "internal/sync.runtime_doSpin", "internal/sync.throw", "internal/sync.runtime_nanotime", "internal/sync.runtime_SemacquireMutex", "sync/atomic.AddInt32", "(*internal/sync.Mutex).Unlock", "internal/race.ReleaseMerge", "(*internal/sync.Mutex).unlockSlow", "internal/sync.fatal", "internal/sync.runtime_Semrelease", "sync/atomic.StoreUint32", "sync/atomic.AddInt64", "sync/atomic.LoadInt64"], unfollowed := true, recurses := true, apart := false, narrowed := true }
def LeapsAtUptoSaid : Prop := leapsAtUptoRow.holds Try.pinned (OpenSpec.upto leapsAtSpec)

/-- 'epactlaw12.LeapsSums', WHERE WHAT IT READS IS OF BULK AT MOST 1048576: true; the input reads as it did. -/
def leapsSumsUptoRow : OpenClaim := { program := "ytgpnapeobkiekaa", sum := "64920fe96bb83c2683dcb38add151f5d3655d4a3c18d2cfdbc3d925a77e6c2c7", func := "epact/epactlaw12.LeapsSums", spec := "leapsSums", inPlace := ["sync/atomic.LoadUint32", "(*internal/sync.Mutex).Lock", "internal/race.Disable", "sync/atomic.CompareAndSwapInt32", "internal/race.Enable", "internal/race.Acquire", "(*internal/sync.Mutex).lockSlow", "internal/sync.runtime_canSpin", "internal/sync.runtime_doSpin", "internal/sync.throw", "internal/sync.runtime_nanotime", "internal/sync.runtime_SemacquireMutex", "sync/atomic.AddInt32", "(*internal/sync.Mutex).Unlock", "internal/race.ReleaseMerge", "(*internal/sync.Mutex).unlockSlow", "internal/sync.fatal", "internal/sync.runtime_Semrelease", "sync/atomic.StoreUint32", "sync/atomic.AddInt64", "sync/atomic.LoadInt64"], unfollowed := true, recurses := true, apart := false, narrowed := true }
def LeapsSumsUptoSaid : Prop := leapsSumsUptoRow.holds Try.pinned (OpenSpec.upto leapsSumsSpec)

/-- 'epactlaw12.LeapsAsked', WHERE WHAT IT READS IS OF BULK AT MOST 1048576: true; the input reads as it did. -/
def leapsAskedUptoRow : OpenClaim := { program := "ytgpnapeobkiekaa", sum := "64920fe96bb83c2683dcb38add151f5d3655d4a3c18d2cfdbc3d925a77e6c2c7", func := "epact/epactlaw12.LeapsAsked", spec := "leapsAsked", inPlace := ["sync/atomic.LoadUint32", "(*internal/sync.Mutex).Lock", "internal/race.Disable", "sync/atomic.CompareAndSwapInt32", "internal/race.Enable", "internal/race.Acquire", "(*internal/sync.Mutex).lockSlow", "internal/sync.runtime_canSpin", "internal/sync.runtime_doSpin", "internal/sync.throw", "internal/sync.runtime_nanotime", "internal/sync.runtime_SemacquireMutex", "sync/atomic.AddInt32", "(*internal/sync.Mutex).Unlock", "internal/race.ReleaseMerge", "(*internal/sync.Mutex).unlockSlow", "internal/sync.fatal", "internal/sync.runtime_Semrelease", "sync/atomic.StoreUint32", "sync/atomic.AddInt64", "sync/atomic.LoadInt64"], unfollowed := true, recurses := true, apart := false, narrowed := true }
def LeapsAskedUptoSaid : Prop := leapsAskedUptoRow.holds Try.pinned (OpenSpec.upto leapsAskedSpec)

/-- 'epactlaw12.LeapsOwn', WHERE WHAT IT READS IS OF BULK AT MOST 1048576: true; the input reads as it did. -/
def leapsOwnUptoRow : OpenClaim := { program := "ytgpnapeobkiekaa", sum := "64920fe96bb83c2683dcb38add151f5d3655d4a3c18d2cfdbc3d925a77e6c2c7", func := "epact/epactlaw12.LeapsOwn", spec := "leapsOwn", inPlace := ["sync/atomic.LoadUint32", "(*internal/sync.Mutex).Lock", "internal/race.Disable", "sync/atomic.CompareAndSwapInt32", "internal/race.Enable", "internal/race.Acquire", "(*internal/sync.Mutex).lockSlow", "internal/sync.runtime_canSpin", "internal/sync.runtime_doSpin", "internal/sync.throw", "internal/sync.runtime_nanotime", "internal/sync.runtime_SemacquireMutex", "sync/atomic.AddInt32", "(*internal/sync.Mutex).Unlock", "internal/race.ReleaseMerge", "(*internal/sync.Mutex).unlockSlow", "internal/sync.fatal", "internal/sync.runtime_Semrelease", "sync/atomic.StoreUint32", "sync/atomic.AddInt64", "sync/atomic.LoadInt64"], unfollowed := true, recurses := true, apart := false, narrowed := true }
def LeapsOwnUptoSaid : Prop := leapsOwnUptoRow.holds Try.pinned (OpenSpec.upto leapsOwnSpec)

/-- 'epactlaw12.LeapsNone', WHERE WHAT IT READS IS OF BULK AT MOST 1048576: true; the input reads as it did. -/
def leapsNoneUptoRow : OpenClaim := { program := "ytgpnapeobkiekaa", sum := "64920fe96bb83c2683dcb38add151f5d3655d4a3c18d2cfdbc3d925a77e6c2c7", func := "epact/epactlaw12.LeapsNone", spec := "leapsNone", inPlace := ["sync/atomic.LoadUint32", "(*internal/sync.Mutex).Lock", "internal/race.Disable", "sync/atomic.CompareAndSwapInt32", "internal/race.Enable", "internal/race.Acquire", "(*internal/sync.Mutex).lockSlow", "internal/sync.runtime_canSpin", "internal/sync.runtime_doSpin", "internal/sync.throw", "internal/sync.runtime_nanotime", "internal/sync.runtime_SemacquireMutex", "sync/atomic.AddInt32", "(*internal/sync.Mutex).Unlock", "internal/race.ReleaseMerge", "(*internal/sync.Mutex).unlockSlow", "internal/sync.fatal", "internal/sync.runtime_Semrelease", "sync/atomic.StoreUint32", "sync/atomic.AddInt64", "sync/atomic.LoadInt64"], unfollowed := true, recurses := true, apart := false, narrowed := true }
def LeapsNoneUptoSaid : Prop := leapsNoneUptoRow.holds Try.pinned (OpenSpec.upto leapsNoneSpec)

end Rows
end Go.Proofs.Ytgpnapeobkiekaa
