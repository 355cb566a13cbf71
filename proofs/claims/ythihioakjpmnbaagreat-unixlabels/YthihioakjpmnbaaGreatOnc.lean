/-
 sync.Once by one goroutine: the first call of Do runs the function that it is handed, and marks it as done; any other one does nothing. sync/atomic: Load and Add. Conditions: the lock is free, nothing is frozen.
-/
import Derived.Test.YthihioakjpmnbaaGreatEntA
import Derived.Maps.AppendAt
import Derived.Test.YthihioakjpmnbaaGreatListR
import Derived.Test.YthihioakjpmnbaaGreatProg
import Derived.WalkKit
import Derived.Conc.MuLone
import Derived.Tactics
import Derived.Tactics2
import Derived.Defers
import Derived.Laws.Pointers
import Derived.Laws.LoneSync
import Derived.RegionTactic
import Derived.RegionCalls
import Derived.ChangeAlike
import Derived.Laws.NewBlocks
namespace Go.Proofs.YthihioakjpmnbaaGreat
open Go.RowKit
set_option maxRecDepth 100000

theorem own_ne {w : World} {base : Nat} {e : TypeId} {sz : Nat} {v : Value} {n b : Nat} {xs : List Value} (h : w.ownsRow base e sz v n xs) (hb : b < base ∨ w.heap.size ≤ b) : v.ownBlock ≠ some b := by
 rcases h.2 with ⟨h1, _⟩ | ⟨g, cap, cur, h1, h2, h3, _⟩
 ·subst h1; simp [Value.ownBlock]
 ·subst h1
  have := (Array.getElem?_eq_some_iff.1 h3).1
  simp only [Value.ownBlock, ne_eq, Option.some.injEq]
  omega
theorem own_sto {w w' : World} {base : Nat} {e : TypeId} {sz : Nat} {v : Value} {n b : Nat} {xs : List Value} (h : w.ownsRow base e sz v n xs) (s : Stored b w w') (hb : v.ownBlock ≠ some b) : w'.ownsRow base e sz v n xs := h.kept (grown_of_stored s) (.inr hb)
theorem Var.sto {w w' : World} {g b : Nat} {cs : List Value} (h : Var w g cs) (s : Stored b w w') (hb : g ≠ b) : Var w' g cs := by
 obtain ⟨t, h⟩ := h
 exact ⟨t, by rw [s.block g hb]; exact h⟩
theorem Var.grown {w w' : World} {g : Nat} {row : Option Nat} {cs : List Value} (h : Var w g cs) (s : w.grownBy w' row) (hb : some g ≠ row) : Var w' g cs := by
 have hlt := h.lt
 obtain ⟨t, h⟩ := h
 exact ⟨t, by rw [s.block g hlt hb]; exact h⟩
theorem own_rowK {w : World} {base : Nat} {e : TypeId} {sz : Nat} {v : Value} {n : Nat} {xs : List Value} (h : w.ownsRow base e sz v n xs) (hn : 0 < n) : ∃ g cap cs, v = .slice (some ⟨g, 0, none⟩) n cap ∧ base ≤ g ∧ RowIs w g e cs ∧ n ≤ cap ∧ cs.length = cap * sz ∧ cs.take (n * sz) = xs ∧ ∀ w' cs', RowIs w' g e cs' → cs'.length = cap * sz → w'.ownsRow base e sz v n (cs'.take (n * sz)) := by
 obtain ⟨h1, h | ⟨g, cap, cur, hv, hg, hr, hc, hm, hs, ht⟩⟩ := h
 ·omega
 ·refine ⟨g, cap, cur.toList, hv, hg, by unfold RowIs; simpa using hr, hc, by simpa using hs, ht, fun w' cs' hr' hl => ⟨?_, .inr ⟨g, cap, cs'.toArray, hv, hg, hr', hc, hm, by simpa using hl, by simp⟩⟩⟩
  rw [List.length_take, hl, Nat.min_eq_left (Nat.mul_le_mul_right _ hc)]
theorem own_sliceK {w : World} {base : Nat} {e : TypeId} {sz : Nat} {v : Value} {n : Nat} {xs : List Value} (h : w.ownsRow base e sz v n xs) : ∃ a c, v = .slice a n c := by
 obtain ⟨_, ⟨rfl, rfl⟩ | ⟨g, cap, _, rfl, _⟩⟩ := h
 ·exact ⟨_, _, rfl⟩
 ·exact ⟨_, _, rfl⟩
theorem RowIs.turn2 {w w1 w2 : World} {c : Nat} {t : TypeId} {cs cs' : List Value} (h : RowIs w c t cs) (s1 : Stored c w w1) (s2 : Stored c w1 w2) (v : Var w2 c cs') : RowIs w2 c t cs' := by
 obtain ⟨ds, hd⟩ := s1.ty _ _ _ h
 obtain ⟨es, he⟩ := s2.ty _ _ _ hd
 obtain ⟨t', hv⟩ := v
 rw [he] at hv
 cases hv
 exact he
theorem RowIs.late {w w' : World} {c : Nat} {t : TypeId} {cs : List Value} (h : RowIs w c t cs) (l : Later w w') : RowIs w' c t cs := by
 have hlt := h.var.lt
 unfold RowIs at *
 rw [l.block c hlt]
 exact h
theorem cell_var {w : World} {b : Nat} {cs : List Value} (h : Var w b cs) (j : Nat) : w.cell? ⟨b, j, none⟩ = cs[j]? := by
 obtain ⟨t, h⟩ := h
 rw [cell_of_row w b j _ t _ h]; simp
section
variable {P : Program} {B : Nat} {lax : Bool} {ops : Array Oper} {Rs : Nat → Value → World → Prop} {K : St → World → Prop} {i : Nat} {rest : List Nat} {st : St} {w : World}
variable {d : Nat} {ty : TypeId} {pos : String} {aft : Array Edge} {g : Option (Nat × Bool)}
/-- append of what lies anywhere, any size; where the new row lies. -/
theorem x_appendW {t e : TypeId} {ii : TypeInfo} {z : Value} {s x : Operand} {v : Value} {base n m c b off sz bs : Nat} {xs news : List Value} (ho : ops[i]? = some ⟨some d, .call ⟨.builtin .append, #[s, x], #[t, t]⟩, ty, pos, aft, g⟩) (hg : gok ops st g = true) (hk : known st ⟨some d, .call ⟨.builtin .append, #[s, x], #[t, t]⟩, ty, pos, aft, g⟩ = true)
  (hs : st.ev s = .v v) (hx : st.ev x = .v (.slice (some ⟨b, off, none⟩) m c)) (ht : P.underlying t = some (.slice e)) (hi : P.info? e = some ii) (hz : ii.zero = some z) (hsz : ii.size = sz) (hbs : ii.bytes = bs) (hzs : z.cells.size = sz) (hp : 0 < sz)
  (hown : w.ownsRow base e sz v n xs) (hc : ∀ j y, news[j]? = some y → w.cell? ⟨b, off + j, none⟩ = some y) (hl : news.length = m * sz) (h1 : ∀ u ∈ news, u.oneCell' = true) (h63 : n + m ≤ 9223372036854775807) (hby : (n + m) * bs ≤ 140737488355328) (hbase : base ≤ w.heap.size) (hB : B ≤ base)
  (ha : AllMem (fun k => v.ownBlock ≠ some k) st)
  (h : ∀ v' w', w'.ownsRow base e sz v' (n + m) (xs ++ news) → w.grownBy w' v.ownBlock → (v'.ownBlock = v.ownBlock ∨ v'.ownBlock = some w.heap.size) → vOrd P B true ops Rs K rest (st.put (some d) (.v v')) w') : vOrd P B true ops Rs K (i :: rest) st w := by
 have es : st.rho s = v := by rw [St.rho, hs]; rfl
 have ex : st.rho x = .slice (some ⟨b, off, none⟩) m c := by rw [St.rho, hx]; rfl
 obtain ⟨v', w', hr, ho', hgr, _, hat⟩ := run_append_own_at (P := P) w base t ty e ii z sz bs ht hi hz hsz hbs hzs hp v n xs hown ⟨b, off, none⟩ m c news hl (fun j u hj => by
  rw [addr_add]; exact hc j u hj) h1 (by simp only [maxLen]; omega) hby hbase
 refine ⟨_, ho, .inr ⟨rfl, hg, hk, rfl, .inr (.inr (.inl (fun _ => ⟨v', w', v.ownBlock, ?_, hgr, fun k e => Nat.le_trans hB (hown.lt k e).1, ha, h v' w' ho' hgr hat⟩)))⟩⟩
 simp [execOp, es, ex, resolve, invoke, builtin, hr]
end
section
variable {P : Program} {B : Nat} {w : World} {st : St} {md : Region.Mode} {ops : Array Oper} {Rs : Nat → Value → World → Prop} {K : St → World → Prop}
theorem vTree_three {listed L1 L2 L3 : Array Bool} {m i k j : Nat} (hr : Region.ready md ops listed = [i, k, j]) (hL1 : listed.setIfInBounds i true = L1) (hL2 : listed.setIfInBounds k true = L2) (hL3 : listed.setIfInBounds j true = L3)
  (h1 : vOrd P B true ops Rs (vTree P md B ops Rs K m L1) [i] st w) (h2 : vOrd P B true ops Rs (vTree P md B ops Rs K m L2) [k] st w) (h3 : vOrd P B true ops Rs (vTree P md B ops Rs K m L3) [j] st w) : vTree P md B ops Rs K (m + 1) listed st w :=
 ⟨by rw [hr]; simp, fun q hq => by
  rw [hr] at hq
  simp only [List.mem_cons, List.not_mem_nil, or_false] at hq
  rcases hq with rfl | rfl | rfl
  ·subst hL1; exact h1
  ·subst hL2; exact h2
  ·subst hL3; exact h3⟩
theorem vTree_four {listed L1 L2 L3 L4 : Array Bool} {m i k j l : Nat} (hr : Region.ready md ops listed = [i, k, j, l]) (hL1 : listed.setIfInBounds i true = L1) (hL2 : listed.setIfInBounds k true = L2) (hL3 : listed.setIfInBounds j true = L3) (hL4 : listed.setIfInBounds l true = L4)
  (h1 : vOrd P B true ops Rs (vTree P md B ops Rs K m L1) [i] st w) (h2 : vOrd P B true ops Rs (vTree P md B ops Rs K m L2) [k] st w) (h3 : vOrd P B true ops Rs (vTree P md B ops Rs K m L3) [j] st w) (h4 : vOrd P B true ops Rs (vTree P md B ops Rs K m L4) [l] st w) : vTree P md B ops Rs K (m + 1) listed st w :=
 ⟨by rw [hr]; simp, fun q hq => by
  rw [hr] at hq
  simp only [List.mem_cons, List.not_mem_nil, or_false] at hq
  rcases hq with rfl | rfl | rfl | rfl
  ·subst hL1; exact h1
  ·subst hL2; exact h2
  ·subst hL3; exact h3
  ·subst hL4; exact h4⟩
end
end Go.Proofs.YthihioakjpmnbaaGreat

namespace Go.Proofs.YthihioakjpmnbaaGreat
open Go.RowKit
set_option maxRecDepth 100000

/-- The cells of a list of entries. -/
def entC (es : List Ent) : List Value := (es.map fun a => [.int .i64 a.1, .int .i64 a.2]).flatten
theorem entC_at : ∀ (es : List Ent) (j : Nat) (x : Ent), es[j]? = some x → (entC es)[j * 2]? = some (.int .i64 x.1) ∧ (entC es)[j * 2 + 1]? = some (.int .i64 x.2)
 | [], j, x, h => by simp at h
 | a :: es, 0, x, h => by
  simp only [List.getElem?_cons_zero, Option.some.injEq] at h
  subst h
  exact ⟨rfl, rfl⟩
 | a :: es, j + 1, x, h => by
  have := entC_at es j x (by simpa using h)
  rw [show (j + 1) * 2 = j * 2 + 1 + 1 by omega]
  exact this
theorem entC_len (es : List Ent) : (entC es).length = es.length * 2 := by
 induction es with
 | nil => rfl
 | cons a es ih => simp only [entC, List.map_cons, List.flatten_cons, List.length_append, List.length_cons, List.length_nil] at ih ⊢; omega
theorem ents_own {w : World} {base : Nat} {v : Value} {es : List Ent} (h : w.ownsRow base 56 2 v es.length (entC es)) (hi : ∀ j, j < es.length → okAt es j = true) : EntAt w v es := by
 rcases h.2 with ⟨h1, h2⟩ | ⟨g, cap, cur, h1, _, h3, h4, _, _, h7⟩
 ·subst h1
  exact ⟨none, 0, by rw [h2], by omega, fun j x hj => by have := (List.getElem?_eq_some_iff.1 hj).1; omega⟩
 ·refine ⟨_, cap, h1, h4, fun j x hj => ?_⟩
  have hx := ok_ents hi hj
  have hlt := (List.getElem?_eq_some_iff.1 hj).1
  have hc := entC_at es j x hj
  have key : ∀ q u, q < es.length * 2 → (entC es)[q]? = some u → w.cell? ⟨g, 0 + q, none⟩ = some u := fun q u hq hu => by
   rw [Nat.zero_add, cell_of_row w g q _ _ _ h3]
   rw [← h7, List.getElem?_take_of_lt hq] at hu
   simpa using hu
  refine ⟨by unfold I64; omega, by unfold I64; omega, g, 0, rfl, key _ _ (by omega) hc.1, ?_⟩
  have := key _ _ (by omega) hc.2
  rwa [← Nat.add_assoc] at this
/-! ### Lists of ints -/
def IntsAt (w : World) (v : Value) (l : List Int) : Prop :=
 ∃ a c, v = .slice a l.length c ∧ l.length ≤ c ∧ ∀ j x, l[j]? = some x → I64 x ∧ ∃ b off, a = some ⟨b, off, none⟩ ∧ w.cell? ⟨b, off + j, none⟩ = some (.int .i64 x)
theorem IntsAt.later {w w' : World} {v : Value} {l : List Int} (h : IntsAt w v l) (k : Later w w') : IntsAt w' v l := by
 obtain ⟨a, c, h1, h2, h3⟩ := h
 refine ⟨a, c, h1, h2, fun j x hj => ?_⟩
 obtain ⟨i1, b, off, e, q⟩ := h3 j x hj
 exact ⟨i1, b, off, e, (World.cell?_of_block (k.block b (World.block_lt_of_cell? w _ q))).trans q⟩
theorem IntsAt.form {w : World} {v : Value} {l : List Int} (h : IntsAt w v l) : ∃ a c, v = .slice a l.length c := by
 obtain ⟨a, c, h1, _⟩ := h
 exact ⟨a, c, h1⟩
end Go.Proofs.YthihioakjpmnbaaGreat

namespace Go.Proofs.YthihioakjpmnbaaGreat
open Go.MuLone

abbrev muLink : Go.Conc.Locks.MuLink := { lock := 132, unlock := 133, ilock := 140, iunlock := 141, lockSlow := 154, unlockSlow := 157, disable := 150, enable := 152, acquire := 153, relMerge := 155, cas32 := 151, add32 := 156, tMutex := 111, tIMutex := 109, tPMutex := 200, tPIMutex := 209, tPI32 := 211, tUP := 213, tNoCopy := 104, tU32 := 105 }
theorem muLib : Go.Conc.Locks.MuLib Tryz.prog muLink :=
 ⟨Tryz.func132, Tryz.func133, Tryz.func140, Tryz.func141, Tryz.func150, Tryz.func152, Tryz.func153, Tryz.func155, Tryz.func151, Tryz.func156, Tryz.underlying109, Tryz.runUnderlying109, Tryz.sizeOf109, Tryz.isAgg109, Tryz.zeroValue109, Tryz.underlying111, Tryz.runUnderlying111, Tryz.sizeOf111, Tryz.isAgg111, Tryz.zeroValue111, Tryz.underlying200, Tryz.runUnderlying200, Tryz.sizeOf200, Tryz.isAgg200, Tryz.zeroValue200, Tryz.underlying209, Tryz.runUnderlying209, Tryz.sizeOf209, Tryz.isAgg209, Tryz.zeroValue209, Tryz.underlying211, Tryz.runUnderlying211, Tryz.sizeOf211, Tryz.isAgg211, Tryz.zeroValue211, Tryz.underlying213, Tryz.runUnderlying213, Tryz.sizeOf213, Tryz.isAgg213, Tryz.zeroValue213, Tryz.underlying104, Tryz.runUnderlying104, Tryz.sizeOf104, Tryz.isAgg104, Tryz.zeroValue104, Tryz.underlying21, Tryz.runUnderlying21, Tryz.sizeOf21, Tryz.isAgg21, Tryz.zeroValue21, (by kernel_rfl)⟩

set_option maxHeartbeats 1600000 in
/-- Done already: nothing happens. -/
theorem do_done (b off : Nat) (d : Int) (hd : ¬ d = 0) (fv : Value) (w : World) (h0 : w.cell? ⟨b, off, none⟩ = some (.int .u32 d)) :
  Calls Tryz.prog 89 #[.pointer (some ⟨b, off, none⟩), fv] w fun e w' => e = .returned (.tuple #[]) ∧ w' = w := by
 have hl := run_call_load (P := Tryz.prog) Tryz.func131 (by kernel_rfl) (by kernel_rfl) (by kernel_rfl) .u32 (by kernel_rfl) h0
 have hnot : ∀ (x : Bool) (w : World), (Op.unary .not (.bool x)).run Tryz.prog w = .ok (.bool (!x)) w := fun _ _ => rfl
 have hd' : (d != 0) = true := by simp [hd]
 go_enter Tryz.func89, Tryz.ntmps89
 go_wp2
 go_end0
 exact ⟨rfl, rfl⟩
/-- '(*sync/atomic.Bool).Store(true)', as a deferred call. -/
theorem store_deferred (a : Addr) (x : Value) (u : FrameMode) (w : World) (hc : w.cell? a = some x) (hz : w.frozen? a = false) :
  CallsD Tryz.prog 134 #[.pointer (some a), .bool true] u w fun e u' w' => u' = u ∧ (e = .returned (.tuple #[]) ∧ w' = w.drew.setCell a (.int .u32 1)) := by
 have hc' : w.drew.cell? a = some x := by go_simp
 have hz' : w.drew.frozen? a = false := by go_simp
 have hst := run_call_store (P := Tryz.prog) Tryz.func142 (by kernel_rfl) (by kernel_rfl) (by kernel_rfl) (by kernel_rfl) (k := .u32) (y := 1) hc' hz'
 go_enter_d Tryz.func134, Tryz.ntmps134
 go_wp2
 go_region_calls
 all_goals (go_end0; exact ⟨rfl, rfl⟩)
set_option maxRecDepth 100000 in
set_option maxHeartbeats 1600000 in
/-- Not yet done, and the lock free: the method is called, with the lock held. -/
theorem slow_any (b off : Nat) (l : Addr) (J : World → Prop) (w : World) (h0 : w.cell? ⟨b, off, none⟩ = some (.int .u32 0)) (h1 : w.cell? ⟨b, off + 1, none⟩ = some (.int .i32 0)) (f1 : w.frozen? ⟨b, off + 1, none⟩ = false)
  (hs : Calls Tryz.prog 90 #[.pointer (some l)] (w.setCell ⟨b, off + 1, none⟩ (.int .i32 1)) fun e w2 => e = .returned (.tuple #[]) ∧ J w2 ∧ w2.cell? ⟨b, off, none⟩ = some (.int .u32 0) ∧ w2.cell? ⟨b, off + 1, none⟩ = some (.int .i32 1) ∧ w2.frozen? ⟨b, off, none⟩ = false ∧ w2.frozen? ⟨b, off + 1, none⟩ = false) :
  Calls Tryz.prog 119 #[.pointer (some ⟨b, off, none⟩), .func (.func 90) #[.pointer (some l)] #[]] w fun e w' => e = .returned (.tuple #[]) ∧ ∃ w2, J w2 ∧ w' = (w2.drew.setCell ⟨b, off, none⟩ (.int .u32 1)).setCell ⟨b, off + 1, none⟩ (.int .i32 0) := by
 have hl := run_call_load (P := Tryz.prog) Tryz.func131 (by kernel_rfl) (by kernel_rfl) (by kernel_rfl) .u32 (by kernel_rfl) (w := w.setCell ⟨b, off + 1, none⟩ (.int .i32 1)) (a := ⟨b, off, none⟩) (x := 0) ((World.cell?_setCell_other _ ⟨b, off + 1, none⟩ ⟨b, off, none⟩ _ (by simp)).trans h0)
 have hnot : ∀ (x : Bool) (w : World), (Op.unary .not (.bool x)).run Tryz.prog w = .ok (.bool (!x)) w := fun _ _ => rfl
 go_enter_defers Tryz.func119, Tryz.ntmps119
 go_wp2_with (go_at_call 132; refine (lock_free muLib ⟨b, off + 1, none⟩ _ h1 f1).mono ?_; rintro e w' ⟨rfl, rfl⟩)
 go_wp2_with (go_at_call 118; go_in)
 refine hs.mono ?_
 rintro e w2 ⟨rfl, hJ, c0, c1, z0, z1⟩
 go_wp2
 refine leaves_cons (f := 134) (args := #[.pointer (some ⟨b, off, none⟩), .bool true]) (by simp) (by simp [go_sem]) ?_
 refine (store_deferred ⟨b, off, none⟩ (.int .u32 0) .returning _ c0 z0).mono ?_
 rintro e u' w'' ⟨rfl, rfl, rfl⟩
 refine leaves_cons (f := 133) (args := #[.pointer (some ⟨b, off + 1, none⟩)]) (by simp [settle]) (by simp [go_sem]) ?_
 refine (unlock_deferred muLib ⟨b, off + 1, none⟩ _ _ ?_ (by simp [z1])).mono ?_
 ·refine (World.cell?_setCell_other _ ⟨b, off, none⟩ ⟨b, off + 1, none⟩ _ (by simp)).trans ?_
  rw [World.cell?_drew]
  exact c1
 rintro e u' w'' ⟨rfl, rfl, rfl⟩
 simp [Leaves, settle, results, Tryz.results119]
 exact ⟨w2, hJ, rfl⟩
set_option maxRecDepth 100000 in
set_option maxHeartbeats 1600000 in
theorem do_first (b off : Nat) (l : Addr) (J : World → Prop) (w : World) (h0 : w.cell? ⟨b, off, none⟩ = some (.int .u32 0)) (h1 : w.cell? ⟨b, off + 1, none⟩ = some (.int .i32 0)) (f1 : w.frozen? ⟨b, off + 1, none⟩ = false)
  (hs : Calls Tryz.prog 90 #[.pointer (some l)] (w.setCell ⟨b, off + 1, none⟩ (.int .i32 1)) fun e w2 => e = .returned (.tuple #[]) ∧ J w2 ∧ w2.cell? ⟨b, off, none⟩ = some (.int .u32 0) ∧ w2.cell? ⟨b, off + 1, none⟩ = some (.int .i32 1) ∧ w2.frozen? ⟨b, off, none⟩ = false ∧ w2.frozen? ⟨b, off + 1, none⟩ = false) :
  Calls Tryz.prog 89 #[.pointer (some ⟨b, off, none⟩), .func (.func 90) #[.pointer (some l)] #[]] w fun e w' => e = .returned (.tuple #[]) ∧ ∃ w2, J w2 ∧ w' = (w2.drew.setCell ⟨b, off, none⟩ (.int .u32 1)).setCell ⟨b, off + 1, none⟩ (.int .i32 0) := by
 have hl := run_call_load (P := Tryz.prog) Tryz.func131 (by kernel_rfl) (by kernel_rfl) (by kernel_rfl) .u32 (by kernel_rfl) h0
 have hnot : ∀ (x : Bool) (w : World), (Op.unary .not (.bool x)).run Tryz.prog w = .ok (.bool (!x)) w := fun _ _ => rfl
 go_enter Tryz.func89, Tryz.ntmps89
 go_wp2_with (first | (go_at_call 119; refine (slow_any b off l J _ h0 h1 f1 hs).mono ?_; rintro e w' ⟨rfl, hw⟩) | (go_at_call 118; go_in))
 go_end0
 exact ⟨rfl, hw⟩
theorem addA_any (a : Addr) (k : Int) (h0 : -1000000000000 ≤ k) (h1 : k ≤ 1000000000000) (w : World) (hc : w.cell? a = some (.int .i64 k)) (hz : w.frozen? a = false) : Calls Tryz.prog 147 #[.pointer (some a), .int .i64 1] w fun e w' => e = .returned (.int .i64 (k + 1)) ∧ w' = w.setCell a (.int .i64 (k + 1)) := by
 have hadd := run_call_add (P := Tryz.prog) Tryz.func158 (by kernel_rfl) (by kernel_rfl) (by kernel_rfl) .i64 (by kernel_rfl) (y := 1) (s := k + 1) hc hz (by
  simp [go_sem]
  rw [IntKind.wrap_i64]
  omega)
 go_enter Tryz.func147, Tryz.ntmps147
 go_wp2
 go_ret
 exact ⟨rfl, rfl⟩
end Go.Proofs.YthihioakjpmnbaaGreat
