/-
  The contract of ratio.products: the product of each pair, or that one does not fit. Of at most 1000 pairs.
-/
import Derived.Test.YtklankodjjkhiaaRatA
namespace Go.Proofs.Ytklankodjjkhiaa
open Go.RowKit

/-- The pairs that a row holds. -/
def PairsAt (A B : Nat → Int) (G : List (List Value)) : Prop := ∀ (j : Nat) (g : List Value), G[j]? = some g → ∃ ah al bh bl : Int, g = [.int .i64 ah, .int .u64 al, .int .i64 bh, .int .u64 bl] ∧ WideIs ah al (A j) ∧ WideIs bh bl (B j)
/-- The numbers that a row holds, up to i. -/
def WidesAt (Z : Nat → Int) (i : Nat) (G : List (List Value)) : Prop := ∀ (j : Nat) (g : List Value), j < i → G[j]? = some g → ∃ h l : Int, g = [.int .i64 h, .int .u64 l] ∧ WideIs h l (Z j)
theorem PairsAt.len {A B : Nat → Int} {G : List (List Value)} (h : PairsAt A B G) : ∀ g ∈ G, g.length = 4 := by
  intro g hg
  obtain ⟨j, hj⟩ := List.getElem?_of_mem hg
  obtain ⟨_, _, _, _, rfl, _⟩ := h j g hj
  rfl
theorem inW_fit {z : Int} (h : inW z = true) : fitV z = z ∧ fitE z = 0 := by unfold fitV fitE; simp [h]
theorem inW_not {z : Int} (h : inW z = false) : fitE z = 2 := by unfold fitE; simp [h]
theorem products_any {n p : Nat} {A B : Nat → Int} {G : List (List Value)} {t : TypeId} {w : World} (hn : n ≤ 1000) (hG : G.length = n) (hrow : RowIs w p t G.flatten) (hP : PairsAt A B G) :
    Calls Try.prog 33 #[.slice (some ⟨p, 0, none⟩) n n] w fun e w' => ∃ r, e = .returned r ∧
      ((∀ j, j < n → inW (A j * B j) = true) ∧ (∃ c G', r = .tuple #[.slice (some ⟨c, 0, none⟩) n n, .int .i64 0] ∧ RowIs w' c 24 G'.flatten ∧ G'.length = n ∧ (∀ g ∈ G', g.length = 2) ∧ WidesAt (fun j => A j * B j) n G') ∨
       (∃ j, j < n ∧ inW (A j * B j) = false) ∧ r = .tuple #[.slice none 0 0, .int .i64 2]) ∧ Below w.heap.size w w' := by
  have hp := hrow.lt
  refine calls_Wp (args := [_]) (n := 36) Try.func33 rfl rfl (by simp) ?_
  repeat refine Wp.seq ?_
  refine (Wp.region [0, 1] (by kernel_rfl) (by kernel_rfl) ?_)
  repeat (first | refine s_load rfl rfl rfl rfl rfl rfl rfl ?_ | (first | refine s_field 0 rfl rfl rfl rfl rfl ?_ | refine s_field 1 rfl rfl rfl rfl rfl ?_ | refine s_field 2 rfl rfl rfl rfl rfl ?_ | refine s_field 3 rfl rfl rfl rfl rfl ?_ | refine s_field 4 rfl rfl rfl rfl rfl ?_ | refine s_field 5 rfl rfl rfl rfl rfl ?_) | refine s_move rfl rfl rfl rfl ?_ | refine s_assign rfl rfl rfl rfl ?_ | refine s_extract rfl rfl rfl rfl rfl ?_ | refine s_box rfl rfl rfl rfl rfl rfl (fun _ _ _ _ => ?_) | refine s_alloc rfl rfl rfl rfl rfl (fun _ _ _ _ => ?_) | refine s_store rfl rfl rfl rfl rfl rfl rfl (fun _ _ _ => ?_) | refine s_cmp rfl rfl rfl rfl rfl rfl ?_ | refine s_not rfl rfl rfl rfl ?_ | refine s_pick rfl rfl rfl rfl rfl ?_ | refine s_skip rfl rfl rfl ?_ | refine s_val rfl rfl rfl rfl (fun _ => rfl) ?_)
  refine vOrd_nil ?_
  repeat refine Wp.seq ?_
  refine (Wp.region [0, 1, 2, 3] (by kernel_rfl) (by kernel_rfl) ?_)
  refine s_move rfl rfl rfl rfl ?_
  refine s_run (v := .int .i64 n) rfl rfl rfl rfl (by kernel_rfl) ?_
  refine s_make (k1 := .i64) (k2 := .i64) (n := n) (e := 24) rfl rfl rfl rfl rfl rfl rfl rfl (by show (16 : Int) * _ ≤ _; omega) (by omega) ?_
  intro c w1 hc l1 hr1
  refine s_assign rfl rfl rfl rfl ?_
  refine vOrd_nil ?_
  repeat refine Wp.seq ?_
  refine (Wp.region [0, 1, 2] (by kernel_rfl) (by kernel_rfl) ?_)
  refine s_move rfl rfl rfl rfl ?_
  refine s_run (v := .int .i64 n) rfl rfl rfl rfl (by kernel_rfl) ?_
  refine s_move rfl rfl rfl rfl ?_
  refine vOrd_nil ?_
  generalize hM : (madeCells _ _).toList = L at hr1
  obtain ⟨G0, g1, g2, rfl⟩ := flat_of (n := n) (k := 2) (l := L) (by rw [← hM, Array.length_toList, size_madeCells]; rfl)
  refine Wp.block (Wp.loop (fun k st w1 => ∃ (i c : Nat) (G' : List (List Value)), st = St.of [(2, .v (.slice none 0 0)), (3, .v (.int .i64 0)), (4, .v (.slice (some ⟨c, 0, none⟩) n n)), (12, .v (.slice (some ⟨p, 0, none⟩) n n)), (13, .v (.int .i64 n)), (14, .v (.int .i64 i))] [] ∧
    i ≤ n ∧ w.heap.size ≤ c ∧ RowIs w1 c 24 G'.flatten ∧ G'.length = n ∧ (∀ g ∈ G', g.length = 2) ∧ WidesAt (fun j => A j * B j) i G' ∧ (∀ j, j < i → inW (A j * B j) = true) ∧ RowIs w1 p t G.flatten ∧ k = n - i) ?_ ?_)
  · exact ⟨_, _, St.of_le' (env := [(2, .v _), (3, .v _), (4, .v _), (12, .v _), (13, .v _), (14, .v _)]) (mem := []) ⟨rfl, rfl, rfl, rfl, rfl, rfl, trivial⟩ trivial, 0, c, G0, rfl, by omega, hc, hr1, g1, g2, fun j g hj => by omega, fun j hj => by omega, hrow.later l1, rfl⟩
  · clear hr1 g1 g2 hM
    rintro k st w2 ⟨i, c, G', rfl, hi, hc, hR, hl, h2, hW, hF, hrow2, rfl⟩
    repeat refine Wp.seq ?_
    refine (Wp.region [0] (by kernel_rfl) (by kernel_rfl) ?_)
    by_cases g : i < n
    · refine s_cmp (c := true) rfl rfl rfl rfl rfl (congrArg some (decide_eq_true (by omega))) ?_
      refine vOrd_nil ?_
      refine Wp.seq (Wp.condT rfl rfl (Wp.skip ?_))
      refine Wp.seq (Wp.block ?_)
      obtain ⟨gj, hgj⟩ : ∃ gj, G[i]? = some gj := ⟨_, List.getElem?_eq_getElem (by omega)⟩
      obtain ⟨ah, al, bh, bl, rfl, ha, hb⟩ := hP i gj hgj
      repeat refine Wp.seq ?_
      refine (Wp.region [0, 1, 2, 3, 4, 5] (by kernel_rfl) (by kernel_rfl) ?_)
      refine s_move rfl rfl rfl rfl ?_
      refine s_idx (sz := 4) (i * 4) rfl rfl rfl rfl rfl rfl rfl (by omega) (by omega) (by rw [Int.toNat_natCast, Nat.zero_add]) ?_
      refine s_ldU rfl rfl rfl rfl hrow2.var (read_flat (by kernel_rfl) (by kernel_rfl) hP.len hgj) ?_
      refine s_alloc rfl rfl rfl rfl rfl ?_
      intro b6 w3 hb6 l3
      refine s_assign rfl rfl rfl rfl ?_
      refine s_store rfl rfl rfl rfl rfl rfl rfl ?_
      intro w4 s4 v4
      refine vOrd_nil ?_
      have hR4 := (hR.later l3).stored s4 (by have := hR.lt; omega)
      have hr4 := (hrow2.later l3).stored s4 (by have := hrow2.lt; omega)
      repeat refine Wp.seq ?_
      refine (Wp.region [0, 1, 2, 3, 4, 5, 6, 7, 8, 9, 10] (by kernel_rfl) (by kernel_rfl) ?_)
      repeat (first | refine s_load rfl rfl rfl rfl rfl rfl rfl ?_ | (first | refine s_field 0 rfl rfl rfl rfl rfl ?_ | refine s_field 1 rfl rfl rfl rfl rfl ?_ | refine s_field 2 rfl rfl rfl rfl rfl ?_ | refine s_field 3 rfl rfl rfl rfl rfl ?_ | refine s_field 4 rfl rfl rfl rfl rfl ?_ | refine s_field 5 rfl rfl rfl rfl rfl ?_) | refine s_move rfl rfl rfl rfl ?_ | refine s_assign rfl rfl rfl rfl ?_ | refine s_extract rfl rfl rfl rfl rfl ?_ | refine s_box rfl rfl rfl rfl rfl rfl (fun _ _ _ _ => ?_) | refine s_alloc rfl rfl rfl rfl rfl (fun _ _ _ _ => ?_) | refine s_store rfl rfl rfl rfl rfl rfl rfl (fun _ _ _ => ?_) | refine s_cmp rfl rfl rfl rfl rfl rfl ?_ | refine s_not rfl rfl rfl rfl ?_ | refine s_pick rfl rfl rfl rfl rfl ?_ | refine s_skip rfl rfl rfl ?_ | refine s_val rfl rfl rfl rfl (fun _ => rfl) ?_)
      refine s_call rfl rfl rfl (by kernel_rfl) rfl ?_
      refine (wmul_any ha hb _).mono ?_
      rintro e w5 ⟨h, l, hm, rfl, b5⟩
      refine ⟨_, rfl, b5, ?_⟩
      refine s_move rfl rfl rfl rfl ?_
      refine s_extract rfl rfl rfl rfl rfl ?_
      refine s_extract rfl rfl rfl rfl rfl ?_
      refine s_alloc rfl rfl rfl rfl rfl ?_
      intro b7 w6 hb7 l6
      refine s_store rfl rfl rfl rfl rfl rfl rfl ?_
      intro w7 s7 v7
      refine s_assign rfl rfl rfl rfl ?_
      refine vOrd_nil ?_
      have z2 : c < w2.heap.size := hR.lt
      have z4 : c < w4.heap.size := hR4.lt
      have z5 : w4.heap.size ≤ w5.heap.size := b5.size
      have hR7 := ((hR4.later b5).later l6).stored s7 (by omega)
      have hr7 := ((hr4.later b5).later l6).stored s7 (by have := hr4.lt; omega)
      repeat refine Wp.seq ?_
      refine (Wp.region [0, 1] (by kernel_rfl) (by kernel_rfl) ?_)
      cases hw : inW (A i * B i)
      · have e2 := inW_not hw
        rw [e2]
        refine s_move rfl rfl rfl rfl ?_
        refine s_cmp (c := true) rfl rfl rfl rfl rfl rfl ?_
        refine vOrd_nil ?_
        refine Wp.condT rfl rfl ?_
        repeat refine Wp.seq ?_
        refine (Wp.region [0, 1, 2] (by kernel_rfl) (by kernel_rfl) ?_)
        repeat (first | refine s_load rfl rfl rfl rfl rfl rfl rfl ?_ | (first | refine s_field 0 rfl rfl rfl rfl rfl ?_ | refine s_field 1 rfl rfl rfl rfl rfl ?_ | refine s_field 2 rfl rfl rfl rfl rfl ?_ | refine s_field 3 rfl rfl rfl rfl rfl ?_ | refine s_field 4 rfl rfl rfl rfl rfl ?_ | refine s_field 5 rfl rfl rfl rfl rfl ?_) | refine s_move rfl rfl rfl rfl ?_ | refine s_assign rfl rfl rfl rfl ?_ | refine s_extract rfl rfl rfl rfl rfl ?_ | refine s_box rfl rfl rfl rfl rfl rfl (fun _ _ _ _ => ?_) | refine s_alloc rfl rfl rfl rfl rfl (fun _ _ _ _ => ?_) | refine s_store rfl rfl rfl rfl rfl rfl rfl (fun _ _ _ => ?_) | refine s_cmp rfl rfl rfl rfl rfl rfl ?_ | refine s_not rfl rfl rfl rfl ?_ | refine s_pick rfl rfl rfl rfl rfl ?_ | refine s_skip rfl rfl rfl ?_ | refine s_val rfl rfl rfl rfl (fun _ => rfl) ?_)
        refine vOrd_nil ?_
        exact Wp.ret ⟨.inr rfl, fun l => ⟨_, ⟨_, _, res_tmp (P := Try.prog) rfl rfl, res_tmp (P := Try.prog) rfl rfl, rfl⟩, _, rfl, .inr ⟨⟨i, g, hw⟩, rfl⟩, l⟩⟩
      · obtain ⟨e1, e2⟩ := inW_fit hw
        rw [e2]
        rw [e1] at hm
        refine s_move rfl rfl rfl rfl ?_
        refine s_cmp (c := false) rfl rfl rfl rfl rfl rfl ?_
        refine vOrd_nil ?_
        refine Wp.condF rfl rfl (Wp.skip ?_)
        repeat refine Wp.seq ?_
        refine (Wp.region [0, 1, 2, 3, 4] (by kernel_rfl) (by kernel_rfl) ?_)
        refine s_move rfl rfl rfl rfl ?_
        refine s_move rfl rfl rfl rfl ?_
        refine s_load rfl rfl rfl rfl rfl rfl rfl ?_
        refine s_idx (sz := 2) (i * 2) rfl rfl rfl rfl rfl rfl rfl (by omega) (by omega) (by rw [Int.toNat_natCast, Nat.zero_add]) ?_
        refine s_stU rfl rfl rfl rfl rfl hR7 (write_flat (by kernel_rfl) h2 (by omega) rfl rfl) hc ?_ ?_
        · repeat (first | exact Avoid.nil _ _ | refine Avoid.put ?_ | refine Avoid.new ?_ (by omega) | refine Avoid.set ?_ (by omega))
        intro w8 s8 hR8
        refine vOrd_nil ?_
        repeat refine Wp.seq ?_
        refine (Wp.region [0, 1] (by kernel_rfl) (by kernel_rfl) ?_)
        refine s_arith (c := i + 1) rfl rfl rfl rfl rfl (congrArg some (by rw [IntKind.wrap_i64]; omega)) ?_
        refine s_move rfl rfl rfl rfl ?_
        refine vOrd_nil ?_
        refine ⟨_, _, ?_, St.of_le' (env := [(2, .v _), (3, .v _), (4, .v _), (12, .v _), (13, .v _), (14, .v _)]) (mem := []) ⟨rfl, rfl, rfl, rfl, rfl, rfl, trivial⟩ trivial, i + 1, c, _, rfl, by omega, hc, hR8, by rw [List.length_set]; exact hl, ?_, ?_, ?_, hr7.stored s8 (by omega), rfl⟩
        · omega
        · intro x hx
          rcases List.mem_or_eq_of_mem_set hx with e | e
          · exact h2 x e
          · rw [e]; rfl
        · intro j x hj hx
          by_cases e : j = i
          · subst e
            rw [List.getElem?_set_self (by omega)] at hx
            cases hx
            exact ⟨_, _, rfl, hm⟩
          · rw [List.getElem?_set_ne (Ne.symm e)] at hx
            exact hW j x (by omega) hx
        · intro j hj
          by_cases e : j = i
          · rw [e]; exact hw
          · exact hF j (by omega)
    · refine s_cmp (c := false) rfl rfl rfl rfl rfl (congrArg some (decide_eq_false (by omega))) ?_
      refine vOrd_nil ?_
      refine Wp.seq (Wp.condF rfl rfl (Wp.exit ?_))
      have e : i = n := by omega
      subst e
      repeat refine Wp.seq ?_
      refine (Wp.region [0, 1, 2] (by kernel_rfl) (by kernel_rfl) ?_)
      repeat (first | refine s_load rfl rfl rfl rfl rfl rfl rfl ?_ | (first | refine s_field 0 rfl rfl rfl rfl rfl ?_ | refine s_field 1 rfl rfl rfl rfl rfl ?_ | refine s_field 2 rfl rfl rfl rfl rfl ?_ | refine s_field 3 rfl rfl rfl rfl rfl ?_ | refine s_field 4 rfl rfl rfl rfl rfl ?_ | refine s_field 5 rfl rfl rfl rfl rfl ?_) | refine s_move rfl rfl rfl rfl ?_ | refine s_assign rfl rfl rfl rfl ?_ | refine s_extract rfl rfl rfl rfl rfl ?_ | refine s_box rfl rfl rfl rfl rfl rfl (fun _ _ _ _ => ?_) | refine s_alloc rfl rfl rfl rfl rfl (fun _ _ _ _ => ?_) | refine s_store rfl rfl rfl rfl rfl rfl rfl (fun _ _ _ => ?_) | refine s_cmp rfl rfl rfl rfl rfl rfl ?_ | refine s_not rfl rfl rfl rfl ?_ | refine s_pick rfl rfl rfl rfl rfl ?_ | refine s_skip rfl rfl rfl ?_ | refine s_val rfl rfl rfl rfl (fun _ => rfl) ?_)
      refine vOrd_nil ?_
      exact Wp.ret ⟨.inr rfl, fun l => ⟨_, ⟨_, _, res_tmp (P := Try.prog) rfl rfl, res_tmp (P := Try.prog) rfl rfl, rfl⟩, _, rfl, .inl ⟨hF, c, G', rfl, hR, hl, h2, hW⟩, l⟩⟩
end Go.Proofs.Ytklankodjjkhiaa
