/-
  The contracts of ratio.Mul and ratio.Add, and of the laws' own helper 'fit' (do all fit in a Wide?). No conditions.
-/
import Derived.Test.YtklankodjjkhiaaRatJ
import Derived.Test.YtklankodjjkhiaaRatD
namespace Go.Proofs.Ytklankodjjkhiaa
open Go.RowKit

def two (a b : Int) (j : Nat) : Int := if j = 0 then a else b
def three (a b c : Int) (j : Nat) : Int := if j = 0 then a else if j = 1 then b else c
theorem pairs2 {ah al bh bl ch cl dh dl a b c d : Int} (ha : WideIs ah al a) (hb : WideIs bh bl b) (hc : WideIs ch cl c) (hd : WideIs dh dl d) :
    PairsAt (two a c) (two b d) [[.int .i64 ah, .int .u64 al, .int .i64 bh, .int .u64 bl], [.int .i64 ch, .int .u64 cl, .int .i64 dh, .int .u64 dl]] := by
  intro j g h
  match j, h with
  | 0, h => cases h; exact ⟨_, _, _, _, rfl, ha, hb⟩
  | 1, h => cases h; exact ⟨_, _, _, _, rfl, hc, hd⟩
  | j + 2, h => simp at h
theorem pairs3 {ah al bh bl ch cl dh dl eh el fh fl a b c d e f : Int} (ha : WideIs ah al a) (hb : WideIs bh bl b) (hc : WideIs ch cl c) (hd : WideIs dh dl d) (he : WideIs eh el e) (hf : WideIs fh fl f) :
    PairsAt (three a c e) (three b d f) [[.int .i64 ah, .int .u64 al, .int .i64 bh, .int .u64 bl], [.int .i64 ch, .int .u64 cl, .int .i64 dh, .int .u64 dl], [.int .i64 eh, .int .u64 el, .int .i64 fh, .int .u64 fl]] := by
  intro j g h
  match j, h with
  | 0, h => cases h; exact ⟨_, _, _, _, rfl, ha, hb⟩
  | 1, h => cases h; exact ⟨_, _, _, _, rfl, hc, hd⟩
  | 2, h => cases h; exact ⟨_, _, _, _, rfl, he, hf⟩
  | j + 3, h => simp at h
theorem WidesAt.get {Z : Nat → Int} {n i : Nat} {G : List (List Value)} (h : WidesAt Z n G) (hl : G.length = n) (hi : i < n) : ∃ x y : Int, G[i]? = some [.int .i64 x, .int .u64 y] ∧ WideIs x y (Z i) := by
  obtain ⟨x, y, e, hw⟩ := h i _ hi (List.getElem?_eq_getElem (by omega))
  exact ⟨x, y, by rw [List.getElem?_eq_getElem (by omega), e], hw⟩
theorem rmul_any {n d m k : Int} {u v : Value} (hu : IsR n d u) (hv : IsR m k v) (hd : 0 < d) (hk : 0 < k) (w : World) :
    Calls Try.prog 16 #[u, v] w fun e w' => ∃ r, e = .returned r ∧
      ((inW (n * m) && inW (d * k)) = true ∧ (∃ s, r = .tuple #[s, .int .i64 0] ∧ IsR (n * m / cgcd (n * m) (d * k)) (d * k / cgcd (n * m) (d * k)) s) ∨
       (inW (n * m) && inW (d * k)) = false ∧ r = .tuple #[.agg #[.int .i64 0, .int .u64 0, .int .i64 0, .int .u64 0], .int .i64 2]) ∧ Below w.heap.size w w' := by
  obtain ⟨nh, nl, dh, dl, rfl, hn, hD⟩ := hu
  obtain ⟨mh, ml, kh, kl, rfl, hm, hK⟩ := hv
  refine calls_Wp (args := [_, _]) (n := 36) Try.func16 rfl rfl (by simp) ?_
  repeat refine Wp.seq ?_
  refine (Wp.region [0, 1, 2, 3] (by kernel_rfl) (by kernel_rfl) ?_)
  repeat (first | refine s_load rfl rfl rfl rfl rfl rfl rfl ?_ | (first | refine s_field 0 rfl rfl rfl rfl rfl ?_ | refine s_field 1 rfl rfl rfl rfl rfl ?_ | refine s_field 2 rfl rfl rfl rfl rfl ?_ | refine s_field 3 rfl rfl rfl rfl rfl ?_ | refine s_field 4 rfl rfl rfl rfl rfl ?_ | refine s_field 5 rfl rfl rfl rfl rfl ?_) | refine s_move rfl rfl rfl rfl ?_ | refine s_assign rfl rfl rfl rfl ?_ | refine s_extract rfl rfl rfl rfl rfl ?_ | refine s_box rfl rfl rfl rfl rfl rfl (fun _ _ _ _ => ?_) | refine s_alloc rfl rfl rfl rfl rfl (fun _ _ _ _ => ?_) | refine s_store rfl rfl rfl rfl rfl rfl rfl (fun _ _ _ => ?_) | refine s_cmp rfl rfl rfl rfl rfl rfl ?_ | refine s_not rfl rfl rfl rfl ?_ | refine s_pick rfl rfl rfl rfl rfl ?_ | refine s_skip rfl rfl rfl ?_ | refine s_val rfl rfl rfl rfl (fun _ => rfl) ?_)
  refine vOrd_nil ?_
  repeat refine Wp.seq ?_
  refine (Wp.region [0, 1, 2, 3, 4, 5, 6, 7, 8, 9, 10, 11, 12, 13, 14, 15, 16] (by kernel_rfl) (by kernel_rfl) ?_)
  repeat (first | refine s_load rfl rfl rfl rfl rfl rfl rfl ?_ | (first | refine s_field 0 rfl rfl rfl rfl rfl ?_ | refine s_field 1 rfl rfl rfl rfl rfl ?_ | refine s_field 2 rfl rfl rfl rfl rfl ?_ | refine s_field 3 rfl rfl rfl rfl rfl ?_ | refine s_field 4 rfl rfl rfl rfl rfl ?_ | refine s_field 5 rfl rfl rfl rfl rfl ?_) | refine s_move rfl rfl rfl rfl ?_ | refine s_assign rfl rfl rfl rfl ?_ | refine s_extract rfl rfl rfl rfl rfl ?_ | refine s_box rfl rfl rfl rfl rfl rfl (fun _ _ _ _ => ?_) | refine s_alloc rfl rfl rfl rfl rfl (fun _ _ _ _ => ?_) | refine s_store rfl rfl rfl rfl rfl rfl rfl (fun _ _ _ => ?_) | refine s_cmp rfl rfl rfl rfl rfl rfl ?_ | refine s_not rfl rfl rfl rfl ?_ | refine s_pick rfl rfl rfl rfl rfl ?_ | refine s_skip rfl rfl rfl ?_ | refine s_val rfl rfl rfl rfl (fun _ => rfl) ?_)
  refine s_val rfl rfl rfl rfl (v := .agg #[.int .i64 nh, .int .u64 nl, .int .i64 mh, .int .u64 ml]) (fun _ => by kernel_rfl) ?_
  repeat (first | refine s_load rfl rfl rfl rfl rfl rfl rfl ?_ | (first | refine s_field 0 rfl rfl rfl rfl rfl ?_ | refine s_field 1 rfl rfl rfl rfl rfl ?_ | refine s_field 2 rfl rfl rfl rfl rfl ?_ | refine s_field 3 rfl rfl rfl rfl rfl ?_ | refine s_field 4 rfl rfl rfl rfl rfl ?_ | refine s_field 5 rfl rfl rfl rfl rfl ?_) | refine s_move rfl rfl rfl rfl ?_ | refine s_assign rfl rfl rfl rfl ?_ | refine s_extract rfl rfl rfl rfl rfl ?_ | refine s_box rfl rfl rfl rfl rfl rfl (fun _ _ _ _ => ?_) | refine s_alloc rfl rfl rfl rfl rfl (fun _ _ _ _ => ?_) | refine s_store rfl rfl rfl rfl rfl rfl rfl (fun _ _ _ => ?_) | refine s_cmp rfl rfl rfl rfl rfl rfl ?_ | refine s_not rfl rfl rfl rfl ?_ | refine s_pick rfl rfl rfl rfl rfl ?_ | refine s_skip rfl rfl rfl ?_ | refine s_val rfl rfl rfl rfl (fun _ => rfl) ?_)
  refine s_val rfl rfl rfl rfl (v := .agg #[.int .i64 dh, .int .u64 dl, .int .i64 kh, .int .u64 kl]) (fun _ => by kernel_rfl) ?_
  refine s_bs (e := 62) (cs := [[.int .i64 nh, .int .u64 nl, .int .i64 mh, .int .u64 ml], [.int .i64 dh, .int .u64 dl, .int .i64 kh, .int .u64 kl]].flatten) rfl rfl rfl (fun _ => by kernel_rfl) ?_
  intro p w1 hp l1 hr
  refine s_call rfl rfl rfl (by kernel_rfl) rfl ?_
  refine (products_any (n := 2) (by decide) rfl hr (pairs2 hn hm hD hK)).mono ?_
  rintro e w2 ⟨r, rfl, ⟨hf, c, G', rfl, hR, hl, h2, hW⟩ | ⟨⟨j, hj, hf⟩, rfl⟩, b2⟩
  · refine ⟨_, rfl, b2, ?_⟩
    have f0 : inW (n * m) = true := hf 0 (by decide)
    have f1 : inW (d * k) = true := hf 1 (by decide)
    obtain ⟨x0, y0, g0, i0⟩ := hW.get hl (i := 0) (by decide)
    obtain ⟨x1, y1, g1, i1⟩ := hW.get hl (i := 1) (by decide)
    repeat (first | refine s_load rfl rfl rfl rfl rfl rfl rfl ?_ | (first | refine s_field 0 rfl rfl rfl rfl rfl ?_ | refine s_field 1 rfl rfl rfl rfl rfl ?_ | refine s_field 2 rfl rfl rfl rfl rfl ?_ | refine s_field 3 rfl rfl rfl rfl rfl ?_ | refine s_field 4 rfl rfl rfl rfl rfl ?_ | refine s_field 5 rfl rfl rfl rfl rfl ?_) | refine s_move rfl rfl rfl rfl ?_ | refine s_assign rfl rfl rfl rfl ?_ | refine s_extract rfl rfl rfl rfl rfl ?_ | refine s_box rfl rfl rfl rfl rfl rfl (fun _ _ _ _ => ?_) | refine s_alloc rfl rfl rfl rfl rfl (fun _ _ _ _ => ?_) | refine s_store rfl rfl rfl rfl rfl rfl rfl (fun _ _ _ => ?_) | refine s_cmp rfl rfl rfl rfl rfl rfl ?_ | refine s_not rfl rfl rfl rfl ?_ | refine s_pick rfl rfl rfl rfl rfl ?_ | refine s_skip rfl rfl rfl ?_ | refine s_val rfl rfl rfl rfl (fun _ => rfl) ?_)
    refine vOrd_nil ?_
    repeat refine Wp.seq ?_
    refine (Wp.region [0, 1] (by kernel_rfl) (by kernel_rfl) ?_)
    refine s_move rfl rfl rfl rfl ?_
    refine s_cmp (c := false) rfl rfl rfl rfl rfl rfl ?_
    refine vOrd_nil ?_
    refine Wp.condF rfl rfl (Wp.skip ?_)
    repeat refine Wp.seq ?_
    refine (Wp.drawn (by kernel_rfl) (by kernel_rfl) [0, 1, 2, 3, 4, 5, 6, 7, 8, 9, 10] [56, 57, 59, 0, 0, 0, 0, 383, 0, 0, 0] (by kernel_rfl) (by kernel_rfl) (fun | 6 => fun v _ => ∃ s, v = .tuple #[s, .int .i64 0] ∧ IsR (n * m / cgcd (n * m) (d * k)) (d * k / cgcd (n * m) (d * k)) s | _ => fun _ _ => True) (fun _ _ => ?_))
    rename_i w3 l3
    replace hR := hR.later l3
    refine s_move rfl rfl rfl rfl ?_
    refine s_idx (sz := 2) (0 * 2) rfl rfl rfl rfl rfl rfl rfl (by decide) (by decide) rfl ?_
    refine s_ldU rfl rfl rfl rfl hR.var (read_flat (by kernel_rfl) (by kernel_rfl) h2 g0) ?_
    refine s_move rfl rfl rfl rfl ?_
    refine s_idx (sz := 2) (1 * 2) rfl rfl rfl rfl rfl rfl rfl (by decide) (by decide) rfl ?_
    refine s_ldU rfl rfl rfl rfl hR.var (read_flat (by kernel_rfl) (by kernel_rfl) h2 g1) ?_
    refine s_callD rfl rfl rfl (by kernel_rfl) rfl (fun wc lc => make_any i0 i1 (Int.mul_pos hd hk) wc) ?_
    rintro v w4 w5 ⟨s, rfl, hs⟩ - -
    obtain ⟨s1, s2, s3, s4, rfl, -⟩ := id hs
    repeat (first | refine s_load rfl rfl rfl rfl rfl rfl rfl ?_ | (first | refine s_field 0 rfl rfl rfl rfl rfl ?_ | refine s_field 1 rfl rfl rfl rfl rfl ?_ | refine s_field 2 rfl rfl rfl rfl rfl ?_ | refine s_field 3 rfl rfl rfl rfl rfl ?_ | refine s_field 4 rfl rfl rfl rfl rfl ?_ | refine s_field 5 rfl rfl rfl rfl rfl ?_) | refine s_move rfl rfl rfl rfl ?_ | refine s_assign rfl rfl rfl rfl ?_ | refine s_extract rfl rfl rfl rfl rfl ?_ | refine s_box rfl rfl rfl rfl rfl rfl (fun _ _ _ _ => ?_) | refine s_alloc rfl rfl rfl rfl rfl (fun _ _ _ _ => ?_) | refine s_store rfl rfl rfl rfl rfl rfl rfl (fun _ _ _ => ?_) | refine s_cmp rfl rfl rfl rfl rfl rfl ?_ | refine s_not rfl rfl rfl rfl ?_ | refine s_pick rfl rfl rfl rfl rfl ?_ | refine s_skip rfl rfl rfl ?_ | refine s_val rfl rfl rfl rfl (fun _ => rfl) ?_)
    refine vOrd_nil ?_
    exact Wp.ret ⟨.inr rfl, fun l => ⟨_, ⟨_, _, res_cell rfl rfl rfl rfl, res_tmp (P := Try.prog) rfl rfl, rfl⟩, _, rfl, .inl ⟨by rw [f0, f1]; rfl, _, rfl, hs⟩, l⟩⟩
  · refine ⟨_, rfl, b2, ?_⟩
    have f : (inW (n * m) && inW (d * k)) = false := by
      match j, hj, hf with
      | 0, _, hf => have hf : inW (n * m) = false := hf; rw [hf]; rfl
      | 1, _, hf => have hf : inW (d * k) = false := hf; rw [hf, Bool.and_false]
    repeat (first | refine s_load rfl rfl rfl rfl rfl rfl rfl ?_ | (first | refine s_field 0 rfl rfl rfl rfl rfl ?_ | refine s_field 1 rfl rfl rfl rfl rfl ?_ | refine s_field 2 rfl rfl rfl rfl rfl ?_ | refine s_field 3 rfl rfl rfl rfl rfl ?_ | refine s_field 4 rfl rfl rfl rfl rfl ?_ | refine s_field 5 rfl rfl rfl rfl rfl ?_) | refine s_move rfl rfl rfl rfl ?_ | refine s_assign rfl rfl rfl rfl ?_ | refine s_extract rfl rfl rfl rfl rfl ?_ | refine s_box rfl rfl rfl rfl rfl rfl (fun _ _ _ _ => ?_) | refine s_alloc rfl rfl rfl rfl rfl (fun _ _ _ _ => ?_) | refine s_store rfl rfl rfl rfl rfl rfl rfl (fun _ _ _ => ?_) | refine s_cmp rfl rfl rfl rfl rfl rfl ?_ | refine s_not rfl rfl rfl rfl ?_ | refine s_pick rfl rfl rfl rfl rfl ?_ | refine s_skip rfl rfl rfl ?_ | refine s_val rfl rfl rfl rfl (fun _ => rfl) ?_)
    refine vOrd_nil ?_
    repeat refine Wp.seq ?_
    refine (Wp.region [0, 1] (by kernel_rfl) (by kernel_rfl) ?_)
    refine s_move rfl rfl rfl rfl ?_
    refine s_cmp (c := true) rfl rfl rfl rfl rfl rfl ?_
    refine vOrd_nil ?_
    refine Wp.condT rfl rfl ?_
    repeat refine Wp.seq ?_
    refine (Wp.region [0, 1, 2, 3] (by kernel_rfl) (by kernel_rfl) ?_)
    refine s_val rfl rfl rfl rfl (v := .agg #[.int .i64 0, .int .u64 0, .int .i64 0, .int .u64 0]) (fun _ => by kernel_rfl) ?_
    repeat (first | refine s_load rfl rfl rfl rfl rfl rfl rfl ?_ | (first | refine s_field 0 rfl rfl rfl rfl rfl ?_ | refine s_field 1 rfl rfl rfl rfl rfl ?_ | refine s_field 2 rfl rfl rfl rfl rfl ?_ | refine s_field 3 rfl rfl rfl rfl rfl ?_ | refine s_field 4 rfl rfl rfl rfl rfl ?_ | refine s_field 5 rfl rfl rfl rfl rfl ?_) | refine s_move rfl rfl rfl rfl ?_ | refine s_assign rfl rfl rfl rfl ?_ | refine s_extract rfl rfl rfl rfl rfl ?_ | refine s_box rfl rfl rfl rfl rfl rfl (fun _ _ _ _ => ?_) | refine s_alloc rfl rfl rfl rfl rfl (fun _ _ _ _ => ?_) | refine s_store rfl rfl rfl rfl rfl rfl rfl (fun _ _ _ => ?_) | refine s_cmp rfl rfl rfl rfl rfl rfl ?_ | refine s_not rfl rfl rfl rfl ?_ | refine s_pick rfl rfl rfl rfl rfl ?_ | refine s_skip rfl rfl rfl ?_ | refine s_val rfl rfl rfl rfl (fun _ => rfl) ?_)
    refine vOrd_nil ?_
    exact Wp.ret ⟨.inr rfl, fun l => ⟨_, ⟨_, _, res_cell rfl rfl rfl rfl, res_tmp (P := Try.prog) rfl rfl, rfl⟩, _, rfl, .inr ⟨f, rfl⟩, l⟩⟩
theorem radd_any {n d m k : Int} {u v : Value} (hu : IsR n d u) (hv : IsR m k v) (hd : 0 < d) (hk : 0 < k) (w : World) :
    Calls Try.prog 15 #[u, v] w fun e w' => ∃ r, e = .returned r ∧
      ((inW (n * k) && inW (m * d) && inW (d * k) && inW (n * k + m * d)) = true ∧ (∃ s, r = .tuple #[s, .int .i64 0] ∧ IsR ((n * k + m * d) / cgcd (n * k + m * d) (d * k)) (d * k / cgcd (n * k + m * d) (d * k)) s) ∨
       (inW (n * k) && inW (m * d) && inW (d * k) && inW (n * k + m * d)) = false ∧ r = .tuple #[.agg #[.int .i64 0, .int .u64 0, .int .i64 0, .int .u64 0], .int .i64 2]) ∧ Below w.heap.size w w' := by
  obtain ⟨nh, nl, dh, dl, rfl, hn, hD⟩ := hu
  obtain ⟨mh, ml, kh, kl, rfl, hm, hK⟩ := hv
  refine calls_Wp (args := [_, _]) (n := 54) Try.func15 rfl rfl (by simp) ?_
  repeat refine Wp.seq ?_
  refine (Wp.region [0, 1, 2, 3] (by kernel_rfl) (by kernel_rfl) ?_)
  repeat (first | refine s_load rfl rfl rfl rfl rfl rfl rfl ?_ | (first | refine s_field 0 rfl rfl rfl rfl rfl ?_ | refine s_field 1 rfl rfl rfl rfl rfl ?_ | refine s_field 2 rfl rfl rfl rfl rfl ?_ | refine s_field 3 rfl rfl rfl rfl rfl ?_ | refine s_field 4 rfl rfl rfl rfl rfl ?_ | refine s_field 5 rfl rfl rfl rfl rfl ?_) | refine s_move rfl rfl rfl rfl ?_ | refine s_assign rfl rfl rfl rfl ?_ | refine s_extract rfl rfl rfl rfl rfl ?_ | refine s_box rfl rfl rfl rfl rfl rfl (fun _ _ _ _ => ?_) | refine s_alloc rfl rfl rfl rfl rfl (fun _ _ _ _ => ?_) | refine s_store rfl rfl rfl rfl rfl rfl rfl (fun _ _ _ => ?_) | refine s_cmp rfl rfl rfl rfl rfl rfl ?_ | refine s_not rfl rfl rfl rfl ?_ | refine s_pick rfl rfl rfl rfl rfl ?_ | refine s_skip rfl rfl rfl ?_ | refine s_val rfl rfl rfl rfl (fun _ => rfl) ?_)
  refine vOrd_nil ?_
  repeat refine Wp.seq ?_
  refine (Wp.region [0, 1, 2, 3, 4, 5, 6, 7, 8, 9, 10, 11, 12, 13, 14, 15, 16, 17, 18, 19, 20, 21] (by kernel_rfl) (by kernel_rfl) ?_)
  repeat (first | refine s_load rfl rfl rfl rfl rfl rfl rfl ?_ | (first | refine s_field 0 rfl rfl rfl rfl rfl ?_ | refine s_field 1 rfl rfl rfl rfl rfl ?_ | refine s_field 2 rfl rfl rfl rfl rfl ?_ | refine s_field 3 rfl rfl rfl rfl rfl ?_ | refine s_field 4 rfl rfl rfl rfl rfl ?_ | refine s_field 5 rfl rfl rfl rfl rfl ?_) | refine s_move rfl rfl rfl rfl ?_ | refine s_assign rfl rfl rfl rfl ?_ | refine s_extract rfl rfl rfl rfl rfl ?_ | refine s_box rfl rfl rfl rfl rfl rfl (fun _ _ _ _ => ?_) | refine s_alloc rfl rfl rfl rfl rfl (fun _ _ _ _ => ?_) | refine s_store rfl rfl rfl rfl rfl rfl rfl (fun _ _ _ => ?_) | refine s_cmp rfl rfl rfl rfl rfl rfl ?_ | refine s_not rfl rfl rfl rfl ?_ | refine s_pick rfl rfl rfl rfl rfl ?_ | refine s_skip rfl rfl rfl ?_ | refine s_val rfl rfl rfl rfl (fun _ => rfl) ?_)
  refine s_val rfl rfl rfl rfl (v := .agg #[.int .i64 nh, .int .u64 nl, .int .i64 kh, .int .u64 kl]) (fun _ => by kernel_rfl) ?_
  repeat (first | refine s_load rfl rfl rfl rfl rfl rfl rfl ?_ | (first | refine s_field 0 rfl rfl rfl rfl rfl ?_ | refine s_field 1 rfl rfl rfl rfl rfl ?_ | refine s_field 2 rfl rfl rfl rfl rfl ?_ | refine s_field 3 rfl rfl rfl rfl rfl ?_ | refine s_field 4 rfl rfl rfl rfl rfl ?_ | refine s_field 5 rfl rfl rfl rfl rfl ?_) | refine s_move rfl rfl rfl rfl ?_ | refine s_assign rfl rfl rfl rfl ?_ | refine s_extract rfl rfl rfl rfl rfl ?_ | refine s_box rfl rfl rfl rfl rfl rfl (fun _ _ _ _ => ?_) | refine s_alloc rfl rfl rfl rfl rfl (fun _ _ _ _ => ?_) | refine s_store rfl rfl rfl rfl rfl rfl rfl (fun _ _ _ => ?_) | refine s_cmp rfl rfl rfl rfl rfl rfl ?_ | refine s_not rfl rfl rfl rfl ?_ | refine s_pick rfl rfl rfl rfl rfl ?_ | refine s_skip rfl rfl rfl ?_ | refine s_val rfl rfl rfl rfl (fun _ => rfl) ?_)
  refine s_val rfl rfl rfl rfl (v := .agg #[.int .i64 mh, .int .u64 ml, .int .i64 dh, .int .u64 dl]) (fun _ => by kernel_rfl) ?_
  repeat (first | refine s_load rfl rfl rfl rfl rfl rfl rfl ?_ | (first | refine s_field 0 rfl rfl rfl rfl rfl ?_ | refine s_field 1 rfl rfl rfl rfl rfl ?_ | refine s_field 2 rfl rfl rfl rfl rfl ?_ | refine s_field 3 rfl rfl rfl rfl rfl ?_ | refine s_field 4 rfl rfl rfl rfl rfl ?_ | refine s_field 5 rfl rfl rfl rfl rfl ?_) | refine s_move rfl rfl rfl rfl ?_ | refine s_assign rfl rfl rfl rfl ?_ | refine s_extract rfl rfl rfl rfl rfl ?_ | refine s_box rfl rfl rfl rfl rfl rfl (fun _ _ _ _ => ?_) | refine s_alloc rfl rfl rfl rfl rfl (fun _ _ _ _ => ?_) | refine s_store rfl rfl rfl rfl rfl rfl rfl (fun _ _ _ => ?_) | refine s_cmp rfl rfl rfl rfl rfl rfl ?_ | refine s_not rfl rfl rfl rfl ?_ | refine s_pick rfl rfl rfl rfl rfl ?_ | refine s_skip rfl rfl rfl ?_ | refine s_val rfl rfl rfl rfl (fun _ => rfl) ?_)
  refine s_val rfl rfl rfl rfl (v := .agg #[.int .i64 dh, .int .u64 dl, .int .i64 kh, .int .u64 kl]) (fun _ => by kernel_rfl) ?_
  refine s_bs (e := 62) (cs := [[.int .i64 nh, .int .u64 nl, .int .i64 kh, .int .u64 kl], [.int .i64 mh, .int .u64 ml, .int .i64 dh, .int .u64 dl], [.int .i64 dh, .int .u64 dl, .int .i64 kh, .int .u64 kl]].flatten) rfl rfl rfl (fun _ => by kernel_rfl) ?_
  intro p w1 hp l1 hr
  refine s_call rfl rfl rfl (by kernel_rfl) rfl ?_
  refine (products_any (n := 3) (by decide) rfl hr (pairs3 hn hK hm hD hD hK)).mono ?_
  rintro e w2 ⟨r, rfl, ⟨hf, c, G', rfl, hR, hl, h2, hW⟩ | ⟨⟨j, hj, hf⟩, rfl⟩, b2⟩
  · refine ⟨_, rfl, b2, ?_⟩
    have f0 : inW (n * k) = true := hf 0 (by decide)
    have f1 : inW (m * d) = true := hf 1 (by decide)
    have f2 : inW (d * k) = true := hf 2 (by decide)
    obtain ⟨x0, y0, g0, i0⟩ := hW.get hl (i := 0) (by decide)
    obtain ⟨x1, y1, g1, i1⟩ := hW.get hl (i := 1) (by decide)
    obtain ⟨x2, y2, g2, i2⟩ := hW.get hl (i := 2) (by decide)
    replace i0 : WideIs x0 y0 (n * k) := i0
    replace i1 : WideIs x1 y1 (m * d) := i1
    replace i2 : WideIs x2 y2 (d * k) := i2
    repeat (first | refine s_load rfl rfl rfl rfl rfl rfl rfl ?_ | (first | refine s_field 0 rfl rfl rfl rfl rfl ?_ | refine s_field 1 rfl rfl rfl rfl rfl ?_ | refine s_field 2 rfl rfl rfl rfl rfl ?_ | refine s_field 3 rfl rfl rfl rfl rfl ?_ | refine s_field 4 rfl rfl rfl rfl rfl ?_ | refine s_field 5 rfl rfl rfl rfl rfl ?_) | refine s_move rfl rfl rfl rfl ?_ | refine s_assign rfl rfl rfl rfl ?_ | refine s_extract rfl rfl rfl rfl rfl ?_ | refine s_box rfl rfl rfl rfl rfl rfl (fun _ _ _ _ => ?_) | refine s_alloc rfl rfl rfl rfl rfl (fun _ _ _ _ => ?_) | refine s_store rfl rfl rfl rfl rfl rfl rfl (fun _ _ _ => ?_) | refine s_cmp rfl rfl rfl rfl rfl rfl ?_ | refine s_not rfl rfl rfl rfl ?_ | refine s_pick rfl rfl rfl rfl rfl ?_ | refine s_skip rfl rfl rfl ?_ | refine s_val rfl rfl rfl rfl (fun _ => rfl) ?_)
    refine vOrd_nil ?_
    repeat refine Wp.seq ?_
    refine (Wp.region [0, 1] (by kernel_rfl) (by kernel_rfl) ?_)
    refine s_move rfl rfl rfl rfl ?_
    refine s_cmp (c := false) rfl rfl rfl rfl rfl rfl ?_
    refine vOrd_nil ?_
    refine Wp.condF rfl rfl (Wp.skip ?_)
    repeat refine Wp.seq ?_
    refine (Wp.drawn (by kernel_rfl) (by kernel_rfl) [0, 1, 2, 3, 4, 5, 10, 6, 7, 8, 9, 11, 12] [1080, 1081, 1083, 1031, 1039, 1055, 1023, 0, 0, 1791, 3583, 0, 0] (by kernel_rfl) (by kernel_rfl) (fun | 6 => fun v _ => ∃ s, v = .tuple #[s, .int .i64 (fitE (n * k + m * d))] ∧ IsW (fitV (n * k + m * d)) s | _ => fun _ _ => True) (fun _ _ => ?_))
    rename_i w3 l3
    replace hR := hR.later l3
    refine s_move rfl rfl rfl rfl ?_
    refine s_idx (sz := 2) (0 * 2) rfl rfl rfl rfl rfl rfl rfl (by decide) (by decide) rfl ?_
    refine s_ldU rfl rfl rfl rfl hR.var (read_flat (by kernel_rfl) (by kernel_rfl) h2 g0) ?_
    refine s_move rfl rfl rfl rfl ?_
    refine s_idx (sz := 2) (1 * 2) rfl rfl rfl rfl rfl rfl rfl (by decide) (by decide) rfl ?_
    refine s_ldU rfl rfl rfl rfl hR.var (read_flat (by kernel_rfl) (by kernel_rfl) h2 g1) ?_
    refine s_alloc rfl rfl rfl rfl rfl ?_
    intro b8 w4 hb8 l4
    refine s_callD rfl rfl rfl (by kernel_rfl) rfl (fun wc lc => c_wadd ⟨_, _, rfl, i0⟩ ⟨_, _, rfl, i1⟩ wc) ?_
    rintro v w5 w6 ⟨s, rfl, ah, al, rfl, hs⟩ l5 l6
    refine s_move rfl rfl rfl rfl ?_
    refine s_extract rfl rfl rfl rfl rfl ?_
    refine s_extract rfl rfl rfl rfl rfl ?_
    refine s_store rfl rfl rfl rfl rfl rfl rfl ?_
    intro w7 s7 v7
    refine s_assign rfl rfl rfl rfl ?_
    refine vOrd_nil ?_
    have z3 := hR.lt
    replace hR := (((hR.later l4).later l5).later l6).stored s7 (by omega)
    repeat refine Wp.seq ?_
    refine (Wp.region [0, 1] (by kernel_rfl) (by kernel_rfl) ?_)
    cases hw : inW (n * k + m * d)
    · rw [inW_not hw]
      refine s_move rfl rfl rfl rfl ?_
      refine s_cmp (c := true) rfl rfl rfl rfl rfl rfl ?_
      refine vOrd_nil ?_
      refine Wp.condT rfl rfl ?_
      repeat refine Wp.seq ?_
      refine (Wp.region [0, 1, 2, 3] (by kernel_rfl) (by kernel_rfl) ?_)
      refine s_val rfl rfl rfl rfl (v := .agg #[.int .i64 0, .int .u64 0, .int .i64 0, .int .u64 0]) (fun _ => by kernel_rfl) ?_
      repeat (first | refine s_load rfl rfl rfl rfl rfl rfl rfl ?_ | (first | refine s_field 0 rfl rfl rfl rfl rfl ?_ | refine s_field 1 rfl rfl rfl rfl rfl ?_ | refine s_field 2 rfl rfl rfl rfl rfl ?_ | refine s_field 3 rfl rfl rfl rfl rfl ?_ | refine s_field 4 rfl rfl rfl rfl rfl ?_ | refine s_field 5 rfl rfl rfl rfl rfl ?_) | refine s_move rfl rfl rfl rfl ?_ | refine s_assign rfl rfl rfl rfl ?_ | refine s_extract rfl rfl rfl rfl rfl ?_ | refine s_box rfl rfl rfl rfl rfl rfl (fun _ _ _ _ => ?_) | refine s_alloc rfl rfl rfl rfl rfl (fun _ _ _ _ => ?_) | refine s_store rfl rfl rfl rfl rfl rfl rfl (fun _ _ _ => ?_) | refine s_cmp rfl rfl rfl rfl rfl rfl ?_ | refine s_not rfl rfl rfl rfl ?_ | refine s_pick rfl rfl rfl rfl rfl ?_ | refine s_skip rfl rfl rfl ?_ | refine s_val rfl rfl rfl rfl (fun _ => rfl) ?_)
      refine vOrd_nil ?_
      exact Wp.ret ⟨.inr rfl, fun l => ⟨_, ⟨_, _, res_cell rfl rfl rfl rfl, res_tmp (P := Try.prog) rfl rfl, rfl⟩, _, rfl, .inr ⟨by rw [Bool.and_false], rfl⟩, l⟩⟩
    · obtain ⟨e1, e2⟩ := inW_fit hw
      rw [e2]
      rw [e1] at hs
      refine s_move rfl rfl rfl rfl ?_
      refine s_cmp (c := false) rfl rfl rfl rfl rfl rfl ?_
      refine vOrd_nil ?_
      refine Wp.condF rfl rfl (Wp.skip ?_)
      repeat refine Wp.seq ?_
      refine (Wp.drawn (by kernel_rfl) (by kernel_rfl) [0, 1, 2, 3, 4, 5, 6, 7, 8] [14, 0, 0, 0, 0, 95, 0, 0, 0] (by kernel_rfl) (by kernel_rfl) (fun | 4 => fun v _ => ∃ s, v = .tuple #[s, .int .i64 0] ∧ IsR ((n * k + m * d) / cgcd (n * k + m * d) (d * k)) (d * k / cgcd (n * k + m * d) (d * k)) s | _ => fun _ _ => True) (fun _ _ => ?_))
      rename_i w8 l8
      replace hR := hR.later l8
      refine s_load rfl rfl rfl rfl rfl rfl rfl ?_
      refine s_move rfl rfl rfl rfl ?_
      refine s_idx (sz := 2) (2 * 2) rfl rfl rfl rfl rfl rfl rfl (by decide) (by decide) rfl ?_
      refine s_ldU rfl rfl rfl rfl hR.var (read_flat (by kernel_rfl) (by kernel_rfl) h2 g2) ?_
      refine s_callD rfl rfl rfl (by kernel_rfl) rfl (fun wc lc => make_any hs i2 (Int.mul_pos hd hk) wc) ?_
      rintro v w9 w10 ⟨q, rfl, hq⟩ - -
      obtain ⟨s1, s2, s3, s4, rfl, -⟩ := id hq
      repeat (first | refine s_load rfl rfl rfl rfl rfl rfl rfl ?_ | (first | refine s_field 0 rfl rfl rfl rfl rfl ?_ | refine s_field 1 rfl rfl rfl rfl rfl ?_ | refine s_field 2 rfl rfl rfl rfl rfl ?_ | refine s_field 3 rfl rfl rfl rfl rfl ?_ | refine s_field 4 rfl rfl rfl rfl rfl ?_ | refine s_field 5 rfl rfl rfl rfl rfl ?_) | refine s_move rfl rfl rfl rfl ?_ | refine s_assign rfl rfl rfl rfl ?_ | refine s_extract rfl rfl rfl rfl rfl ?_ | refine s_box rfl rfl rfl rfl rfl rfl (fun _ _ _ _ => ?_) | refine s_alloc rfl rfl rfl rfl rfl (fun _ _ _ _ => ?_) | refine s_store rfl rfl rfl rfl rfl rfl rfl (fun _ _ _ => ?_) | refine s_cmp rfl rfl rfl rfl rfl rfl ?_ | refine s_not rfl rfl rfl rfl ?_ | refine s_pick rfl rfl rfl rfl rfl ?_ | refine s_skip rfl rfl rfl ?_ | refine s_val rfl rfl rfl rfl (fun _ => rfl) ?_)
      refine vOrd_nil ?_
      exact Wp.ret ⟨.inr rfl, fun l => ⟨_, ⟨_, _, res_cell rfl rfl rfl rfl, res_tmp (P := Try.prog) rfl rfl, rfl⟩, _, rfl, .inl ⟨by rw [f0, f1, f2]; rfl, _, rfl, hq⟩, l⟩⟩
  · refine ⟨_, rfl, b2, ?_⟩
    have f : (inW (n * k) && inW (m * d) && inW (d * k) && inW (n * k + m * d)) = false := by
      match j, hj, hf with
      | 0, _, hf => have hf : inW (n * k) = false := hf; rw [hf]; rfl
      | 1, _, hf => have hf : inW (m * d) = false := hf; rw [hf, Bool.and_false]; rfl
      | 2, _, hf => have hf : inW (d * k) = false := hf; rw [hf, Bool.and_false]; rfl
    repeat (first | refine s_load rfl rfl rfl rfl rfl rfl rfl ?_ | (first | refine s_field 0 rfl rfl rfl rfl rfl ?_ | refine s_field 1 rfl rfl rfl rfl rfl ?_ | refine s_field 2 rfl rfl rfl rfl rfl ?_ | refine s_field 3 rfl rfl rfl rfl rfl ?_ | refine s_field 4 rfl rfl rfl rfl rfl ?_ | refine s_field 5 rfl rfl rfl rfl rfl ?_) | refine s_move rfl rfl rfl rfl ?_ | refine s_assign rfl rfl rfl rfl ?_ | refine s_extract rfl rfl rfl rfl rfl ?_ | refine s_box rfl rfl rfl rfl rfl rfl (fun _ _ _ _ => ?_) | refine s_alloc rfl rfl rfl rfl rfl (fun _ _ _ _ => ?_) | refine s_store rfl rfl rfl rfl rfl rfl rfl (fun _ _ _ => ?_) | refine s_cmp rfl rfl rfl rfl rfl rfl ?_ | refine s_not rfl rfl rfl rfl ?_ | refine s_pick rfl rfl rfl rfl rfl ?_ | refine s_skip rfl rfl rfl ?_ | refine s_val rfl rfl rfl rfl (fun _ => rfl) ?_)
    refine vOrd_nil ?_
    repeat refine Wp.seq ?_
    refine (Wp.region [0, 1] (by kernel_rfl) (by kernel_rfl) ?_)
    refine s_move rfl rfl rfl rfl ?_
    refine s_cmp (c := true) rfl rfl rfl rfl rfl rfl ?_
    refine vOrd_nil ?_
    refine Wp.condT rfl rfl ?_
    repeat refine Wp.seq ?_
    refine (Wp.region [0, 1, 2, 3] (by kernel_rfl) (by kernel_rfl) ?_)
    refine s_val rfl rfl rfl rfl (v := .agg #[.int .i64 0, .int .u64 0, .int .i64 0, .int .u64 0]) (fun _ => by kernel_rfl) ?_
    repeat (first | refine s_load rfl rfl rfl rfl rfl rfl rfl ?_ | (first | refine s_field 0 rfl rfl rfl rfl rfl ?_ | refine s_field 1 rfl rfl rfl rfl rfl ?_ | refine s_field 2 rfl rfl rfl rfl rfl ?_ | refine s_field 3 rfl rfl rfl rfl rfl ?_ | refine s_field 4 rfl rfl rfl rfl rfl ?_ | refine s_field 5 rfl rfl rfl rfl rfl ?_) | refine s_move rfl rfl rfl rfl ?_ | refine s_assign rfl rfl rfl rfl ?_ | refine s_extract rfl rfl rfl rfl rfl ?_ | refine s_box rfl rfl rfl rfl rfl rfl (fun _ _ _ _ => ?_) | refine s_alloc rfl rfl rfl rfl rfl (fun _ _ _ _ => ?_) | refine s_store rfl rfl rfl rfl rfl rfl rfl (fun _ _ _ => ?_) | refine s_cmp rfl rfl rfl rfl rfl rfl ?_ | refine s_not rfl rfl rfl rfl ?_ | refine s_pick rfl rfl rfl rfl rfl ?_ | refine s_skip rfl rfl rfl ?_ | refine s_val rfl rfl rfl rfl (fun _ => rfl) ?_)
    refine vOrd_nil ?_
    exact Wp.ret ⟨.inr rfl, fun l => ⟨_, ⟨_, _, res_cell rfl rfl rfl rfl, res_tmp (P := Try.prog) rfl rfl, rfl⟩, _, rfl, .inr ⟨f, rfl⟩, l⟩⟩
/-! ### Do all fit? -/
def BigsAt (N : Nat) (Z : Nat → Int) (w : World) (G : List (List Value)) : Prop := ∀ (j : Nat) (g : List Value), G[j]? = some g → ∃ a l c, g = [.bool (sg (Z j)), .slice a l c] ∧ BigIs N w (.slice a l c) (Z j)
theorem BigsAt.keeps {N : Nat} {Z : Nat → Int} {w w' : World} {G : List (List Value)} (h : BigsAt N Z w G) (k : Keeps w w') : BigsAt N Z w' G := fun j g hj => by
  obtain ⟨a, l, c, e, hb⟩ := h j g hj
  exact ⟨a, l, c, e, hb.keeps k⟩
theorem BigsAt.len {N : Nat} {Z : Nat → Int} {w : World} {G : List (List Value)} (h : BigsAt N Z w G) : ∀ g ∈ G, g.length = 2 := by
  intro g hg
  obtain ⟨j, hj⟩ := List.getElem?_of_mem hg
  obtain ⟨_, _, _, rfl, _⟩ := h j g hj
  rfl
theorem fit_any {n p N : Nat} {Z : Nat → Int} {G : List (List Value)} {t : TypeId} {w : World} (hn : n ≤ 1000) (hN : N ≤ 1000) (hG : G.length = n) (hrow : RowIs w p t G.flatten) (hB : BigsAt N Z w G) :
    Calls Try.prog 18 #[.slice (some ⟨p, 0, none⟩) n n] w fun e w' => ∃ r, e = .returned r ∧ ((∀ j, j < n → inW (Z j) = true) ∧ r = .bool true ∨ (∃ j, j < n ∧ inW (Z j) = false) ∧ r = .bool false) ∧ Below w.heap.size w w' := by
  refine calls_Wp (args := [_]) (n := 22) Try.func18 rfl rfl (by simp) ?_
  repeat refine Wp.seq ?_
  refine (Wp.region [0] (by kernel_rfl) (by kernel_rfl) ?_)
  repeat (first | refine s_load rfl rfl rfl rfl rfl rfl rfl ?_ | (first | refine s_field 0 rfl rfl rfl rfl rfl ?_ | refine s_field 1 rfl rfl rfl rfl rfl ?_ | refine s_field 2 rfl rfl rfl rfl rfl ?_ | refine s_field 3 rfl rfl rfl rfl rfl ?_ | refine s_field 4 rfl rfl rfl rfl rfl ?_ | refine s_field 5 rfl rfl rfl rfl rfl ?_) | refine s_move rfl rfl rfl rfl ?_ | refine s_assign rfl rfl rfl rfl ?_ | refine s_extract rfl rfl rfl rfl rfl ?_ | refine s_box rfl rfl rfl rfl rfl rfl (fun _ _ _ _ => ?_) | refine s_alloc rfl rfl rfl rfl rfl (fun _ _ _ _ => ?_) | refine s_store rfl rfl rfl rfl rfl rfl rfl (fun _ _ _ => ?_) | refine s_cmp rfl rfl rfl rfl rfl rfl ?_ | refine s_not rfl rfl rfl rfl ?_ | refine s_pick rfl rfl rfl rfl rfl ?_ | refine s_skip rfl rfl rfl ?_ | refine s_val rfl rfl rfl rfl (fun _ => rfl) ?_)
  refine vOrd_nil ?_
  repeat refine Wp.seq ?_
  refine (Wp.region [0] (by kernel_rfl) (by kernel_rfl) ?_)
  repeat (first | refine s_load rfl rfl rfl rfl rfl rfl rfl ?_ | (first | refine s_field 0 rfl rfl rfl rfl rfl ?_ | refine s_field 1 rfl rfl rfl rfl rfl ?_ | refine s_field 2 rfl rfl rfl rfl rfl ?_ | refine s_field 3 rfl rfl rfl rfl rfl ?_ | refine s_field 4 rfl rfl rfl rfl rfl ?_ | refine s_field 5 rfl rfl rfl rfl rfl ?_) | refine s_move rfl rfl rfl rfl ?_ | refine s_assign rfl rfl rfl rfl ?_ | refine s_extract rfl rfl rfl rfl rfl ?_ | refine s_box rfl rfl rfl rfl rfl rfl (fun _ _ _ _ => ?_) | refine s_alloc rfl rfl rfl rfl rfl (fun _ _ _ _ => ?_) | refine s_store rfl rfl rfl rfl rfl rfl rfl (fun _ _ _ => ?_) | refine s_cmp rfl rfl rfl rfl rfl rfl ?_ | refine s_not rfl rfl rfl rfl ?_ | refine s_pick rfl rfl rfl rfl rfl ?_ | refine s_skip rfl rfl rfl ?_ | refine s_val rfl rfl rfl rfl (fun _ => rfl) ?_)
  refine vOrd_nil ?_
  refine Wp.block (Wp.loop (fun k st w1 => ∃ i : Nat, st = St.of [(0, .v (.slice (some ⟨p, 0, none⟩) n n)), (2, .v (.bool false)), (3, .v (.int .i64 i))] [] ∧ i ≤ n ∧ RowIs w1 p t G.flatten ∧ BigsAt N Z w1 G ∧ (∀ j, j < i → inW (Z j) = true) ∧ k = n - i) ?_ ?_)
  · exact ⟨_, _, St.of_le' (env := [(0, .v _), (2, .v _), (3, .v _)]) (mem := []) ⟨rfl, rfl, rfl, trivial⟩ trivial, 0, rfl, by omega, hrow, hB, fun j hj => by omega, rfl⟩
  · rintro k st w1 ⟨i, rfl, hi, hr1, hB1, hF, rfl⟩
    repeat refine Wp.seq ?_
    refine (Wp.region [0, 1, 2, 3] (by kernel_rfl) (by kernel_rfl) ?_)
    refine s_move rfl rfl rfl rfl ?_
    refine s_move rfl rfl rfl rfl ?_
    refine s_run (v := .int .i64 n) rfl rfl rfl rfl (by kernel_rfl) ?_
    by_cases g : i < n
    · refine s_cmp (c := true) rfl rfl rfl rfl rfl (congrArg some (decide_eq_true (by omega))) ?_
      refine vOrd_nil ?_
      refine Wp.condT rfl rfl (Wp.skip ?_)
      refine Wp.seq (Wp.block ?_)
      obtain ⟨gj, hgj⟩ : ∃ gj, G[i]? = some gj := ⟨_, List.getElem?_eq_getElem (by omega)⟩
      obtain ⟨za, zl, zc, rfl, hz⟩ := hB1 i gj hgj
      repeat refine Wp.seq ?_
      refine (Wp.region [0, 1, 2, 3, 4, 5, 6, 7, 8, 9, 10] (by kernel_rfl) (by kernel_rfl) ?_)
      refine s_move rfl rfl rfl rfl ?_
      refine s_move rfl rfl rfl rfl ?_
      refine s_idx (sz := 2) (i * 2) rfl rfl rfl rfl rfl rfl rfl (by omega) (by omega) (by rw [Int.toNat_natCast, Nat.zero_add]) ?_
      refine s_ldU rfl rfl rfl rfl hr1.var (read_flat (by kernel_rfl) (by kernel_rfl) hB1.len hgj) ?_
      refine s_call rfl rfl rfl (by kernel_rfl) rfl ?_
      refine (rwide_any hz (by omega)).mono ?_
      rintro e w2 ⟨h, l, hw, rfl, b2⟩
      refine ⟨_, rfl, b2, ?_⟩
      refine s_move rfl rfl rfl rfl ?_
      refine s_extract rfl rfl rfl rfl rfl ?_
      refine s_extract rfl rfl rfl rfl rfl ?_
      refine s_alloc rfl rfl rfl rfl rfl ?_
      intro b4 w3 hb4 l3
      refine s_store rfl rfl rfl rfl rfl rfl rfl ?_
      intro w4 s4 v4
      refine s_assign rfl rfl rfl rfl ?_
      refine vOrd_nil ?_
      have r2 := hr1.later b2
      have r4 := (r2.later l3).stored s4 (by have := r2.lt; omega)
      have k4 : Keeps w1 w4 := (Keeps.later b2).trans (Keeps.fresh hb4 l3 s4)
      repeat refine Wp.seq ?_
      refine (Wp.region [0, 1] (by kernel_rfl) (by kernel_rfl) ?_)
      cases hq : inW (Z i)
      · refine s_move rfl rfl rfl rfl ?_
        refine s_not rfl rfl rfl rfl ?_
        refine vOrd_nil ?_
        refine Wp.condT rfl rfl ?_
        repeat refine Wp.seq ?_
        refine (Wp.region [0] (by kernel_rfl) (by kernel_rfl) ?_)
        repeat (first | refine s_load rfl rfl rfl rfl rfl rfl rfl ?_ | (first | refine s_field 0 rfl rfl rfl rfl rfl ?_ | refine s_field 1 rfl rfl rfl rfl rfl ?_ | refine s_field 2 rfl rfl rfl rfl rfl ?_ | refine s_field 3 rfl rfl rfl rfl rfl ?_ | refine s_field 4 rfl rfl rfl rfl rfl ?_ | refine s_field 5 rfl rfl rfl rfl rfl ?_) | refine s_move rfl rfl rfl rfl ?_ | refine s_assign rfl rfl rfl rfl ?_ | refine s_extract rfl rfl rfl rfl rfl ?_ | refine s_box rfl rfl rfl rfl rfl rfl (fun _ _ _ _ => ?_) | refine s_alloc rfl rfl rfl rfl rfl (fun _ _ _ _ => ?_) | refine s_store rfl rfl rfl rfl rfl rfl rfl (fun _ _ _ => ?_) | refine s_cmp rfl rfl rfl rfl rfl rfl ?_ | refine s_not rfl rfl rfl rfl ?_ | refine s_pick rfl rfl rfl rfl rfl ?_ | refine s_skip rfl rfl rfl ?_ | refine s_val rfl rfl rfl rfl (fun _ => rfl) ?_)
        refine vOrd_nil ?_
        exact Wp.ret ⟨.inr rfl, fun l => ⟨_, res_tmp (P := Try.prog) rfl rfl, _, rfl, .inr ⟨⟨i, g, hq⟩, rfl⟩, l⟩⟩
      · refine s_move rfl rfl rfl rfl ?_
        refine s_not rfl rfl rfl rfl ?_
        refine vOrd_nil ?_
        refine Wp.condF rfl rfl (Wp.skip ?_)
        repeat refine Wp.seq ?_
        refine (Wp.region [0, 1, 2] (by kernel_rfl) (by kernel_rfl) ?_)
        refine s_move rfl rfl rfl rfl ?_
        refine s_arith (c := i + 1) rfl rfl rfl rfl rfl (congrArg some (by rw [IntKind.wrap_i64]; omega)) ?_
        refine s_assign rfl rfl rfl rfl ?_
        refine vOrd_nil ?_
        refine ⟨_, _, ?_, St.of_le' (env := [(0, .v _), (2, .v _), (3, .v _)]) (mem := []) ⟨rfl, rfl, rfl, trivial⟩ trivial, i + 1, rfl, by omega, r4, hB1.keeps k4, fun j hj => ?_, rfl⟩
        · omega
        · by_cases e : j = i
          · rw [e]; exact hq
          · exact hF j (by omega)
    · refine s_cmp (c := false) rfl rfl rfl rfl rfl (congrArg some (decide_eq_false (by omega))) ?_
      refine vOrd_nil ?_
      refine Wp.condF rfl rfl (Wp.exit ?_)
      have e : i = n := by omega
      subst e
      repeat refine Wp.seq ?_
      refine (Wp.region [0] (by kernel_rfl) (by kernel_rfl) ?_)
      repeat (first | refine s_load rfl rfl rfl rfl rfl rfl rfl ?_ | (first | refine s_field 0 rfl rfl rfl rfl rfl ?_ | refine s_field 1 rfl rfl rfl rfl rfl ?_ | refine s_field 2 rfl rfl rfl rfl rfl ?_ | refine s_field 3 rfl rfl rfl rfl rfl ?_ | refine s_field 4 rfl rfl rfl rfl rfl ?_ | refine s_field 5 rfl rfl rfl rfl rfl ?_) | refine s_move rfl rfl rfl rfl ?_ | refine s_assign rfl rfl rfl rfl ?_ | refine s_extract rfl rfl rfl rfl rfl ?_ | refine s_box rfl rfl rfl rfl rfl rfl (fun _ _ _ _ => ?_) | refine s_alloc rfl rfl rfl rfl rfl (fun _ _ _ _ => ?_) | refine s_store rfl rfl rfl rfl rfl rfl rfl (fun _ _ _ => ?_) | refine s_cmp rfl rfl rfl rfl rfl rfl ?_ | refine s_not rfl rfl rfl rfl ?_ | refine s_pick rfl rfl rfl rfl rfl ?_ | refine s_skip rfl rfl rfl ?_ | refine s_val rfl rfl rfl rfl (fun _ => rfl) ?_)
      refine vOrd_nil ?_
      exact Wp.ret ⟨.inr rfl, fun l => ⟨_, res_tmp (P := Try.prog) rfl rfl, _, rfl, .inl ⟨hF, rfl⟩, l⟩⟩
end Go.Proofs.Ytklankodjjkhiaa
