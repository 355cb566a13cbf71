/-
  The contracts of the reference numbers' add and sub: digits that stand for the sum, for the difference. No conditions beside the memory's own.
-/
import Derived.Test.YtlpenfganhaclaaRefA
namespace Go.Proofs.Ytlpenfganhaclaa
open Go.RowKit

theorem Try.infoInt : (Try.prog.info? 3).map (fun i => (i.zero, i.size, i.bytes)) = some (some (.int .i64 0), 1, 8) := by kernel_rfl

/-- What the call has gathered so far, in memory of its own. -/
def Row (base : Nat) (w : World) (v : Value) (zs : List Int) : Prop := w.ownsRow base 3 1 v zs.length (zs.map (Value.int .i64))
theorem Row.digs {base : Nat} {w : World} {v : Value} {zs : List Int} (h : Row base w v zs) : Digs w v zs := by
  obtain ⟨h1, h2⟩ := h
  rcases h2 with ⟨rfl, h0⟩ | ⟨g, cap, cur, rfl, hb, hg, hn, hm, hs, ht⟩
  · exact ⟨none, 0, 0, 0, by rw [h0], by omega, by unfold maxLen; omega, .inl ⟨rfl, rfl⟩, fun j hj => by omega⟩
  · refine ⟨some ⟨g, 0, none⟩, g, 0, cap, rfl, hn, hm, .inr rfl, fun j hj => ?_⟩
    have hu : (zs.map (Value.int .i64))[j]? = some (.int .i64 (dg zs j)) := by
      rw [List.getElem?_map, List.getElem?_eq_getElem hj]
      simp [dg, List.getD, hj]
    have := World.ownsRow.cells (w := w) (v := .slice (some ⟨g, 0, none⟩) zs.length cap) ⟨h1, .inr ⟨g, cap, cur, rfl, hb, hg, hn, hm, hs, ht⟩⟩ (g := g) rfl j _ hu
    simpa [Addr.add_lit] using this
/-- One digit more. -/
theorem Row.snoc {base : Nat} {w : World} {v : Value} {zs : List Int} {z : Int} (h : w.ownsRow base 3 1 v (zs.length + 1) (zs.map (Value.int .i64) ++ [.int .i64 z])) : Row base w v (zs ++ [z]) := by
  unfold Row; simpa using h

/-- Behind the append of one digit. -/
theorem grow_rel {w wr w1 : World} {o : Obj} {u v' : Value} {zs : List Int} {z : Int} (row : Row w.heap.size wr u zs) (hbw : Below w.heap.size w wr)
    (hown : w1.ownsRow w.heap.size 3 1 v' (zs.length + 1) (zs.map (Value.int .i64) ++ [.int .i64 z])) (hgrow : (wr.alloc o).grownBy w1 u.ownBlock) : Row w.heap.size w1 v' (zs ++ [z]) ∧ Below w.heap.size w w1 :=
  ⟨Row.snoc hown, (hbw.alloc hbw.size o).grown hgrow (by have := hbw.size; simp; omega) (fun j hj => (World.ownsRow.lt row j hj).1)⟩

/-- The sum so far: i places done, the carry c. -/
def AddInv (xs ys : List Int) (i : Nat) (c : Int) (zs : List Int) : Prop :=
  zs.length = i ∧ Dig zs ∧ 0 ≤ c ∧ c ≤ 1 ∧ i ≤ max xs.length ys.length + 1 ∧ (i = max xs.length ys.length + 1 → c = 0) ∧ val zs + pw i * c = val (xs.take i) + val (ys.take i)
theorem AddInv.step {xs ys zs : List Int} {i : Nat} {c : Int} (h : AddInv xs ys i c zs) (dx : Dig xs) (dy : Dig ys) (hi : i < max xs.length ys.length ∨ 0 < c) :
    AddInv xs ys (i + 1) ((c + dg xs i + dg ys i) / 65536) (zs ++ [(c + dg xs i + dg ys i) % 65536]) ∧ i < max xs.length ys.length + 1 := by
  obtain ⟨h1, h2, h3, h4, h5, h6, h7⟩ := h
  obtain ⟨x0, x1⟩ := dg_ok dx i
  obtain ⟨y0, y1⟩ := dg_ok dy i
  have hlt : i < max xs.length ys.length + 1 := by
    rcases hi with hi | hi
    · omega
    · by_cases e : i = max xs.length ys.length + 1
      · have := h6 e; omega
      · omega
  refine ⟨⟨by simp [h1], dig_snoc h2 (by omega) (by omega), by omega, by omega, by omega, ?_, ?_⟩, hlt⟩
  · intro e
    have e2 : i = max xs.length ys.length := by omega
    have := dg_end (zs := xs) (j := i) (by omega)
    have := dg_end (zs := ys) (j := i) (by omega)
    omega
  · rw [val_snoc, h1, val_take_succ, val_take_succ, pw_succ]
    have e1 : pw i * ((c + dg xs i + dg ys i) % 65536) + 65536 * pw i * ((c + dg xs i + dg ys i) / 65536) = pw i * (c + dg xs i + dg ys i) := by
      rw [Int.mul_comm 65536 (pw i), Int.mul_assoc, ← Int.mul_add]
      congr 1; omega
    rw [Int.mul_add, Int.mul_add] at e1
    have e2 : pw i * dg xs i = pw i * xs.getD i 0 := rfl
    have e3 : pw i * dg ys i = pw i * ys.getD i 0 := rfl
    omega
theorem AddInv.done {xs ys zs : List Int} {i : Nat} {c : Int} (h : AddInv xs ys i c zs) (hx : xs.length ≤ i) (hy : ys.length ≤ i) (hc : c ≤ 0) : val zs = val xs + val ys ∧ zs.length ≤ max xs.length ys.length + 1 := by
  obtain ⟨h1, h2, h3, h4, h5, h6, h7⟩ := h
  rw [List.take_of_length_le hx, List.take_of_length_le hy, show c = 0 by omega] at h7
  omega

set_option maxRecDepth 100000 in
set_option maxHeartbeats 1000000 in
theorem adds_any {va vb : Value} {xs ys : List Int} {w : World} (ha : Digs w va xs) (hb : Digs w vb ys) (dx : Dig xs) (dy : Dig ys) (hl : xs.length ≤ 100000000) (hl2 : ys.length ≤ 100000000) :
    Calls Try.prog 54 #[va, vb] w fun e w' => ∃ (v : Value) (zs : List Int), e = .returned v ∧ Digs w' v zs ∧ Dig zs ∧ Canon zs ∧ zs.length ≤ max xs.length ys.length + 1 ∧ val zs = val xs + val ys ∧ Below w.heap.size w w' := by
  obtain ⟨i0, hi0, hz0, hz1, hz2⟩ : ∃ i, Try.prog.info? 3 = some i ∧ i.zero = some (.int .i64 0) ∧ i.size = 1 ∧ i.bytes = 8 := by
    have h := Try.infoInt
    cases hi : Try.prog.info? 3 with
    | none => rw [hi] at h; simp at h
    | some i => rw [hi] at h; simp at h; exact ⟨i, rfl, h.1, h.2.1, h.2.2⟩
  obtain ⟨ao, b, off, cap, rfl, h2, h3, h4, h5⟩ := ha
  obtain ⟨bo, b', off', cap', rfl, k2, k3, k4, k5⟩ := hb
  have hx : (xs.length : Int) ≤ 100000000 := by omega
  have hy : (ys.length : Int) ≤ 100000000 := by omega
  have H5 : Hid _ := h5
  have K5 : Hid _ := k5
  clear h5 k5
  go_enter Try.func54, Try.ntmps54
  go_wp2
  go_loopw [5, 6, 7] (fun v c i wr => ∃ (n : Nat) (cc : Int) (zs : List Int), i = .int .i64 n ∧ c = .int .i64 cc ∧ AddInv xs ys n cc zs ∧ Row w.heap.size wr v zs ∧ Below w.heap.size w wr) (fun _ _ i _ => max xs.length ys.length + 1 - (intOf i).toNat)
  case atStart => exact ⟨0, 0, [], rfl, rfl, ⟨rfl, dig_nil, by omega, by omega, by omega, fun _ => rfl, by simp [val, pw]⟩, World.ownsRow_nil _ _ _ _, Below.refl _ _⟩
  case round =>
    obtain ⟨n, c, zs, rfl, rfl, inv, row, hbw⟩ := hrel
    have hbs := hbw.size
    obtain ⟨c0, c1⟩ : 0 ≤ c ∧ c ≤ 1 := ⟨inv.2.2.1, inv.2.2.2.1⟩
    have hzl : zs.length = n := inv.1
    have hnm : n ≤ max xs.length ys.length + 1 := inv.2.2.2.2.1
    have INV : Hid _ := inv
    have ROW : Hid _ := row
    have HZ : Hid _ := hzl
    clear row hzl
    have z0 : (0 : Int) ≤ (n : Int) := by omega
    by_cases g1 : n < xs.length
    · obtain rfl := some_of h4 (by omega)
      have cx := cell_later hbw (H5.out n (by omega))
      obtain ⟨x0, x1⟩ := dg_ok dx n
      have z1 : (n : Int) < xs.length := by omega
      obtain ⟨st, hlt⟩ := inv.step dx dy (.inl (by omega))
      have ST : Hid (AddInv xs ys (n + 1) ((c + dg xs n + dg ys n) / 65536) (zs ++ [(c + dg xs n + dg ys n) % 65536])) := st
      clear inv st
      by_cases g2 : n < ys.length
      · obtain rfl := some_of k4 (by omega)
        have cy := cell_later hbw (K5.out n (by omega))
        obtain ⟨y0, y1⟩ := dg_ok dy n
        have z2 : (n : Int) < ys.length := by omega
        go_wp2_with (at_builtin; refine wpList_append_own _ rfl _ _ 30 rfl w.heap.size 3 i0 (.int .i64 0) 1 8 Try.underlying30 hi0 hz0 hz1 hz2 rfl (by decide) _ zs.length (zs.map (Value.int .i64)) rfl (World.ownsRow.alloc ROW.out _) ⟨wr.heap.size, 0, none⟩ 1 1 [.int .i64 ((c + dg xs n + dg ys n) % 65536)] rfl rfl ?c1_0 ?c2_0 ?c3_0 ?c4_0 ?c5_0 ?_)
        case c2_0 => rfl
        case c3_0 => have := HZ.out; unfold maxLen; omega
        case c4_0 => have := HZ.out; omega
        case c5_0 => first | omega | (simp; omega)
        intro v' w1 hown' hgrow _
        obtain ⟨row', hb'⟩ := grow_rel ROW.out hbw hown' hgrow
        have ROW' : Hid _ := row'
        clear row' hown' hgrow
        go_wp2
        go_roundw
        case rel => exact ⟨n + 1, _, _, by go_num, rfl, ST.out, ROW'.out, hb'⟩
        case measure => simp [intOf]; omega
      · have z2 : ¬ (n : Int) < ys.length := by omega
        rw [dg_end (zs := ys) (by omega), Int.add_zero] at ST
        go_wp2_with (at_builtin; refine wpList_append_own _ rfl _ _ 30 rfl w.heap.size 3 i0 (.int .i64 0) 1 8 Try.underlying30 hi0 hz0 hz1 hz2 rfl (by decide) _ zs.length (zs.map (Value.int .i64)) rfl (World.ownsRow.alloc ROW.out _) ⟨wr.heap.size, 0, none⟩ 1 1 [.int .i64 ((c + dg xs n) % 65536)] rfl rfl ?c1_1 ?c2_1 ?c3_1 ?c4_1 ?c5_1 ?_)
        case c2_1 => rfl
        case c3_1 => have := HZ.out; unfold maxLen; omega
        case c4_1 => have := HZ.out; omega
        case c5_1 => first | omega | (simp; omega)
        intro v' w1 hown' hgrow _
        obtain ⟨row', hb'⟩ := grow_rel ROW.out hbw hown' hgrow
        have ROW' : Hid _ := row'
        clear row' hown' hgrow
        go_wp2
        go_roundw
        case rel => exact ⟨n + 1, _, _, by go_num, rfl, ST.out, ROW'.out, hb'⟩
        case measure => simp [intOf]; omega
    · have z1 : ¬ (n : Int) < xs.length := by omega
      by_cases g2 : n < ys.length
      · obtain ⟨st, hlt⟩ := inv.step dx dy (.inl (by omega))
        have ST : Hid (AddInv xs ys (n + 1) ((c + dg xs n + dg ys n) / 65536) (zs ++ [(c + dg xs n + dg ys n) % 65536])) := st
        clear inv st
        rw [dg_end (zs := xs) (by omega), Int.add_zero] at ST
        obtain rfl := some_of k4 (by omega)
        have cy := cell_later hbw (K5.out n (by omega))
        obtain ⟨y0, y1⟩ := dg_ok dy n
        have z2 : (n : Int) < ys.length := by omega
        go_wp2_with (at_builtin; refine wpList_append_own _ rfl _ _ 30 rfl w.heap.size 3 i0 (.int .i64 0) 1 8 Try.underlying30 hi0 hz0 hz1 hz2 rfl (by decide) _ zs.length (zs.map (Value.int .i64)) rfl (World.ownsRow.alloc ROW.out _) ⟨wr.heap.size, 0, none⟩ 1 1 [.int .i64 ((c + dg ys n) % 65536)] rfl rfl ?c1_2 ?c2_2 ?c3_2 ?c4_2 ?c5_2 ?_)
        case c2_2 => rfl
        case c3_2 => have := HZ.out; unfold maxLen; omega
        case c4_2 => have := HZ.out; omega
        case c5_2 => first | omega | (simp; omega)
        intro v' w1 hown' hgrow _
        obtain ⟨row', hb'⟩ := grow_rel ROW.out hbw hown' hgrow
        have ROW' : Hid _ := row'
        clear row' hown' hgrow
        go_wp2
        go_roundw
        case rel => exact ⟨n + 1, _, _, by go_num, rfl, ST.out, ROW'.out, hb'⟩
        case measure => simp [intOf]; omega
      · have z2 : ¬ (n : Int) < ys.length := by omega
        by_cases g3 : 0 < c
        · obtain ⟨st, hlt⟩ := inv.step dx dy (.inr g3)
          have ST : Hid (AddInv xs ys (n + 1) ((c + dg xs n + dg ys n) / 65536) (zs ++ [(c + dg xs n + dg ys n) % 65536])) := st
          clear inv st
          rw [dg_end (zs := xs) (by omega), dg_end (zs := ys) (by omega), Int.add_zero, Int.add_zero] at ST
          go_wp2_with (at_builtin; refine wpList_append_own _ rfl _ _ 30 rfl w.heap.size 3 i0 (.int .i64 0) 1 8 Try.underlying30 hi0 hz0 hz1 hz2 rfl (by decide) _ zs.length (zs.map (Value.int .i64)) rfl (World.ownsRow.alloc ROW.out _) ⟨wr.heap.size, 0, none⟩ 1 1 [.int .i64 (c % 65536)] rfl rfl ?c1_3 ?c2_3 ?c3_3 ?c4_3 ?c5_3 ?_)
          case c2_3 => rfl
          case c3_3 => have := HZ.out; unfold maxLen; omega
          case c4_3 => have := HZ.out; omega
          case c5_3 => first | omega | (simp; omega)
          intro v' w1 hown' hgrow _
          obtain ⟨row', hb'⟩ := grow_rel ROW.out hbw hown' hgrow
          have ROW' : Hid _ := row'
          clear row' hown' hgrow
          go_wp2
          go_roundw
          case rel => exact ⟨n + 1, _, _, by go_num, rfl, ST.out, ROW'.out, hb'⟩
          case measure => simp [intOf]; omega
        · have dn := inv.done (by omega) (by omega) (by omega)
          have DN : Hid _ := dn
          have hdz : Dig zs := inv.2.1
          clear inv dn
          go_wp2_with fail
          refine (trim_any (Row.digs ROW.out) (by have := HZ.out; omega)).mono ?_
          rintro e w1 ⟨k, v', hk, hzr, hcn, rfl, hdg, rfl⟩
          go_wp2_with fail
          go_ret
          exact ⟨_, _, rfl, hdg, dig_take hdz k, canon_take hk hcn, by have := DN.out.2; rw [List.length_take]; omega, by rw [val_trim hk hzr]; exact DN.out.1, hbw⟩

/-- The difference so far: i places done, the borrow c. -/
def SubInv (xs ys : List Int) (i : Nat) (c : Int) (zs : List Int) : Prop :=
  zs.length = i ∧ Dig zs ∧ 0 ≤ c ∧ c ≤ 1 ∧ i ≤ xs.length ∧ val zs + val (ys.take i) = val (xs.take i) + pw i * c
theorem SubInv.step {xs ys zs : List Int} {i : Nat} {c d c' : Int} (h : SubInv xs ys i c zs) (hi : i < xs.length) (hd : d = dg xs i - c - dg ys i + 65536 * c') (d0 : 0 ≤ d) (d1 : d < 65536) (c0 : 0 ≤ c') (c1 : c' ≤ 1) :
    SubInv xs ys (i + 1) c' (zs ++ [d]) := by
  obtain ⟨h1, h2, h3, h4, h5, h7⟩ := h
  refine ⟨by simp [h1], dig_snoc h2 d0 d1, c0, c1, by omega, ?_⟩
  rw [val_snoc, h1, val_take_succ, val_take_succ, pw_succ]
  have e1 : pw i * d = pw i * xs.getD i 0 - pw i * c - pw i * ys.getD i 0 + 65536 * pw i * c' := by
    rw [hd, Int.mul_add, Int.mul_sub, Int.mul_sub, ← Int.mul_assoc, Int.mul_comm (pw i) 65536]; rfl
  omega
theorem SubInv.done {xs ys zs : List Int} {c : Int} (h : SubInv xs ys xs.length c zs) (hl : ys.length ≤ xs.length) (hv : val ys ≤ val xs) : val zs = val xs - val ys ∧ zs.length = xs.length := by
  obtain ⟨h1, h2, h3, h4, h5, h7⟩ := h
  rw [List.take_length, List.take_of_length_le hl] at h7
  have hr := (val_range h2).2
  rw [h1] at hr
  have hp := pw_pos xs.length
  by_cases e : c = 0
  · subst e; omega
  · obtain rfl : c = 1 := by omega
    omega

set_option maxRecDepth 100000 in
set_option maxHeartbeats 1000000 in
theorem subs_any {va vb : Value} {xs ys : List Int} {w : World} (ha : Digs w va xs) (hb : Digs w vb ys) (dx : Dig xs) (dy : Dig ys) (hl : xs.length ≤ 100000000) (hll : ys.length ≤ xs.length) (hv : val ys ≤ val xs) :
    Calls Try.prog 55 #[va, vb] w fun e w' => ∃ (v : Value) (zs : List Int), e = .returned v ∧ Digs w' v zs ∧ Dig zs ∧ Canon zs ∧ zs.length ≤ xs.length ∧ val zs = val xs - val ys ∧ Below w.heap.size w w' := by
  obtain ⟨i0, hi0, hz0, hz1, hz2⟩ : ∃ i, Try.prog.info? 3 = some i ∧ i.zero = some (.int .i64 0) ∧ i.size = 1 ∧ i.bytes = 8 := by
    have h := Try.infoInt
    cases hi : Try.prog.info? 3 with
    | none => rw [hi] at h; simp at h
    | some i => rw [hi] at h; simp at h; exact ⟨i, rfl, h.1, h.2.1, h.2.2⟩
  obtain ⟨ao, b, off, cap, rfl, h2, h3, h4, h5⟩ := ha
  obtain ⟨bo, b', off', cap', rfl, k2, k3, k4, k5⟩ := hb
  have hx : (xs.length : Int) ≤ 100000000 := by omega
  have hy : (ys.length : Int) ≤ 100000000 := by omega
  have H5 : Hid _ := h5
  have K5 : Hid _ := k5
  clear h5 k5
  go_enter Try.func55, Try.ntmps55
  go_wp2
  go_loopw [5, 6, 7] (fun v c i wr => ∃ (n : Nat) (cc : Int) (zs : List Int), i = .int .i64 n ∧ c = .int .i64 cc ∧ SubInv xs ys n cc zs ∧ Row w.heap.size wr v zs ∧ Below w.heap.size w wr) (fun _ _ i _ => xs.length - (intOf i).toNat)
  case atStart => exact ⟨0, 0, [], rfl, rfl, ⟨rfl, dig_nil, by omega, by omega, by omega, by simp [val]⟩, World.ownsRow_nil _ _ _ _, Below.refl _ _⟩
  case round =>
    obtain ⟨n, c, zs, rfl, rfl, inv, row, hbw⟩ := hrel
    have hbs := hbw.size
    obtain ⟨c0, c1⟩ : 0 ≤ c ∧ c ≤ 1 := ⟨inv.2.2.1, inv.2.2.2.1⟩
    have hzl : zs.length = n := inv.1
    have hnm : n ≤ xs.length := inv.2.2.2.2.1
    have ROW : Hid _ := row
    have HZ : Hid _ := hzl
    clear row hzl
    have z0 : (0 : Int) ≤ (n : Int) := by omega
    by_cases g1 : n < xs.length
    · obtain rfl := some_of h4 (by omega)
      have cx := cell_later hbw (H5.out n (by omega))
      obtain ⟨x0, x1⟩ := dg_ok dx n
      have z1 : (n : Int) < xs.length := by omega
      by_cases g2 : n < ys.length
      · obtain rfl := some_of k4 (by omega)
        have cy := cell_later hbw (K5.out n (by omega))
        obtain ⟨y0, y1⟩ := dg_ok dy n
        have z2 : (n : Int) < ys.length := by omega
        by_cases g3 : dg xs n - c - dg ys n < 0
        · have ST : Hid (SubInv xs ys (n + 1) 1 (zs ++ [dg xs n - c - dg ys n + 65536])) := inv.step g1 (by omega) (by omega) (by omega) (by omega) (by omega)
          clear inv
          go_wp2_with (at_builtin; refine wpList_append_own _ rfl _ _ 30 rfl w.heap.size 3 i0 (.int .i64 0) 1 8 Try.underlying30 hi0 hz0 hz1 hz2 rfl (by decide) _ zs.length (zs.map (Value.int .i64)) rfl (World.ownsRow.alloc ROW.out _) ⟨wr.heap.size, 0, none⟩ 1 1 [.int .i64 (dg xs n - c - dg ys n + 65536)] rfl rfl ?c1_11 ?c2_11 ?c3_11 ?c4_11 ?c5_11 ?_)
          case c2_11 => rfl
          case c3_11 => have := HZ.out; unfold maxLen; omega
          case c4_11 => have := HZ.out; omega
          case c5_11 => first | omega | (simp; omega)
          intro v' w1 hown' hgrow _
          obtain ⟨row', hb'⟩ := grow_rel ROW.out hbw hown' hgrow
          have ROW' : Hid _ := row'
          clear row' hown' hgrow
          go_wp2
          go_roundw
          case rel => exact ⟨n + 1, _, _, by go_num, rfl, ST.out, ROW'.out, hb'⟩
          case measure => simp [intOf]; omega
        · have ST : Hid (SubInv xs ys (n + 1) 0 (zs ++ [dg xs n - c - dg ys n])) := inv.step g1 (by omega) (by omega) (by omega) (by omega) (by omega)
          clear inv
          go_wp2_with (at_builtin; refine wpList_append_own _ rfl _ _ 30 rfl w.heap.size 3 i0 (.int .i64 0) 1 8 Try.underlying30 hi0 hz0 hz1 hz2 rfl (by decide) _ zs.length (zs.map (Value.int .i64)) rfl (World.ownsRow.alloc ROW.out _) ⟨wr.heap.size, 0, none⟩ 1 1 [.int .i64 (dg xs n - c - dg ys n)] rfl rfl ?c1_12 ?c2_12 ?c3_12 ?c4_12 ?c5_12 ?_)
          case c2_12 => rfl
          case c3_12 => have := HZ.out; unfold maxLen; omega
          case c4_12 => have := HZ.out; omega
          case c5_12 => first | omega | (simp; omega)
          intro v' w1 hown' hgrow _
          obtain ⟨row', hb'⟩ := grow_rel ROW.out hbw hown' hgrow
          have ROW' : Hid _ := row'
          clear row' hown' hgrow
          go_wp2
          go_roundw
          case rel => exact ⟨n + 1, _, _, by go_num, rfl, ST.out, ROW'.out, hb'⟩
          case measure => simp [intOf]; omega
      · have z2 : ¬ (n : Int) < ys.length := by omega
        have e0 := dg_end (zs := ys) (j := n) (by omega)
        by_cases g3 : dg xs n - c < 0
        · have ST : Hid (SubInv xs ys (n + 1) 1 (zs ++ [dg xs n - c + 65536])) := inv.step g1 (by omega) (by omega) (by omega) (by omega) (by omega)
          clear inv e0
          go_wp2_with (at_builtin; refine wpList_append_own _ rfl _ _ 30 rfl w.heap.size 3 i0 (.int .i64 0) 1 8 Try.underlying30 hi0 hz0 hz1 hz2 rfl (by decide) _ zs.length (zs.map (Value.int .i64)) rfl (World.ownsRow.alloc ROW.out _) ⟨wr.heap.size, 0, none⟩ 1 1 [.int .i64 (dg xs n - c + 65536)] rfl rfl ?c1_13 ?c2_13 ?c3_13 ?c4_13 ?c5_13 ?_)
          case c2_13 => rfl
          case c3_13 => have := HZ.out; unfold maxLen; omega
          case c4_13 => have := HZ.out; omega
          case c5_13 => first | omega | (simp; omega)
          intro v' w1 hown' hgrow _
          obtain ⟨row', hb'⟩ := grow_rel ROW.out hbw hown' hgrow
          have ROW' : Hid _ := row'
          clear row' hown' hgrow
          go_wp2
          go_roundw
          case rel => exact ⟨n + 1, _, _, by go_num, rfl, ST.out, ROW'.out, hb'⟩
          case measure => simp [intOf]; omega
        · have ST : Hid (SubInv xs ys (n + 1) 0 (zs ++ [dg xs n - c])) := inv.step g1 (by omega) (by omega) (by omega) (by omega) (by omega)
          clear inv e0
          go_wp2_with (at_builtin; refine wpList_append_own _ rfl _ _ 30 rfl w.heap.size 3 i0 (.int .i64 0) 1 8 Try.underlying30 hi0 hz0 hz1 hz2 rfl (by decide) _ zs.length (zs.map (Value.int .i64)) rfl (World.ownsRow.alloc ROW.out _) ⟨wr.heap.size, 0, none⟩ 1 1 [.int .i64 (dg xs n - c)] rfl rfl ?c1_14 ?c2_14 ?c3_14 ?c4_14 ?c5_14 ?_)
          case c2_14 => rfl
          case c3_14 => have := HZ.out; unfold maxLen; omega
          case c4_14 => have := HZ.out; omega
          case c5_14 => first | omega | (simp; omega)
          intro v' w1 hown' hgrow _
          obtain ⟨row', hb'⟩ := grow_rel ROW.out hbw hown' hgrow
          have ROW' : Hid _ := row'
          clear row' hown' hgrow
          go_wp2
          go_roundw
          case rel => exact ⟨n + 1, _, _, by go_num, rfl, ST.out, ROW'.out, hb'⟩
          case measure => simp [intOf]; omega
    · obtain rfl : n = xs.length := by omega
      have dn := inv.done hll hv
      have DN : Hid _ := dn
      have hdz : Dig zs := inv.2.1
      clear inv dn
      go_wp2_with fail
      refine (trim_any (Row.digs ROW.out) (by have := HZ.out; omega)).mono ?_
      rintro e w1 ⟨k, v', hk, hzr, hcn, rfl, hdg, rfl⟩
      go_wp2_with fail
      go_ret
      exact ⟨_, _, rfl, hdg, dig_take hdz k, canon_take hk hcn, by have := DN.out.2; rw [List.length_take]; omega, by rw [val_trim hk hzr]; exact DN.out.1, hbw⟩
end Go.Proofs.Ytlpenfganhaclaa
