/-
  Leap second files in plain lists: a table's file is read as that table; what becomes of it where its lines stand otherwise, a note is among them, one stands twice, or a digit of the sum is another one. No conditions beyond those at each; no program is spoken of.
-/
import Derived.Test.YthjgilocbfhffaaDoorListE
namespace Go.Proofs.YthjgilocbfhffaaDoor
open Go.RowKit
set_option maxRecDepth 100000

/-! ### What the lines of a file say -/
theorem num_decD {n : Int} (h0 : 0 ≤ n) (h1 : n < 1000000000000000000) : NumText (decD n) n := by
  obtain ⟨N, rfl⟩ := Int.eq_ofNat_of_zero_le h0
  have h18 : N < 10 ^ (17 + 1) := by omega
  refine ⟨dec_all _ _, dec_ne _ _, dec_len 17 _, fun ⟨q1, q2⟩ => ?_, by unfold decD; rw [Int.toNat_natCast, dec_cnt 17 N h18]⟩
  have := dec_head 17 N h18 q2
  subst this
  have e : decD ((0 : Nat) : Int) = [48] := dec_one 17
  rw [e] at q1
  simp at q1
theorem num_noBl {x r : List UInt8} {n : Int} (h : NumText x n) : ∀ d, (x ++ r).head? = some d → isBl d = false := fun _ hd => dig_bl (num_head h hd)
theorem nil_dig : ∀ c, ([] : List UInt8).head? = some c → isD 10 c = false := fun c h => by cases h
theorem tab1 {x : List UInt8} {n : Int} (h : NumText x n) : nB (9 :: x) = false ∧ aB (9 :: x) = x := by
  have h1 := blanks_at (k := 1) (c := 9) rfl (r := x) (fun d hd => num_noBl (r := []) h d (by rwa [List.append_nil]))
  exact ⟨h1.2 (by decide), h1.1⟩
theorem stamp_at {x : List UInt8} {n k : Int} (h : NumText x n) : stampP k (9 :: x) = some (k, n, 0, z5) := by
  obtain ⟨b1, b2⟩ := tab1 h
  obtain ⟨a1, a2, a3⟩ := h.at (r := []) nil_dig
  rw [List.append_nil] at a1 a2 a3
  have hs : stOk (9 :: x) = true := by
    unfold stOk
    rw [b1, b2, a1, a3]; rfl
  unfold stampP
  rw [if_pos hs, b2, a2]
theorem noBl35 (r : List UInt8) : ¬ aB (35 :: r) = [] := by
  unfold aB
  rw [List.dropWhile_cons_of_neg (by decide)]
  simp
theorem scan_U {n : Int} (h0 : 0 ≤ n) (h1 : n < 1000000000000000000) : scanP (lineU n) = some (2, n, 0, z5) := by
  have e : lineU n = 35 :: 36 :: 9 :: decD n := rfl
  rw [e]
  unfold scanP
  rw [if_neg (noBl35 _), if_pos (show (35 :: 36 :: 9 :: decD n).take 2 = [35, 36] from rfl)]
  exact stamp_at (num_decD h0 h1)
theorem scan_E {n : Int} (h0 : 0 ≤ n) (h1 : n < 1000000000000000000) : scanP (lineE n) = some (3, n, 0, z5) := by
  have e : lineE n = 35 :: 64 :: 9 :: decD n := rfl
  rw [e]
  unfold scanP
  rw [if_neg (noBl35 _), if_neg (by simp), if_pos (show (35 :: 64 :: 9 :: decD n).take 2 = [35, 64] from rfl)]
  exact stamp_at (num_decD h0 h1)
theorem scan_D {a : Ent} (h0 : 0 ≤ a.1 ∧ a.1 < 1000000000000000000) (h1 : 0 ≤ a.2 ∧ a.2 < 1000000000000000000) : scanP (lineD a) = some (5, a.1, a.2, z5) := by
  have hx := num_decD h0.1 h0.2
  have hy := num_decD h1.1 h1.2
  obtain ⟨b1, b2⟩ := tab1 hy
  obtain ⟨a1, a2, a3⟩ := hx.at (r := 9 :: decD a.2) (fun c hc => by cases hc; decide)
  obtain ⟨c1, c2, c3⟩ := hy.at (r := []) nil_dig
  rw [List.append_nil] at c1 c2 c3
  have hh : ∀ d, (lineD a).head? = some d → isD 10 d = true := fun d hd => num_head hx hd
  have h35 : ∀ (b : List UInt8) (i : Nat), 0 < i → (lineD a).take i = 35 :: b → False := fun b i hi e => by
    have h3 := congrArg List.head? e
    rw [List.head?_take, if_neg (by omega)] at h3
    exact absurd (hh 35 h3) (by decide)
  have hne : ¬ aB (lineD a) = [] := by
    have hl : lineD a ≠ [] := by unfold lineD; simp
    cases hc : lineD a with
    | nil => exact absurd hc hl
    | cons d t =>
      have := dig_bl (hh d (by rw [hc]; rfl))
      unfold aB
      rw [List.dropWhile_cons_of_neg (by rw [this]; decide)]
      simp
  have hs : daOk (lineD a) = true := by
    unfold daOk lineD
    rw [a1, a3, b1, b2, c1, c3]; rfl
  unfold scanP
  rw [if_neg hne, if_neg (fun e => h35 _ 2 (by decide) e), if_neg (fun e => h35 _ 2 (by decide) e), if_neg (fun e => h35 _ 2 (by decide) e), if_neg (fun e => h35 _ 1 (by decide) e)]
  unfold dataP
  rw [if_pos hs]
  unfold lineD
  rw [a2, a3, b2, c2]
theorem hxd_fin : ∀ i : Fin 16, isD 16 (hxd i.val) = true ∧ digN (hxd i.val) = i.val ∧ isBl (hxd i.val) = false ∧ no10 (hxd i.val) = true := by decide
theorem hxd_is (n : Nat) : isD 16 (hxd n) = true ∧ digN (hxd n) = n % 16 ∧ isBl (hxd n) = false ∧ no10 (hxd n) = true := by
  rw [← hxd_mod]; exact hxd_fin ⟨n % 16, Nat.mod_lt _ (by decide)⟩
theorem hexP_all : ∀ k m, (hexP k m).all (isD 16) = true ∧ (hexP k m).all (fun c => !isBl c) = true ∧ (hexP k m).all no10 = true
  | 0, _ => ⟨rfl, rfl, rfl⟩
  | k + 1, m => by
    obtain ⟨h1, h2, h3⟩ := hexP_all k (m / 16)
    obtain ⟨q1, _, q2, q3⟩ := hxd_is m
    rw [hexP]
    simp only [List.all_append, h1, h2, h3, List.all_cons, List.all_nil, q1, q2, q3]
    exact ⟨rfl, rfl, rfl⟩
theorem hexP_cnt : ∀ k m, m < 16 ^ k → cnt 16 (hexP k m) 0 = m
  | 0, m, h => by simp at h; subst h; rfl
  | k + 1, m, h => by
    rw [hexP, cnt_snoc, hexP_cnt k (m / 16) (by rw [Nat.pow_succ] at h; omega), (hxd_is m).2.1]
    omega
theorem hex_head {k m : Nat} {r : List UInt8} (hk : 0 < k) : ∀ d, (hexP k m ++ r).head? = some d → isBl d = false := fun d hd => by
  obtain ⟨h1, h2, _⟩ := hexP_all k m
  have hl := hexP_len k m
  rw [head_app (fun e => by rw [e] at hl; simp at hl; omega)] at hd
  have := List.all_eq_true.1 h2 d (List.mem_of_mem_head? hd)
  simpa using this
/-- A word with a byte 9 ahead. -/
theorem word_at {n : Int} (h0 : 0 ≤ n) (h1 : n < 4294967296) {r : List UInt8} (hr : ∀ c, r.head? = some c → isD 16 c = false) :
    nB (9 :: (hexW n ++ r)) = false ∧ aB (9 :: (hexW n ++ r)) = hexW n ++ r ∧ dgBad 16 8 (hexW n ++ r) = false ∧ wordVal (hexW n ++ r) = n ∧ dR 16 (hexW n ++ r) = r := by
  obtain ⟨N, rfl⟩ := Int.eq_ofNat_of_zero_le h0
  have hb := blanks_at (k := 1) (c := 9) rfl (r := hexW (N : Int) ++ r) (hex_head (by decide))
  have hl : (hexP 8 ((N : Int).toNat)).length = 8 := hexP_len 8 _
  obtain ⟨t1, t2⟩ := tw_app (hexP_all 8 ((N : Int).toNat)).1 hr
  have hd : dgBad 16 8 (hexW (N : Int) ++ r) = false := by
    unfold dgBad dT
    rw [show hexW (N : Int) = hexP 8 ((N : Int).toNat) from rfl, t1, decide_eq_false (fun e => by rw [e] at hl; cases hl), decide_eq_false (by omega)]; rfl
  refine ⟨hb.2 (by decide), hb.1, hd, ?_, t2⟩
  unfold wordVal dg
  rw [if_neg (by rw [hd]; decide)]
  unfold dT
  rw [show hexW (N : Int) = hexP 8 ((N : Int).toNat) from rfl, t1, hexP_cnt 8 _ (by simp only [Int.toNat_natCast]; omega)]
  simp
theorem tab_noD {r : List UInt8} : ∀ c, (9 :: r).head? = some c → isD 16 c = false := fun c h => by cases h; decide
theorem nil_noD : ∀ c, ([] : List UInt8).head? = some c → isD 16 c = false := fun c h => by cases h
theorem scan_H {ws : List Int} (hl : ws.length = 5) (hin : ∀ n ∈ ws, 0 ≤ n ∧ n < 4294967296) : scanP (lineH ws) = some (4, 0, 0, ws) := by
  match ws, hl with
  | [a, b, c, d, e], _ =>
    have ha := hin a (by simp)
    have hb := hin b (by simp)
    have hc := hin c (by simp)
    have hd := hin d (by simp)
    have he := hin e (by simp)
    have e0 : lineH [a, b, c, d, e] = 35 :: 104 :: (9 :: (hexW a ++ (9 :: (hexW b ++ (9 :: (hexW c ++ (9 :: (hexW d ++ (9 :: (hexW e ++ []))))))))))  := by
      simp [lineH]
    rw [e0]
    obtain ⟨e1, e2, e3, e4, e5⟩ := word_at he.1 he.2 nil_noD
    obtain ⟨d1, d2, d3, d4, d5⟩ := word_at hd.1 hd.2 (r := 9 :: (hexW e ++ [])) tab_noD
    obtain ⟨c1, c2, c3, c4, c5⟩ := word_at hc.1 hc.2 (r := 9 :: (hexW d ++ (9 :: (hexW e ++ [])))) tab_noD
    obtain ⟨b1, b2, b3, b4, b5⟩ := word_at hb.1 hb.2 (r := 9 :: (hexW c ++ (9 :: (hexW d ++ (9 :: (hexW e ++ [])))))) tab_noD
    obtain ⟨a1, a2, a3, a4, a5⟩ := word_at ha.1 ha.2 (r := 9 :: (hexW b ++ (9 :: (hexW c ++ (9 :: (hexW d ++ (9 :: (hexW e ++ [])))))))) tab_noD
    obtain ⟨X, hX⟩ : ∃ X, X = 9 :: (hexW a ++ (9 :: (hexW b ++ (9 :: (hexW c ++ (9 :: (hexW d ++ (9 :: (hexW e ++ []))))))))) := ⟨_, rfl⟩
    rw [← hX] at a1 a2 ⊢
    have l1 : hLeft 1 X = 9 :: (hexW b ++ (9 :: (hexW c ++ (9 :: (hexW d ++ (9 :: (hexW e ++ [])))))))  := by
      show dR 16 (aB X) = _; rw [a2, a5]
    have l2 : hLeft 2 X = 9 :: (hexW c ++ (9 :: (hexW d ++ (9 :: (hexW e ++ []))))) := by
      show dR 16 (aB (hLeft 1 X)) = _; rw [l1, b2, b5]
    have l3 : hLeft 3 X = 9 :: (hexW d ++ (9 :: (hexW e ++ []))) := by
      show dR 16 (aB (hLeft 2 X)) = _; rw [l2, c2, c5]
    have l4 : hLeft 4 X = 9 :: (hexW e ++ []) := by
      show dR 16 (aB (hLeft 3 X)) = _; rw [l3, d2, d5]
    have l5 : hLeft 5 X = [] := by
      show dR 16 (aB (hLeft 4 X)) = _; rw [l4, e2, e5]
    have hbad : hBad 5 X = false := by
      show (((((false || nB X || dgBad 16 8 (aB X)) || nB (hLeft 1 X) || dgBad 16 8 (aB (hLeft 1 X))) || nB (hLeft 2 X) || dgBad 16 8 (aB (hLeft 2 X))) || nB (hLeft 3 X) || dgBad 16 8 (aB (hLeft 3 X))) || nB (hLeft 4 X) || dgBad 16 8 (aB (hLeft 4 X))) = false
      rw [l1, l2, l3, l4, a1, a2, a3, b1, b2, b3, c1, c2, c3, d1, d2, d3, e1, e2, e3]; rfl
    have hws : hWs 5 X = [a, b, c, d, e] := by
      show [wordVal (aB X), wordVal (aB (hLeft 1 X)), wordVal (aB (hLeft 2 X)), wordVal (aB (hLeft 3 X)), wordVal (aB (hLeft 4 X))] ++ [] = _
      rw [l1, l2, l3, l4, a2, a4, b2, b4, c2, c4, d2, d4, e2, e4]; rfl
    unfold scanP
    rw [if_neg (noBl35 _), if_neg (by simp), if_neg (by simp), if_pos (show (35 :: 104 :: X).take 2 = [35, 104] from rfl)]
    show hashP X = _
    unfold hashP hOk
    rw [hbad, l5, hws]; rfl
theorem scan_note (x : List UInt8) : scanP (35 :: 32 :: x) = some (1, 0, 0, z5) := by
  unfold scanP
  rw [if_neg (noBl35 _), if_neg (by simp), if_neg (by simp), if_neg (by simp), if_pos (show (35 :: 32 :: x).take 1 = [35] from rfl)]

/-! ### No byte 10 in a line -/
theorem dig_no10 {c : UInt8} (h : isD 10 c = true) : no10 c = true := by
  have := isD_ten.1 h
  simp [no10]; omega
theorem decD_no10 (n : Int) : (decD n).all no10 = true := by
  rw [List.all_eq_true]
  intro c hc
  exact dig_no10 (List.all_eq_true.1 (dec_all 17 n.toNat) c hc)
theorem lineD_no10 (a : Ent) : (lineD a).all no10 = true := by
  unfold lineD
  rw [List.all_append, decD_no10, List.all_cons, decD_no10]; rfl
theorem lineU_no10 (n : Int) : (lineU n).all no10 = true := by unfold lineU; rw [List.all_append, decD_no10]; rfl
theorem lineE_no10 (n : Int) : (lineE n).all no10 = true := by unfold lineE; rw [List.all_append, decD_no10]; rfl
theorem lineH_no10 (ws : List Int) : (lineH ws).all no10 = true := by
  unfold lineH
  rw [List.all_append]
  have : ((ws.map fun n => 9 :: hexW n).flatten).all no10 = true := by
    induction ws with
    | nil => rfl
    | cons n ws ih =>
      have h8 : (hexW n).all no10 = true := (hexP_all 8 _).2.2
      rw [List.map_cons, List.flatten_cons, List.all_append, ih, List.all_cons, h8]; rfl
  rw [this]; rfl
/-- A file with this sum. -/
def fileW (t : Tb) (ws : List Int) : List (List UInt8) := lineU t.u :: lineE t.e :: (t.es.map lineD ++ [lineH ws])
theorem fileW_no10 (t : Tb) (ws : List Int) : ∀ x ∈ fileW t ws, x.all no10 = true := by
  intro x hx
  simp only [fileW, List.mem_cons, List.mem_append, List.mem_map, List.not_mem_nil, or_false] at hx
  rcases hx with rfl | rfl | ⟨a, _, rfl⟩ | rfl
  · exact lineU_no10 _
  · exact lineE_no10 _
  · exact lineD_no10 _
  · exact lineH_no10 _
theorem lines_joinL {L : List (List UInt8)} (h : ∀ x ∈ L, x.all no10 = true) : linesL (joinL L) = L := by
  have := lines_join (r := []) h
  rw [List.append_nil] at this
  rw [this]; simp [linesL]

/-! ### How a file is read -/
theorem run_app : ∀ (A B : List (List UInt8)) (n : Nat) (s s' : PS), runP A n s = .ok s' → runP (A ++ B) n s = runP B (n + A.length) s'
  | [], B, n, s, s', h => by cases h; rfl
  | l :: A, B, n, s, s', h => by
    rw [List.cons_append, runP]
    rw [runP] at h
    cases hs : stepP s (n + 1) l with
    | error e => rw [hs] at h; cases h
    | ok s1 =>
      rw [hs] at h
      have ih := run_app A B (n + 1) s1 s' h
      rw [List.length_cons, show n + (A.length + 1) = n + 1 + A.length by omega]
      exact ih
theorem run_data : ∀ (es pre : List Ent) (n : Nat) (s : PS), s.t.es = pre → (∀ j, j < (pre ++ es).length → okAt (pre ++ es) j = true) →
    runP (es.map lineD) n s = .ok { s with a5 := if es.length = 0 then s.a5 else n + es.length, t := { s.t with es := pre ++ es } }
  | [], pre, n, s, h, _ => by subst h; simp [runP]
  | a :: es, pre, n, s, h, hok => by
    have hst : stand pre a = true := by
      have := hok pre.length (by simp)
      rw [ok_at (e := a) (by simp), List.take_append_of_le_length (Nat.le_refl _), List.take_length] at this
      exact this
    have hr := (stand_spec hst).2
    rw [List.map_cons, runP, step_5 (scan_D (by omega) (by omega)) rfl (by rw [h]; exact hst)]
    simp only
    have e1 : pre ++ a :: es = (pre ++ [(a.1, a.2)]) ++ es := by simp
    rw [run_data es (pre ++ [(a.1, a.2)]) (n + 1) _ (by simp only; rw [h]) (by rw [← e1]; exact hok)]
    rw [e1]
    simp only [List.length_cons]
    rw [if_neg (show ¬ es.length + 1 = 0 by omega)]
    congr 2
    split <;> omega
theorem run_file {t : Tb} (hb : canBe t = true) {ws : List Int} (hl : ws.length = 5) (hin : ∀ n ∈ ws, 0 ≤ n ∧ n < 4294967296) :
    runP (fileW t ws) 0 PS.zero = .ok ⟨1, 2, t.es.length + 3, t.es.length + 2, t, ws⟩ := by
  obtain ⟨⟨u0, u1⟩, ⟨e0, e1⟩, hpos⟩ := can_num hb
  have h1 : stepP PS.zero (0 + 1) (lineU t.u) = .ok { PS.zero with a2 := 1, t := ⟨t.u, 0, []⟩ } := step_2 (F := fun _ => 0) ⟨rfl, rfl, rfl, rfl⟩ (scan_U u0 u1) rfl rfl
  have h2 : stepP { PS.zero with a2 := 1, t := ⟨t.u, 0, []⟩ } (0 + 1 + 1) (lineE t.e) = .ok ⟨1, 2, 0, 0, ⟨t.u, t.e, []⟩, z5⟩ := step_3 (F := fun k => if k = 2 then 1 else 0) ⟨rfl, rfl, rfl, rfl⟩ (scan_E e0 e1) rfl rfl
  unfold fileW
  rw [runP, h1]
  simp only
  rw [runP, h2]
  simp only
  have hd := run_data t.es [] 2 ⟨1, 2, 0, 0, ⟨t.u, t.e, []⟩, z5⟩ rfl (fun j hj => by rw [List.nil_append] at hj ⊢; exact can_all hb hj)
  rw [run_app _ _ _ _ _ hd, List.length_map, runP]
  have h4 : stepP { (⟨1, 2, 0, 0, ⟨t.u, t.e, []⟩, z5⟩ : PS) with a5 := if t.es.length = 0 then 0 else 2 + t.es.length, t := ⟨t.u, t.e, [] ++ t.es⟩ } (0 + 1 + 1 + t.es.length + 1) (lineH ws) = .ok ⟨1, 2, 0 + 1 + 1 + t.es.length + 1, if t.es.length = 0 then 0 else 2 + t.es.length, ⟨t.u, t.e, [] ++ t.es⟩, ws⟩ := by
    unfold stepP
    rw [scan_H hl hin]
    rfl
  rw [h4, if_neg (by omega)]
  simp only [runP, List.nil_append]
  congr 2 <;> omega
theorem file_len (t : Tb) (ws : List Int) : (fileW t ws).length = t.es.length + 3 := by simp [fileW]
theorem run_joinL {L : List (List UInt8)} (h : ∀ x ∈ L, x.all no10 = true) : linesL (joinL L) = L := lines_joinL h
theorem print_W (t : Tb) : printL t = joinL (fileW t (sumL t)) := rfl
theorem joinW_len {t : Tb} {ws : List Int} (hl : ws.length = 5) : (joinL (fileW t ws)).length = (printL t).length := by
  have key : ∀ ws : List Int, (joinL (fileW t ws)).length = (lineU t.u).length + 1 + ((lineE t.e).length + 1) + (joinL (t.es.map lineD)).length + ((lineH ws).length + 1) := fun ws => by
    unfold fileW
    rw [joinL, joinL, join_app]
    simp only [List.length_append, List.length_cons, joinL, List.length_nil]
    omega
  have hh : ∀ ws : List Int, ws.length = 5 → (lineH ws).length = 47 := fun ws h => by
    have := hexs_len ws
    unfold lineH
    simp only [List.length_append, List.length_cons, List.length_nil]
    omega
  rw [print_W, key, key, hh ws hl, hh _ (sumL_len t)]
theorem parse_file {t : Tb} (hb : canBe t = true) {ws : List Int} (hl : ws.length = 5) (hin : ∀ n ∈ ws, 0 ≤ n ∧ n < 4294967296) :
    parseL (joinL (fileW t ws)) = if ws = sumL t then (t, 0, 0) else (⟨0, 0, []⟩, t.es.length + 3, 11) := by
  have hpos := (can_num hb).2.2
  have hlen := print_len hb
  have hlt := joinW_len (t := t) hl
  have hL := lines_joinL (fileW_no10 t ws)
  rw [parse_end (i := (fileW t ws).length) (s := ⟨1, 2, t.es.length + 3, t.es.length + 2, t, ws⟩) (by omega) (by rw [hL, List.drop_length, run_file hb hl hin]; rfl) (by rw [hL])]
  have hnz : ¬ ((⟨1, 2, t.es.length + 3, t.es.length + 2, t, ws⟩ : PS).a2 = 0 ∨ (⟨1, 2, t.es.length + 3, t.es.length + 2, t, ws⟩ : PS).a3 = 0 ∨ (⟨1, 2, t.es.length + 3, t.es.length + 2, t, ws⟩ : PS).a4 = 0 ∨ (⟨1, 2, t.es.length + 3, t.es.length + 2, t, ws⟩ : PS).a5 = 0) := by
    simp only; omega
  split
  · rename_i h; rw [end_ok hnz h]
  · rename_i h; rw [end_hash hnz h]
/-- A table's file is read as that table. -/
theorem parse_print {t : Tb} (hb : canBe t = true) : parseL (printL t) = (t, 0, 0) := by
  rw [print_W, parse_file hb (sumL_len t) (sumL_in t), if_pos rfl]
/-- A line that stands twice. -/
theorem parse_twice {t : Tb} (hb : canBe t = true) {m : List UInt8} (hm : m = lineU t.u ∨ m = lineE t.e ∨ m = lineH (sumL t)) : parseL (printL t ++ m ++ [10]) = (⟨0, 0, []⟩, t.es.length + 4, 4) := by
  obtain ⟨⟨u0, u1⟩, ⟨e0, e1⟩, hpos⟩ := can_num hb
  have hm10 : m.all no10 = true := by
    rcases hm with rfl | rfl | rfl
    · exact lineU_no10 _
    · exact lineE_no10 _
    · exact lineH_no10 _
  have hj : printL t ++ m ++ [10] = joinL (fileW t (sumL t) ++ [m]) := by
    rw [joinL_snoc, print_W, List.append_assoc]
  have hL : linesL (printL t ++ m ++ [10]) = fileW t (sumL t) ++ [m] := by
    rw [hj]
    exact lines_joinL (fun x hx => by
      rcases List.mem_append.1 hx with h | h
      · exact fileW_no10 _ _ x h
      · simp only [List.mem_singleton] at h; subst h; exact hm10)
  have hml : m.length ≤ 100 := by
    have h1 := decD_len t.u
    have h2 := decD_len t.e
    have h3 := hexs_len (sumL t)
    rw [sumL_len] at h3
    rcases hm with rfl | rfl | rfl
    · unfold lineU; simp only [List.length_append, List.length_cons, List.length_nil]; omega
    · unfold lineE; simp only [List.length_append, List.length_cons, List.length_nil]; omega
    · unfold lineH; simp only [List.length_append, List.length_cons, List.length_nil]; omega
  have hpl := print_len hb
  have hseen : SeenOf (fun k => if k = 2 then 1 else if k = 3 then 2 else if k = 4 then ((t.es.length + 3 : Nat) : Int) else ((t.es.length + 2 : Nat) : Int)) ⟨1, 2, t.es.length + 3, t.es.length + 2, t, sumL t⟩ := ⟨rfl, rfl, rfl, rfl⟩
  have hs : stepP ⟨1, 2, t.es.length + 3, t.es.length + 2, t, sumL t⟩ ((fileW t (sumL t)).length + 1) m = .error 4 := by
    rcases hm with rfl | rfl | rfl
    · exact step_seen hseen (scan_U u0 u1) (by decide) (by decide) (by simp)
    · exact step_seen hseen (scan_E e0 e1) (by decide) (by decide) (by simp)
    · exact step_seen hseen (scan_H (sumL_len t) (sumL_in t)) (by decide) (by decide) (by simp; omega)
  have hrun := run_file hb (sumL_len t) (sumL_in t)
  have hr := run_app (fileW t (sumL t)) [m] 0 PS.zero _ hrun
  rw [Nat.zero_add] at hr
  rw [parse_no (i := (fileW t (sumL t)).length) (l := m) (by simp only [List.length_append, List.length_cons, List.length_nil]; omega) (by rw [hL, List.drop_left]; exact hr.symm) (by rw [hL]; simp) hs, file_len]

/-! ### A digit of the sum is another one -/
theorem hxd_dig {c : UInt8} (h : isD 16 c = true) : hxd (digN c) = c := by
  have key : ∀ n : Fin 256, isD 16 (UInt8.ofNat n.val) = true → hxd (digN (UInt8.ofNat n.val)) = UInt8.ofNat n.val := by decide +kernel
  have e : UInt8.ofNat c.toNat = c := UInt8.ofNat_toNat
  have := key ⟨c.toNat, c.toNat_lt⟩
  simp only at this
  rw [e] at this
  exact this h
theorem hexP_of : ∀ (k : Nat) (D : List UInt8), D.all (isD 16) = true → D.length = k → hexP k (cnt 16 D 0) = D
  | 0, D, _, hl => by rw [List.eq_nil_of_length_eq_zero hl]; rfl
  | k + 1, D, ha, hl => by
    have hne : D ≠ [] := by intro e; subst e; simp at hl
    have e := List.dropLast_concat_getLast hne
    obtain ⟨D0, hD0⟩ : ∃ D0, D.dropLast = D0 := ⟨_, rfl⟩
    obtain ⟨c, hc⟩ : ∃ c, D.getLast hne = c := ⟨_, rfl⟩
    rw [hD0, hc] at e
    subst e
    rw [List.all_append, Bool.and_eq_true] at ha
    have hcd : isD 16 c = true := by simpa using ha.2
    have hlt : digN c < 16 := by simpa [isD] using hcd
    rw [cnt_snoc, hexP, show (16 * cnt 16 D0 0 + digN c) / 16 = cnt 16 D0 0 by omega, hexP_of k D0 ha.1 (by simpa using hl)]
    rw [← hxd_mod, show (16 * cnt 16 D0 0 + digN c) % 16 = digN c by omega, hxd_dig hcd]
def headL (t : Tb) : List UInt8 := (lineU t.u ++ [10] ++ (lineE t.e ++ [10])) ++ textL t.es
theorem fileW_is (t : Tb) (ws : List Int) : joinL (fileW t ws) = headL t ++ (lineH ws ++ [10]) := by
  unfold fileW headL
  rw [joinL, joinL, join_app, textL_join]
  simp [joinL]
def hexL (ws : List Int) : List UInt8 := (ws.map fun n => 9 :: hexW n).flatten
theorem lineH_split {ws : List Int} {i : Nat} {n : Int} (h : ws[i]? = some n) : lineH ws = ([35, 104] ++ hexL (ws.take i) ++ [9]) ++ (hexW n ++ hexL (ws.drop (i + 1))) := by
  have hi := (List.getElem?_eq_some_iff.1 h)
  have e : ws = ws.take i ++ n :: ws.drop (i + 1) := by
    rw [← hi.2, ← List.drop_eq_getElem_cons hi.1, List.take_append_drop]
  unfold lineH hexL
  conv => lhs; rw [e]
  simp
theorem turned {t : Tb} (hb : canBe t = true) {j d p : Nat} (hj : j < 5) (hd : d < 8) (hp : p + (9 * j + d + 2) = (printL t).length) {y c : UInt8} (hy : (printL t)[p]? = some y) (hyc : y ≠ c) (hc : isD 16 c = true) :
    parseL ((printL t).set p c) = (⟨0, 0, []⟩, t.es.length + 3, 11) := by
  have hlen := sumL_len t
  obtain ⟨n, hn⟩ : ∃ n, (sumL t)[4 - j]? = some n := ⟨(sumL t)[4 - j]'(by omega), List.getElem?_eq_getElem _⟩
  have hX : printL t = headL t ++ (lineH (sumL t) ++ [10]) := fileW_is t (sumL t)
  have hA : ([35, 104] ++ hexL ((sumL t).take (4 - j)) ++ [9] : List UInt8).length = 39 - 9 * j := by
    have := hexs_len ((sumL t).take (4 - j))
    unfold hexL
    simp only [List.length_append, List.length_cons, List.length_nil, List.length_take] at this ⊢
    omega
  have hH : (lineH (sumL t)).length = 47 := by
    have := hexs_len (sumL t)
    unfold lineH
    simp only [List.length_append, List.length_cons, List.length_nil]
    omega
  have h8 : (hexW n).length = 8 := hexP_len 8 _
  have hpe : p = (headL t).length + ((39 - 9 * j) + (7 - d)) := by
    rw [hX] at hp
    simp only [List.length_append, List.length_cons, List.length_nil] at hp
    omega
  obtain ⟨A, hAe⟩ : ∃ A, ([35, 104] ++ hexL ((sumL t).take (4 - j)) ++ [9] : List UInt8) = A := ⟨_, rfl⟩
  obtain ⟨B, hBe⟩ : ∃ B, hexL ((sumL t).drop (4 - j + 1)) = B := ⟨_, rfl⟩
  have hs := lineH_split hn
  rw [hAe, hBe] at hs
  rw [hAe] at hA
  -- the digit that was there
  have hy1 : (hexW n)[7 - d]? = some y := by
    rw [hX, hs, hpe, List.getElem?_append_right (by omega), Nat.add_sub_cancel_left, List.append_assoc, List.getElem?_append_right (by omega), hA, Nat.add_sub_cancel_left, List.append_assoc, List.getElem?_append_left (by omega)] at hy
    exact hy
  have hset : (printL t).set p c = headL t ++ ((A ++ ((hexW n).set (7 - d) c ++ B)) ++ [10]) := by
    rw [hX, hs, hpe, List.set_append_right _ _ (by omega), Nat.add_sub_cancel_left, List.append_assoc, List.set_append_right _ _ (by omega), hA, Nat.add_sub_cancel_left, List.append_assoc, List.set_append_left _ _ (by omega)]
    simp
  -- the word that is there now
  have hall : ((hexW n).set (7 - d) c).all (isD 16) = true := by
    rw [List.all_eq_true]
    intro z hz
    rcases List.mem_or_eq_of_mem_set hz with h | h
    · exact List.all_eq_true.1 (hexP_all 8 _).1 z h
    · subst h; exact hc
  have hw := hexP_of 8 _ hall (by rw [List.length_set, h8])
  obtain ⟨m, hm⟩ : ∃ m, cnt 16 ((hexW n).set (7 - d) c) 0 = m := ⟨_, rfl⟩
  have hm2 := cnt_lt 16 ((hexW n).set (7 - d) c) 0 hall
  rw [List.length_set, h8, hm] at hm2
  rw [hm] at hw
  have hws : ((sumL t).set (4 - j) (m : Int))[4 - j]? = some (m : Int) := by
    rw [List.getElem?_set_self (by omega)]
  have hs2 := lineH_split hws
  rw [List.take_set_of_le (Nat.le_refl _), List.drop_set_of_lt (by omega), hAe, hBe, show hexW (m : Int) = hexP 8 m from rfl, hw] at hs2
  have hne : (sumL t).set (4 - j) (m : Int) ≠ sumL t := by
    intro e
    rw [e, hn] at hws
    have e1 : n = (m : Int) := Option.some.inj hws
    have e2 : hexW n = (hexW n).set (7 - d) c := by
      conv => lhs; rw [e1, show hexW (m : Int) = hexP 8 m from rfl, hw]
    have e3 := hy1
    rw [e2, List.getElem?_set_self (by omega)] at e3
    exact hyc (Option.some.inj e3).symm
  rw [hset, ← hs2, ← fileW_is, parse_file hb (by rw [List.length_set, hlen]) (fun z hz => ?_), if_neg hne]
  rcases List.mem_or_eq_of_mem_set hz with h | h
  · exact sumL_in t z h
  · subst h; omega

/-! ### Lines in another order, and notes among them -/
abbrev Qn := Int × Int × Int × List Int
structure QS where
  b2 : Bool
  b3 : Bool
  b4 : Bool
  b5 : Bool
  t : Tb
  ws : List Int
def stepQ (z : QS) : Qn → Option QS
  | (k, a, b, ws) =>
    if k = 2 then (if z.b2 = true then none else some { z with b2 := true, t := { z.t with u := a } })
    else if k = 3 then (if z.b3 = true then none else some { z with b3 := true, t := { z.t with e := a } })
    else if k = 4 then (if z.b4 = true then none else some { z with b4 := true, ws := ws })
    else if k = 5 then (if stand z.t.es (a, b) = true then some { z with b5 := true, t := { z.t with es := z.t.es ++ [(a, b)] } } else none)
    else some z
def runQ : List Qn → QS → Option QS
  | [], z => some z
  | q :: r, z => (stepQ z q).bind (runQ r)
structure Rel (s : PS) (z : QS) : Prop where
  r2 : z.b2 = decide (s.a2 ≠ 0)
  r3 : z.b3 = decide (s.a3 ≠ 0)
  r4 : z.b4 = decide (s.a4 ≠ 0)
  r5 : z.b5 = decide (s.a5 ≠ 0)
  t : s.t = z.t
  ws : s.ws = z.ws
theorem rel_step {s : PS} {z z' : QS} {n : Nat} {l : List UInt8} {q : Qn} (h : Rel s z) (hq : scanP l = some q) (hz : stepQ z q = some z') : ∃ s', stepP s (n + 1) l = .ok s' ∧ Rel s' z' := by
  obtain ⟨k, a, b, ws⟩ := q
  obtain ⟨b2, b3, b4, b5, t, zws⟩ := z
  obtain ⟨r2, r3, r4, r5, rt, rws⟩ := h
  simp only at r2 r3 r4 r5 rt rws
  unfold stepQ at hz
  unfold stepP
  rw [hq]
  simp only at hz ⊢
  by_cases k2 : k = 2
  · rw [if_pos k2] at hz ⊢
    split at hz <;> cases hz
    rename_i hb
    rw [if_pos (by subst r2; simpa using hb)]
    exact ⟨_, rfl, by simp, r3, r4, r5, by simp [rt], rws⟩
  · rw [if_neg k2] at hz ⊢
    by_cases k3 : k = 3
    · rw [if_pos k3] at hz ⊢
      split at hz <;> cases hz
      rename_i hb
      rw [if_pos (by subst r3; simpa using hb)]
      exact ⟨_, rfl, r2, by simp, r4, r5, by simp [rt], rws⟩
    · rw [if_neg k3] at hz ⊢
      by_cases k4 : k = 4
      · rw [if_pos k4] at hz ⊢
        split at hz <;> cases hz
        rename_i hb
        rw [if_pos (by subst r4; simpa using hb)]
        exact ⟨_, rfl, r2, r3, by simp, r5, rt, rfl⟩
      · rw [if_neg k4] at hz ⊢
        by_cases k5 : k = 5
        · rw [if_pos k5] at hz ⊢
          split at hz <;> cases hz
          rename_i hs
          rw [if_pos (by rw [rt]; exact hs)]
          exact ⟨_, rfl, r2, r3, r4, by simp, by simp [rt], rws⟩
        · rw [if_neg k5] at hz ⊢
          cases hz
          exact ⟨_, rfl, r2, r3, r4, r5, rt, rws⟩
theorem rel_run : ∀ {L : List (List UInt8)} {qs : List Qn} {n : Nat} {s : PS} {z z' : QS}, Rel s z → L.map scanP = qs.map some → runQ qs z = some z' → ∃ s', runP L n s = .ok s' ∧ Rel s' z'
  | [], [], n, s, z, z', h, _, hz => by cases hz; exact ⟨s, rfl, h⟩
  | [], _ :: _, _, _, _, _, _, hm, _ => by simp at hm
  | _ :: _, [], _, _, _, _, _, hm, _ => by simp at hm
  | l :: L, q :: qs, n, s, z, z', h, hm, hz => by
    simp only [List.map_cons, List.cons.injEq] at hm
    rw [runQ, Option.bind_eq_some_iff] at hz
    obtain ⟨z1, hz1, hz2⟩ := hz
    obtain ⟨s1, hs1, h1⟩ := rel_step (n := n) h hm.1 hz1
    obtain ⟨s2, hs2, h2⟩ := rel_run (n := n + 1) h1 hm.2 hz2
    exact ⟨s2, by rw [runP, hs1]; exact hs2, h2⟩
def QS.zero : QS := ⟨false, false, false, false, ⟨0, 0, []⟩, z5⟩
theorem parse_good {L : List (List UInt8)} {qs : List Qn} {t : Tb} (h10 : ∀ x ∈ L, x.all no10 = true) (hl : (joinL L).length ≤ 65536) (hm : L.map scanP = qs.map some) (hr : runQ qs QS.zero = some ⟨true, true, true, true, t, sumL t⟩) : parseL (joinL L) = (t, 0, 0) := by
  have hL := lines_joinL h10
  obtain ⟨s, hs, h⟩ := rel_run (n := 0) (s := PS.zero) (z := QS.zero) ⟨rfl, rfl, rfl, rfl, rfl, rfl⟩ hm hr
  obtain ⟨r2, r3, r4, r5, rt, rws⟩ := h
  have hnz : ¬ (s.a2 = 0 ∨ s.a3 = 0 ∨ s.a4 = 0 ∨ s.a5 = 0) := by
    have r2 := of_decide_eq_true r2.symm
    have r3 := of_decide_eq_true r3.symm
    have r4 := of_decide_eq_true r4.symm
    have r5 := of_decide_eq_true r5.symm
    omega
  rw [parse_end (i := L.length) (s := s) hl (by rw [hL, List.drop_length, hs]; rfl) (by rw [hL]), end_ok hnz (by rw [rws, rt])]
  rw [rt]
theorem runQ_app : ∀ (a b : List Qn) (z : QS), runQ (a ++ b) z = (runQ a z).bind (runQ b)
  | [], b, z => rfl
  | q :: a, b, z => by
    rw [List.cons_append, runQ, runQ]
    cases stepQ z q with
    | none => rfl
    | some z1 => exact runQ_app a b z1
def noteQ : Qn := (1, 0, 0, z5)
theorem runQ_note (a b : List Qn) (z : QS) : runQ (a ++ noteQ :: b) z = runQ (a ++ b) z := by
  rw [runQ_app, runQ_app]
  rfl
def entQ (a : Ent) : Qn := (5, a.1, a.2, z5)
theorem runQ_data : ∀ (es pre : List Ent) (z : QS), z.t.es = pre → (∀ j, j < (pre ++ es).length → okAt (pre ++ es) j = true) →
    runQ (es.map entQ) z = some { z with b5 := z.b5 || decide (0 < es.length), t := { z.t with es := pre ++ es } }
  | [], pre, z, h, _ => by subst h; simp [runQ]
  | a :: es, pre, z, h, hok => by
    have hst : stand pre a = true := by
      have := hok pre.length (by simp)
      rw [ok_at (e := a) (by simp), List.take_append_of_le_length (Nat.le_refl _), List.take_length] at this
      exact this
    have e1 : pre ++ a :: es = (pre ++ [(a.1, a.2)]) ++ es := by simp
    have hs : stepQ z (entQ a) = some { z with b5 := true, t := { z.t with es := z.t.es ++ [(a.1, a.2)] } } := by
      unfold stepQ entQ
      simp only
      rw [if_neg (by decide), if_neg (by decide), if_neg (by decide), if_pos trivial, if_pos (by rw [h]; exact hst)]
    rw [List.map_cons, runQ, hs, Option.bind_some, runQ_data es (pre ++ [(a.1, a.2)]) _ (by simp only; rw [h]) (by rw [← e1]; exact hok), e1]
    simp
def updQ (t : Tb) : Qn := (2, t.u, 0, z5)
def expQ (t : Tb) : Qn := (3, t.e, 0, z5)
def sumQ (t : Tb) : Qn := (4, 0, 0, sumL t)
theorem runQ_1 {t : Tb} (hb : canBe t = true) : runQ (updQ t :: expQ t :: (t.es.map entQ ++ [sumQ t])) QS.zero = some ⟨true, true, true, true, t, sumL t⟩ := by
  have hpos := (can_num hb).2.2
  show runQ (t.es.map entQ ++ [sumQ t]) ⟨true, true, false, false, ⟨t.u, t.e, []⟩, z5⟩ = _
  rw [runQ_app, runQ_data t.es [] _ rfl (fun j hj => by rw [List.nil_append] at hj ⊢; exact can_all hb hj), decide_eq_true hpos]
  rfl
theorem runQ_2 {t : Tb} (hb : canBe t = true) : runQ (expQ t :: updQ t :: (t.es.map entQ ++ [sumQ t])) QS.zero = some ⟨true, true, true, true, t, sumL t⟩ := by
  have hpos := (can_num hb).2.2
  show runQ (t.es.map entQ ++ [sumQ t]) ⟨true, true, false, false, ⟨t.u, t.e, []⟩, z5⟩ = _
  rw [runQ_app, runQ_data t.es [] _ rfl (fun j hj => by rw [List.nil_append] at hj ⊢; exact can_all hb hj), decide_eq_true hpos]
  rfl
theorem runQ_3 {t : Tb} (hb : canBe t = true) : runQ (sumQ t :: updQ t :: expQ t :: t.es.map entQ) QS.zero = some ⟨true, true, true, true, t, sumL t⟩ := by
  have hpos := (can_num hb).2.2
  show runQ (t.es.map entQ) ⟨true, true, true, false, ⟨t.u, t.e, []⟩, sumL t⟩ = _
  rw [runQ_data t.es [] _ rfl (fun j hj => by rw [List.nil_append] at hj ⊢; exact can_all hb hj), decide_eq_true hpos]
  rfl
theorem map_D {t : Tb} (hb : canBe t = true) : (t.es.map lineD).map scanP = (t.es.map entQ).map some := by
  rw [List.map_map, List.map_map]
  apply List.map_congr_left
  intro a ha
  obtain ⟨j, hj, rfl⟩ := List.getElem_of_mem ha
  obtain ⟨h1, h2⟩ := can_ent hb (List.getElem?_eq_getElem hj)
  exact scan_D (by omega) (by omega)
/-- The orders in which a file's lines may stand here. -/
def orderOf (t : Tb) (k : Nat) : List (List UInt8) :=
  if k = 1 then lineE t.e :: lineU t.u :: (t.es.map lineD ++ [lineH (sumL t)])
  else if k = t.es.length + 2 then lineH (sumL t) :: lineU t.u :: lineE t.e :: t.es.map lineD
  else fileL t
theorem order_notes {t : Tb} (hb : canBe t = true) (k n : Nat) {m : List UInt8} (hm : m.all no10 = true) (hml : m.length ≤ 100) :
    parseL (joinL ((orderOf t k).take n ++ (35 :: 32 :: m) :: (orderOf t k).drop n)) = (t, 0, 0) := by
  obtain ⟨⟨u0, u1⟩, ⟨e0, e1⟩, hpos⟩ := can_num hb
  have hU := scan_U u0 u1
  have hE := scan_E e0 e1
  have hH := scan_H (sumL_len t) (sumL_in t)
  have hD := map_D hb
  have hj : ∀ L L' : List (List UInt8), L.Perm L' → (joinL L).length = (joinL L').length := by
    intro L L' h
    induction h with
    | nil => rfl
    | cons x _ ih => simp only [joinL, List.length_append, List.length_cons, ih]
    | swap x y l => simp only [joinL, List.length_append, List.length_cons]; omega
    | trans _ _ h1 h2 => rw [h1, h2]
  have hperm : (orderOf t k).Perm (fileL t) := by
    unfold orderOf
    split
    · exact List.Perm.swap _ _ _
    · split
      · unfold fileL
        have h1 : (lineH (sumL t) :: lineU t.u :: lineE t.e :: t.es.map lineD).Perm ((lineU t.u :: lineE t.e :: t.es.map lineD) ++ [lineH (sumL t)]) := (List.perm_append_singleton _ _).symm
        exact h1
      · exact List.Perm.refl _
  have h10 : ∀ x ∈ orderOf t k, x.all no10 = true := fun x hx => fileW_no10 t (sumL t) x (hperm.mem_iff.1 hx)
  have hq : ∃ qs : List Qn, (orderOf t k).map scanP = qs.map some ∧ runQ qs QS.zero = some ⟨true, true, true, true, t, sumL t⟩ := by
    unfold orderOf
    split
    · exact ⟨_, by simp only [List.map_cons, List.map_append, List.map_nil, hU, hE, hH, hD]; rfl, runQ_2 hb⟩
    · split
      · exact ⟨_, by simp only [List.map_cons, hU, hE, hH, hD]; rfl, runQ_3 hb⟩
      · exact ⟨_, by unfold fileL; simp only [List.map_cons, List.map_append, List.map_nil, hU, hE, hH, hD]; rfl, runQ_1 hb⟩
  obtain ⟨qs, hqm, hqr⟩ := hq
  have hpl := print_len hb
  refine parse_good (qs := qs.take n ++ noteQ :: qs.drop n) (fun x hx => ?_) ?_ ?_ (by rw [runQ_note, List.take_append_drop]; exact hqr)
  · rcases List.mem_append.1 hx with h | h
    · exact h10 x (List.mem_of_mem_take h)
    · rcases List.mem_cons.1 h with h | h
      · subst h; rw [List.all_cons, List.all_cons, hm]; rfl
      · exact h10 x (List.mem_of_mem_drop h)
  · have e1 := hj ((orderOf t k).take n ++ (35 :: 32 :: m) :: (orderOf t k).drop n) ((35 :: 32 :: m) :: orderOf t k) (by
      have := List.perm_middle (a := (35 :: 32 :: m)) (l₁ := (orderOf t k).take n) (l₂ := (orderOf t k).drop n)
      rwa [List.take_append_drop] at this)
    have e2 := hj _ _ hperm
    have e3 : joinL (fileL t) = printL t := rfl
    rw [e3] at e2
    rw [e1, joinL]
    simp only [List.length_append, List.length_cons]
    omega
  · rw [List.map_append, List.map_cons, List.map_append, List.map_cons, List.map_take, List.map_drop, hqm, List.map_take, List.map_drop, scan_note]
    rfl
end Go.Proofs.YthjgilocbfhffaaDoor
