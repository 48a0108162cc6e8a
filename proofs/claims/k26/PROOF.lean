import PyProof.Rows.All
import Wide.All
import OpenK.AllK
import Wide.FinOn
import HandS.ForMost
import HandS.RaiseMore
import HandS.Defaults
import HandS.Wide
import HandS.Codes
import HandS.Walk
import HandS.Style
import HandS.IsInst
import PySem.Challenge.RW_replaytravel_k26_switches_of_turns
set_option Elab.async false
set_option maxRecDepth 100000
set_option maxHeartbeats 4000000
namespace Kw
open PySem L2
/-! The text by places. -/
def top (i : Nat) : Stmt := PySem.Challenge.pw_replaytravel_k26_switches_of_turns.main.body.getD i (.Pass ⟨0, 0, 0, 0⟩)
abbrev s_switches : Stmt := top 1
abbrev N_switches : List Str := ["turns", "thread", "ahead"]
theorem sc_switches : FnScope N_switches ["turns"] (defScope s_switches) := ⟨rfl, rfl, rfl, by decide +kernel, rfl, by decide +kernel, by decide +kernel⟩
abbrev s_lpen : Stmt := top 3
abbrev N_lpen : List Str := ["_law_script"]
theorem sc_lpen : FnScope N_lpen ["_law_script"] (defScope s_lpen) := ⟨rfl, rfl, rfl, by decide +kernel, rfl, by decide +kernel, by decide +kernel⟩
abbrev s_ldraw : Stmt := top 4
abbrev N_ldraw : List Str := ["_law_pen_here", "_law_many_here", "_law_digit", "_law_turn", "_law_cell", "_law_primes", "_law_prime", "_law_mixed"]
theorem sc_ldraw : FnScope N_ldraw ["_law_pen_here", "_law_many_here"] (defScope s_ldraw) := ⟨rfl, rfl, rfl, by decide +kernel, rfl, by decide +kernel, by decide +kernel⟩
abbrev s_lmany : Stmt := top 5
abbrev N_lmany : List Str := ["_law_pen_here", "_law_turns", "_law_lots", "_law_threads", "_law_most", "_law_thread"]
theorem sc_lmany : FnScope N_lmany ["_law_pen_here"] (defScope s_lmany) := ⟨rfl, rfl, rfl, by decide +kernel, rfl, by decide +kernel, by decide +kernel⟩
abbrev s_law : Stmt := top 6
abbrev N_law : List Str := ["_law_script", "_law_pen_here", "_law_bout", "_law_turns", "_law_lots", "_law_handed", "_law_found", "_law_mirrored", "_law_k"]
theorem sc_law : FnScope N_law ["_law_script"] (defScope s_law) := ⟨rfl, rfl, rfl, by decide +kernel, rfl, by decide +kernel, by decide +kernel⟩
structure Txt (K : PySem.W.Frag) (mg : Str → Option Value) (f : Nat → Addr) (fd : Nat → FuncData) : Prop where
  F_switches : Fun K "switches" "switches" s_switches (f 0) (fd 0)
  m_switches : mg "switches" = some (.ref (f 0))
  b_switches : Binds K (fd 0) ["turns"] []
  F_lpen : Fun K "_law_pen" "_law_pen" s_lpen (f 1) (fd 1)
  m_lpen : mg "_law_pen" = some (.ref (f 1))
  b_lpen : Binds K (fd 1) ["_law_script"] []
  F_ldraw : Fun K "_law_draw" "_law_draw" s_ldraw (f 2) (fd 2)
  m_ldraw : mg "_law_draw" = some (.ref (f 2))
  b_ldraw : Binds K (fd 2) ["_law_pen_here", "_law_many_here"] []
  F_lmany : Fun K "_law_many" "_law_many" s_lmany (f 3) (fd 3)
  m_lmany : mg "_law_many" = some (.ref (f 3))
  b_lmany : Binds K (fd 3) ["_law_pen_here"] []
  F_law : Fun K "law" "law" s_law (f 4) (fd 4)
  m_law : mg "law" = some (.ref (f 4))
  b_law : Binds K (fd 4) ["_law_script"] []
  z_abs : mg "abs" = none
  z_bool : mg "bool" = none
  z_int : mg "int" = none
  z_isinstance : mg "isinstance" = none
  z_len : mg "len" = none
  z_list : mg "list" = none
  z_max : mg "max" = none
  z_range : mg "range" = none
  z_zip : mg "zip" = none
/-! Frames: all that was tracked but p stands as it stood. -/
def Kp (p : Addr) (H H' : Hp) : Prop := ∀ b o, b ≠ p → H b = some o → H' b = some o
theorem Kp.refl (p : Addr) (H : Hp) : Kp p H H := fun _ _ _ h => h
theorem Kp.trans {p : Addr} {H H1 H2 : Hp} (a : Kp p H H1) (b : Kp p H1 H2) : Kp p H H2 := fun x o n h => b x o n (a x o n h)
theorem Kp.upd {p : Addr} {H : Hp} (o : HO) : Kp p H (upd H p o) := fun b u n h => by
  rw [upd_ne n]
  exact h
theorem Kp.new {p q : Addr} {H : Hp} {o : HO} (h : H q = none) : Kp p H (L2.upd H q o) := fun b u _ e => by
  rw [upd_ne (ne_of_none e h)]
  exact e
theorem Kp.mut {p q : Addr} {H H' : Hp} {o : HO} (k : Kp p H H') (h : H q = none) : Kp p H (L2.upd H' q o) := fun b u n e => by
  rw [upd_ne (ne_of_none e h)]
  exact k b u n e
theorem Same.kp {p : Addr} {H H' : Hp} (s : Same H H') : Kp p H H' := fun b o _ h => s b o h
theorem Same.new {q : Addr} {H : Hp} {o : HO} (h : H q = none) : Same H (L2.upd H q o) := fun b u e => by
  rw [upd_ne (ne_of_none e h)]
  exact e
theorem Same.mut {q : Addr} {H H' : Hp} {o : HO} (k : Same H H') (h : H q = none) : Same H (L2.upd H' q o) := fun b u e => by
  rw [upd_ne (ne_of_none e h)]
  exact k b u e
/-- free behind a frame is free ahead of it, but for p -/
theorem Kp.free {p q : Addr} {H H' : Hp} (k : Kp p H H') (hq : q ≠ p) (h : H' q = none) : H q = none := by
  cases e : H q with
  | none => rfl
  | some o =>
    rw [k q o hq e] at h
    cases h
/-! What holds of the feed: a list of the cells, how many were begun, what is left. -/
def Pen (H : Hp) (p c : Addr) (ns : List Int) (n : Int) : Prop :=
  ∃ r : Int, H p = some (.lst [.ref c, .int n, .int r]) ∧ H c = some (.lst (ns.map V.int)) ∧ 0 ≤ n ∧ 0 ≤ r
theorem Pen.ne {H : Hp} {p c : Addr} {ns : List Int} {n : Int} (h : Pen H p c ns n) : c ≠ p := by
  obtain ⟨r, h1, h2, _⟩ := h
  refine ne_of h2 h1 fun e => ?_
  cases ns with
  | nil => cases e
  | cons a l => cases e
theorem Pen.nn {H : Hp} {p c : Addr} {ns : List Int} {n : Int} (h : Pen H p c ns n) : 0 ≤ n := by
  obtain ⟨r, _, _, h, _⟩ := h
  exact h
theorem Pen.new {H : Hp} {p c q : Addr} {ns : List Int} {n : Int} {o : HO} (h : Pen H p c ns n) (hq : H q = none) : Pen (upd H q o) p c ns n := by
  obtain ⟨r, h1, h2, h3, h4⟩ := h
  exact ⟨r, (upd_ne (ne_of_none h1 hq)).trans h1, (upd_ne (ne_of_none h2 hq)).trans h2, h3, h4⟩
theorem Pen.same {H H' : Hp} {p c : Addr} {ns : List Int} {n : Int} (h : Pen H p c ns n) (s : Same H H') : Pen H' p c ns n := by
  obtain ⟨r, h1, h2, h3, h4⟩ := h
  exact ⟨r, s _ _ h1, s _ _ h2, h3, h4⟩
theorem Pen.ni {H : Hp} {p c q : Addr} {ns : List Int} {n : Int} (h : Pen H p c ns n) (hq : H q = none) : q ≠ p := by
  obtain ⟨r, h1, _⟩ := h
  exact (ne_of_none h1 hq).symm
theorem cut63 {xs : List V} (h : xs.length ≤ 63) : cutV xs none (some 63) = xs := by
  unfold cutV
  rw [HT.sIx_none, show HT.sIx xs.length xs.length (some 63) = min 63 xs.length from HT.sIx_nat xs.length xs.length 63]
  rw [show min 63 xs.length = xs.length by omega]
  simp
theorem atI_in {ns : List Int} {i : Int} (h0 : 0 ≤ i) (h1 : i < ((ns.map V.int).length : Int)) : ∃ v : Int, atI (ns.map V.int) i = some (.int v) := by
  obtain ⟨j, rfl⟩ := Int.eq_ofNat_of_zero_le h0
  have hj : j < ns.length := by
    rw [List.length_map] at h1
    omega
  refine ⟨ns[j], atI_nat ?_⟩
  rw [List.getElem?_map, List.getElem?_eq_getElem hj]
  rfl
theorem few {i : Int} (h : i.natAbs < 2 ^ 20) : i.natAbs.log2 < 1920 := Nat.lt_of_lt_of_le (PySem.Flt.log2_lt_of (by decide) h) (by decide)
/-! Lists of ints as data. -/
theorem dpInts {K : PySem.W.Frag} {H : Hp} : ∀ ns : List Int, DpAll K H (ns.map V.int) (ns.map PyData.int)
  | [] => .nil
  | n :: r => .cons (.int n) (dpInts r)
theorem dpL {K : PySem.W.Frag} {H : Hp} {a : Addr} {ns : List Int} (h : SqL K H a (ns.map V.int)) : Dp K H (.ref a) (.list (ns.map PyData.int)) := .lst h (dpInts ns)
theorem shInts (ns : List Int) : SeqAt.shaped (.list (ns.map PyData.int)) = true := by
  simp [SeqAt.shaped, PyData.canLay0, PyData.depth, PySem.W.ke_canLayAll0, PySem.W.ke_depthAll]
theorem eqvInts (ns ms : List Int) : PyData.eqv (.list (ns.map PyData.int)) (.list (ms.map PyData.int)) = decide (ns = ms) := by
  rw [PyData.eqv, PySem.W.ked_eqvAll]
/-! The mathematics: how many of the first m neighbours are unlike. -/
def cnt (xs : List Int) : Nat → Nat
  | 0 => 0
  | m + 1 => cnt xs m + (if xs[m]? = xs[m + 1]? then 0 else 1)
def swc : List Int → Nat
  | x :: y :: r => (if x = y then 0 else 1) + swc (y :: r)
  | _ => 0
theorem cnt_cons (x : Int) (t : List Int) : ∀ m, cnt (x :: t) (m + 1) = (if (x :: t)[0]? = (x :: t)[1]? then 0 else 1) + cnt t m
  | 0 => by
    show 0 + (if (x :: t)[0]? = (x :: t)[1]? then 0 else 1) = (if (x :: t)[0]? = (x :: t)[1]? then 0 else 1) + 0
    omega
  | m + 1 => by
    show cnt (x :: t) (m + 1) + (if t[m]? = t[m + 1]? then 0 else 1) = _ + (cnt t m + (if t[m]? = t[m + 1]? then 0 else 1))
    rw [cnt_cons x t m]
    omega
theorem cnt_swc : ∀ xs : List Int, cnt xs (xs.length - 1) = swc xs
  | [] => rfl
  | [_] => rfl
  | x :: y :: r => by
    have h := cnt_swc (y :: r)
    show cnt (x :: y :: r) (r.length + 1) = _
    rw [cnt_cons]
    have h2 : cnt (y :: r) r.length = swc (y :: r) := h
    rw [h2]
    show (if some x = some y then 0 else 1) + _ = (if x = y then 0 else 1) + _
    by_cases e : x = y
    · rw [if_pos e, if_pos (by rw [e])]
    · rw [if_neg e, if_neg (fun q => e (Option.some.inj q))]
theorem swc_snoc : ∀ (xs : List Int) (a y : Int), swc (xs ++ [a, y]) = swc (xs ++ [a]) + (if a = y then 0 else 1)
  | [], a, y => by
    show (if a = y then 0 else 1) + 0 = 0 + _
    omega
  | [x], a, y => by
    show (if x = a then 0 else 1) + ((if a = y then 0 else 1) + 0) = ((if x = a then 0 else 1) + 0) + _
    omega
  | x :: z :: r, a, y => by
    have h := swc_snoc (z :: r) a y
    show (if x = z then 0 else 1) + swc ((z :: r) ++ [a, y]) = ((if x = z then 0 else 1) + swc ((z :: r) ++ [a])) + _
    rw [h]
    omega
theorem swc_reverse : ∀ xs : List Int, swc xs.reverse = swc xs
  | [] => rfl
  | [_] => rfl
  | x :: y :: r => by
    have h := swc_reverse (y :: r)
    have e1 : (x :: y :: r).reverse = r.reverse ++ [y, x] := by simp
    have e2 : (y :: r).reverse = r.reverse ++ [y] := by simp
    rw [e1, swc_snoc, ← e2, h]
    show _ = (if x = y then 0 else 1) + swc (y :: r)
    by_cases q : x = y
    · rw [if_pos q, if_pos q.symm]
      omega
    · rw [if_neg q, if_neg (fun z => q z.symm)]
      omega
theorem swc_same (t : Int) : ∀ k, swc (List.replicate k t) = 0
  | 0 => rfl
  | 1 => rfl
  | k + 2 => by
    have h := swc_same t (k + 1)
    show (if t = t then 0 else 1) + swc (t :: List.replicate k t) = 0
    rw [if_pos rfl]
    have h2 : swc (t :: List.replicate k t) = 0 := h
    omega
theorem swc_stretch (ys : List Int) (a t : Int) (h : a ≠ t) : ∀ k, swc (ys ++ [a] ++ List.replicate (k + 1) t) = swc (ys ++ [a]) + 1
  | 0 => by
    have e : ys ++ [a] ++ List.replicate (0 + 1) t = ys ++ [a, t] := by simp
    rw [e, swc_snoc, if_neg h]
  | k + 1 => by
    have e : ys ++ [a] ++ List.replicate (k + 1 + 1) t = (ys ++ [a] ++ List.replicate k t) ++ [t, t] := by
      rw [List.replicate_succ', List.replicate_succ']
      simp
    have e2 : ys ++ [a] ++ List.replicate (k + 1) t = (ys ++ [a] ++ List.replicate k t) ++ [t] := by
      rw [List.replicate_succ']
      simp
    rw [e, swc_snoc, if_pos rfl, ← e2, swc_stretch ys a t h k]
theorem cnt_le (xs : List Int) : ∀ i, cnt xs i ≤ i
  | 0 => Nat.le_refl _
  | m + 1 => by
    have h := cnt_le xs m
    show cnt xs m + (if xs[m]? = xs[m + 1]? then 0 else 1) ≤ m + 1
    split <;> omega
/-- xs is made of so many stretches, each of another thread than the one ahead -/
def Lots (xs : List Int) (l : Nat) : Prop := (xs = [] ∧ l = 0) ∨ (xs ≠ [] ∧ swc xs + 1 = l)
theorem lots_step {xs : List Int} {l : Nat} {t : Int} {k : Nat} (h : Lots xs l) (ht : ∀ a, xs.getLast? = some a → a ≠ t) : Lots (xs ++ List.replicate (k + 1) t) (l + 1) := by
  refine .inr ⟨by simp [List.replicate_succ], ?_⟩
  rcases h with ⟨rfl, rfl⟩ | ⟨hx, hl⟩
  · rw [List.nil_append, swc_same]
  · have e := List.dropLast_concat_getLast hx
    have hne : xs.getLast hx ≠ t := ht _ (List.getLast?_eq_some_getLast hx)
    rw [← e, swc_stretch _ _ _ hne, e, ← hl]
theorem cutTo (xs : List V) (k : Nat) : cutV xs none (some (k : Int)) = xs.take k := by
  unfold cutV
  rw [HT.sIx_none, HT.sIx_nat]
  show (xs.drop 0).take (min k xs.length - 0) = _
  rw [List.drop_zero, Nat.sub_zero]
  by_cases h : k ≤ xs.length
  · rw [Nat.min_eq_left h]
  · rw [Nat.min_eq_right (by omega), List.take_of_length_le (Nat.le_refl _), List.take_of_length_le (by omega)]
theorem cutFrom1 (xs : List V) : cutV xs (some 1) none = xs.drop 1 := by
  unfold cutV
  rw [show HT.sIx xs.length 0 (some 1) = min 1 xs.length from HT.sIx_nat xs.length 0 1, HT.sIx_none]
  cases xs with
  | nil => rfl
  | cons x r =>
    rw [show min 1 (x :: r).length = 1 by rw [List.length_cons]; omega]
    show (List.take ((x :: r).length - 1) r) = r
    rw [List.length_cons, Nat.add_sub_cancel]
    exact List.take_length
theorem prime_at {i : Int} (h0 : 0 ≤ i) (h1 : i < 5) : ∃ v : Int, atI [V.int 2147483647, V.int 2147483629, V.int 2147483587, V.int 2147483579, V.int 2147483563] i = some (.int v) ∧ 2147483563 ≤ v ∧ v ≤ 2147483647 := by
  have h : i = 0 ∨ i = 1 ∨ i = 2 ∨ i = 3 ∨ i = 4 := by omega
  rcases h with rfl | rfl | rfl | rfl | rfl
  · exact ⟨_, rfl, by decide, by decide⟩
  · exact ⟨_, rfl, by decide, by decide⟩
  · exact ⟨_, rfl, by decide, by decide⟩
  · exact ⟨_, rfl, by decide, by decide⟩
  · exact ⟨_, rfl, by decide, by decide⟩
/-! The promises. -/
def sp_switches (K : PySem.W.Frag) : Sp := fun vs H Q _ => ∃ (a : Addr) (xs : List Int), vs = [.ref a] ∧ SqL K H a (xs.map V.int) ∧ xs.length ≤ 1000 ∧ ∀ H', Same H H' → Q (.int (swc xs)) H'
def sp_lpen (K : PySem.W.Frag) : Sp := fun vs H Q _ => ∃ (a : Addr) (ns : List Int), vs = [.ref a] ∧ SqL K H a (ns.map V.int) ∧ ns.length ≤ 63 ∧
  ∀ H' p c, Pen H' p c ns 0 → Q (.ref p) H'
def sp_ldraw : Sp := fun vs H Q _ => ∃ (p c : Addr) (ns : List Int) (n m : Int), vs = [.ref p, .int m] ∧ Pen H p c ns n ∧ 0 < m ∧ m < 1073741824 ∧ n < 1000000 ∧
  ∀ (H' : Hp) (d n' : Int), Kp p H H' → Pen H' p c ns n' → 0 ≤ d → d < m → n ≤ n' → n' ≤ n + 1 → Q (.int d) H'
def sp_lmany : Sp := fun vs H Q _ => ∃ (p c : Addr) (ns : List Int) (n : Int), vs = [.ref p] ∧ Pen H p c ns n ∧ n < 900000 ∧
  ∀ (H' : Hp) (t s : Addr) (xs : List Int) (l : Nat) (n' : Int), Kp p H H' → Pen H' p c ns n' → n' ≤ n + 1000 → H' t = some (.tup [.ref s, .int (l : Int)]) → H' s = some (.lst ((xs.take 400).map V.int)) →
    Lots xs l → xs.length ≤ 430 → Q (.ref t) H'
def sp_law (K : PySem.W.Frag) : Sp := fun vs H Q _ => ∃ (a : Addr) (ns : List Int), vs = [.ref a] ∧ SqL K H a (ns.map V.int) ∧ ns.length ≤ 63 ∧ ∀ H', Q (.bl true) H'
/-- between two turns of the while: k stretches are laid, e draws more are done -/
def Wm (H : Hp) (p c : Addr) (ns : List Int) (n t m : Int) (k : Nat) (e : Int) (σ' : L2.St) (H' : Hp) : Prop := k ≤ 200 ∧ ∃ (l : Addr) (xs : List Int) (y : Option V) (n' : Int),
  σ' = [some (.ref p), some (.ref l), some (.int k), some (.int t), some (.int m), y] ∧ Kp p H H' ∧ Pen H' p c ns n' ∧ H' l = some (.lst (xs.map V.int)) ∧ l ≠ p ∧ n' ≤ n + 2 + 4 * k + e ∧
  xs.length ≤ 430 ∧ Lots xs k ∧ ∀ x ∈ xs, 0 ≤ x ∧ x ≤ 3
theorem flat_rep (x : Int) : ∀ j, (List.replicate j [V.int x]).flatten = (List.replicate j x).map V.int
  | 0 => rfl
  | j + 1 => by
    rw [List.replicate_succ, List.flatten_cons, flat_rep x j, List.replicate_succ, List.map_cons]
    rfl
section
variable {P : Program} {w : World} {K : PySem.W.Frag} {mg : Str → Option Value} {base : Heap} {f : Nat → Addr} {fd : Nat → FuncData}
theorem ok_switches (T : Txt K mg f fd) : FnOk P w K mg base CX0 1 (f 0) (fd 0) ["turns"] (sp_switches K) := by
  refine T.F_switches.ok sc_switches (fun vs H Q E h => ?_) (fun cdv A outer s H vs Q E hr h => ?_)
  · obtain ⟨a, xs, rfl, _⟩ := h
    rfl
  · obtain ⟨a, xs, rfl, hS, hlen, q⟩ := h
    refine ⟨_, (pss_one (ps_ret (pe_callB call_len_seq (by rfl) T.z_len PySem.boot_len (pa_cons (pe_lc (own := [("thread", 1), ("ahead", 2)]) (g := (gTup K 2 (gCons (gName 1) (gCons (gName 2) gNil)))) (tt := (tTest (tOp rNe (tVar 1) (tVar 2)))) (te := (tVar 1)) (by rfl) sc_switches.nd (pi_zip (by rfl) T.z_zip (pa_cons (pe_slice sl_list (pv 0) (po_some pe_int) po_none) (pa_cons (pv 0) pa_nil))) (blkOk_by (own := [("thread", 1), ("ahead", 2)]) (N := N_switches) (sc := defScope s_switches) (by decide +kernel)) (fun _ _ _ _ _ => (pg_tup (by rfl) (pgs_cons (pg_name (i := 1) sc_switches.nd rfl (Or.inl rfl)) (pgs_cons (pg_name (i := 2) sc_switches.nd rfl (Or.inl rfl)) pgs_nil)))) (fun _ _ _ _ _ => (pts_one (pt_cmpR op_ne (pv 1) (pv 2) (nomark _)))) (fun _ _ _ _ _ => (pv 1))) pa_nil)))), ?_⟩
    -- zip(turns[1:], turns)
    refine ⟨_, rfl, 1, rfl, a, _, rfl, hS, fun b nb => ?_⟩
    have s1 : Same H (upd H b (.lst (cutV (xs.map V.int) (some 1) none))) := Same.new nb
    have hb : (upd H b (.lst (cutV (xs.map V.int) (some 1) none))) b = some (.lst ((xs.drop 1).map V.int)) := by
      rw [upd_same, cutFrom1, List.map_drop]
    generalize hH1 : (upd H b (.lst (cutV (xs.map V.int) (some 1) none))) = H1 at s1 hb
    refine ⟨_, rfl, b, a, _, _, rfl, SqL.of hb, s1.seq hS, fun D nD => ?_⟩
    refine lc_it (walk_zip (n := xs.length - 1) (by rw [List.length_map, List.length_map, List.length_drop]; omega))
      (fun i H' => Same H1 H' ∧ ∃ ys : List V, H' D = some (.lst ys) ∧ ys.length = cnt xs i) ⟨Same.new nD, [], upd_same, rfl⟩ (fun i H' _ h => ⟨h.1.seq (SqL.of hb), h.1.seq (s1.seq hS)⟩) ?_ ?_
    · rintro i x H2 H3 hi ⟨sm, ys, hD, hy⟩ ⟨t, u, v, rfl, nt, rfl, gu, gv⟩
      have h1 : i < xs.length := by omega
      have h2 : i + 1 < xs.length := by omega
      dsimp only at gu gv
      rw [List.getElem?_map, List.getElem?_drop, Nat.add_comm 1 i, List.getElem?_eq_getElem h2] at gu
      rw [List.getElem?_map, List.getElem?_eq_getElem h1] at gv
      have eu : u = V.int xs[i + 1] := (Option.some.inj gu).symm
      have ev : v = V.int xs[i] := (Option.some.inj gv).symm
      subst eu ev
      refine ⟨t, _, rfl, SqT.of upd_same, rfl, _, _, rfl, _, _, rfl, rfl, rfl, ?_⟩
      have sT : Same H2 (upd H2 t (.tup [V.int xs[i + 1], V.int xs[i]])) := Same.new nt
      have c1 : cnt xs (i + 1) = cnt xs i + (if xs[i] = xs[i + 1] then 0 else 1) := by
        show cnt xs i + (if xs[i]? = xs[i + 1]? then 0 else 1) = _
        rw [List.getElem?_eq_getElem h1, List.getElem?_eq_getElem h2]
        by_cases e : xs[i] = xs[i + 1]
        · rw [if_pos e, if_pos (by rw [e])]
        · rw [if_neg e, if_neg (fun z => e (Option.some.inj z))]
      refine ⟨_, rfl, _, rfl, rfl, _, rfl, ?_⟩
      by_cases e : xs[i] = xs[i + 1]
      · have ed : (!decide (V.int xs[i + 1] = V.int xs[i])) = false := by
          rw [e, decide_eq_true rfl]
          rfl
        rw [ed]
        refine iteF ⟨sm.trans sT, ys, sT _ _ hD, ?_⟩
        rw [c1, if_pos e, hy]
        rfl
      · have ed : (!decide (V.int xs[i + 1] = V.int xs[i])) = true := by
          rw [decide_eq_false (fun z => e (V.int.inj z).symm)]
          rfl
        rw [ed]
        refine iteT ⟨_, rfl, ys, sT _ _ hD, ?_, ?_, _, upd_same, ?_⟩
        · have := cnt_le xs i
          exact small1000 (by omega)
        · exact Same.mut (sm.trans sT) nD
        · rw [List.length_append, hy, c1, if_neg e]
          rfl
    · rintro H2 ⟨sm, ys, hD, hy⟩
      refine ⟨D, ys, rfl, .inl (SqL.of hD), ?_⟩
      rw [hy, cnt_swc]
      exact q _ (s1.trans sm)
theorem ok_lpen (T : Txt K mg f fd) : FnOk P w K mg base CX0 1 (f 1) (fd 1) ["_law_script"] (sp_lpen K) := by
  refine T.F_lpen.ok sc_lpen (fun vs H Q E h => ?_) (fun cdv A outer s H vs Q E hr h => ?_)
  · obtain ⟨a, ns, rfl, _⟩ := h
    rfl
  · obtain ⟨a, ns, rfl, hS, hlen, q⟩ := h
    refine ⟨_, (pss_one (ps_ret (pe_lst (pa_cons (pe_callTy call_list_of (by rfl) T.z_list (by decide +kernel) (pa_cons (pe_slice sl_list (pv 0) po_none (po_some pe_int)) pa_nil)) (pa_cons pe_int (pa_cons pe_int pa_nil)))))), ?_⟩
    refine ⟨_, rfl, _, rfl, a, _, rfl, hS, fun c1 n1 => ⟨_, _, rfl, .inl (SqL.of upd_same), fun c n2 => ⟨(show 3 ≤ sizeLine by decide), fun p n3 => ?_⟩⟩⟩
    refine q _ p c ⟨0, upd_same, ?_, by decide, by decide⟩
    rw [upd_ne (ne_of_none upd_same n3), upd_same, cut63 (by rw [List.length_map]; exact hlen)]
theorem ok_ldraw (T : Txt K mg f fd) : FnOk P w K mg base CX0 1 (f 2) (fd 2) ["_law_pen_here", "_law_many_here"] sp_ldraw := by
  refine T.F_ldraw.ok sc_ldraw (fun vs H Q E h => ?_) (fun cdv A outer s H vs Q E hr h => ?_)
  · obtain ⟨p, c, ns, n, m, rfl, _⟩ := h
    rfl
  · obtain ⟨p, c, ns, n, m, rfl, hP, hm0, hm1, hn1, q⟩ := h
    have hne : c ≠ p := hP.ne
    obtain ⟨r, hp, hc, hn0, hr0⟩ := hP
    refine ⟨_, (pss_cons (ps_if (pt_cmpR op_gt (pe_ix ix_list (pv 0) pe_int (fun _ _ => rfl)) pe_int (nomark _)) (pss_cons (ps_set (i := 2) sc_ldraw.nd rfl (Or.inl rfl) (pe_op op_mod (pe_ix ix_list (pv 0) pe_int (fun _ _ => rfl)) (pv 1)))
      (pss_cons (ps_asg (pe_op op_fdiv (pe_ix ix_list (pv 0) pe_int (fun _ _ => rfl)) (pv 1)) (pg_sub (pv 0) pe_int set_list))
      (pss_one (ps_ret (pv 2))))) pss_nil)
      (pss_cons (ps_set (i := 3) sc_ldraw.nd rfl (Or.inl rfl) (pe_ix ix_list (pv 0) pe_int (fun _ _ => rfl)))
      (C8.pss_cut (ps_asg (pe_op op_add (pv 3) pe_int) (pg_sub (pv 0) pe_int set_list))
      (pss_cons (ps_set (i := 4) sc_ldraw.nd rfl (Or.inl rfl) pe_int)
      (C8.pss_cut (ps_if (pt_cmpR (op_neD hr.units) (pe_ix ix_list (pv 0) pe_int (fun _ _ => rfl)) (pe_lst pa_nil) (nomark _)) (pss_one (ps_set (i := 4) sc_ldraw.nd rfl (Or.inl rfl) (pe_ix ix_list (pe_ix ix_list (pv 0) pe_int (fun _ _ => rfl)) (pe_op op_mod (pv 3) (pe_callB call_len_seq (by rfl) T.z_len PySem.boot_len (pa_cons (pe_ix ix_list (pv 0) pe_int (fun _ _ => rfl)) pa_nil))) (fun _ _ => rfl)))) pss_nil)
      (C8.pss_cut (ps_if (PW.pt (pw_and (pt_cmpR op_lt (pv 3) (pe_callB call_len_seq (by rfl) T.z_len PySem.boot_len (pa_cons (pe_ix ix_list (pv 0) pe_int (fun _ _ => rfl)) pa_nil)) (nomark _)) (pw_and1 (pt_cmpR op_ge (pe_callB call_abs (by rfl) T.z_abs (by decide +kernel) (pa_cons (pv 4) pa_nil)) (pe_op op_pow pe_int pe_int) (nomark _))))) (pss_cons (ps_asg (pe_op op_fdiv (pe_op op_sub (pe_callB call_abs (by rfl) T.z_abs (by decide +kernel) (pa_cons (pv 4) pa_nil)) (pe_op op_pow pe_int pe_int)) (pv 1)) (pg_sub (pv 0) pe_int set_list))
      (pss_one (ps_ret (pe_op op_mod (pe_op op_sub (pe_callB call_abs (by rfl) T.z_abs (by decide +kernel) (pa_cons (pv 4) pa_nil)) (pe_op op_pow pe_int pe_int)) (pv 1))))) pss_nil)
      (C8.pss_cut (ps_set (i := 5) sc_ldraw.nd rfl (Or.inl rfl) (pe_lst (pa_cons pe_int (pa_cons pe_int (pa_cons pe_int (pa_cons pe_int (pa_cons pe_int pa_nil)))))))
      (pss_cons (ps_set (i := 6) sc_ldraw.nd rfl (Or.inl rfl) (pe_ix ix_list (pv 5) (pe_op op_mod (pv 3) pe_int) (fun _ _ => rfl)))
      (C8.pss_cut (ps_set (i := 7) sc_ldraw.nd rfl (Or.inl rfl) (pe_op op_mod (pe_op op_add (pe_op op_add (pe_op op_add (pe_op op_mul (pe_op op_mod (pv 4) (pv 6)) pe_int) (pe_op op_mul (pe_op op_mul pe_int (pv 3)) (pv 3))) (pe_op op_mul pe_int (pv 3))) pe_int) (pv 6)))
      (C8.pss_cut (ps_set (i := 7) sc_ldraw.nd rfl (Or.inl rfl) (pe_op op_mod (pe_op op_mul (pv 7) (pe_op op_add (pv 7) pe_int)) (pe_ix ix_list (pv 5) (pe_op op_mod (pe_op op_add (pv 3) pe_int) pe_int) (fun _ _ => rfl))))
      (pss_one (ps_ret (pe_op op_mod (pe_op op_fdiv (pe_op op_mod (pe_op op_mul (pv 7) (pv 7)) pe_int) pe_int) (pv 1)))))))))))))), ?_⟩
    refine ⟨_, rfl, _, _, _, _, rfl, rfl, SqL.of hp, rfl, _, _, rfl, rfl, _, rfl, ite2 (fun h1 => ?_) (fun h1 => ?_)⟩
    · refine ⟨_, rfl, _, _, _, _, rfl, rfl, SqL.of hp, rfl, _, rfl, _, _, rfl, rfl, hm0, ?_⟩
      refine ⟨_, rfl, _, _, _, _, rfl, rfl, SqL.of hp, rfl, _, rfl, _, _, rfl, rfl, ⟨hm0, hm1⟩, _, rfl, _, _, _, _, rfl, rfl, hp, rfl, ?_⟩
      exact ⟨_, rfl, q _ _ _ (Kp.upd _) ⟨_, upd_same, (upd_ne hne).trans hc, hn0, Int.ediv_nonneg hr0 (by omega)⟩ (Int.emod_nonneg _ (by omega)) (Int.emod_lt_of_pos _ hm0) (by omega) (by omega)⟩
    · refine ⟨_, rfl, _, _, _, _, rfl, rfl, SqL.of hp, rfl, ?_⟩
      refine ⟨fun σ' H' => σ' = [some (.ref p), some (.int m), none, some (.int n), none, none, none, none] ∧ Kp p H H' ∧ H' p = some (.lst [.ref c, .int (n + 1), .int r]) ∧ H' c = some (.lst (ns.map V.int)),
        ⟨_, rfl, _, _, rfl, rfl, _, rfl, _, _, _, _, rfl, rfl, hp, rfl, rfl, Kp.upd _, upd_same, (upd_ne hne).trans hc⟩, ?_⟩
      rintro _ H1 ⟨rfl, k1, hp1, hc1⟩
      -- cell = 0; if pen[0] != []
      refine ⟨fun σ' H' => ∃ v : Int, σ' = [some (.ref p), some (.int m), none, some (.int n), some (.int v), none, none, none] ∧ Same H1 H', ?_, ?_⟩
      · refine ⟨_, rfl, _, _, _, _, rfl, rfl, SqL.of hp1, rfl, Nat.zero_le _, fun e he => ?_⟩
        have se : Same H1 (upd H1 e (.lst [])) := Same.new he
        refine ⟨_, _, dpL (SqL.of (se _ _ hc1)), dpL (ns := []) (SqL.of upd_same), shInts _, shInts _, _, rfl, ?_⟩
        rw [eqvInts]
        by_cases h2 : ns = []
        · rw [decide_eq_true h2]
          exact iteF ⟨0, rfl, se⟩
        · rw [decide_eq_false h2]
          have hl : 0 < ((ns.map V.int).length : Int) := by
            rw [List.length_map]
            have := List.length_pos_iff.mpr h2
            omega
          obtain ⟨v, hv⟩ := atI_in (ns := ns) (Int.emod_nonneg n (by omega)) (Int.emod_lt_of_pos n hl)
          exact iteT ⟨_, rfl, _, _, _, _, rfl, rfl, SqL.of (se _ _ hp1), rfl, _, rfl, _, rfl, _, _, _, _, rfl, rfl, SqL.of (se _ _ hp1), rfl, _, _, rfl, .inl (SqL.of (se _ _ hc1)), _, _, rfl, rfl, hl, _, _, _, _, rfl, rfl, SqL.of (se _ _ hc1), hv, v, rfl, se⟩
      · rintro _ H2 ⟨v, rfl, s2⟩
        have hp2 := s2 _ _ hp1
        have hc2 := s2 _ _ hc1
        -- if turn < len(pen[0]) and abs(cell) >= 10 ** 18
        refine ⟨fun σ' H' => σ' = [some (.ref p), some (.int m), none, some (.int n), some (.int v), none, none, none] ∧ H2 = H', ?_, ?_⟩
        · refine ⟨_, rfl, _, rfl, _, _, _, _, rfl, rfl, SqL.of hp2, rfl, _, _, rfl, .inl (SqL.of hc2), _, _, rfl, rfl, _, rfl, ite2 (fun h3 => ?_) (fun h3 => iteF ⟨rfl, rfl⟩)⟩
          refine ⟨_, rfl, _, rfl, _, _, rfl, rfl, ⟨by decide, by decide, by decide⟩, _, _, rfl, rfl, _, rfl, ite2 (fun h4 => ?_) (fun h4 => ⟨rfl, rfl⟩)⟩
          have hv : (10 : Int) ^ (18 : Int).toNat ≤ (if v < 0 then -v else v) := of_decide_eq_true h4
          have hv0 : 0 ≤ (if v < 0 then -v else v) - (10 : Int) ^ (18 : Int).toNat := by omega
          refine ⟨_, rfl, _, rfl, _, _, rfl, rfl, ⟨by decide, by decide, by decide⟩, _, _, rfl, rfl, _, rfl, _, _, rfl, rfl, ⟨hm0, hm1⟩, _, rfl, _, _, _, _, rfl, rfl, hp2, rfl, ?_⟩
          refine ⟨_, rfl, _, rfl, _, _, rfl, rfl, ⟨by decide, by decide, by decide⟩, _, _, rfl, rfl, _, rfl, _, _, rfl, rfl, hm0, ?_⟩
          exact q _ _ (n + 1) ((k1.trans (Same.kp s2)).trans (Kp.upd _)) ⟨_, upd_same, (upd_ne hne).trans hc2, by omega, Int.ediv_nonneg hv0 (by omega)⟩ (Int.emod_nonneg _ (by omega)) (Int.emod_lt_of_pos _ hm0) (by omega) (by omega)
        · rintro _ _ ⟨rfl, rfl⟩
          -- primes, prime
          obtain ⟨z, hz, hz0, hz1⟩ := prime_at (i := n % 5) (Int.emod_nonneg _ (by decide)) (Int.emod_lt_of_pos _ (by decide))
          obtain ⟨y, hy, hy0, hy1⟩ := prime_at (i := (n + 2) % 5) (Int.emod_nonneg _ (by decide)) (Int.emod_lt_of_pos _ (by decide))
          refine ⟨fun σ' H' => ∃ l, σ' = [some (.ref p), some (.int m), none, some (.int n), some (.int v), some (.ref l), none, none] ∧ Same H2 H' ∧ H' l = some (.lst [V.int 2147483647, V.int 2147483629, V.int 2147483587, V.int 2147483579, V.int 2147483563]),
            ⟨(show 5 ≤ sizeLine by decide), fun l hl => ⟨l, rfl, Same.new hl, upd_same⟩⟩, ?_⟩
          rintro _ H3 ⟨l, rfl, s3, hl3⟩
          refine ⟨_, rfl, _, rfl, _, _, rfl, rfl, (by show (0 : Int) < 5; decide), _, _, _, _, rfl, rfl, SqL.of hl3, hz, ?_⟩
          -- mixed
          refine ⟨fun σ' H' => ∃ x : Int, σ' = [some (.ref p), some (.int m), none, some (.int n), some (.int v), some (.ref l), some (.int z), some (.int x)] ∧ 0 ≤ x ∧ x < z ∧ H3 = H',
            ⟨_, rfl, _, rfl, _, _, rfl, rfl, (show (0 : Int) < z by omega), _, _, rfl, rfl, .inr ⟨by decide, by decide⟩, _, rfl, _, _, rfl, rfl, .inl ⟨by decide, by decide⟩, _, rfl, _, _, rfl, rfl, .inr ⟨by omega, by omega⟩, _, _, rfl, rfl, _, rfl, _, _, rfl, rfl, .inl ⟨by decide, by decide⟩, _, _, rfl, rfl, _, _, rfl, rfl, _, rfl, _, _, rfl, rfl, (show (0 : Int) < z by omega),
              _, rfl, Int.emod_nonneg _ (by omega), Int.emod_lt_of_pos _ (by omega), rfl⟩, ?_⟩
          rintro _ _ ⟨x, rfl, hx0, hx1, rfl⟩
          refine ⟨fun σ' H' => ∃ u : Int, σ' = [some (.ref p), some (.int m), none, some (.int n), some (.int v), some (.ref l), some (.int z), some (.int u)] ∧ 0 ≤ u ∧ u < y ∧ H3 = H',
            ⟨_, rfl, _, rfl, _, _, rfl, rfl, _, _, rfl, rfl, .inl ⟨by omega, by omega⟩, _, rfl, _, rfl, _, _, rfl, rfl, _, _, rfl, rfl, (by show (0 : Int) < 5; decide), _, _, _, _, rfl, rfl, SqL.of hl3, hy, _, _, rfl, rfl, (show (0 : Int) < y by omega),
              _, rfl, Int.emod_nonneg _ (by omega), Int.emod_lt_of_pos _ (by omega), rfl⟩, ?_⟩
          rintro _ _ ⟨u, rfl, hu0, hu1, rfl⟩
          refine ⟨_, rfl, _, rfl, _, _, rfl, rfl, .inl ⟨by omega, by omega⟩, _, _, rfl, rfl, (by show (0 : Int) < 2147483549; decide), _, _, rfl, rfl, ⟨by decide, by decide⟩, _, rfl, _, _, rfl, rfl, hm0, ?_⟩
          exact q _ _ (n + 1) (k1.trans (Same.kp (s2.trans s3))) ⟨_, s3 _ _ hp2, s3 _ _ hc2, by omega, hr0⟩ (Int.emod_nonneg _ (by omega)) (Int.emod_lt_of_pos _ hm0) (by omega) (by omega)
theorem ok_lmany (T : Txt K mg f fd) : FnOk P w K mg base CX0 2 (f 3) (fd 3) ["_law_pen_here"] sp_lmany := by
  have G_ldraw := ok_ldraw (P := P) (w := w) (base := base) T
  refine T.F_lmany.ok sc_lmany (fun vs H Q E h => ?_) (fun cdv A outer s H vs Q E hr h => ?_)
  · obtain ⟨p, c, ns, n, rfl, _⟩ := h
    rfl
  · obtain ⟨p, c, ns, n, rfl, hP, hn, q⟩ := h
    have hr_ldraw := hr
    refine ⟨_, (C8.pss_cut (ps_par (i := 1) (j := 2) (by rfl) sc_lmany.nd rfl rfl (by decide) rfl rfl (pa_cons (pe_lst pa_nil) (pa_cons pe_int pa_nil)) (by rfl))
      (C8.pss_cut (ps_par (i := 3) (j := 4) (by rfl) sc_lmany.nd rfl rfl (by decide) rfl rfl (pa_cons (pe_op op_add pe_int (pe_call G_ldraw hr_ldraw (by rfl) T.m_ldraw T.F_ldraw.kp T.b_ldraw .nil pass0 (pa_cons (pv 0) (pa_cons pe_int pa_nil)))) (pa_cons (pe_ix ix_list (pe_lst (pa_cons pe_int (pa_cons pe_int (pa_cons pe_int (pa_cons pe_int (pa_cons pe_int pa_nil)))))) (pe_call G_ldraw hr_ldraw (by rfl) T.m_ldraw T.F_ldraw.kp T.b_ldraw .nil pass0 (pa_cons (pv 0) (pa_cons pe_int pa_nil))) (fun _ _ => rfl)) pa_nil)) (by rfl))
      (C8.pss_cut (ps_while PassesOwn.never (PW.pt (pw_and (pt_cmpR op_lt (pe_callB call_len_seq (by rfl) T.z_len PySem.boot_len (pa_cons (pv 1) pa_nil)) (pv 4) (nomark _)) (pw_and (pt_cmpR op_lt (pv 2) pe_int (nomark _)) (pw_and1 (pt_cmpR op_gt (pe_call G_ldraw hr_ldraw (by rfl) T.m_ldraw T.F_ldraw.kp T.b_ldraw .nil pass0 (pa_cons (pv 0) (pa_cons pe_int pa_nil))) pe_int (nomark _)))))) (pss_cons (ps_set (i := 5) sc_lmany.nd rfl (Or.inl rfl) (pe_call G_ldraw hr_ldraw (by rfl) T.m_ldraw T.F_ldraw.kp T.b_ldraw .nil pass0 (pa_cons (pv 0) (pa_cons (pv 3) pa_nil))))
      (C8.pss_cut (ps_if (PW.pt (pw_and (pt_cmpR (op_neD hr.units) (pv 1) (pe_lst pa_nil) (nomark _)) (pw_and1 (pt_cmpR op_eq (pv 5) (pe_ix ix_list (pv 1) (pe_un un_neg pe_int) (fun _ _ => rfl)) (nomark _))))) (pss_one (ps_set (i := 5) sc_lmany.nd rfl (Or.inl rfl) (pe_op op_mod (pe_op op_add (pv 5) pe_int) pe_int))) pss_nil)
      (pss_cons (ps_set (i := 1) sc_lmany.nd rfl (Or.inl rfl) (pe_op op_cat (pv 1) (pe_op op_rep (pe_lst (pa_cons (pv 5) pa_nil)) (pe_op op_add pe_int (pe_call G_ldraw hr_ldraw (by rfl) T.m_ldraw T.F_ldraw.kp T.b_ldraw .nil pass0 (pa_cons (pv 0) (pa_cons (pe_ix ix_list (pe_lst (pa_cons pe_int (pa_cons pe_int (pa_cons pe_int pa_nil)))) (pe_call G_ldraw hr_ldraw (by rfl) T.m_ldraw T.F_ldraw.kp T.b_ldraw .nil pass0 (pa_cons (pv 0) (pa_cons pe_int pa_nil))) (fun _ _ => rfl)) pa_nil)))))))
      (pss_one (ps_set (i := 2) sc_lmany.nd rfl (Or.inl rfl) (pe_op op_add (pv 2) pe_int)))))))
      (pss_one (ps_ret (pe_tup (pa_cons (pe_slice sl_list (pv 1) po_none (po_some pe_int)) (pa_cons (pv 2) pa_nil)))))))), ?_⟩
    refine ⟨fun σ' H' => ∃ l, σ' = [some (.ref p), some (.ref l), some (.int 0), none, none, none] ∧ Kp p H H' ∧ Pen H' p c ns n ∧ H' l = some (.lst []) ∧ l ≠ p,
      ⟨Nat.zero_le _, fun l hl => ⟨_, _, rfl, l, rfl, Kp.new hl, hP.new hl, upd_same, hP.ni hl⟩⟩, ?_⟩
    rintro _ H1 ⟨l, rfl, k1, P1, hl1, nlp⟩
    -- threads, most
    refine ⟨fun σ' H' => ∃ (t m n' : Int), σ' = [some (.ref p), some (.ref l), some (.int 0), some (.int t), some (.int m), none] ∧ Kp p H H' ∧ Pen H' p c ns n' ∧ H' l = some (.lst []) ∧ n' ≤ n + 2 ∧ 1 ≤ t ∧ t ≤ 4 ∧ m ≤ 400, ?_, ?_⟩
    · refine ⟨_, rfl, p, c, ns, n, 4, rfl, P1, by decide, by decide, by omega, fun H2 d2 n2 k2 P2 d2a d2b n2a n2b => ?_⟩
      refine ⟨_, _, rfl, rfl, (show 5 ≤ sizeLine by decide), fun l5 hl5 => ?_⟩
      refine ⟨_, rfl, p, c, ns, n2, 5, rfl, P2.new hl5, by decide, by decide, by omega, fun H3 d3 n3 k3 P3 d3a d3b n3a n3b => ?_⟩
      have e5 : H3 l5 = some (.lst [.int 9, .int 10, .int 99, .int 100, .int 400]) := k3 _ _ (P2.ni hl5) upd_same
      have el : H3 l = some (.lst []) := k3 _ _ nlp (Same.new hl5 _ _ (k2 _ _ nlp hl1))
      obtain ⟨m, hm, hm1⟩ : ∃ m : Int, atI [V.int 9, V.int 10, V.int 99, V.int 100, V.int 400] d3 = some (.int m) ∧ m ≤ 400 := by
        have h : d3 = 0 ∨ d3 = 1 ∨ d3 = 2 ∨ d3 = 3 ∨ d3 = 4 := by omega
        rcases h with rfl | rfl | rfl | rfl | rfl
        all_goals exact ⟨_, rfl, by decide⟩
      exact ⟨_, _, _, _, rfl, rfl, SqL.of e5, hm, _, _, rfl, 1 + d2, m, n3, rfl, (k1.trans k2).trans ((Kp.new hl5).trans k3), P3, el, by omega, by omega, by omega, hm1⟩
    · rintro _ H2 ⟨t, m, n2, rfl, k2, P2, hl2, hn2, ht0, ht1, hm⟩
      refine ⟨fun σ' H' => ∃ (k : Nat) (e : Int), e ≤ 1 ∧ Wm H p c ns n t m k e σ' H', ?_, ?_⟩
      · refine ⟨fun μ σ' H' => ∃ k : Nat, μ = 200 - k ∧ Wm H p c ns n t m k 0 σ' H', ⟨200, 0, rfl, by decide, l, [], none, n2, rfl, k2, P2, hl2, nlp, by omega, by simp, .inl ⟨rfl, rfl⟩, by simp⟩, ?_⟩
        rintro _ _ H3 ⟨k, rfl, hk, l, xs, y, n3, rfl, k3, P3, hl3, nlp, hn3, hlen, hL, hx⟩
        refine ⟨_, rfl, _, _, rfl, .inl (SqL.of hl3), _, rfl, _, _, rfl, rfl, _, rfl, ite2 (fun h1 => ?_) (fun h1 => iteF ⟨k, 0, by decide, hk, l, xs, y, n3, rfl, k3, P3, hl3, nlp, hn3, hlen, hL, hx⟩)⟩
        refine ⟨_, rfl, _, _, rfl, rfl, _, rfl, ite2 (fun h2 => ?_) (fun h2 => iteF ⟨k, 0, by decide, hk, l, xs, y, n3, rfl, k3, P3, hl3, nlp, hn3, hlen, hL, hx⟩)⟩
        have hlm : ((xs.map V.int).length : Int) < m := of_decide_eq_true h1
        have hk2 : (k : Int) < 200 := of_decide_eq_true h2
        rw [List.length_map] at hlm
        refine ⟨_, rfl, p, c, ns, n3, 40, rfl, P3, by decide, by decide, by omega, fun H4 d4 n4 k4 P4 d4a d4b n4a n4b => ?_⟩
        have hl4 := k4 _ _ nlp hl3
        refine ⟨_, _, rfl, rfl, _, rfl, ite2 (fun h3 => ?_) (fun h3 => ⟨k, 1, by decide, hk, l, xs, y, n4, rfl, k3.trans k4, P4, hl4, nlp, by omega, hlen, hL, hx⟩)⟩
        refine ⟨Wm H p c ns n t m (k + 1) 0, fun σ' H' h => ⟨200 - (k + 1), by omega, k + 1, rfl, h⟩, ?_⟩
        -- thread
        refine ⟨_, rfl, _, rfl, p, c, ns, n4, t, rfl, P4, by omega, by omega, by omega, fun H5 d5 n5 k5 P5 d5a d5b n5a n5b => ?_⟩
        have hl5 := k5 _ _ nlp hl4
        refine ⟨fun σ' H' => ∃ th : Int, σ' = [some (.ref p), some (.ref l), some (.int k), some (.int t), some (.int m), some (.int th)] ∧ Same H5 H' ∧ 0 ≤ th ∧ th ≤ 3 ∧ ∀ a, xs.getLast? = some a → a ≠ th, ?_, ?_⟩
        · refine ⟨_, rfl, Nat.zero_le _, fun e he => ?_⟩
          have se : Same H5 (upd H5 e (.lst [])) := Same.new he
          refine ⟨_, _, dpL (SqL.of (se _ _ hl5)), dpL (ns := []) (SqL.of upd_same), shInts _, shInts _, _, rfl, ?_⟩
          rw [eqvInts]
          by_cases hxs : xs = []
          · rw [decide_eq_true hxs]
            refine iteF (iteF ⟨d5, rfl, se, d5a, by omega, fun a ha => ?_⟩)
            rw [hxs] at ha
            cases ha
          · rw [decide_eq_false hxs]
            have hlast : atI (xs.map V.int) (-1) = some (.int (xs.getLast hxs)) := by
              have e1 : xs.map V.int = xs.dropLast.map V.int ++ [.int (xs.getLast hxs)] := by
                rw [← List.map_singleton, ← List.map_append, List.dropLast_concat_getLast]
              rw [e1]
              exact atI_last _ _
            have hlx := hx _ (List.getLast_mem hxs)
            refine iteT ⟨_, rfl, _, rfl, _, rfl, _, _, _, _, rfl, rfl, SqL.of (se _ _ hl5), hlast, rfl, _, rfl, ite2 (fun h4 => ?_) (fun h4 => ?_)⟩
            · have e4 : d5 = xs.getLast hxs := V.int.inj (of_decide_eq_true h4)
              refine ⟨_, rfl, _, _, rfl, rfl, _, _, rfl, rfl, (by show (0 : Int) < 4; decide), _, rfl, se, Int.emod_nonneg _ (by decide), ?_, fun a ha => ?_⟩
              · have := Int.emod_lt_of_pos (d5 + 1) (show (0 : Int) < 4 by decide)
                omega
              · rw [List.getLast?_eq_some_getLast hxs] at ha
                have := Option.some.inj ha
                omega
            · refine ⟨d5, rfl, se, d5a, by omega, fun a ha => ?_⟩
              rw [List.getLast?_eq_some_getLast hxs] at ha
              have := Option.some.inj ha
              intro z
              exact h4 (decide_eq_true (by rw [this, z]))
        · rintro _ H6 ⟨th, rfl, s6, th0, th1, hth⟩
          have P6 := P5.same s6
          have hl6 := s6 _ _ hl5
          -- turns = turns + [thread] * (1 + draw(..))
          refine ⟨_, rfl, _, rfl, (show 1 ≤ sizeLine by decide), fun l1 hl1 => ?_⟩
          refine ⟨_, rfl, (show 3 ≤ sizeLine by decide), fun l3 hl3' => ?_⟩
          refine ⟨_, rfl, p, c, ns, n5, 3, rfl, (P6.new hl1).new hl3', by decide, by decide, by omega, fun H7 d7 n7 k7 P7 d7a d7b n7a n7b => ?_⟩
          have e3 : H7 l3 = some (.lst [.int 1, .int 3, .int 30]) := k7 _ _ ((P6.new hl1).ni hl3') upd_same
          have e1 : H7 l1 = some (.lst [.int th]) := k7 _ _ (P6.ni hl1) (Same.new hl3' _ _ upd_same)
          have hl7 : H7 l = some (.lst (xs.map V.int)) := k7 _ _ nlp (Same.new hl3' _ _ (Same.new hl1 _ _ hl6))
          obtain ⟨v, hv, hv0, hv1⟩ : ∃ v : Int, atI [V.int 1, V.int 3, V.int 30] d7 = some (.int v) ∧ 1 ≤ v ∧ v ≤ 30 := by
            have h : d7 = 0 ∨ d7 = 1 ∨ d7 = 2 := by omega
            rcases h with rfl | rfl | rfl
            all_goals exact ⟨_, rfl, by decide, by decide⟩
          refine ⟨_, _, _, _, rfl, rfl, SqL.of e3, hv, p, c, ns, n7, v, rfl, P7, by omega, by omega, by omega, fun H8 d8 n8 k8 P8 d8a d8b n8a n8b => ?_⟩
          refine ⟨_, _, rfl, rfl, _, _, _, rfl, rfl, k8 _ _ (P6.ni hl1) e1, by omega, by omega, ?_, fun l2 hl2 => ?_⟩
          · show 1 * (1 + d8).toNat ≤ sizeLine
            exact Nat.le_trans (show _ ≤ 1000 by omega) (by decide)
          · have hl8 : H8 l = some (.lst (xs.map V.int)) := k8 _ _ nlp hl7
            obtain ⟨j, hj⟩ : ∃ j : Nat, (1 + d8).toNat = j + 1 := ⟨d8.toNat, by omega⟩
            have er : (List.replicate (1 + d8).toNat [V.int th]).flatten = (List.replicate (j + 1) th).map V.int := by
              rw [hj, flat_rep]
            have e2 : (upd H8 l2 (.lst (List.replicate (1 + d8).toNat [V.int th]).flatten)) l2 = some (.lst ((List.replicate (j + 1) th).map V.int)) := by
              rw [upd_same, er]
            refine ⟨_, _, _, _, rfl, rfl, Same.new hl2 _ _ hl8, e2, ?_, fun l4 hl4 => ?_⟩
            · rw [List.length_map, List.length_map, List.length_replicate]
              exact Nat.le_trans (show _ ≤ 1000 by omega) (by decide)
            · refine ⟨_, rfl, _, _, rfl, rfl, by omega, l4, xs ++ List.replicate (j + 1) th, _, n8, rfl, ?_, (P8.new hl2).new hl4, ?_, ?_, by omega, ?_, lots_step hL hth, ?_⟩
              · exact ((((k3.trans k4).trans k5).trans (Same.kp s6)).trans ((Kp.new hl1).trans (Kp.new hl3'))).trans ((k7.trans k8).trans ((Kp.new hl2).trans (Kp.new hl4)))
              · rw [upd_same, List.map_append]
              · exact (P8.new hl2).ni hl4
              · rw [List.length_append, List.length_replicate]
                omega
              · intro x hx'
                rcases List.mem_append.mp hx' with h | h
                · exact hx x h
                · have := (List.mem_replicate.mp h).2
                  omega
      · rintro _ H3 ⟨k, e, he, hk, l, xs, y, n3, rfl, k3, P3, hl3, nlp, hn3, hlen, hL, hx⟩
        refine ⟨_, rfl, _, rfl, l, _, rfl, SqL.of hl3, fun s hs => ⟨_, rfl, (show 2 ≤ sizeLine by decide), fun t' ht' => ?_⟩⟩
        refine q _ t' s xs k n3 (k3.trans ((Kp.new hs).trans (Kp.new ht'))) ((P3.new hs).new ht') (by omega) upd_same ?_ hL hlen
        rw [upd_ne (ne_of_none upd_same ht'), upd_same, show (400 : Int) = ((400 : Nat) : Int) from rfl, cutTo, List.map_take]
theorem ok_law (T : Txt K mg f fd) : FnOk P w K mg base CX0 3 (f 4) (fd 4) ["_law_script"] (sp_law K) := by
  have G_switches := ok_switches (P := P) (w := w) (base := base) T
  have G_lpen := ok_lpen (P := P) (w := w) (base := base) T
  have G_lmany := ok_lmany (P := P) (w := w) (base := base) T
  refine T.F_law.ok sc_law (fun vs H Q E h => ?_) (fun cdv A outer s H vs Q E hr h => ?_)
  · obtain ⟨a, ns, rfl, _⟩ := h
    rfl
  · obtain ⟨a, ns, rfl, hS, hlen, q⟩ := h
    have hr_lmany := hr
    have hr_switches : Room 1 _ := hr.mono (by decide)
    have hr_lpen : Room 1 _ := hr.mono (by decide)
    refine ⟨_, (pss_cons (ps_set (i := 1) sc_law.nd rfl (Or.inl rfl) (pe_call G_lpen hr_lpen (by rfl) T.m_lpen T.F_lpen.kp T.b_lpen .nil pass0 (pa_cons (pv 0) pa_nil)))
      (pss_cons (ps_for PassesOwn.never rfl (pi_range1 (by rfl) T.z_range (pa_cons pe_int pa_nil)) (pg_name (i := 2) sc_law.nd rfl (Or.inl rfl)) (pss_cons (ps_asg (pe_call G_lmany hr_lmany (by rfl) T.m_lmany T.F_lmany.kp T.b_lmany .nil pass0 (pa_cons (pv 1) pa_nil)) (pg_tup (by rfl) (pgs_cons (pg_name (i := 3) sc_law.nd rfl (Or.inr rfl)) (pgs_cons (pg_name (i := 4) sc_law.nd rfl (Or.inl rfl)) pgs_nil))))
      (pss_cons (ps_set (i := 5) sc_law.nd rfl (Or.inl rfl) (pe_callTy call_list_of (by rfl) T.z_list (by decide +kernel) (pa_cons (pv 3) pa_nil)))
      (pss_cons (ps_par (i := 6) (j := 7) (by rfl) sc_law.nd rfl rfl (by decide) rfl rfl (pa_cons (pe_call G_switches hr_switches (by rfl) T.m_switches T.F_switches.kp T.b_switches .nil pass0 (pa_cons (pv 5) pa_nil)) (pa_cons (pe_call G_switches hr_switches (by rfl) T.m_switches T.F_switches.kp T.b_switches .nil pass0 (pa_cons (pe_revL (pv 3)) pa_nil)) pa_nil)) (by rfl))
      (pss_cons (ps_if (PW.pt (pw_or (pt_not (pt_val (pe_callB call_isi (by rfl) T.z_isinstance (by decide +kernel) (pa_cons (pv 6) (pa_cons (pe_bltn (v := .ty "int") (by rfl) T.z_int (by decide +kernel) rfl) pa_nil))))) (pw_or (pt_val (pe_callB call_isi (by rfl) T.z_isinstance (by decide +kernel) (pa_cons (pv 6) (pa_cons (pe_bltn (v := .ty "bool") (by rfl) T.z_bool (by decide +kernel) rfl) pa_nil)))) (pw_or (pt_cmpR (op_neD hr.units) (pv 5) (pv 3) (nomark _)) (pw_or1 (pt_cmpR op_ne (pv 6) (pv 7) (nomark _))))))) (pss_one (ps_ret pe_bl)) pss_nil)
      (C8.pss_cut (ps_if (PW.pt (pw_and (pt_cmpR op_lt (pe_callB call_len_seq (by rfl) T.z_len PySem.boot_len (pa_cons (pv 3) pa_nil)) pe_int (nomark _)) (pw_and1 (pt_cmpR op_ne (pv 6) (pe_callB (call_max2 rfl) (by rfl) T.z_max (by decide +kernel) (pa_cons pe_int (pa_cons (pe_op op_sub (pv 4) pe_int) pa_nil))) (nomark _))))) (pss_one (ps_ret pe_bl)) pss_nil)
      (pss_one (ps_if (pt_cmpR op_ne (pv 6) (pe_callB call_len_seq (by rfl) T.z_len PySem.boot_len (pa_cons (pe_lc (own := [("_law_k", 8)]) (g := (gName 8)) (tt := (tTest (tOp rNe (tOp (rIxL K) (tVar 3) (tOp (rI0 fun i j => .int (i - j)) (tVar 8) (tC (.int 1)))) (tOp (rIxL K) (tVar 3) (tVar 8))))) (te := (tVar 8)) (by rfl) sc_law.nd (pi_range2 (by rfl) T.z_range (pa_cons pe_int (pa_cons (pe_callB call_len_seq (by rfl) T.z_len PySem.boot_len (pa_cons (pv 3) pa_nil)) pa_nil))) (blkOk_by (own := [("_law_k", 8)]) (N := N_law) (sc := defScope s_law) (by decide +kernel)) (fun _ _ _ _ _ => (pg_name (i := 8) sc_law.nd rfl (Or.inl rfl))) (fun _ _ _ _ _ => (pts_one (pt_cmpR op_ne (pe_ix ix_list (pv 3) (pe_op op_sub (pv 8) pe_int) (fun _ _ => rfl)) (pe_ix ix_list (pv 3) (pv 8) (fun _ _ => rfl)) (nomark _)))) (fun _ _ _ _ _ => (pv 8))) pa_nil)) (nomark _)) (pss_one (ps_ret pe_bl)) pss_nil))))))))
      (pss_one (ps_ret pe_bl)))), ?_⟩
    refine ⟨_, rfl, a, ns, rfl, hS, hlen, fun H1 p c P1 => ?_⟩
    refine ⟨20, rfl, by decide, by decide, for_range (lo := 0) (n := 20) (fun i σ' H' => ∃ (y2 y3 y4 y5 y6 y7 y8 : Option V) (n : Int), σ' = [some (.ref a), some (.ref p), y2, y3, y4, y5, y6, y7, y8] ∧ Pen H' p c ns n ∧ n ≤ 1000 * i)
      ⟨none, none, none, none, none, none, none, 0, rfl, P1, by omega⟩ ?_ ?_⟩
    · rintro i _ H2 hi ⟨y2, y3, y4, y5, y6, y7, y8, n, rfl, P2, hn⟩
      refine ⟨_, rfl, p, c, ns, n, rfl, P2, by omega, fun H3 t s xs l n3 k3 P3 hn3 ht hs hL hlen => ?_⟩
      refine ⟨_, _, rfl, SqT.of ht, rfl, _, _, rfl, _, _, rfl, rfl, ?_⟩
      -- handed
      refine ⟨_, rfl, _, _, rfl, .inl (SqL.of hs), fun g hg => ?_⟩
      have sg : Same H3 (upd H3 g (.lst ((xs.take 400).map V.int))) := Same.new hg
      generalize hu : xs.take 400 = u at hs sg
      have hul : u.length ≤ 400 := by
        rw [← hu]
        simp
        omega
      -- found, mirrored
      refine ⟨_, rfl, g, u, rfl, SqL.of upd_same, by omega, fun H4 s4 => ?_⟩
      refine ⟨_, rfl, s, _, rfl, SqL.of (s4 _ _ (sg _ _ hs)), fun e he => ?_⟩
      refine ⟨e, u.reverse, rfl, SqL.of (by rw [upd_same, List.map_reverse]), by rw [List.length_reverse]; omega, fun H5 s5 => ?_⟩
      rw [swc_reverse]
      have s35 : Same H3 H5 := (sg.trans s4).trans ((Same.new he).trans s5)
      have hg5 : H5 g = some (.lst (u.map V.int)) := ((Same.new he).trans s5) _ _ (s4 _ _ upd_same)
      have hs5 := s35 _ _ hs
      have P5 := P3.same s35
      refine ⟨_, _, rfl, ?_⟩
      -- the first test
      refine ⟨_, rfl, _, _, _, _, true, rfl, .ty _, .base (.int _), kit_ty (by decide +kernel), _, rfl, iteF ?_⟩
      refine ⟨_, rfl, _, _, _, _, false, rfl, .ty _, .base (.int _), kit_ty (by decide +kernel), _, rfl, iteF ?_⟩
      refine ⟨_, rfl, _, rfl, _, _, dpL (SqL.of hg5), dpL (SqL.of hs5), shInts _, shInts _, _, rfl, ?_⟩
      rw [eqvInts, decide_eq_true rfl]
      refine iteF ⟨_, rfl, _, rfl, rfl, _, rfl, iteNS rfl ?_⟩
      -- the second one
      refine ⟨fun σ' H' => σ' = [some (.ref a), some (.ref p), some (.int (0 + (i : Int))), some (.ref s), some (.int (l : Int)), some (.ref g), some (.int (swc u)), some (.int (swc u)), y8] ∧ H5 = H', ?_, ?_⟩
      · refine ⟨_, rfl, _, _, rfl, .inl (SqL.of hs5), _, _, rfl, rfl, _, rfl, ite2 (fun h => ?_) (fun h => iteF ⟨rfl, rfl⟩)⟩
        have h4 : ((u.map V.int).length : Int) < 400 := of_decide_eq_true h
        rw [List.length_map] at h4
        have hux : xs = u := by
          rw [← hu] at h4 ⊢
          rw [List.length_take] at h4
          rw [List.take_of_length_le (by omega)]
        subst hux
        refine ⟨_, rfl, _, rfl, _, _, rfl, rfl, _, _, rfl, rfl, _, rfl, iteNS ?_ ⟨rfl, rfl⟩⟩
        rw [V.int.injEq]
        rcases hL with ⟨e1, e2⟩ | ⟨e1, e2⟩
        · subst e1
          subst e2
          rfl
        · rw [← e2]
          split <;> omega
      · rintro _ _ ⟨rfl, rfl⟩
        refine ⟨_, rfl, _, rfl, _, _, rfl, .inl (SqL.of hs5), 1, _, rfl, ⟨by omega, by omega, by omega, by rw [List.length_map]; omega⟩, fun D nD => ?_⟩
        refine lc_range (lo := 1) (n := _) (fun i' H' => Same H5 H' ∧ ∃ ys : List V, H' D = some (.lst ys) ∧ ys.length = cnt u i') ⟨Same.new nD, [], upd_same, rfl⟩ ?_ ?_
        · rintro j H6 hj ⟨sm, ys, hD, hy⟩
          rw [List.length_map] at hj
          have h1 : j < u.length := by omega
          have h2 : j + 1 < u.length := by omega
          have g1 : atI (u.map V.int) (1 + (j : Int) - 1) = some (.int u[j]) := by
            rw [show (1 + (j : Int) - 1) = ((j : Nat) : Int) by omega]
            refine atI_nat ?_
            rw [List.getElem?_map, List.getElem?_eq_getElem h1]
            rfl
          have g2 : atI (u.map V.int) (1 + (j : Int)) = some (.int u[j + 1]) := by
            rw [show (1 + (j : Int)) = ((j + 1 : Nat) : Int) by omega]
            refine atI_nat ?_
            rw [List.getElem?_map, List.getElem?_eq_getElem h2]
            rfl
          have c1 : cnt u (j + 1) = cnt u j + (if u[j] = u[j + 1] then 0 else 1) := by
            show cnt u j + (if u[j]? = u[j + 1]? then 0 else 1) = _
            rw [List.getElem?_eq_getElem h1, List.getElem?_eq_getElem h2]
            by_cases e : u[j] = u[j + 1]
            · rw [if_pos e, if_pos (by rw [e])]
            · rw [if_neg e, if_neg (fun z => e (Option.some.inj z))]
          have hs6 := SqL.of (K := K) (sm _ _ hs5)
          refine ⟨rfl, _, rfl, _, rfl, _, _, rfl, rfl, _, _, _, _, rfl, rfl, hs6, g1, _, rfl, _, rfl, _, _, _, _, rfl, rfl, hs6, g2, rfl, _, rfl, ?_⟩
          by_cases e : u[j] = u[j + 1]
          · have ed : (!decide (V.int u[j] = V.int u[j + 1])) = false := by
              rw [e, decide_eq_true rfl]
              rfl
            rw [ed]
            refine iteF ⟨sm, ys, hD, ?_⟩
            rw [c1, if_pos e, hy]
            rfl
          · have ed : (!decide (V.int u[j] = V.int u[j + 1])) = true := by
              rw [decide_eq_false (fun z => e (V.int.inj z))]
              rfl
            rw [ed]
            refine iteT ⟨_, rfl, ys, hD, ?_, ?_, _, upd_same, ?_⟩
            · have := cnt_le u j
              exact small1000 (by omega)
            · exact Same.mut sm nD
            · rw [List.length_append, hy, c1, if_neg e]
              rfl
        · rintro H6 ⟨sm, ys, hD, hy⟩
          refine ⟨D, ys, rfl, .inl (SqL.of hD), rfl, _, rfl, iteNS ?_ ?_⟩
          · rw [hy, List.length_map, show (((u.length : Nat) : Int) - 1).toNat = u.length - 1 by omega, cnt_swc]
          · exact ⟨_, _, _, _, _, _, _, n3, rfl, P5.same sm, by omega⟩
    · rintro _ H2 ⟨y2, y3, y4, y5, y6, y7, y8, n, rfl, P2, hn⟩
      exact q _
end
set_option maxHeartbeats 4000000 in
theorem all_mk {l : PySem.W.OpenLaw} {w : World} {K : PySem.W.Frag} {h : Heap} {mg : Str → Option Value} {fa : Addr} (X : K.In h) (G : h.Ns mainGlobals mg) (hfa : mg "law" = some (.ref fa))
    {od0 an0 od1 an1 od2 an2 od3 an3 od4 an4 : Option Addr} {sl0 sl1 sl2 sl3 sl4 : Array (Option Value)} {oc0 kV0 dc0 pm0 cd0 ct0 oc1 kV1 dc1 pm1 cd1 ct1 oc2 kV2 dc2 pm2 cd2 ct2 oc3 kV3 dc3 pm3 cd3 ct3 oc4 kV4 dc4 pm4 cd4 ct4 : Value} {a0 a1 a2 a3 a4 : Addr}
    (e0 : PySem.W.nsIn K mainGlobals "switches" = some (some (.ref a0)))
    (l0 : K.lookup a0 = some ⟨oc0, od0, .func (PySem.W.fnOf "switches" "switches" (defArgs s_switches) (defBody s_switches) (defScope s_switches) .none kV0 dc0 pm0 an0 cd0 ct0), sl0⟩)
    (c0 : PySem.W.codeIn K cd0 "switches" = true) (k0 : PySem.W.keepIn K (.ref a0) = true)
    (e1 : PySem.W.nsIn K mainGlobals "_law_pen" = some (some (.ref a1)))
    (l1 : K.lookup a1 = some ⟨oc1, od1, .func (PySem.W.fnOf "_law_pen" "_law_pen" (defArgs s_lpen) (defBody s_lpen) (defScope s_lpen) .none kV1 dc1 pm1 an1 cd1 ct1), sl1⟩)
    (c1 : PySem.W.codeIn K cd1 "_law_pen" = true) (k1 : PySem.W.keepIn K (.ref a1) = true)
    (e2 : PySem.W.nsIn K mainGlobals "_law_draw" = some (some (.ref a2)))
    (l2 : K.lookup a2 = some ⟨oc2, od2, .func (PySem.W.fnOf "_law_draw" "_law_draw" (defArgs s_ldraw) (defBody s_ldraw) (defScope s_ldraw) .none kV2 dc2 pm2 an2 cd2 ct2), sl2⟩)
    (c2 : PySem.W.codeIn K cd2 "_law_draw" = true) (k2 : PySem.W.keepIn K (.ref a2) = true)
    (e3 : PySem.W.nsIn K mainGlobals "_law_many" = some (some (.ref a3)))
    (l3 : K.lookup a3 = some ⟨oc3, od3, .func (PySem.W.fnOf "_law_many" "_law_many" (defArgs s_lmany) (defBody s_lmany) (defScope s_lmany) .none kV3 dc3 pm3 an3 cd3 ct3), sl3⟩)
    (c3 : PySem.W.codeIn K cd3 "_law_many" = true) (k3 : PySem.W.keepIn K (.ref a3) = true)
    (e4 : PySem.W.nsIn K mainGlobals "law" = some (some (.ref a4)))
    (l4 : K.lookup a4 = some ⟨oc4, od4, .func (PySem.W.fnOf "law" "law" (defArgs s_law) (defBody s_law) (defScope s_law) .none kV4 dc4 pm4 an4 cd4 ct4), sl4⟩)
    (c4 : PySem.W.codeIn K cd4 "law" = true) (k4 : PySem.W.keepIn K (.ref a4) = true)
    (z_abs : PySem.W.nsIn K mainGlobals "abs" = some none)
    (z_bool : PySem.W.nsIn K mainGlobals "bool" = some none)
    (z_int : PySem.W.nsIn K mainGlobals "int" = some none)
    (z_isinstance : PySem.W.nsIn K mainGlobals "isinstance" = some none)
    (z_len : PySem.W.nsIn K mainGlobals "len" = some none)
    (z_list : PySem.W.nsIn K mainGlobals "list" = some none)
    (z_max : PySem.W.nsIn K mainGlobals "max" = some none)
    (z_range : PySem.W.nsIn K mainGlobals "range" = some none)
    (z_zip : PySem.W.nsIn K mainGlobals "zip" = some none)
    : ∃ fd : FuncData, (∀ (s : Shared) (v : Value), BindsTo s fd ⟨[v], []⟩ [("_law_script", v)]) ∧ ∀ base : Heap, K.In base → base.Ns mainGlobals mg → FnOk l.prog w K mg base CX0 3 fa fd ["_law_script"] (sp_law K) := by
  have e := hfa.symm.trans (PySem.W.mg_of X G e4)
  cases e
  have F0 := fun_mk (st := s_switches) l0 c0 k0
  have b0 := F0.binds (ps := ["turns"]) fun _ _ _ _ _ _ us hl => match us, hl with | [_], _ => rfl
  have F1 := fun_mk (st := s_lpen) l1 c1 k1
  have b1 := F1.binds (ps := ["_law_script"]) fun _ _ _ _ _ _ us hl => match us, hl with | [_], _ => rfl
  have F2 := fun_mk (st := s_ldraw) l2 c2 k2
  have b2 := F2.binds (ps := ["_law_pen_here", "_law_many_here"]) fun _ _ _ _ _ _ us hl => match us, hl with | [_, _], _ => rfl
  have F3 := fun_mk (st := s_lmany) l3 c3 k3
  have b3 := F3.binds (ps := ["_law_pen_here"]) fun _ _ _ _ _ _ us hl => match us, hl with | [_], _ => rfl
  have F4 := fun_mk (st := s_law) l4 c4 k4
  have b4 := F4.binds (ps := ["_law_script"]) fun _ _ _ _ _ _ us hl => match us, hl with | [_], _ => rfl
  let f : Nat → Addr := fun i => match i with | 0 => a0 | 1 => a1 | 2 => a2 | 3 => a3 | 4 => fa | _ => a0
  let fd : Nat → FuncData := fun i => match i with | 0 => PySem.W.fnOf "switches" "switches" (defArgs s_switches) (defBody s_switches) (defScope s_switches) .none kV0 dc0 pm0 an0 cd0 ct0 | 1 => PySem.W.fnOf "_law_pen" "_law_pen" (defArgs s_lpen) (defBody s_lpen) (defScope s_lpen) .none kV1 dc1 pm1 an1 cd1 ct1 | 2 => PySem.W.fnOf "_law_draw" "_law_draw" (defArgs s_ldraw) (defBody s_ldraw) (defScope s_ldraw) .none kV2 dc2 pm2 an2 cd2 ct2 | 3 => PySem.W.fnOf "_law_many" "_law_many" (defArgs s_lmany) (defBody s_lmany) (defScope s_lmany) .none kV3 dc3 pm3 an3 cd3 ct3 | 4 => PySem.W.fnOf "law" "law" (defArgs s_law) (defBody s_law) (defScope s_law) .none kV4 dc4 pm4 an4 cd4 ct4 | _ => PySem.W.fnOf "switches" "switches" (defArgs s_switches) (defBody s_switches) (defScope s_switches) .none kV0 dc0 pm0 an0 cd0 ct0
  have T : Txt K mg f fd := ⟨F0, PySem.W.mg_of X G e0, b0, F1, PySem.W.mg_of X G e1, b1, F2, PySem.W.mg_of X G e2, b2, F3, PySem.W.mg_of X G e3, b3, F4, PySem.W.mg_of X G e4, b4, PySem.W.mg_none_of X G z_abs, PySem.W.mg_none_of X G z_bool, PySem.W.mg_none_of X G z_int, PySem.W.mg_none_of X G z_isinstance, PySem.W.mg_none_of X G z_len, PySem.W.mg_none_of X G z_list, PySem.W.mg_none_of X G z_max, PySem.W.mg_none_of X G z_range, PySem.W.mg_none_of X G z_zip⟩
  exact ⟨fd 4, fun s v => .of_eq rfl, fun base _ _ => ok_law T⟩
end Kw
open PySem PySem.W PyProof.Rows
set_option maxRecDepth 100000 in
set_option maxHeartbeats 0 in
theorem PySem.Challenge.cw_replaytravel_k26_switches_of_turns_holds : PySem.Challenge.rw_replaytravel_k26_switches_of_turns.Holds := by
  w_on; o_law; k_head; (case hw => w_witness2)
  k_fill
  refine L2.walk_of (l := PySem.Challenge.rw_replaytravel_k26_switches_of_turns) (n := 63) (k := 3) (x := "_law_script") (CX := fun _ => L2.CX0) (sp := fun w => Kw.sp_law _) rfl (by decide) rfl ⟨rfl, by decide, by decide⟩ (fun w h Y => PySem.W.kIn_of Y) ?F (fun _ _ a ns hl _ hS => ⟨a, ns, rfl, hS, hl, fun _ => rfl⟩) (fun _ _ _ _ _ h => h)
  case F =>
    intro w mg fa h KX G hmg
    refine' Kw.all_mk KX G hmg ?e0 ?l0 ?c0 ?k0 ?e1 ?l1 ?c1 ?k1 ?e2 ?l2 ?c2 ?k2 ?e3 ?l3 ?c3 ?k3 ?e4 ?l4 ?c4 ?k4 ?z_abs ?z_bool ?z_int ?z_isinstance ?z_len ?z_list ?z_max ?z_range ?z_zip
    (case e0 => k_is)
    (case l0 => k_is)
    (case c0 => k_is)
    (case k0 => k_is)
    (case e1 => k_is)
    (case l1 => k_is)
    (case c1 => k_is)
    (case k1 => k_is)
    (case e2 => k_is)
    (case l2 => k_is)
    (case c2 => k_is)
    (case k2 => k_is)
    (case e3 => k_is)
    (case l3 => k_is)
    (case c3 => k_is)
    (case k3 => k_is)
    (case e4 => k_is)
    (case l4 => k_is)
    (case c4 => k_is)
    (case k4 => k_is)
    (case z_abs => k_is)
    (case z_bool => k_is)
    (case z_int => k_is)
    (case z_isinstance => k_is)
    (case z_len => k_is)
    (case z_list => k_is)
    (case z_max => k_is)
    (case z_range => k_is)
    (case z_zip => k_is)
