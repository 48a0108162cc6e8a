import PyProof.Rows.All
import Wide.All
import OpenK.AllK
import Wide.FinOn
import HandS.ForMost
import HandS.RaiseMore
import HandS.Defaults
import HandS.Wide
import HandS.Codes
import PySem.Challenge.RW_replaytravel_k01_worths_brought
set_option Elab.async false
set_option maxRecDepth 100000
set_option maxHeartbeats 4000000
namespace Kw
open PySem L2
/-! The text by places. -/
def top (i : Nat) : Stmt := PySem.Challenge.pw_replaytravel_k01_worths_brought.main.body.getD i (.Pass ⟨0, 0, 0, 0⟩)
abbrev s_brought : Stmt := top 1
abbrev N_brought : List Str := ["n"]
theorem sc_brought : FnScope N_brought ["n"] (defScope s_brought) := ⟨rfl, rfl, rfl, by decide +kernel, rfl, by decide +kernel, by decide +kernel⟩
abbrev s_lfeed : Stmt := top 3
abbrev N_lfeed : List Str := ["_law_script"]
theorem sc_lfeed : FnScope N_lfeed ["_law_script"] (defScope s_lfeed) := ⟨rfl, rfl, rfl, by decide +kernel, rfl, by decide +kernel, by decide +kernel⟩
abbrev s_ldraw : Stmt := top 4
abbrev N_ldraw : List Str := ["_law_feed_here", "_law_many", "_law_got", "_law_at", "_law_cell", "_law_number_here"]
theorem sc_ldraw : FnScope N_ldraw ["_law_feed_here", "_law_many"] (defScope s_ldraw) := ⟨rfl, rfl, rfl, by decide +kernel, rfl, by decide +kernel, by decide +kernel⟩
abbrev s_lnumber : Stmt := top 5
abbrev N_lnumber : List Str := ["_law_feed_here", "_law_way", "_law_figures", "_law_number_here", "_law_k"]
theorem sc_lnumber : FnScope N_lnumber ["_law_feed_here"] (defScope s_lnumber) := ⟨rfl, rfl, rfl, by decide +kernel, rfl, by decide +kernel, by decide +kernel⟩
abbrev s_law : Stmt := top 6
abbrev N_law : List Str := ["_law_script", "_law_feed_here", "_law_k", "_law_number_here", "_law_rest", "_law_due", "_law_found"]
theorem sc_law : FnScope N_law ["_law_script"] (defScope s_law) := ⟨rfl, rfl, rfl, by decide +kernel, rfl, by decide +kernel, by decide +kernel⟩
structure Txt (K : PySem.W.Frag) (mg : Str → Option Value) (f : Nat → Addr) (fd : Nat → FuncData) : Prop where
  F_brought : Fun K "brought" "brought" s_brought (f 0) (fd 0)
  m_brought : mg "brought" = some (.ref (f 0))
  b_brought : Binds K (fd 0) ["n"] []
  F_lfeed : Fun K "_law_feed" "_law_feed" s_lfeed (f 1) (fd 1)
  m_lfeed : mg "_law_feed" = some (.ref (f 1))
  b_lfeed : Binds K (fd 1) ["_law_script"] []
  F_ldraw : Fun K "_law_draw" "_law_draw" s_ldraw (f 2) (fd 2)
  m_ldraw : mg "_law_draw" = some (.ref (f 2))
  b_ldraw : Binds K (fd 2) ["_law_feed_here", "_law_many"] []
  F_lnumber : Fun K "_law_number" "_law_number" s_lnumber (f 3) (fd 3)
  m_lnumber : mg "_law_number" = some (.ref (f 3))
  b_lnumber : Binds K (fd 3) ["_law_feed_here"] []
  F_law : Fun K "law" "law" s_law (f 4) (fd 4)
  m_law : mg "law" = some (.ref (f 4))
  b_law : Binds K (fd 4) ["_law_script"] []
  z_int : mg "int" = none
  z_len : mg "len" = none
  z_list : mg "list" = none
  z_range : mg "range" = none
  z_repr : mg "repr" = none
/-! Frames: all that was tracked but p stands as it stood. -/
def Kp (p : Addr) (H H' : Hp) : Prop := ∀ b o, b ≠ p → H b = some o → H' b = some o
theorem Kp.refl (p : Addr) (H : Hp) : Kp p H H := fun _ _ _ h => h
theorem Kp.trans {p : Addr} {H H1 H2 : Hp} (a : Kp p H H1) (b : Kp p H1 H2) : Kp p H H2 := fun x o n h => b x o n (a x o n h)
theorem Kp.upd {p : Addr} {H : Hp} (o : HO) : Kp p H (upd H p o) := fun b u n h => by
  rw [upd_ne n]
  exact h
theorem Kp.new {p q : Addr} {H : Hp} {o : HO} (h : H q = none) : Kp p H (L2.upd H q o) := fun b u _ e => by
  rw [upd_ne (ne_of_none e h)]
  exact e
/-! What holds of the feed: a list of the cells, how many were begun, what is left. -/
def Pen (H : Hp) (p c : Addr) (ns : List Int) (n : Int) : Prop :=
  ∃ r : Int, H p = some (.lst [.ref c, .int n, .int r]) ∧ H c = some (.lst (ns.map V.int)) ∧ 0 ≤ n ∧ 0 ≤ r
theorem Pen.ne {H : Hp} {p c : Addr} {ns : List Int} {n : Int} (h : Pen H p c ns n) : c ≠ p := by
  obtain ⟨r, h1, h2, _⟩ := h
  refine ne_of h2 h1 fun e => ?_
  cases ns with
  | nil => cases e
  | cons a l => cases e
theorem Pen.nn {H : Hp} {p c : Addr} {ns : List Int} {n : Int} (h : Pen H p c ns n) : 0 ≤ n := by
  obtain ⟨r, _, _, h, _⟩ := h
  exact h
theorem Pen.new {H : Hp} {p c q : Addr} {ns : List Int} {n : Int} {o : HO} (h : Pen H p c ns n) (hq : H q = none) : Pen (upd H q o) p c ns n := by
  obtain ⟨r, h1, h2, h3, h4⟩ := h
  exact ⟨r, (upd_ne (ne_of_none h1 hq)).trans h1, (upd_ne (ne_of_none h2 hq)).trans h2, h3, h4⟩
theorem Pen.ni {H : Hp} {p c q : Addr} {ns : List Int} {n : Int} (h : Pen H p c ns n) (hq : H q = none) : q ≠ p := by
  obtain ⟨r, h1, _⟩ := h
  exact (ne_of_none h1 hq).symm
/-! A call with keywords alone. -/
section
variable {X : Cx} {CX : CXT} {k : Nat} {f : Addr} {fd : FuncData} {ps ks : List Str} {sp : Sp} {E : XK} {x : Str} {p pos : Pos} {kws : List Keyword} {tk : TA} {g : List Value → List Value → List Value} {gV : List V → List V → List V}
theorem callKw0 (F : FnOk X.prog X.w X.K X.mg X.base CX k f fd ps sp) (hr : Room k X.A) (hg : Gl X x) (hm : X.mg x = some (.ref f))
    (hk : PySem.W.keepIn X.K (.ref f) = true) (hb : KBn X.K fd ps 0 ks g gV) (hx : Passes CX X E) (hkw : PK X kws tk)
    (hall : (backToKw pos (keywordEach kws X.env)).all (·.1.isSome) = true := by rfl)
    (hks : (backToKw pos (keywordEach kws X.env)).filterMap (·.1) = ks := by rfl)
    (hdb : (x == ("__debug__" : Str)) = false := by decide)
    (hpl : ((backTo pos (starEach [] X.env)).any (·.1) || (backToKw pos (keywordEach kws X.env)).any (·.1.isNone)) = false := by rfl) :
    PE X (.Call (.Name x p) [] kws pos) (tCallN 0 ks.length sp gV E tNil tk) := by
  constructor
  intro pins s σ H Q I h
  refine wpAny_Call_Name_kw (ld_glob I hg hm ?_ hdb)
  refine PySem.W.callWith_KW0 (h₀ := X.base) I.ok.mod.kin hk hall ?_ hpl
  refine thn (hkw.run pos pins s σ H _ I h) ?_
  rintro ws s2 ⟨zs, H2, I2, rz, l1, l2, q2⟩
  refine ⟨I2.kIn, ?_⟩
  rw [hks]
  exact run_fnN (us := []) (vs := []) F hr hb hx I2 .nil rz rfl l2 q2
end
/-! The promises. -/
def sp_brought : Sp := fun vs H Q _ => ∃ n : Int, vs = [.int n] ∧ Q (.int ((n + 32768) % 65536 - 32768)) H
def sp_lfeed (K : PySem.W.Frag) : Sp := fun vs H Q _ => ∃ (a : Addr) (ns : List Int), vs = [.ref a] ∧ SqL K H a (ns.map V.int) ∧ ns.length ≤ 63 ∧
  ∀ H' p c, Pen H' p c ns 0 → Q (.ref p) H'
def sp_ldraw : Sp := fun vs H Q _ => ∃ (p c : Addr) (ns : List Int) (n m : Int), vs = [.ref p, .int m] ∧ Pen H p c ns n ∧ 0 < m ∧ m < 1073741824 ∧ n < 1000000 ∧
  ∀ (H' : Hp) (d n' : Int), Kp p H H' → Pen H' p c ns n' → 0 ≤ d → d < m → n ≤ n' → n' ≤ n + 1 → Q (.int d) H'
def sp_lnumber : Sp := fun vs H Q _ => ∃ (p c : Addr) (ns : List Int) (n : Int), vs = [.ref p] ∧ Pen H p c ns n ∧ n < 900000 ∧
  ∀ (H' : Hp) (k n' : Int), Kp p H H' → Pen H' p c ns n' → n ≤ n' → n' ≤ n + 40 → Q (.int k) H'
def sp_law (K : PySem.W.Frag) : Sp := fun vs H Q _ => ∃ (a : Addr) (ns : List Int), vs = [.ref a] ∧ SqL K H a (ns.map V.int) ∧ ns.length ≤ 63 ∧ ∀ H', Q (.bl true) H'
theorem cut63 {xs : List V} (h : xs.length ≤ 63) : cutV xs none (some 63) = xs := by
  unfold cutV
  rw [HT.sIx_none, show HT.sIx xs.length xs.length (some 63) = min 63 xs.length from HT.sIx_nat xs.length xs.length 63]
  rw [show min 63 xs.length = xs.length by omega]
  simp
theorem atI_in {ns : List Int} {i : Int} (h0 : 0 ≤ i) (h1 : i < ((ns.map V.int).length : Int)) : ∃ v : Int, atI (ns.map V.int) i = some (.int v) := by
  obtain ⟨j, rfl⟩ := Int.eq_ofNat_of_zero_le h0
  have hj : j < ns.length := by
    rw [List.length_map] at h1
    omega
  refine ⟨ns[j], atI_nat ?_⟩
  rw [List.getElem?_map, List.getElem?_eq_getElem hj]
  rfl
theorem few {i : Int} (h : i.natAbs < 2 ^ 20) : i.natAbs.log2 < 1920 := Nat.lt_of_lt_of_le (PySem.Flt.log2_lt_of (by decide) h) (by decide)
section
variable {P : Program} {w : World} {K : PySem.W.Frag} {mg : Str → Option Value} {base : Heap} {f : Nat → Addr} {fd : Nat → FuncData}
theorem ok_brought (T : Txt K mg f fd) : FnOk P w K mg base CX0 1 (f 0) (fd 0) ["n"] sp_brought := by
  refine T.F_brought.ok sc_brought (fun vs H Q E h => ?_) (fun cdv A outer s H vs Q E hr h => ?_)
  · obtain ⟨n, rfl, _⟩ := h
    rfl
  · obtain ⟨n, rfl, q⟩ := h
    refine ⟨_, (pss_one (ps_ret (pe_op op_sub (pe_op op_mod (pe_op op_add (pv 0) pe_int) pe_int) pe_int))), ?_⟩
    exact ⟨_, rfl, _, _, rfl, rfl, _, _, rfl, rfl, (by show (0 : Int) < 65536; decide), _, _, rfl, rfl, q⟩
theorem kb_brought (T : Txt K mg f fd) : KBn K (fd 0) ["n"] 0 ["n"] (fun _ ws => ws) (fun _ zs => zs) := by
  obtain ⟨oc, od, kV, doc, pm, an, cdv, ct, osl, e, lk, hcd⟩ := T.F_brought.ex
  refine ⟨fun s us ws X l1 l2 => ?_, fun r1 r2 => r2⟩
  rw [e]
  match us, ws, l1, l2 with
  | [], [u], _, _ => exact .of_eq rfl
theorem ok_lfeed (T : Txt K mg f fd) : FnOk P w K mg base CX0 1 (f 1) (fd 1) ["_law_script"] (sp_lfeed K) := by
  refine T.F_lfeed.ok sc_lfeed (fun vs H Q E h => ?_) (fun cdv A outer s H vs Q E hr h => ?_)
  · obtain ⟨a, ns, rfl, _⟩ := h
    rfl
  · obtain ⟨a, ns, rfl, hS, hlen, q⟩ := h
    refine ⟨_, (pss_one (ps_ret (pe_lst (pa_cons (pe_callTy call_list_of (by rfl) T.z_list (by decide +kernel) (pa_cons (pe_slice sl_list (pv 0) po_none (po_some pe_int)) pa_nil)) (pa_cons pe_int (pa_cons pe_int pa_nil)))))), ?_⟩
    refine ⟨_, rfl, _, rfl, a, _, rfl, hS, fun c1 n1 => ⟨_, _, rfl, .inl (SqL.of upd_same), fun c n2 => ⟨(show 3 ≤ sizeLine by decide), fun p n3 => ?_⟩⟩⟩
    refine q _ p c ⟨0, upd_same, ?_, by decide, by decide⟩
    rw [upd_ne (ne_of_none upd_same n3), upd_same, cut63 (by rw [List.length_map]; exact hlen)]
theorem ok_ldraw (T : Txt K mg f fd) : FnOk P w K mg base CX0 1 (f 2) (fd 2) ["_law_feed_here", "_law_many"] sp_ldraw := by
  refine T.F_ldraw.ok sc_ldraw (fun vs H Q E h => ?_) (fun cdv A outer s H vs Q E hr h => ?_)
  · obtain ⟨p, c, ns, n, m, rfl, _⟩ := h
    rfl
  · obtain ⟨p, c, ns, n, m, rfl, hP, hm0, hm1, hn1, q⟩ := h
    have hne : c ≠ p := hP.ne
    obtain ⟨r, hp, hc, hn0, hr0⟩ := hP
    refine ⟨_, (pss_cons (ps_if (pt_cmpR op_gt (pe_ix ix_list (pv 0) pe_int (fun _ _ => rfl)) pe_int (nomark _)) (pss_cons (ps_set (i := 2) sc_ldraw.nd rfl (Or.inl rfl) (pe_op op_mod (pe_ix ix_list (pv 0) pe_int (fun _ _ => rfl)) (pv 1)))
      (pss_cons (ps_asg (pe_op op_fdiv (pe_ix ix_list (pv 0) pe_int (fun _ _ => rfl)) (pv 1)) (pg_sub (pv 0) pe_int set_list))
      (pss_one (ps_ret (pv 2))))) pss_nil)
      (pss_cons (ps_set (i := 3) sc_ldraw.nd rfl (Or.inl rfl) (pe_ix ix_list (pv 0) pe_int (fun _ _ => rfl)))
      (pss_cons (ps_asg (pe_op op_add (pv 3) pe_int) (pg_sub (pv 0) pe_int set_list))
      (pss_cons (ps_set (i := 4) sc_ldraw.nd rfl (Or.inl rfl) (pv 3))
      (C8.pss_cut (ps_if (pt_cmpR op_gt (pe_callB call_len_seq (by rfl) T.z_len PySem.boot_len (pa_cons (pe_ix ix_list (pv 0) pe_int (fun _ _ => rfl)) pa_nil)) pe_int (nomark _)) (pss_one (ps_set (i := 4) sc_ldraw.nd rfl (Or.inl rfl) (pe_ix ix_list (pe_ix ix_list (pv 0) pe_int (fun _ _ => rfl)) (pe_op op_mod (pv 3) (pe_callB call_len_seq (by rfl) T.z_len PySem.boot_len (pa_cons (pe_ix ix_list (pv 0) pe_int (fun _ _ => rfl)) pa_nil))) (fun _ _ => rfl)))) pss_nil)
      (C8.pss_cut (ps_if (PW.pt (pw_and (pt_cmpR op_ge (pv 4) (pe_op op_pow pe_int pe_int) (nomark _)) (pw_and1 (pt_cmpR op_lt (pv 3) (pe_callB call_len_seq (by rfl) T.z_len PySem.boot_len (pa_cons (pe_ix ix_list (pv 0) pe_int (fun _ _ => rfl)) pa_nil)) (nomark _))))) (pss_cons (ps_asg (pe_op op_fdiv (pv 4) (pv 1)) (pg_sub (pv 0) pe_int set_list))
      (pss_one (ps_ret (pe_op op_mod (pv 4) (pv 1))))) pss_nil)
      (pss_cons (ps_set (i := 5) sc_ldraw.nd rfl (Or.inl rfl) (pe_op op_mod (pe_op op_mul (pe_op op_add (pe_op op_add (pe_op op_mod (pv 4) pe_int) (pe_op op_mul (pe_op op_mul pe_int (pv 3)) (pv 3))) pe_int) pe_int) pe_int))
      (pss_cons (ps_set (i := 5) sc_ldraw.nd rfl (Or.inl rfl) (pe_op op_mod (pe_op op_add (pe_op op_mul (pv 5) (pv 5)) (pe_op op_mul pe_int (pv 3))) pe_int))
      (pss_one (ps_ret (pe_op op_mod (pe_op op_fdiv (pe_op op_mod (pe_op op_mul (pv 5) (pe_op op_add (pe_op op_mod (pv 5) pe_int) pe_int)) pe_int) pe_int) (pv 1)))))))))))), ?_⟩
    -- if feed[2] > 0
    refine ⟨_, rfl, _, _, _, _, rfl, rfl, SqL.of hp, rfl, _, _, rfl, rfl, _, rfl, ite2 (fun h1 => ?_) (fun h1 => ?_)⟩
    · refine ⟨_, rfl, _, _, _, _, rfl, rfl, SqL.of hp, rfl, _, rfl, _, _, rfl, rfl, hm0, ?_⟩
      refine ⟨_, rfl, _, _, _, _, rfl, rfl, SqL.of hp, rfl, _, rfl, _, _, rfl, rfl, ⟨hm0, hm1⟩, _, rfl, _, _, _, _, rfl, rfl, hp, rfl, ?_⟩
      exact ⟨_, rfl, q _ _ _ (Kp.upd _) ⟨_, upd_same, (upd_ne hne).trans hc, hn0, Int.ediv_nonneg hr0 (by omega)⟩ (Int.emod_nonneg _ (by omega)) (Int.emod_lt_of_pos _ hm0) (by omega) (by omega)⟩
    · -- at = feed[1]; feed[1] = at + 1; cell = at
      refine ⟨_, rfl, _, _, _, _, rfl, rfl, SqL.of hp, rfl, ?_⟩
      refine ⟨_, rfl, _, _, rfl, rfl, _, rfl, _, _, _, _, rfl, rfl, hp, rfl, ?_⟩
      have hp1 : (upd H p (.lst [.ref c, .int (n + 1), .int r])) p = some (.lst [.ref c, .int (n + 1), .int r]) := upd_same
      have hc1 : (upd H p (.lst [.ref c, .int (n + 1), .int r])) c = some (.lst (ns.map V.int)) := (upd_ne hne).trans hc
      refine ⟨_, rfl, ?_⟩
      -- if len(feed[0]) > 0
      refine ⟨fun σ' H' => ∃ v : Int, σ' = [some (.ref p), some (.int m), none, some (.int n), some (.int v), none] ∧ H' = upd H p (.lst [.ref c, .int (n + 1), .int r]), ?_, ?_⟩
      · refine ⟨_, rfl, _, _, _, _, rfl, rfl, SqL.of hp1, rfl, _, _, rfl, .inl (SqL.of hc1), _, _, rfl, rfl, _, rfl, ite2 (fun h2 => ?_) (fun h2 => ⟨_, rfl, rfl⟩)⟩
        have hl : 0 < ((ns.map V.int).length : Int) := of_decide_eq_true h2
        obtain ⟨v, hv⟩ := atI_in (ns := ns) (Int.emod_nonneg n (by omega)) (Int.emod_lt_of_pos n hl)
        exact ⟨_, rfl, _, _, _, _, rfl, rfl, SqL.of hp1, rfl, _, rfl, _, rfl, _, _, _, _, rfl, rfl, SqL.of hp1, rfl, _, _, rfl, .inl (SqL.of hc1), _, _, rfl, rfl, hl, _, _, _, _, rfl, rfl, SqL.of hc1, hv, v, rfl, rfl⟩
      · rintro _ _ ⟨v, rfl, rfl⟩
        -- if cell >= 10 ** 18 and at < len(feed[0])
        refine ⟨fun σ' H' => σ' = [some (.ref p), some (.int m), none, some (.int n), some (.int v), none] ∧ H' = upd H p (.lst [.ref c, .int (n + 1), .int r]), ?_, ?_⟩
        · refine ⟨_, rfl, _, _, rfl, rfl, ⟨by decide, by decide, by decide⟩, _, _, rfl, rfl, _, rfl, ite2 (fun h3 => ?_) (fun h3 => iteF ⟨rfl, rfl⟩)⟩
          refine ⟨_, rfl, _, rfl, _, _, _, _, rfl, rfl, SqL.of hp1, rfl, _, _, rfl, .inl (SqL.of hc1), _, _, rfl, rfl, _, rfl, ite2 (fun h4 => ?_) (fun h4 => ⟨rfl, rfl⟩)⟩
          have hv : (10 : Int) ^ (18 : Int).toNat ≤ v := of_decide_eq_true h3
          have hv0 : 0 ≤ v := Int.le_trans (by decide) hv
          refine ⟨_, rfl, _, rfl, _, _, rfl, rfl, ⟨hm0, hm1⟩, _, rfl, _, _, _, _, rfl, rfl, hp1, rfl, ?_⟩
          refine ⟨_, rfl, _, rfl, _, _, rfl, rfl, hm0, ?_⟩
          rw [upd_upd]
          exact q _ _ (n + 1) (Kp.upd _) ⟨_, upd_same, (upd_ne hne).trans hc, by omega, Int.ediv_nonneg hv0 (by omega)⟩ (Int.emod_nonneg _ (by omega)) (Int.emod_lt_of_pos _ hm0) (by omega) (by omega)
        · rintro _ _ ⟨rfl, rfl⟩
          refine ⟨_, rfl, _, _, rfl, rfl, (by show (0 : Int) < 2147483647; decide), _, rfl, _, _, rfl, rfl, .inl ⟨by decide, by decide⟩, _, rfl, _, _, rfl, rfl, .inr ⟨by omega, by omega⟩, _, _, rfl, rfl, _, _, rfl, rfl, _, _, rfl, rfl, .inr ⟨by decide, by decide⟩, _, _, rfl, rfl, (by show (0 : Int) < 2147483647; decide), ?_⟩
          generalize hx : ((v % 2147483647 + 7919 * n * n + 104729) * 48271 % 2147483647 : Int) = x
          have hx0 : 0 ≤ x := by
            rw [← hx]
            exact Int.emod_nonneg _ (by decide)
          have hx1 : x < 2147483647 := by
            rw [← hx]
            exact Int.emod_lt_of_pos _ (by decide)
          refine ⟨_, rfl, _, rfl, _, _, rfl, rfl, .inl ⟨by omega, by omega⟩, _, rfl, _, _, rfl, rfl, .inl ⟨by decide, by decide⟩, _, _, rfl, rfl, _, _, rfl, rfl, (by show (0 : Int) < 2147483629; decide), ?_⟩
          generalize hy : ((x * x + 69621 * n) % 2147483629 : Int) = y
          have hy0 : 0 ≤ y := by
            rw [← hy]
            exact Int.emod_nonneg _ (by decide)
          have hy1 : y < 2147483629 := by
            rw [← hy]
            exact Int.emod_lt_of_pos _ (by decide)
          refine ⟨_, rfl, _, rfl, _, _, rfl, rfl, (by show (0 : Int) < 65521; decide), _, _, rfl, rfl, _, _, rfl, rfl, .inl ⟨by omega, by omega⟩, _, _, rfl, rfl, (by show (0 : Int) < 2147483587; decide), _, _, rfl, rfl, ⟨by decide, by decide⟩, _, rfl, _, _, rfl, rfl, hm0, ?_⟩
          exact q _ _ (n + 1) (Kp.upd _) ⟨_, upd_same, hc1, by omega, hr0⟩ (Int.emod_nonneg _ (by omega)) (Int.emod_lt_of_pos _ hm0) (by omega) (by omega)
theorem ok_lnumber (T : Txt K mg f fd) : FnOk P w K mg base CX0 2 (f 3) (fd 3) ["_law_feed_here"] sp_lnumber := by
  have G_ldraw := ok_ldraw (P := P) (w := w) (base := base) T
  refine T.F_lnumber.ok sc_lnumber (fun vs H Q E h => ?_) (fun cdv A outer s H vs Q E hr h => ?_)
  · obtain ⟨p, c, ns, n, rfl, _⟩ := h
    rfl
  · obtain ⟨p, c, ns, n, rfl, hP, hn, q⟩ := h
    have hr_ldraw := hr
    refine ⟨_, (pss_cons (ps_set (i := 1) sc_lnumber.nd rfl (Or.inl rfl) (pe_call G_ldraw hr_ldraw (by rfl) T.m_ldraw T.F_ldraw.kp T.b_ldraw .nil pass0 (pa_cons (pv 0) (pa_cons pe_int pa_nil))))
      (pss_cons (ps_if (pt_cmpR op_eq (pv 1) pe_int (nomark _)) (pss_one (ps_ret (pe_op op_sub (pe_call G_ldraw hr_ldraw (by rfl) T.m_ldraw T.F_ldraw.kp T.b_ldraw .nil pass0 (pa_cons (pv 0) (pa_cons pe_int pa_nil))) pe_int))) pss_nil)
      (pss_cons (ps_if (pt_cmpR op_eq (pv 1) pe_int (nomark _)) (pss_one (ps_ret (pe_op op_add (pe_op op_sub (pe_op op_add (pe_op op_mul (pe_op op_sub (pe_call G_ldraw hr_ldraw (by rfl) T.m_ldraw T.F_ldraw.kp T.b_ldraw .nil pass0 (pa_cons (pv 0) (pa_cons pe_int pa_nil))) pe_int) pe_int) (pe_call G_ldraw hr_ldraw (by rfl) T.m_ldraw T.F_ldraw.kp T.b_ldraw .nil pass0 (pa_cons (pv 0) (pa_cons pe_int pa_nil)))) pe_int) (pe_op op_mul pe_int (pe_call G_ldraw hr_ldraw (by rfl) T.m_ldraw T.F_ldraw.kp T.b_ldraw .nil pass0 (pa_cons (pv 0) (pa_cons pe_int pa_nil))))))) pss_nil)
      (pss_cons (ps_set (i := 2) sc_lnumber.nd rfl (Or.inl rfl) (pe_op op_add pe_int (pe_call G_ldraw hr_ldraw (by rfl) T.m_ldraw T.F_ldraw.kp T.b_ldraw .nil pass0 (pa_cons (pv 0) (pa_cons pe_int pa_nil)))))
      (pss_cons (ps_set (i := 3) sc_lnumber.nd rfl (Or.inl rfl) pe_int)
      (pss_cons (ps_for PassesOwn.never rfl (pi_range1 (by rfl) T.z_range (pa_cons (pv 2) pa_nil)) (pg_name (i := 4) sc_lnumber.nd rfl (Or.inl rfl)) (pss_one (ps_set (i := 3) sc_lnumber.nd rfl (Or.inl rfl) (pe_op op_add (pe_op op_mul (pv 3) pe_int) (pe_call G_ldraw hr_ldraw (by rfl) T.m_ldraw T.F_ldraw.kp T.b_ldraw .nil pass0 (pa_cons (pv 0) (pa_cons pe_int pa_nil)))))))
      (pss_one (ps_ret (pe_op op_mul (pv 3) (pe_ix ix_list (pe_lst (pa_cons pe_int (pa_cons (pe_un un_neg pe_int) pa_nil))) (pe_call G_ldraw hr_ldraw (by rfl) T.m_ldraw T.F_ldraw.kp T.b_ldraw .nil pass0 (pa_cons (pv 0) (pa_cons pe_int pa_nil))) (fun _ _ => rfl))))))))))), ?_⟩
    -- way = draw(4)
    refine ⟨_, rfl, p, c, ns, n, 4, rfl, hP, by decide, by decide, by omega, fun H1 d1 n1 k1 P1 d1a d1b n1a n1b => ?_⟩
    refine ⟨_, rfl, rfl, _, rfl, ite2 (fun h1 => ?_) (fun h1 => ?_)⟩
    · refine ⟨_, rfl, p, c, ns, n1, 65536, rfl, P1, by decide, by decide, by omega, fun H2 d2 n2 k2 P2 d2a d2b n2a n2b => ?_⟩
      exact ⟨_, _, rfl, rfl, q _ _ _ (k1.trans k2) P2 (by omega) (by omega)⟩
    · refine ⟨_, rfl, rfl, _, rfl, ite2 (fun h2 => ?_) (fun h2 => ?_)⟩
      · refine ⟨_, rfl, p, c, ns, n1, 2001, rfl, P1, by decide, by decide, by omega, fun H2 d2 n2 k2 P2 d2a d2b n2a n2b => ?_⟩
        refine ⟨_, _, rfl, rfl, _, _, rfl, rfl, .inr ⟨by decide, by decide⟩, ?_⟩
        refine ⟨_, rfl, p, c, ns, n2, 9, rfl, P2, by decide, by decide, by omega, fun H3 d3 n3 k3 P3 d3a d3b n3a n3b => ?_⟩
        refine ⟨_, _, rfl, rfl, _, _, rfl, rfl, ?_⟩
        refine ⟨_, rfl, p, c, ns, n3, 2, rfl, P3, by decide, by decide, by omega, fun H4 d4 n4 k4 P4 d4a d4b n4a n4b => ?_⟩
        exact ⟨_, _, rfl, rfl, .inl ⟨by decide, by decide⟩, _, _, rfl, rfl, q _ _ _ (((k1.trans k2).trans k3).trans k4) P4 (by omega) (by omega)⟩
      · refine ⟨_, rfl, p, c, ns, n1, 29, rfl, P1, by decide, by decide, by omega, fun H2 d2 n2 k2 P2 d2a d2b n2a n2b => ?_⟩
        refine ⟨_, _, rfl, rfl, ?_⟩
        refine ⟨_, rfl, 1 + d2, rfl, by omega, by omega, for_range (lo := 0) (n := (1 + d2).toNat) (fun i σ' H' => ∃ (x : Int) (y : Option V) (n' : Int), σ' = [some (.ref p), some (.int d1), some (.int (1 + d2)), some (.int x), y] ∧ Kp p H H' ∧ Pen H' p c ns n' ∧ n ≤ n' ∧ n' ≤ n + 2 + i)
          ⟨0, none, n2, rfl, k1.trans k2, P2, by omega, by omega⟩ ?_ ?_⟩
        · rintro i _ H' hi ⟨x, y, n', rfl, kk, PP, ha, hb⟩
          refine ⟨_, rfl, _, _, rfl, rfl, .inr ⟨by decide, by decide⟩, ?_⟩
          refine ⟨_, rfl, p, c, ns, n', 10, rfl, PP, by decide, by decide, by omega, fun H3 d3 n3 k3 P3 d3a d3b n3a n3b => ?_⟩
          exact ⟨_, _, rfl, rfl, _, _, n3, rfl, kk.trans k3, P3, by omega, by omega⟩
        · rintro _ H' ⟨x, y, n', rfl, kk, PP, ha, hb⟩
          refine ⟨_, rfl, _, rfl, by decide, fun l hl => ?_⟩
          refine ⟨_, rfl, p, c, ns, n', 2, rfl, PP.new hl, by decide, by decide, by omega, fun H3 d3 n3 k3 P3 d3a d3b n3a n3b => ?_⟩
          have e3 : H3 l = some (.lst [.int 1, .int (-1)]) := k3 l _ (PP.ni hl) upd_same
          have ed : d3 = 0 ∨ d3 = 1 := by omega
          rcases ed with rfl | rfl
          · exact ⟨_, _, _, _, rfl, rfl, SqL.of e3, rfl, _, _, rfl, rfl, .inr ⟨by decide, by decide⟩, q _ _ _ ((kk.trans (Kp.new hl)).trans k3) P3 (by omega) (by omega)⟩
          · exact ⟨_, _, _, _, rfl, rfl, SqL.of e3, rfl, _, _, rfl, rfl, .inr ⟨by decide, by decide⟩, q _ _ _ ((kk.trans (Kp.new hl)).trans k3) P3 (by omega) (by omega)⟩
theorem ok_law (T : Txt K mg f fd) : FnOk P w K mg base CX0 3 (f 4) (fd 4) ["_law_script"] (sp_law K) := by
  have G_brought := ok_brought (P := P) (w := w) (base := base) T
  have G_lfeed := ok_lfeed (P := P) (w := w) (base := base) T
  have G_lnumber := ok_lnumber (P := P) (w := w) (base := base) T
  refine T.F_law.ok sc_law (fun vs H Q E h => ?_) (fun cdv A outer s H vs Q E hr h => ?_)
  · obtain ⟨a, ns, rfl, _⟩ := h
    rfl
  · obtain ⟨a, ns, rfl, hS, hlen, q⟩ := h
    have hr_lnumber := hr
    have hr_brought : Room 1 _ := hr.mono (by decide)
    have hr_lfeed : Room 1 _ := hr.mono (by decide)
    refine ⟨_, (pss_cons (ps_set (i := 1) sc_law.nd rfl (Or.inl rfl) (pe_call G_lfeed hr_lfeed (by rfl) T.m_lfeed T.F_lfeed.kp T.b_lfeed .nil pass0 (pa_cons (pv 0) pa_nil)))
      (pss_cons (ps_for PassesOwn.never rfl (pi_range1 (by rfl) T.z_range (pa_cons pe_int pa_nil)) (pg_name (i := 2) sc_law.nd rfl (Or.inl rfl)) (pss_cons (ps_set (i := 3) sc_law.nd rfl (Or.inl rfl) (pe_call G_lnumber hr_lnumber (by rfl) T.m_lnumber T.F_lnumber.kp T.b_lnumber .nil pass0 (pa_cons (pv 1) pa_nil)))
      (pss_cons (ps_set (i := 4) sc_law.nd rfl (Or.inl rfl) (pe_op op_sub (pv 3) (pe_op op_mul (pe_op op_fdiv (pv 3) pe_int) pe_int)))
      (pss_cons (ps_set (i := 5) sc_law.nd rfl (Or.inl rfl) (pe_ix ix_list (pe_lst (pa_cons (pv 4) (pa_cons (pe_op op_sub (pv 4) pe_int) pa_nil))) (pe_callTy call_int1 (by rfl) T.z_int (by decide +kernel) (pa_cons (pe_cmpR op_gt (pv 4) pe_int (nomark _)) pa_nil)) (fun _ _ => rfl)))
      (pss_cons (ps_set (i := 6) sc_law.nd rfl (Or.inl rfl) (pe_call G_brought hr_brought (by rfl) T.m_brought T.F_brought.kp T.b_brought .nil pass0 (pa_cons (pv 3) pa_nil)))
      (pss_cons (ps_if (PW.pt (pw_or (pt_cmpR op_ne (pe_callB SkE.call_repr_int (by rfl) T.z_repr (by decide +kernel) (pa_cons (pv 6) pa_nil)) (pe_callB SkE.call_repr_int (by rfl) T.z_repr (by decide +kernel) (pa_cons (pv 5) pa_nil)) (nomark _)) (pw_or (pt_cmpR op_ne (pe_call G_brought hr_brought (by rfl) T.m_brought T.F_brought.kp T.b_brought .nil pass0 (pa_cons (pv 6) pa_nil)) (pv 5) (nomark _)) (pw_or1 (pt_cmpR op_ne (callKw0 G_brought hr_brought (by rfl) T.m_brought T.F_brought.kp (kb_brought T) pass0 (pk_cons (pv 3) pk_nil)) (pv 5) (nomark _)))))) (pss_one (ps_ret pe_bl)) pss_nil)
      (pss_one (ps_if (PW.pt (pw_or (pt_cmpR op_ne (pe_call G_brought hr_brought (by rfl) T.m_brought T.F_brought.kp T.b_brought .nil pass0 (pa_cons (pe_op op_add (pv 3) pe_int) pa_nil)) (pv 5) (nomark _)) (pw_or1 (pt_cmpR op_ne (pe_call G_brought hr_brought (by rfl) T.m_brought T.F_brought.kp T.b_brought .nil pass0 (pa_cons (pe_op op_sub (pv 3) pe_int) pa_nil)) (pv 5) (nomark _))))) (pss_one (ps_ret pe_bl)) pss_nil))))))))
      (pss_one (ps_ret pe_bl)))), ?_⟩
    refine ⟨_, rfl, a, ns, rfl, hS, hlen, fun H1 p c P1 => ?_⟩
    refine ⟨40, rfl, by decide, by decide, for_range (lo := 0) (n := 40) (fun i σ' H' => ∃ (y2 y3 y4 y5 y6 : Option V) (n : Int), σ' = [some (.ref a), some (.ref p), y2, y3, y4, y5, y6] ∧ Pen H' p c ns n ∧ n ≤ 40 * i)
      ⟨none, none, none, none, none, 0, rfl, P1, by omega⟩ ?_ ?_⟩
    · rintro i _ H2 hi ⟨y2, y3, y4, y5, y6, n, rfl, P2, hn⟩
      refine ⟨_, rfl, p, c, ns, n, rfl, P2, by omega, fun H3 x n3 k3 P3 n3a n3b => ?_⟩
      -- rest
      refine ⟨_, rfl, _, rfl, _, _, rfl, rfl, ⟨by decide, by decide⟩, _, _, rfl, rfl, .inr ⟨by decide, by decide⟩, _, _, rfl, rfl, ?_⟩
      -- due
      refine ⟨_, rfl, _, rfl, _, _, rfl, rfl, (show 2 ≤ sizeLine by decide), fun l hl => ?_⟩
      have hd : atI [V.int (x - x / 65536 * 65536), V.int (x - x / 65536 * 65536 - 65536)] (if decide (32767 < x - x / 65536 * 65536) = true then 1 else 0) = some (.int ((x + 32768) % 65536 - 32768)) := by
        by_cases h : 32767 < x - x / 65536 * 65536
        · rw [if_pos (decide_eq_true h)]
          show some (V.int (x - x / 65536 * 65536 - 65536)) = _
          rw [show x - x / 65536 * 65536 - 65536 = (x + 32768) % 65536 - 32768 by omega]
        · rw [if_neg (by rw [decide_eq_true_eq]; exact h)]
          show some (V.int (x - x / 65536 * 65536)) = _
          rw [show x - x / 65536 * 65536 = (x + 32768) % 65536 - 32768 by omega]
      refine ⟨_, rfl, _, _, rfl, rfl, .inr ⟨_, rfl, _, _, _, _, rfl, rfl, SqL.of upd_same, hd, ?_⟩⟩
      have P4 := P3.new (o := .lst [V.int (x - x / 65536 * 65536), V.int (x - x / 65536 * 65536 - 65536)]) hl
      generalize hz : ((x + 32768) % 65536 - 32768 : Int) = z
      have hzl : z.natAbs.log2 < 1920 := few (by show _ < 1048576; omega)
      -- found
      refine ⟨_, rfl, _, rfl, ?_⟩
      rw [hz]
      refine ⟨_, rfl, _, rfl, hzl, _, rfl, _, rfl, hzl, rfl, _, rfl, iteNS rfl ?_⟩
      refine ⟨_, rfl, _, rfl, _, rfl, rfl, _, rfl, iteNS (by rw [V.int.injEq]; omega) ?_⟩
      refine ⟨_, rfl, rfl, rfl, _, rfl, _, rfl, rfl, _, rfl, iteNS (by rw [V.int.injEq]; omega) ?_⟩
      refine ⟨_, rfl, _, _, rfl, rfl, _, rfl, _, rfl, rfl, _, rfl, iteNS (by rw [V.int.injEq]; omega) ?_⟩
      refine ⟨_, rfl, _, _, rfl, rfl, _, rfl, _, rfl, rfl, _, rfl, iteNS (by rw [V.int.injEq]; omega) ?_⟩
      exact ⟨_, _, _, _, _, n3, rfl, P4, by omega⟩
    · rintro _ H2 ⟨y2, y3, y4, y5, y6, n, rfl, P2, hn⟩
      exact q _
end
set_option maxHeartbeats 4000000 in
theorem all_mk {l : PySem.W.OpenLaw} {w : World} {K : PySem.W.Frag} {h : Heap} {mg : Str → Option Value} {fa : Addr} (X : K.In h) (G : h.Ns mainGlobals mg) (hfa : mg "law" = some (.ref fa))
    {od0 an0 od1 an1 od2 an2 od3 an3 od4 an4 : Option Addr} {sl0 sl1 sl2 sl3 sl4 : Array (Option Value)} {oc0 kV0 dc0 pm0 cd0 ct0 oc1 kV1 dc1 pm1 cd1 ct1 oc2 kV2 dc2 pm2 cd2 ct2 oc3 kV3 dc3 pm3 cd3 ct3 oc4 kV4 dc4 pm4 cd4 ct4 : Value} {a0 a1 a2 a3 a4 : Addr}
    (e0 : PySem.W.nsIn K mainGlobals "brought" = some (some (.ref a0)))
    (l0 : K.lookup a0 = some ⟨oc0, od0, .func (PySem.W.fnOf "brought" "brought" (defArgs s_brought) (defBody s_brought) (defScope s_brought) .none kV0 dc0 pm0 an0 cd0 ct0), sl0⟩)
    (c0 : PySem.W.codeIn K cd0 "brought" = true) (k0 : PySem.W.keepIn K (.ref a0) = true)
    (e1 : PySem.W.nsIn K mainGlobals "_law_feed" = some (some (.ref a1)))
    (l1 : K.lookup a1 = some ⟨oc1, od1, .func (PySem.W.fnOf "_law_feed" "_law_feed" (defArgs s_lfeed) (defBody s_lfeed) (defScope s_lfeed) .none kV1 dc1 pm1 an1 cd1 ct1), sl1⟩)
    (c1 : PySem.W.codeIn K cd1 "_law_feed" = true) (k1 : PySem.W.keepIn K (.ref a1) = true)
    (e2 : PySem.W.nsIn K mainGlobals "_law_draw" = some (some (.ref a2)))
    (l2 : K.lookup a2 = some ⟨oc2, od2, .func (PySem.W.fnOf "_law_draw" "_law_draw" (defArgs s_ldraw) (defBody s_ldraw) (defScope s_ldraw) .none kV2 dc2 pm2 an2 cd2 ct2), sl2⟩)
    (c2 : PySem.W.codeIn K cd2 "_law_draw" = true) (k2 : PySem.W.keepIn K (.ref a2) = true)
    (e3 : PySem.W.nsIn K mainGlobals "_law_number" = some (some (.ref a3)))
    (l3 : K.lookup a3 = some ⟨oc3, od3, .func (PySem.W.fnOf "_law_number" "_law_number" (defArgs s_lnumber) (defBody s_lnumber) (defScope s_lnumber) .none kV3 dc3 pm3 an3 cd3 ct3), sl3⟩)
    (c3 : PySem.W.codeIn K cd3 "_law_number" = true) (k3 : PySem.W.keepIn K (.ref a3) = true)
    (e4 : PySem.W.nsIn K mainGlobals "law" = some (some (.ref a4)))
    (l4 : K.lookup a4 = some ⟨oc4, od4, .func (PySem.W.fnOf "law" "law" (defArgs s_law) (defBody s_law) (defScope s_law) .none kV4 dc4 pm4 an4 cd4 ct4), sl4⟩)
    (c4 : PySem.W.codeIn K cd4 "law" = true) (k4 : PySem.W.keepIn K (.ref a4) = true)
    (z_int : PySem.W.nsIn K mainGlobals "int" = some none)
    (z_len : PySem.W.nsIn K mainGlobals "len" = some none)
    (z_list : PySem.W.nsIn K mainGlobals "list" = some none)
    (z_range : PySem.W.nsIn K mainGlobals "range" = some none)
    (z_repr : PySem.W.nsIn K mainGlobals "repr" = some none)
    : ∃ fd : FuncData, (∀ (s : Shared) (v : Value), BindsTo s fd ⟨[v], []⟩ [("_law_script", v)]) ∧ ∀ base : Heap, K.In base → base.Ns mainGlobals mg → FnOk l.prog w K mg base CX0 3 fa fd ["_law_script"] (sp_law K) := by
  have e := hfa.symm.trans (PySem.W.mg_of X G e4)
  cases e
  have F0 := fun_mk (st := s_brought) l0 c0 k0
  have b0 := F0.binds (ps := ["n"]) fun _ _ _ _ _ _ us hl => match us, hl with | [_], _ => rfl
  have F1 := fun_mk (st := s_lfeed) l1 c1 k1
  have b1 := F1.binds (ps := ["_law_script"]) fun _ _ _ _ _ _ us hl => match us, hl with | [_], _ => rfl
  have F2 := fun_mk (st := s_ldraw) l2 c2 k2
  have b2 := F2.binds (ps := ["_law_feed_here", "_law_many"]) fun _ _ _ _ _ _ us hl => match us, hl with | [_, _], _ => rfl
  have F3 := fun_mk (st := s_lnumber) l3 c3 k3
  have b3 := F3.binds (ps := ["_law_feed_here"]) fun _ _ _ _ _ _ us hl => match us, hl with | [_], _ => rfl
  have F4 := fun_mk (st := s_law) l4 c4 k4
  have b4 := F4.binds (ps := ["_law_script"]) fun _ _ _ _ _ _ us hl => match us, hl with | [_], _ => rfl
  let f : Nat → Addr := fun i => match i with | 0 => a0 | 1 => a1 | 2 => a2 | 3 => a3 | 4 => fa | _ => a0
  let fd : Nat → FuncData := fun i => match i with | 0 => PySem.W.fnOf "brought" "brought" (defArgs s_brought) (defBody s_brought) (defScope s_brought) .none kV0 dc0 pm0 an0 cd0 ct0 | 1 => PySem.W.fnOf "_law_feed" "_law_feed" (defArgs s_lfeed) (defBody s_lfeed) (defScope s_lfeed) .none kV1 dc1 pm1 an1 cd1 ct1 | 2 => PySem.W.fnOf "_law_draw" "_law_draw" (defArgs s_ldraw) (defBody s_ldraw) (defScope s_ldraw) .none kV2 dc2 pm2 an2 cd2 ct2 | 3 => PySem.W.fnOf "_law_number" "_law_number" (defArgs s_lnumber) (defBody s_lnumber) (defScope s_lnumber) .none kV3 dc3 pm3 an3 cd3 ct3 | 4 => PySem.W.fnOf "law" "law" (defArgs s_law) (defBody s_law) (defScope s_law) .none kV4 dc4 pm4 an4 cd4 ct4 | _ => PySem.W.fnOf "brought" "brought" (defArgs s_brought) (defBody s_brought) (defScope s_brought) .none kV0 dc0 pm0 an0 cd0 ct0
  have T : Txt K mg f fd := ⟨F0, PySem.W.mg_of X G e0, b0, F1, PySem.W.mg_of X G e1, b1, F2, PySem.W.mg_of X G e2, b2, F3, PySem.W.mg_of X G e3, b3, F4, PySem.W.mg_of X G e4, b4, PySem.W.mg_none_of X G z_int, PySem.W.mg_none_of X G z_len, PySem.W.mg_none_of X G z_list, PySem.W.mg_none_of X G z_range, PySem.W.mg_none_of X G z_repr⟩
  exact ⟨fd 4, fun s v => .of_eq rfl, fun base _ _ => ok_law T⟩
end Kw
open PySem PySem.W PyProof.Rows
set_option maxRecDepth 100000 in
set_option maxHeartbeats 0 in
theorem PySem.Challenge.cw_replaytravel_k01_worths_brought_holds : PySem.Challenge.rw_replaytravel_k01_worths_brought.Holds := by
  w_on; o_law; k_head; (case hw => w_witness2)
  k_fill
  refine L2.walk_of (l := PySem.Challenge.rw_replaytravel_k01_worths_brought) (n := 63) (k := 3) (x := "_law_script") (CX := fun _ => L2.CX0) (sp := fun w => Kw.sp_law _) rfl (by decide) rfl ⟨rfl, by decide, by decide⟩ (fun w h Y => PySem.W.kIn_of Y) ?F (fun _ _ a ns hl _ hS => ⟨a, ns, rfl, hS, hl, fun _ => rfl⟩) (fun _ _ _ _ _ h => h)
  case F =>
    intro w mg fa h KX G hmg
    refine' Kw.all_mk KX G hmg ?e0 ?l0 ?c0 ?k0 ?e1 ?l1 ?c1 ?k1 ?e2 ?l2 ?c2 ?k2 ?e3 ?l3 ?c3 ?k3 ?e4 ?l4 ?c4 ?k4 ?z_int ?z_len ?z_list ?z_range ?z_repr
    (case e0 => k_is)
    (case l0 => k_is)
    (case c0 => k_is)
    (case k0 => k_is)
    (case e1 => k_is)
    (case l1 => k_is)
    (case c1 => k_is)
    (case k1 => k_is)
    (case e2 => k_is)
    (case l2 => k_is)
    (case c2 => k_is)
    (case k2 => k_is)
    (case e3 => k_is)
    (case l3 => k_is)
    (case c3 => k_is)
    (case k3 => k_is)
    (case e4 => k_is)
    (case l4 => k_is)
    (case c4 => k_is)
    (case k4 => k_is)
    (case z_int => k_is)
    (case z_len => k_is)
    (case z_list => k_is)
    (case z_range => k_is)
    (case z_repr => k_is)
