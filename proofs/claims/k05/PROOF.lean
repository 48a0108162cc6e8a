import PyProof.Rows.All
import Wide.All
import OpenK.AllK
import Wide.FinOn
import HandS.ForMost
import HandS.RaiseMore
import HandS.Defaults
import HandS.Wide
import HandS.Codes
import HandS.More
import HandS.Style
import HandS.CallLocal
import HandS.DictComp
import HandS.TupAny
import HandS.IsInst
import KE.KBits
import KE.BitLaws
import PySem.Challenge.RW_replaytravel_k05_expressions_reckoned
set_option Elab.async false
set_option maxRecDepth 100000
set_option maxHeartbeats 4000000
namespace Kw
open PySem L2
/-! The text by places. -/
def top (i : Nat) : Stmt := PySem.Challenge.pw_replaytravel_k05_expressions_reckoned.main.body.getD i (.Pass ⟨0, 0, 0, 0⟩)
abbrev s_brought : Stmt := top 1
abbrev N_brought : List Str := ["n"]
theorem sc_brought : FnScope N_brought ["n"] (defScope s_brought) := ⟨rfl, rfl, rfl, by decide +kernel, rfl, by decide +kernel, by decide +kernel⟩
abbrev s_plus : Stmt := top 2
abbrev N_plus : List Str := ["one", "other"]
theorem sc_plus : FnScope N_plus ["one", "other"] (defScope s_plus) := ⟨rfl, rfl, rfl, by decide +kernel, rfl, by decide +kernel, by decide +kernel⟩
abbrev s_minus : Stmt := top 3
abbrev N_minus : List Str := ["one", "other"]
theorem sc_minus : FnScope N_minus ["one", "other"] (defScope s_minus) := ⟨rfl, rfl, rfl, by decide +kernel, rfl, by decide +kernel, by decide +kernel⟩
abbrev s_times : Stmt := top 4
abbrev N_times : List Str := ["one", "other"]
theorem sc_times : FnScope N_times ["one", "other"] (defScope s_times) := ⟨rfl, rfl, rfl, by decide +kernel, rfl, by decide +kernel, by decide +kernel⟩
abbrev s_quotient : Stmt := top 5
abbrev N_quotient : List Str := ["one", "other"]
theorem sc_quotient : FnScope N_quotient ["one", "other"] (defScope s_quotient) := ⟨rfl, rfl, rfl, by decide +kernel, rfl, by decide +kernel, by decide +kernel⟩
abbrev s_rest : Stmt := top 6
abbrev N_rest : List Str := ["one", "other"]
theorem sc_rest : FnScope N_rest ["one", "other"] (defScope s_rest) := ⟨rfl, rfl, rfl, by decide +kernel, rfl, by decide +kernel, by decide +kernel⟩
abbrev s_isless : Stmt := top 7
abbrev N_isless : List Str := ["one", "other"]
theorem sc_isless : FnScope N_isless ["one", "other"] (defScope s_isless) := ⟨rfl, rfl, rfl, by decide +kernel, rfl, by decide +kernel, by decide +kernel⟩
abbrev s_issame : Stmt := top 8
abbrev N_issame : List Str := ["one", "other"]
theorem sc_issame : FnScope N_issame ["one", "other"] (defScope s_issame) := ⟨rfl, rfl, rfl, by decide +kernel, rfl, by decide +kernel, by decide +kernel⟩
abbrev s_bitsofboth : Stmt := top 9
abbrev N_bitsofboth : List Str := ["one", "other"]
theorem sc_bitsofboth : FnScope N_bitsofboth ["one", "other"] (defScope s_bitsofboth) := ⟨rfl, rfl, rfl, by decide +kernel, rfl, by decide +kernel, by decide +kernel⟩
abbrev s_bitsofone : Stmt := top 10
abbrev N_bitsofone : List Str := ["one", "other"]
theorem sc_bitsofone : FnScope N_bitsofone ["one", "other"] (defScope s_bitsofone) := ⟨rfl, rfl, rfl, by decide +kernel, rfl, by decide +kernel, by decide +kernel⟩
abbrev s_toldby : Stmt := top 12
abbrev N_toldby : List Str := ["sign", "one", "other", "action"]
theorem sc_toldby : FnScope N_toldby ["sign", "one", "other"] (defScope s_toldby) := ⟨rfl, rfl, rfl, by decide +kernel, rfl, by decide +kernel, by decide +kernel⟩
abbrev s_issign : Stmt := top 14
abbrev N_issign : List Str := ["thing"]
theorem sc_issign : FnScope N_issign ["thing"] (defScope s_issign) := ⟨rfl, rfl, rfl, by decide +kernel, rfl, by decide +kernel, by decide +kernel⟩
abbrev s_reckoned : Stmt := top 15
abbrev N_reckoned : List Str := ["e", "registers", "pile", "item", "other", "one"]
theorem sc_reckoned : FnScope N_reckoned ["e", "registers"] (defScope s_reckoned) := ⟨rfl, rfl, rfl, by decide +kernel, rfl, by decide +kernel, by decide +kernel⟩
abbrev s_lfeed : Stmt := top 17
abbrev N_lfeed : List Str := ["_law_script"]
theorem sc_lfeed : FnScope N_lfeed ["_law_script"] (defScope s_lfeed) := ⟨rfl, rfl, rfl, by decide +kernel, rfl, by decide +kernel, by decide +kernel⟩
abbrev s_ldraw : Stmt := top 18
abbrev N_ldraw : List Str := ["_law_feed_here", "_law_many", "_law_got", "_law_at", "_law_cell", "_law_number"]
theorem sc_ldraw : FnScope N_ldraw ["_law_feed_here", "_law_many"] (defScope s_ldraw) := ⟨rfl, rfl, rfl, by decide +kernel, rfl, by decide +kernel, by decide +kernel⟩
abbrev s_lworth : Stmt := top 19
abbrev N_lworth : List Str := ["_law_feed_here", "_law_way"]
theorem sc_lworth : FnScope N_lworth ["_law_feed_here"] (defScope s_lworth) := ⟨rfl, rfl, rfl, by decide +kernel, rfl, by decide +kernel, by decide +kernel⟩
abbrev s_lregister : Stmt := top 20
abbrev N_lregister : List Str := ["_law_feed_here"]
theorem sc_lregister : FnScope N_lregister ["_law_feed_here"] (defScope s_lregister) := ⟨rfl, rfl, rfl, by decide +kernel, rfl, by decide +kernel, by decide +kernel⟩
abbrev s_litem : Stmt := top 21
abbrev N_litem : List Str := ["_law_feed_here"]
theorem sc_litem : FnScope N_litem ["_law_feed_here"] (defScope s_litem) := ⟨rfl, rfl, rfl, by decide +kernel, rfl, by decide +kernel, by decide +kernel⟩
abbrev s_lexpression : Stmt := top 22
abbrev N_lexpression : List Str := ["_law_feed_here", "_law_most", "_law_signs", "_law_items", "_law_high", "_law_left", "_law_k"]
theorem sc_lexpression : FnScope N_lexpression ["_law_feed_here", "_law_most"] (defScope s_lexpression) := ⟨rfl, rfl, rfl, by decide +kernel, rfl, by decide +kernel, by decide +kernel⟩
abbrev s_ltells : Stmt := top 23
abbrev N_ltells : List Str := ["_law_mark", "_law_a", "_law_b", "_law_quotient", "_law_rest", "_law_found", "_law_place", "_law_k", "_law_c", "_law_d"]
theorem sc_ltells : FnScope N_ltells ["_law_mark", "_law_a", "_law_b"] (defScope s_ltells) := ⟨rfl, rfl, rfl, by decide +kernel, rfl, by decide +kernel, by decide +kernel⟩
abbrev s_lreck : Stmt := top 24
abbrev N_lreck : List Str := ["_law_items", "_law_held", "_law_pile", "_law_item_here"]
theorem sc_lreck : FnScope N_lreck ["_law_items", "_law_held"] (defScope s_lreck) := ⟨rfl, rfl, rfl, by decide +kernel, rfl, by decide +kernel, by decide +kernel⟩
abbrev s_lregs : Stmt := top 25
abbrev N_lregs : List Str := ["_law_feed_here", "_law_found", "_law_k"]
theorem sc_lregs : FnScope N_lregs ["_law_feed_here"] (defScope s_lregs) := ⟨rfl, rfl, rfl, by decide +kernel, rfl, by decide +kernel, by decide +kernel⟩
abbrev s_law : Stmt := top 26
abbrev N_law : List Str := ["_law_script", "_law_feed_here", "_law_k", "_law_items", "_law_at", "_law_other", "_law_some", "_law_more", "_law_one", "_law_held", "_law_handed", "_law_due"]
theorem sc_law : FnScope N_law ["_law_script"] (defScope s_law) := ⟨rfl, rfl, rfl, by decide +kernel, rfl, by decide +kernel, by decide +kernel⟩
structure Txt (K : PySem.W.Frag) (w : World) (mg : Str → Option Value) (f : Nat → Addr) (fd : Nat → FuncData) (ob : Nat → Addr) : Prop where
  F_brought : Fun K "brought" "brought" s_brought (f 0) (fd 0)
  m_brought : mg "brought" = some (.ref (f 0))
  b_brought : Binds K (fd 0) ["n"] []
  F_plus : Fun K "plus" "plus" s_plus (f 1) (fd 1)
  m_plus : mg "plus" = some (.ref (f 1))
  b_plus : Binds K (fd 1) ["one", "other"] []
  F_minus : Fun K "minus" "minus" s_minus (f 2) (fd 2)
  m_minus : mg "minus" = some (.ref (f 2))
  b_minus : Binds K (fd 2) ["one", "other"] []
  F_times : Fun K "times" "times" s_times (f 3) (fd 3)
  m_times : mg "times" = some (.ref (f 3))
  b_times : Binds K (fd 3) ["one", "other"] []
  F_quotient : Fun K "quotient" "quotient" s_quotient (f 4) (fd 4)
  m_quotient : mg "quotient" = some (.ref (f 4))
  b_quotient : Binds K (fd 4) ["one", "other"] []
  F_rest : Fun K "rest" "rest" s_rest (f 5) (fd 5)
  m_rest : mg "rest" = some (.ref (f 5))
  b_rest : Binds K (fd 5) ["one", "other"] []
  F_isless : Fun K "is_less" "is_less" s_isless (f 6) (fd 6)
  m_isless : mg "is_less" = some (.ref (f 6))
  b_isless : Binds K (fd 6) ["one", "other"] []
  F_issame : Fun K "is_same" "is_same" s_issame (f 7) (fd 7)
  m_issame : mg "is_same" = some (.ref (f 7))
  b_issame : Binds K (fd 7) ["one", "other"] []
  F_bitsofboth : Fun K "bits_of_both" "bits_of_both" s_bitsofboth (f 8) (fd 8)
  m_bitsofboth : mg "bits_of_both" = some (.ref (f 8))
  b_bitsofboth : Binds K (fd 8) ["one", "other"] []
  F_bitsofone : Fun K "bits_of_one" "bits_of_one" s_bitsofone (f 9) (fd 9)
  m_bitsofone : mg "bits_of_one" = some (.ref (f 9))
  b_bitsofone : Binds K (fd 9) ["one", "other"] []
  F_toldby : Fun K "told_by" "told_by" s_toldby (f 10) (fd 10)
  m_toldby : mg "told_by" = some (.ref (f 10))
  b_toldby : Binds K (fd 10) ["sign", "one", "other"] []
  F_issign : Fun K "is_sign" "is_sign" s_issign (f 11) (fd 11)
  m_issign : mg "is_sign" = some (.ref (f 11))
  b_issign : Binds K (fd 11) ["thing"] []
  F_reckoned : Fun K "reckoned" "reckoned" s_reckoned (f 12) (fd 12)
  m_reckoned : mg "reckoned" = some (.ref (f 12))
  b_reckoned : Binds K (fd 12) ["e", "registers"] []
  F_lfeed : Fun K "_law_feed" "_law_feed" s_lfeed (f 13) (fd 13)
  m_lfeed : mg "_law_feed" = some (.ref (f 13))
  b_lfeed : Binds K (fd 13) ["_law_script"] []
  F_ldraw : Fun K "_law_draw" "_law_draw" s_ldraw (f 14) (fd 14)
  m_ldraw : mg "_law_draw" = some (.ref (f 14))
  b_ldraw : Binds K (fd 14) ["_law_feed_here", "_law_many"] []
  F_lworth : Fun K "_law_worth" "_law_worth" s_lworth (f 15) (fd 15)
  m_lworth : mg "_law_worth" = some (.ref (f 15))
  b_lworth : Binds K (fd 15) ["_law_feed_here"] []
  F_lregister : Fun K "_law_register" "_law_register" s_lregister (f 16) (fd 16)
  m_lregister : mg "_law_register" = some (.ref (f 16))
  b_lregister : Binds K (fd 16) ["_law_feed_here"] []
  F_litem : Fun K "_law_item" "_law_item" s_litem (f 17) (fd 17)
  m_litem : mg "_law_item" = some (.ref (f 17))
  b_litem : Binds K (fd 17) ["_law_feed_here"] []
  F_lexpression : Fun K "_law_expression" "_law_expression" s_lexpression (f 18) (fd 18)
  m_lexpression : mg "_law_expression" = some (.ref (f 18))
  b_lexpression : Binds K (fd 18) ["_law_feed_here", "_law_most"] []
  F_ltells : Fun K "_law_tells" "_law_tells" s_ltells (f 19) (fd 19)
  m_ltells : mg "_law_tells" = some (.ref (f 19))
  b_ltells : Binds K (fd 19) ["_law_mark", "_law_a", "_law_b"] []
  F_lreck : Fun K "_law_reckoned" "_law_reckoned" s_lreck (f 20) (fd 20)
  m_lreck : mg "_law_reckoned" = some (.ref (f 20))
  b_lreck : Binds K (fd 20) ["_law_items", "_law_held"] []
  F_lregs : Fun K "_law_registers" "_law_registers" s_lregs (f 21) (fd 21)
  m_lregs : mg "_law_registers" = some (.ref (f 21))
  b_lregs : Binds K (fd 21) ["_law_feed_here"] []
  F_law : Fun K "law" "law" s_law (f 22) (fd 22)
  m_law : mg "law" = some (.ref (f 22))
  b_law : Binds K (fd 22) ["_law_script"] []
  m_SIGNS : mg "SIGNS" = some (.ref (ob 0))
  t_SIGNS_0 : KDct K w (ob 0) "+" (.ref (f 1))
  t_SIGNS_1 : KDct K w (ob 0) "-" (.ref (f 2))
  t_SIGNS_2 : KDct K w (ob 0) "*" (.ref (f 3))
  t_SIGNS_3 : KDct K w (ob 0) "/" (.ref (f 4))
  t_SIGNS_4 : KDct K w (ob 0) "#" (.ref (f 5))
  t_SIGNS_5 : KDct K w (ob 0) "<" (.ref (f 6))
  t_SIGNS_6 : KDct K w (ob 0) "=" (.ref (f 7))
  t_SIGNS_7 : KDct K w (ob 0) "&" (.ref (f 8))
  t_SIGNS_8 : KDct K w (ob 0) "^" (.ref (f 9))
  d_SIGNS : ∃ es n, KDict K w (ob 0) es n
  n_SIGNS : ∀ z : Str, z ∉ (["+", "-", "*", "/", "#", "<", "=", "&", "^"] : List Str) → PySem.W.nsIn K (ob 0) z = some none
  z_dict : mg "dict" = none
  z_int : mg "int" = none
  z_isinstance : mg "isinstance" = none
  z_len : mg "len" = none
  z_list : mg "list" = none
  z_range : mg "range" = none
  z_repr : mg "repr" = none
  z_str : mg "str" = none
  z_tuple : mg "tuple" = none
/-! Frames: all that was tracked but p stands as it stood. -/
def Kp (p : Addr) (H H' : Hp) : Prop := ∀ b o, b ≠ p → H b = some o → H' b = some o
theorem Kp.refl (p : Addr) (H : Hp) : Kp p H H := fun _ _ _ h => h
theorem Kp.trans {p : Addr} {H H1 H2 : Hp} (a : Kp p H H1) (b : Kp p H1 H2) : Kp p H H2 := fun x o n h => b x o n (a x o n h)
theorem Kp.upd {p : Addr} {H : Hp} (o : HO) : Kp p H (upd H p o) := fun b u n h => by
  rw [upd_ne n]
  exact h
theorem Kp.new {p q : Addr} {H : Hp} {o : HO} (h : H q = none) : Kp p H (L2.upd H q o) := fun b u _ e => by
  rw [upd_ne (ne_of_none e h)]
  exact e
theorem Kp.mut {p q : Addr} {H H' : Hp} {o : HO} (k : Kp p H H') (h : H q = none) : Kp p H (L2.upd H' q o) := fun b u n e => by
  rw [upd_ne (ne_of_none e h)]
  exact k b u n e
theorem Same.kp {p : Addr} {H H' : Hp} (s : Same H H') : Kp p H H' := fun b o _ h => s b o h
theorem Same.new {q : Addr} {H : Hp} {o : HO} (h : H q = none) : Same H (L2.upd H q o) := fun b u e => by
  rw [upd_ne (ne_of_none e h)]
  exact e
theorem Same.mut {q : Addr} {H H' : Hp} {o : HO} (k : Same H H') (h : H q = none) : Same H (L2.upd H' q o) := fun b u e => by
  rw [upd_ne (ne_of_none e h)]
  exact k b u e
/-- free behind a frame is free ahead of it, but for p -/
theorem Kp.free {p q : Addr} {H H' : Hp} (k : Kp p H H') (hq : q ≠ p) (h : H' q = none) : H q = none := by
  cases e : H q with
  | none => rfl
  | some o =>
    rw [k q o hq e] at h
    cases h
/-! What holds of the feed: a list of the cells, how many were begun, what is left. -/
def Pen (H : Hp) (p c : Addr) (ns : List Int) (n : Int) : Prop :=
  ∃ r : Int, H p = some (.lst [.ref c, .int n, .int r]) ∧ H c = some (.lst (ns.map V.int)) ∧ 0 ≤ n ∧ 0 ≤ r
theorem Pen.ne {H : Hp} {p c : Addr} {ns : List Int} {n : Int} (h : Pen H p c ns n) : c ≠ p := by
  obtain ⟨r, h1, h2, _⟩ := h
  refine ne_of h2 h1 fun e => ?_
  cases ns with
  | nil => cases e
  | cons a l => cases e
theorem Pen.nn {H : Hp} {p c : Addr} {ns : List Int} {n : Int} (h : Pen H p c ns n) : 0 ≤ n := by
  obtain ⟨r, _, _, h, _⟩ := h
  exact h
theorem Pen.new {H : Hp} {p c q : Addr} {ns : List Int} {n : Int} {o : HO} (h : Pen H p c ns n) (hq : H q = none) : Pen (upd H q o) p c ns n := by
  obtain ⟨r, h1, h2, h3, h4⟩ := h
  exact ⟨r, (upd_ne (ne_of_none h1 hq)).trans h1, (upd_ne (ne_of_none h2 hq)).trans h2, h3, h4⟩
theorem Pen.same {H H' : Hp} {p c : Addr} {ns : List Int} {n : Int} (h : Pen H p c ns n) (s : Same H H') : Pen H' p c ns n := by
  obtain ⟨r, h1, h2, h3, h4⟩ := h
  exact ⟨r, s _ _ h1, s _ _ h2, h3, h4⟩
theorem Pen.ni {H : Hp} {p c q : Addr} {ns : List Int} {n : Int} (h : Pen H p c ns n) (hq : H q = none) : q ≠ p := by
  obtain ⟨r, h1, _⟩ := h
  exact (ne_of_none h1 hq).symm
theorem cut63 {xs : List V} (h : xs.length ≤ 63) : cutV xs none (some 63) = xs := by
  unfold cutV
  rw [HT.sIx_none, show HT.sIx xs.length xs.length (some 63) = min 63 xs.length from HT.sIx_nat xs.length xs.length 63]
  rw [show min 63 xs.length = xs.length by omega]
  simp
theorem atI_in {ns : List Int} {i : Int} (h0 : 0 ≤ i) (h1 : i < ((ns.map V.int).length : Int)) : ∃ v : Int, atI (ns.map V.int) i = some (.int v) := by
  obtain ⟨j, rfl⟩ := Int.eq_ofNat_of_zero_le h0
  have hj : j < ns.length := by
    rw [List.length_map] at h1
    omega
  refine ⟨ns[j], atI_nat ?_⟩
  rw [List.getElem?_map, List.getElem?_eq_getElem hj]
  rfl
theorem few {i : Int} (h : i.natAbs < 2 ^ 20) : i.natAbs.log2 < 1920 := Nat.lt_of_lt_of_le (PySem.Flt.log2_lt_of (by decide) h) (by decide)
/-! Lists of ints as data. -/
theorem dpInts {K : PySem.W.Frag} {H : Hp} : ∀ ns : List Int, DpAll K H (ns.map V.int) (ns.map PyData.int)
  | [] => .nil
  | n :: r => .cons (.int n) (dpInts r)
theorem dpL {K : PySem.W.Frag} {H : Hp} {a : Addr} {ns : List Int} (h : SqL K H a (ns.map V.int)) : Dp K H (.ref a) (.list (ns.map PyData.int)) := .lst h (dpInts ns)
theorem shInts (ns : List Int) : SeqAt.shaped (.list (ns.map PyData.int)) = true := by
  simp [SeqAt.shaped, PyData.canLay0, PyData.depth, PySem.W.ke_canLayAll0, PySem.W.ke_depthAll]
theorem eqvInts (ns ms : List Int) : PyData.eqv (.list (ns.map PyData.int)) (.list (ms.map PyData.int)) = decide (ns = ms) := by
  rw [PyData.eqv, PySem.W.ked_eqvAll]
/-! A call with keywords alone. -/
section
variable {X : Cx} {CX : CXT} {k : Nat} {f : Addr} {fd : FuncData} {ps ks : List Str} {sp : Sp} {E : XK} {x : Str} {p pos : Pos} {kws : List Keyword} {tk : TA} {g : List Value → List Value → List Value} {gV : List V → List V → List V}
theorem callKw0 (F : FnOk X.prog X.w X.K X.mg X.base CX k f fd ps sp) (hr : Room k X.A) (hg : Gl X x) (hm : X.mg x = some (.ref f))
    (hk : PySem.W.keepIn X.K (.ref f) = true) (hb : KBn X.K fd ps 0 ks g gV) (hx : Passes CX X E) (hkw : PK X kws tk)
    (hall : (backToKw pos (keywordEach kws X.env)).all (·.1.isSome) = true := by rfl)
    (hks : (backToKw pos (keywordEach kws X.env)).filterMap (·.1) = ks := by rfl)
    (hdb : (x == ("__debug__" : Str)) = false := by decide)
    (hpl : ((backTo pos (starEach [] X.env)).any (·.1) || (backToKw pos (keywordEach kws X.env)).any (·.1.isNone)) = false := by rfl) :
    PE X (.Call (.Name x p) [] kws pos) (tCallN 0 ks.length sp gV E tNil tk) := by
  constructor
  intro pins s σ H Q I h
  refine wpAny_Call_Name_kw (ld_glob I hg hm ?_ hdb)
  refine PySem.W.callWith_KW0 (h₀ := X.base) I.ok.mod.kin hk hall ?_ hpl
  refine thn (hkw.run pos pins s σ H _ I h) ?_
  rintro ws s2 ⟨zs, H2, I2, rz, l1, l2, q2⟩
  refine ⟨I2.kIn, ?_⟩
  rw [hks]
  exact run_fnN (us := []) (vs := []) F hr hb hx I2 .nil rz rfl l2 q2
end
/-! A written dict whose keys are these texts. -/
def Keyed : List DictEntry → List Str → Prop
  | [], [] => True
  | e :: r, k :: ks => (∃ t, e.key = .str k t) ∧ Keyed r ks
  | _, _ => False
theorem keyed_find : ∀ {l : List DictEntry} {ks : List Str} {z : Str}, Keyed l ks → z ∉ ks → l.find? (·.key.isStr z) = none ∧ l.any (·.refKey) = false
  | [], [], _, _, _ => ⟨rfl, rfl⟩
  | e :: r, k :: ks, z, h, hz => by
    obtain ⟨⟨t, et⟩, hr⟩ := h
    have hk : z ≠ k := fun q => hz (by rw [q]; exact List.mem_cons_self)
    obtain ⟨h1, h2⟩ := keyed_find hr (fun q => hz (List.mem_cons_of_mem _ q))
    have e1 : e.key.isStr z = false := by
      rw [PySem.W.isStr_of, et]
      show (k == z) = false
      exact beq_false_of_ne (fun q => hk q.symm)
    have e2 : e.refKey = false := by
      unfold DictEntry.refKey
      rw [et]
    refine ⟨?_, ?_⟩
    · rw [List.find?_cons, e1]
      exact h1
    · rw [List.any_cons, e2, h2]
      rfl
theorem keyed_none {K : PySem.W.Frag} {a : Addr} {c : Value} {d : Option Addr} {es : Array DictEntry} {n : Nat} {sl : Array (Option Value)} {ks : List Str} {z : Str} (l : K.lookup a = some ⟨c, d, .dict es n, sl⟩) (h : Keyed es.toList ks) (hz : z ∉ ks) :
    PySem.W.nsIn K a z = some none := by
  obtain ⟨h1, h2⟩ := keyed_find h hz
  unfold PySem.W.nsIn
  rw [l]
  show (match es.toList.find? (·.key.isStr z) with
      | some e => some (some e.val)
      | none => if es.toList.any (·.refKey) then none else some none) = some none
  rw [h1, h2]
  rfl
/-! A word between a test and what follows it; between an expression and what follows it. -/
section
variable {X : Cx}
def tM (t : TT) : TT := fun σ H Q => ∃ M : Bool → Hp → Prop, t σ H M ∧ ∀ b H', M b H' → Q b H'
theorem pt_M {e : Expr} {t : TT} (h : PT X e t) : PT X e (tM t) :=
  ⟨fun pins s σ H _ I ⟨M, hm, k⟩ => thn (h.run pins s σ H M I hm) fun b _ ⟨H1, I1, q⟩ => ⟨H1, I1, k b H1 q⟩⟩
def eM (t : TE) : TE := fun σ H Q => ∃ M : V → Hp → Prop, t σ H M ∧ ∀ v H', M v H' → Q v H'
theorem pe_M {e : Expr} {t : TE} (h : PE X e t) : PE X e (eM t) :=
  ⟨fun pins s σ H _ I ⟨M, hm, k⟩ => thn (h.run pins s σ H M I hm) fun _ _ ⟨v, H1, I1, r, q⟩ => ⟨v, H1, I1, r, k v H1 q⟩⟩
end
theorem Pen.nt {H : Hp} {p c q : Addr} {ns : List Int} {n : Int} {o : HO} (h : Pen H p c ns n) (e : H q = some o) (ho : ∀ xs, o ≠ .lst xs) : q ≠ p := by
  obtain ⟨r, h1, _⟩ := h
  exact ne_of e h1 (ho _)
theorem ex_t {K : PySem.W.Frag} {H H' : Hp} {a : Addr} {xs : List V} (e : Same H H') (h : SqT K H a xs) : SqT K H' a xs := by
  rcases h with (h | ⟨o, h⟩) | h
  · exact .inl (.inl (e _ _ h))
  · exact .inl (.inr ⟨o, e _ _ h⟩)
  · exact .inr h
/-! Worths and the nine signs. -/
def W (a : Int) : Prop := -32768 ≤ a ∧ a ≤ 32767
def br (n : Int) : Int := (n + 32768) % 65536 - 32768
theorem br_W (n : Int) : W (br n) := by
  unfold W br
  omega
theorem br_id {a : Int} (h : W a) : br a = a := by
  unfold W at h
  unfold br
  omega
def sg (i : Nat) (a b : Int) : Int := match i with
  | 0 => a + b
  | 1 => a - b
  | 2 => a * b
  | 3 => if b = 0 then 0 else a.fdiv b
  | 4 => if b = 0 then 0 else a - b * a.fdiv b
  | 5 => if a < b then 1 else 0
  | 6 => if a = b then 1 else 0
  | 7 => Builtin.bitAnd a b
  | _ => Builtin.bitXor a b
def nm (i : Nat) : Str := match i with
  | 0 => "+"
  | 1 => "-"
  | 2 => "*"
  | 3 => "/"
  | 4 => "#"
  | 5 => "<"
  | 6 => "="
  | 7 => "&"
  | _ => "^"
theorem few_W {a : Int} (h : W a) : a.natAbs.log2 < 1920 := few (by unfold W at h; show _ < 1048576; omega)
/-! The law's own signs. -/
theorem iteB0 {c : Bool} {A B : Prop} (h : c = false) (hB : B) : if c = true then A else B := by
  rw [h]
  exact iteF hB
theorem iteB1 {c : Bool} {A B : Prop} (h : c = true) (hA : A) : if c = true then A else B := by
  rw [h]
  exact iteT hA
theorem in_qr : ∀ i, i < 9 → inV (.str (nm i)) [.str "/", .str "#"] = decide (i = 3 ∨ i = 4) := by decide +kernel
theorem in_ax : ∀ i, i < 9 → inV (.str (nm i)) [.str "&", .str "^"] = decide (i = 7 ∨ i = 8) := by decide +kernel
theorem is_r : ∀ i, i < 9 → decide (V.str (nm i) = V.str "#") = decide (i = 4) := by decide +kernel
theorem is_x : ∀ i, i < 9 → decide (V.str (nm i) = V.str "^") = decide (i = 8) := by decide +kernel
theorem fdiv_own {a b : Int} (h : b ≠ 0) : (a - a.fmod b).fdiv b = a.fdiv b := by
  have e : a - a.fmod b = b * a.fdiv b := by
    have := Int.fmod_add_mul_fdiv a b
    omega
  rw [e, Int.mul_fdiv_cancel_left _ h]
/-- what one place gives -/
def dig (i : Nat) (c d : Int) : Int := if i = 8 then (c + d) % 2 else c * d
theorem dig_step {i : Nat} (hi : i = 7 ∨ i = 8) (x y : Int) : sg i x y = dig i (x % 2) (y % 2) + 2 * sg i (x / 2) (y / 2) := by
  have h := PySem.W.kbt_halves x y
  have hx : x % 2 = 0 ∨ x % 2 = 1 := by omega
  have hy : y % 2 = 0 ∨ y % 2 = 1 := by omega
  rcases hi with rfl | rfl
  · show Builtin.bitAnd x y = (if 7 = 8 then (x % 2 + y % 2) % 2 else x % 2 * (y % 2)) + 2 * Builtin.bitAnd (x / 2) (y / 2)
    rw [if_neg (by decide), h]
    rcases hx with e | e <;> rcases hy with g | g <;> rw [e, g] <;> simp <;> omega
  · show Builtin.bitXor x y = (if 8 = 8 then (x % 2 + y % 2) % 2 else x % 2 * (y % 2)) + 2 * Builtin.bitXor (x / 2) (y / 2)
    rw [if_pos rfl, PyProof.Rows.bitXor_and, PyProof.Rows.bitXor_and, h]
    rcases hx with e | e <;> rcases hy with g | g <;> rw [e, g] <;> simp <;> omega
theorem pow_16 : ∀ k, k < 16 → 0 < (2 : Int) ^ k ∧ (2 : Int) ^ k ≤ 32768 := by decide +kernel
theorem dig_turn {i : Nat} (hi : i = 7 ∨ i = 8) {a b f : Int} {k : Nat} (h : sg i a b = f + 2 ^ k * sg i (a / 2 ^ k) (b / 2 ^ k)) :
    sg i a b = (f + 2 ^ k * dig i (a / 2 ^ k % 2) (b / 2 ^ k % 2)) + 2 ^ (k + 1) * sg i (a / 2 ^ (k + 1)) (b / 2 ^ (k + 1)) := by
  have e1 : a / 2 ^ (k + 1) = a / 2 ^ k / 2 := by
    rw [Int.pow_succ, Int.ediv_ediv_of_nonneg (Int.le_of_lt (Int.pow_pos (by decide)))]
  have e2 : b / 2 ^ (k + 1) = b / 2 ^ k / 2 := by
    rw [Int.pow_succ, Int.ediv_ediv_of_nonneg (Int.le_of_lt (Int.pow_pos (by decide)))]
  rw [e1, e2, h, dig_step hi (a / 2 ^ k) (b / 2 ^ k), Int.pow_succ, Int.mul_add, Int.mul_assoc]
  omega
theorem dig_end {i : Nat} {a b f : Int} (h : sg i a b = f + 2 ^ 16 * sg i (a / 2 ^ 16) (b / 2 ^ 16)) : br f = br (sg i a b) := by
  rw [h]
  unfold br
  have e : (2 : Int) ^ 16 = 65536 := by decide
  rw [e]
  omega
theorem dget5 (v0 v1 v2 v3 v4 : V) : ∀ i, i < 9 → ¬ (i = 3 ∨ i = 4) → ¬ (i = 7 ∨ i = 8) →
    valV (mergeK [] [(.inr "+", v0), (.inr "-", v1), (.inr "*", v2), (.inr "<", v3), (.inr "=", v4)]) (.inr (nm i)) = some (match i with | 0 => v0 | 1 => v1 | 2 => v2 | 5 => v3 | _ => v4)
  | 0, _, _, _ => by kernel_rfl
  | 1, _, _, _ => by kernel_rfl
  | 2, _, _, _ => by kernel_rfl
  | 3, _, h, _ => absurd (.inl rfl) h
  | 4, _, h, _ => absurd (.inr rfl) h
  | 5, _, _, _ => by kernel_rfl
  | 6, _, _, _ => by kernel_rfl
  | 7, _, _, h => absurd (.inl rfl) h
  | 8, _, _, h => absurd (.inr rfl) h
/-! Expressions: worths, registers, signs; reckoned with a pile (the uppermost first). -/
inductive Im where
  | wo (a : Int)
  | re (k : Nat)
  | si (i : Nat)
def lt (k : Nat) : Str := ⟨#[97 + k]⟩
def Im.toV : Im → V
  | .wo a => .int a
  | .re k => .str (lt k)
  | .si i => .str (nm i)
def Im.ok : Im → Prop
  | .wo a => W a
  | .re k => k < 16
  | .si i => i < 9
def Im.sgn : Im → Bool
  | .si _ => true
  | _ => false
def step (ρ : Nat → Int) (rp : List Int) : Im → Option (List Int)
  | .wo a => some (a :: rp)
  | .re k => some (ρ k :: rp)
  | .si i => match rp with
    | y :: x :: r => some (br (sg i x y) :: r)
    | _ => none
def run (ρ : Nat → Int) : List Int → List Im → Option (List Int)
  | rp, [] => some rp
  | rp, m :: l => match step ρ rp m with
    | some rp' => run ρ rp' l
    | none => none
def ht : Nat → List Im → Option Nat
  | h, [] => some h
  | h, m :: l => if m.sgn = true then (if 2 ≤ h then ht (h - 1) l else none) else ht (h + 1) l
theorem ht_snoc : ∀ (l : List Im) (h : Nat) (m : Im), ht h (l ++ [m]) = match ht h l with
    | some g => ht g [m]
    | none => none
  | [], h, m => rfl
  | x :: l, h, m => by
    show (if x.sgn = true then (if 2 ≤ h then ht (h - 1) (l ++ [m]) else none) else ht (h + 1) (l ++ [m])) = match (if x.sgn = true then (if 2 ≤ h then ht (h - 1) l else none) else ht (h + 1) l) with
      | some g => ht g [m]
      | none => none
    rw [ht_snoc l (h - 1) m, ht_snoc l (h + 1) m]
    split
    · split <;> rfl
    · rfl
/-- what stands in the middle of one with another thing that is no sign there -/
theorem ht_other : ∀ (l r : List Im) (h : Nat) (m m' : Im), m.sgn = false → m'.sgn = false → ht h (l ++ m :: r) = ht h (l ++ m' :: r)
  | [], r, h, m, m', e, e' => by
    show (if m.sgn = true then _ else ht (h + 1) r) = (if m'.sgn = true then _ else ht (h + 1) r)
    rw [e, e']
  | x :: l, r, h, m, m', e, e' => by
    show (if x.sgn = true then (if 2 ≤ h then ht (h - 1) (l ++ m :: r) else none) else ht (h + 1) (l ++ m :: r)) = (if x.sgn = true then (if 2 ≤ h then ht (h - 1) (l ++ m' :: r) else none) else ht (h + 1) (l ++ m' :: r))
    rw [ht_other l r (h - 1) m m' e e', ht_other l r (h + 1) m m' e e']
theorem ht_run (ρ : Nat → Int) : ∀ (l : List Im) (h g : Nat) (rp : List Int), ht h l = some g → rp.length = h → ∃ rp', run ρ rp l = some rp' ∧ rp'.length = g
  | [], h, g, rp, e, el => ⟨rp, rfl, by rw [el]; exact Option.some.inj e⟩
  | .wo a :: l, h, g, rp, e, el => ht_run ρ l (h + 1) g (a :: rp) e (by rw [List.length_cons, el])
  | .re k :: l, h, g, rp, e, el => ht_run ρ l (h + 1) g (ρ k :: rp) e (by rw [List.length_cons, el])
  | .si i :: l, h, g, rp, e, el => by
    have e2 : (if 2 ≤ h then ht (h - 1) l else none) = some g := e
    by_cases hh : 2 ≤ h
    · rw [if_pos hh] at e2
      match rp, el with
      | y :: x :: r, el =>
        obtain ⟨rp', h1, h2⟩ := ht_run ρ l (h - 1) g (br (sg i x y) :: r) e2 (by
          rw [List.length_cons, List.length_cons] at el
          rw [List.length_cons]
          omega)
        exact ⟨rp', h1, h2⟩
      | [x], el =>
        rw [List.length_singleton] at el
        omega
      | [], el =>
        rw [List.length_nil] at el
        omega
    · rw [if_neg hh] at e2
      cases e2
/-- one that is right: so many on the pile at the end as one -/
structure Expr1 (l : List Im) : Prop where
  ok : ∀ m ∈ l, m.ok
  ht : ht 0 l = some 1
theorem Expr1.val {l : List Im} (h : Expr1 l) (ρ : Nat → Int) : ∃ y, run ρ [] l = some [y] := by
  obtain ⟨rp, h1, h2⟩ := ht_run ρ l 0 1 [] h.ht rfl
  match rp, h2 with
  | [y], _ => exact ⟨y, h1⟩
/-! Registers' worths, a dict. -/
def Gd (kvs : List (Key × V)) : Prop := ∀ p ∈ kvs, valV kvs p.1 = some p.2 ∧ ∃ a, p.2 = .int a ∧ W a
def rho (kvs : List (Key × V)) (k : Nat) : Int := match valV kvs (.inr (lt k)) with
  | some (.int a) => a
  | _ => 0
theorem valV_mem {kvs : List (Key × V)} {k : Key} {v : V} (h : valV kvs k = some v) : ∃ p ∈ kvs, p.2 = v := by
  unfold valV at h
  cases e : kvs.find? fun kv => decide (kv.1 = k) with
  | none =>
    rw [e] at h
    cases h
  | some p =>
    rw [e] at h
    exact ⟨p, List.mem_of_find?_eq_some e, Option.some.inj h⟩
theorem Gd.get {kvs : List (Key × V)} (h : Gd kvs) (k : Nat) : (valV kvs (.inr (lt k))).getD (.int 0) = .int (rho kvs k) ∧ W (rho kvs k) := by
  unfold rho
  cases e : valV kvs (.inr (lt k)) with
  | none => exact ⟨rfl, by unfold W; decide⟩
  | some v =>
    obtain ⟨p, hp, rfl⟩ := valV_mem e
    obtain ⟨_, a, ha, hW⟩ := h p hp
    rw [ha]
    exact ⟨rfl, hW⟩
theorem Gd.nil : Gd [] := fun p hp => by cases hp
theorem Gd.put {kvs : List (Key × V)} (h : Gd kvs) (k : Key) {a : Int} (ha : W a) : Gd (putK kvs k (.int a)) := by
  have key : ∀ p ∈ putK kvs k (.int a), (p.1 = k ∧ p.2 = .int a) ∨ (p.1 ≠ k ∧ p ∈ kvs) := by
    intro p hp
    unfold putK at hp
    by_cases e : (kvs.any fun kv => decide (kv.1 = k)) = true
    · rw [if_pos e] at hp
      obtain ⟨q, hq, eq⟩ := List.mem_map.mp hp
      by_cases g : q.1 = k
      · rw [if_pos g] at eq
        subst eq
        exact .inl ⟨g, rfl⟩
      · rw [if_neg g] at eq
        subst eq
        exact .inr ⟨g, hq⟩
    · rw [if_neg e] at hp
      rcases List.mem_append.mp hp with hp | hp
      · refine .inr ⟨fun g => e ?_, hp⟩
        rw [List.any_eq_true]
        exact ⟨p, hp, decide_eq_true g⟩
      · rw [List.mem_singleton] at hp
        subst hp
        exact .inl ⟨rfl, rfl⟩
  intro p hp
  rw [valV_put]
  rcases key p hp with ⟨h1, h2⟩ | ⟨h1, h2⟩
  · rw [if_pos h1, h2]
    exact ⟨rfl, a, rfl, ha⟩
  · rw [if_neg h1]
    exact h p h2
theorem Gd.ne {kvs : List (Key × V)} (h : Gd kvs) : ∀ p ∈ kvs, valV kvs p.1 = some p.2 ∧ flatB p.2 = true := fun p hp => by
  obtain ⟨h1, a, h2, _⟩ := h p hp
  refine ⟨h1, ?_⟩
  rw [h2]
  rfl
/-! Texts of one sign. -/
def letters : Str := "abcdefghijklmnop"
theorem lt_at : ∀ j, j < 16 → atI (letters.cps.toList) ((j : Nat) : Int) = some (97 + j) := by decide +kernel
theorem lt_no : ∀ k, k < 16 → lt k ∉ (["+", "-", "*", "/", "#", "<", "=", "&", "^"] : List Str) := by decide +kernel
def codes : List Nat := [43, 45, 42, 47, 35, 60, 61, 38, 94]
theorem nm_code : ∀ i, i < 9 → nm i = ⟨#[codes.getD i 0]⟩ := by decide +kernel
theorem sg_at : ∀ j, j < 9 → atI (("+-*/#<=&^" : Str).cps.toList) ((j : Nat) : Int) = some (codes.getD j 0) := by decide +kernel
theorem lt_in : ∀ k, k < 16 → decide (97 + k ∈ letters.cps.toList) = true := by decide +kernel
theorem sg_in : ∀ i, i < 9 → decide (codes.getD i 0 ∈ letters.cps.toList) = false := by decide +kernel
/-! Lists at their ends. -/
theorem rev_last (y : Int) (r : List Int) : ((y :: r).reverse.map V.int) = r.reverse.map V.int ++ [.int y] := by
  rw [List.reverse_cons, List.map_append]
  rfl
theorem last_get (xs : List V) (y : V) : (xs ++ [y])[(xs ++ [y]).length - 1]? = some y := by
  rw [List.length_append, List.length_singleton, Nat.add_sub_cancel, List.getElem?_append_right (Nat.le_refl _), Nat.sub_self]
  rfl
theorem atI_last2 (xs : List V) (x y : V) : atI (xs ++ [x] ++ [y]) (-2) = some x := by
  have hl : (xs ++ [x] ++ [y]).length = xs.length + 2 := by simp
  have e : ixN (xs ++ [x] ++ [y]).length (-2) = some xs.length := by
    unfold ixN
    rw [hl, if_neg (by decide), if_pos (by omega)]
    congr 1
    omega
  unfold atI
  rw [e]
  show (xs ++ [x] ++ [y])[xs.length]? = some x
  rw [List.append_assoc, List.getElem?_append_right (Nat.le_refl _), Nat.sub_self]
  rfl
theorem cut_last2 (xs : List V) (x y : V) : cutV (xs ++ [x] ++ [y]) none (some (-2)) = xs := by
  unfold cutV
  have hl : (xs ++ [x] ++ [y]).length = xs.length + 2 := by simp
  have e : HT.sIx (xs ++ [x] ++ [y]).length (xs ++ [x] ++ [y]).length (some (-2)) = xs.length := by
    have e0 : ∀ n d : Nat, HT.sIx n d (some (-2)) = ((-2 : Int) + (n : Int)).toNat := fun n d => by
      show (if (-2 : Int) < 0 then ((-2 : Int) + (n : Int)).toNat else min (-2 : Int).toNat n) = _
      rw [if_pos (by decide)]
    rw [e0, hl]
    omega
  rw [HT.sIx_none, e, List.drop_zero, Nat.sub_zero, List.append_assoc, List.take_left]
/-! The promises. -/
def sp_brought : Sp := fun vs H Q _ => ∃ n : Int, vs = [.int n] ∧ Q (.int (br n)) H
def spS (i : Nat) : Sp := fun vs H Q _ => ∃ a b : Int, vs = [.int a, .int b] ∧ W a ∧ W b ∧ Q (.int (sg i a b)) H
def sp_toldby : Sp := fun vs H Q _ => ∃ (i : Nat) (a b : Int), i < 9 ∧ vs = [.str (nm i), .int a, .int b] ∧ W a ∧ W b ∧ Q (.int (br (sg i a b))) H
def sp_lfeed (K : PySem.W.Frag) : Sp := fun vs H Q _ => ∃ (a : Addr) (ns : List Int), vs = [.ref a] ∧ SqL K H a (ns.map V.int) ∧ ns.length ≤ 63 ∧
  ∀ H' p c, Pen H' p c ns 0 → Q (.ref p) H'
def sp_ldraw : Sp := fun vs H Q _ => ∃ (p c : Addr) (ns : List Int) (n m : Int), vs = [.ref p, .int m] ∧ Pen H p c ns n ∧ 0 < m ∧ m < 1073741824 ∧ n < 1000000 ∧
  ∀ (H' : Hp) (d n' : Int), Kp p H H' → Pen H' p c ns n' → 0 ≤ d → d < m → n ≤ n' → n' ≤ n + 1 → Q (.int d) H'
def sp_lworth : Sp := fun vs H Q _ => ∃ (p c : Addr) (ns : List Int) (n : Int), vs = [.ref p] ∧ Pen H p c ns n ∧ n < 900000 ∧
  ∀ (H' : Hp) (k n' : Int), Kp p H H' → Pen H' p c ns n' → n ≤ n' → n' ≤ n + 2 → W k → Q (.int k) H'
def sp_ltells : Sp := fun vs H Q _ => ∃ (i : Nat) (a b : Int), i < 9 ∧ vs = [.str (nm i), .int a, .int b] ∧ W a ∧ W b ∧ ∀ H', Same H H' → Q (.int (br (sg i a b))) H'
def sp_issign : Sp := fun vs H Q _ => ∃ m : Im, vs = [m.toV] ∧ m.ok ∧ Q (.bl m.sgn) H
def sp_reckoned (K : PySem.W.Frag) : Sp := fun vs H Q _ => ∃ (e d : Addr) (its : List Im) (kvs : List (Key × V)) (y : Int) (r : List Int), vs = [.ref e, .ref d] ∧ SqT K H e (its.map Im.toV) ∧ (∀ m ∈ its, m.ok) ∧ its.length ≤ 1000 ∧
  H d = some (.dK kvs) ∧ Gd kvs ∧ run (rho kvs) [] its = some (y :: r) ∧ ∀ H', Same H H' → W y → Q (.int y) H'
def sp_lregister : Sp := fun vs H Q _ => ∃ (p c : Addr) (ns : List Int) (n : Int), vs = [.ref p] ∧ Pen H p c ns n ∧ n < 900000 ∧
  ∀ (H' : Hp) (k : Nat) (n' : Int), Kp p H H' → Pen H' p c ns n' → n ≤ n' → n' ≤ n + 2 → k < 16 → Q (.str (lt k)) H'
def sp_litem : Sp := fun vs H Q _ => ∃ (p c : Addr) (ns : List Int) (n : Int), vs = [.ref p] ∧ Pen H p c ns n ∧ n < 890000 ∧
  ∀ (H' : Hp) (m : Im) (n' : Int), Kp p H H' → Pen H' p c ns n' → n ≤ n' → n' ≤ n + 5 → m.ok → m.sgn = false → Q m.toV H'
def sp_lexpression : Sp := fun vs H Q _ => ∃ (p c : Addr) (ns : List Int) (n : Int) (most : Nat), vs = [.ref p, .int (most : Int)] ∧ Pen H p c ns n ∧ n < 880000 ∧ most ≤ 20 ∧
  ∀ (H' : Hp) (t : Addr) (its : List Im) (n' : Int), Kp p H H' → Pen H' p c ns n' → n ≤ n' → n' ≤ n + 300 → H t = none → H' t = some (.tup (its.map Im.toV)) → Expr1 its → its.length ≤ 2 * most + 1 → its ≠ [] → Q (.ref t) H'
def sp_lregs : Sp := fun vs H Q _ => ∃ (p c : Addr) (ns : List Int) (n : Int), vs = [.ref p] ∧ Pen H p c ns n ∧ n < 880000 ∧
  ∀ (H' : Hp) (d : Addr) (kvs : List (Key × V)) (n' : Int), Kp p H H' → Pen H' p c ns n' → n ≤ n' → n' ≤ n + 60 → H' d = some (.dK kvs) → Gd kvs → Q (.ref d) H'
def sp_lreck (K : PySem.W.Frag) : Sp := fun vs H Q _ => ∃ (e d : Addr) (its : List Im) (kvs : List (Key × V)) (y : Int), vs = [.ref e, .ref d] ∧ SqT K H e (its.map Im.toV) ∧ (∀ m ∈ its, m.ok) ∧ its.length ≤ 1000 ∧
  H d = some (.dK kvs) ∧ Gd kvs ∧ run (rho kvs) [] its = some [y] ∧ ∀ H', Same H H' → Q (.int y) H'
def sp_law (K : PySem.W.Frag) : Sp := fun vs H Q _ => ∃ (a : Addr) (ns : List Int), vs = [.ref a] ∧ SqL K H a (ns.map V.int) ∧ ns.length ≤ 63 ∧ ∀ H', Q (.bl true) H'
theorem vals_rev : ∀ {zs : List V} {ws : List Value}, Vals zs ws → Vals zs.reverse ws.reverse
  | _, _, .nil => .nil
  | _, _, .cons r t => by
    rw [List.reverse_cons, List.reverse_cons]
    exact (vals_rev t).append (.cons r .nil)
theorem cutTo (xs : List V) (k : Nat) : cutV xs none (some (k : Int)) = xs.take k := by
  unfold cutV
  rw [HT.sIx_none, HT.sIx_nat]
  show (xs.drop 0).take (min k xs.length - 0) = _
  rw [List.drop_zero, Nat.sub_zero]
  by_cases h : k ≤ xs.length
  · rw [Nat.min_eq_left h]
  · rw [Nat.min_eq_right (by omega), List.take_of_length_le (Nat.le_refl _), List.take_of_length_le (by omega)]
theorem cutFrom (xs : List V) {k : Nat} (h : k ≤ xs.length) : cutV xs (some (k : Int)) none = xs.drop k := by
  unfold cutV
  rw [HT.sIx_none, HT.sIx_nat, Nat.min_eq_left h]
  exact List.take_of_length_le (by rw [List.length_drop]; omega)
section
variable {P : Program} {w : World} {K : PySem.W.Frag} {mg : Str → Option Value} {base : Heap} {f : Nat → Addr} {fd : Nat → FuncData} {ob : Nat → Addr}
theorem ok_brought (T : Txt K w mg f fd ob) : FnOk P w K mg base CX0 1 (f 0) (fd 0) ["n"] sp_brought := by
  refine T.F_brought.ok sc_brought (fun vs H Q E h => ?_) (fun cdv A outer s H vs Q E hr h => ?_)
  · obtain ⟨n, rfl, _⟩ := h
    rfl
  · obtain ⟨n, rfl, q⟩ := h
    refine ⟨_, (pss_one (ps_ret (pe_op op_sub (pe_op op_mod (pe_op op_add (pv 0) pe_int) pe_int) pe_int))), ?_⟩
    exact ⟨_, rfl, _, _, rfl, rfl, _, _, rfl, rfl, (by show (0 : Int) < 65536; decide), _, _, rfl, rfl, q⟩
theorem len2 {i : Nat} {vs : List V} {H : Hp} {Q : VK} {E : XK} (h : spS i vs H Q E) : vs.length = 2 := by
  obtain ⟨a, b, rfl, _⟩ := h
  rfl
theorem ok_plus (T : Txt K w mg f fd ob) : FnOk P w K mg base CX0 1 (f 1) (fd 1) ["one", "other"] (spS 0) := by
  refine T.F_plus.ok sc_plus (fun vs H Q E h => len2 h) (fun cdv A outer s H vs Q E hr h => ?_)
  obtain ⟨a, b, rfl, ha, hb, q⟩ := h
  exact ⟨_, (pss_one (ps_ret (pe_op op_add (pv 0) (pv 1)))), _, rfl, _, rfl, _, _, rfl, rfl, q⟩
theorem ok_minus (T : Txt K w mg f fd ob) : FnOk P w K mg base CX0 1 (f 2) (fd 2) ["one", "other"] (spS 1) := by
  refine T.F_minus.ok sc_minus (fun vs H Q E h => len2 h) (fun cdv A outer s H vs Q E hr h => ?_)
  obtain ⟨a, b, rfl, ha, hb, q⟩ := h
  exact ⟨_, (pss_one (ps_ret (pe_op op_sub (pv 0) (pv 1)))), _, rfl, _, rfl, _, _, rfl, rfl, q⟩
theorem ok_times (T : Txt K w mg f fd ob) : FnOk P w K mg base CX0 1 (f 3) (fd 3) ["one", "other"] (spS 2) := by
  refine T.F_times.ok sc_times (fun vs H Q E h => len2 h) (fun cdv A outer s H vs Q E hr h => ?_)
  obtain ⟨a, b, rfl, ha, hb, q⟩ := h
  unfold W at ha hb
  exact ⟨_, (pss_one (ps_ret (pe_op op_mul (pv 0) (pv 1)))), _, rfl, _, rfl, _, _, rfl, rfl, .inl ⟨by omega, by omega⟩, q⟩
theorem ok_quotient (T : Txt K w mg f fd ob) : FnOk P w K mg base CX0 1 (f 4) (fd 4) ["one", "other"] (spS 3) := by
  refine T.F_quotient.ok sc_quotient (fun vs H Q E h => len2 h) (fun cdv A outer s H vs Q E hr h => ?_)
  obtain ⟨a, b, rfl, ha, hb, q⟩ := h
  unfold W at ha hb
  refine ⟨_, (pss_one (ps_ret (pe_ifExp (pt_cmpR op_eq (pv 1) pe_int (nomark _)) pe_int (pe_op op_fdivN (pv 0) (pv 1))))), ?_⟩
  refine ⟨_, rfl, rfl, _, rfl, ite2 (fun h => ?_) (fun h => ?_)⟩
  · have e : b = 0 := V.int.inj (of_decide_eq_true h)
    have e2 : sg 3 a b = 0 := if_pos e
    rw [e2] at q
    exact q
  · have e : ¬ b = 0 := fun z => h (decide_eq_true (by rw [z]))
    have e2 : sg 3 a b = a.fdiv b := if_neg e
    rw [e2] at q
    exact ⟨_, rfl, _, rfl, _, _, rfl, rfl, ⟨e, by omega⟩, q⟩
theorem ok_rest (T : Txt K w mg f fd ob) : FnOk P w K mg base CX0 1 (f 5) (fd 5) ["one", "other"] (spS 4) := by
  refine T.F_rest.ok sc_rest (fun vs H Q E h => len2 h) (fun cdv A outer s H vs Q E hr h => ?_)
  obtain ⟨a, b, rfl, ha, hb, q⟩ := h
  unfold W at ha hb
  refine ⟨_, (pss_one (ps_ret (pe_ifExp (pt_cmpR op_eq (pv 1) pe_int (nomark _)) pe_int (pe_op op_sub (pv 0) (pe_op op_mul (pv 1) (pe_op op_fdivN (pv 0) (pv 1))))))), ?_⟩
  refine ⟨_, rfl, rfl, _, rfl, ite2 (fun h => ?_) (fun h => ?_)⟩
  · have e : b = 0 := V.int.inj (of_decide_eq_true h)
    have e2 : sg 4 a b = 0 := if_pos e
    rw [e2] at q
    exact q
  · have e : ¬ b = 0 := fun z => h (decide_eq_true (by rw [z]))
    have e2 : sg 4 a b = a - b * a.fdiv b := if_neg e
    rw [e2] at q
    exact ⟨_, rfl, _, rfl, _, rfl, _, rfl, _, _, rfl, rfl, ⟨e, by omega⟩, _, _, rfl, rfl, .inl ⟨by omega, by omega⟩, _, _, rfl, rfl, q⟩
theorem ok_isless (T : Txt K w mg f fd ob) : FnOk P w K mg base CX0 1 (f 6) (fd 6) ["one", "other"] (spS 5) := by
  refine T.F_isless.ok sc_isless (fun vs H Q E h => len2 h) (fun cdv A outer s H vs Q E hr h => ?_)
  obtain ⟨a, b, rfl, ha, hb, q⟩ := h
  refine ⟨_, (pss_one (ps_ret (pe_ifExp (pt_cmpR op_lt (pv 0) (pv 1) (nomark _)) pe_int pe_int))), ?_⟩
  refine ⟨_, rfl, _, rfl, _, _, rfl, rfl, _, rfl, ite2 (fun h => ?_) (fun h => ?_)⟩
  · have e2 : sg 5 a b = 1 := if_pos (of_decide_eq_true h)
    rw [e2] at q
    exact q
  · have e2 : sg 5 a b = 0 := if_neg (fun z => h (decide_eq_true z))
    rw [e2] at q
    exact q
theorem ok_issame (T : Txt K w mg f fd ob) : FnOk P w K mg base CX0 1 (f 7) (fd 7) ["one", "other"] (spS 6) := by
  refine T.F_issame.ok sc_issame (fun vs H Q E h => len2 h) (fun cdv A outer s H vs Q E hr h => ?_)
  obtain ⟨a, b, rfl, ha, hb, q⟩ := h
  refine ⟨_, (pss_one (ps_ret (pe_ifExp (pt_cmpR op_eq (pv 0) (pv 1) (nomark _)) pe_int pe_int))), ?_⟩
  refine ⟨_, rfl, _, rfl, rfl, _, rfl, ite2 (fun h => ?_) (fun h => ?_)⟩
  · have e2 : sg 6 a b = 1 := if_pos (V.int.inj (of_decide_eq_true h))
    rw [e2] at q
    exact q
  · have e2 : sg 6 a b = 0 := if_neg (fun z => h (decide_eq_true (by rw [z])))
    rw [e2] at q
    exact q
theorem ok_bitsofboth (T : Txt K w mg f fd ob) : FnOk P w K mg base CX0 1 (f 8) (fd 8) ["one", "other"] (spS 7) := by
  refine T.F_bitsofboth.ok sc_bitsofboth (fun vs H Q E h => len2 h) (fun cdv A outer s H vs Q E hr h => ?_)
  obtain ⟨a, b, rfl, ha, hb, q⟩ := h
  exact ⟨_, (pss_one (ps_ret (pe_op op_and (pv 0) (pv 1)))), _, rfl, _, rfl, _, _, rfl, rfl, q⟩
theorem ok_bitsofone (T : Txt K w mg f fd ob) : FnOk P w K mg base CX0 1 (f 9) (fd 9) ["one", "other"] (spS 8) := by
  refine T.F_bitsofone.ok sc_bitsofone (fun vs H Q E h => len2 h) (fun cdv A outer s H vs Q E hr h => ?_)
  obtain ⟨a, b, rfl, ha, hb, q⟩ := h
  exact ⟨_, (pss_one (ps_ret (pe_op op_xor (pv 0) (pv 1)))), _, rfl, _, rfl, _, _, rfl, rfl, q⟩
theorem ok_toldby (T : Txt K w mg f fd ob) : FnOk P w K mg base CX0 2 (f 10) (fd 10) ["sign", "one", "other"] sp_toldby := by
  have G_brought := ok_brought (P := P) (base := base) T
  refine T.F_toldby.ok sc_toldby (fun vs H Q E h => ?_) (fun cdv A outer s H vs Q E hr h => ?_)
  · obtain ⟨i, a, b, _, rfl, _⟩ := h
    rfl
  · obtain ⟨i, a, b, hi, rfl, ha, hb, q⟩ := h
    have hr_brought := hr
    have key : ∀ (ff : Addr) (fdd : FuncData), FnOk P w K mg base CX0 1 ff fdd ["one", "other"] (spS i) → PySem.W.keepIn K (.ref ff) = true → Binds K fdd ["one", "other"] [] → KDct K w (ob 0) (nm i) (.ref ff) →
        ∃ t, PSs (cxOf CX0 P w K mg base N_toldby "told_by" (defScope s_toldby) (f 10) cdv A outer s H E).nox (defBody s_toldby) t ∧ t { nx := fun _ H' => Q .non H', rt := Q } (start N_toldby [.str (nm i), .int a, .int b]) H := by
      intro ff fdd Gf kpf bf hd
      refine ⟨_, (pss_cons (ps_set (i := 3) sc_toldby.nd rfl (Or.inl rfl) (pe_ix ix_kdict (pe_glob (v := .ref (ob 0)) (by rfl) T.m_SIGNS rfl) (pv 0) (fun _ _ => rfl)))
      (pss_one (ps_ret (pe_call G_brought hr_brought (by rfl) T.m_brought T.F_brought.kp T.b_brought .nil pass0 (pa_cons (pe_callL (i := 3) Gf hr (by rfl) (Or.inl rfl) kpf bf .nil pass0 (pa_cons (pv 1) (pa_cons (pv 2) pa_nil))) pa_nil))))), ?_⟩
      exact ⟨_, rfl, _, _, _, rfl, rfl, hd, rfl, _, rfl, _, rfl, a, b, rfl, ha, hb, _, rfl, q⟩
    match i, hi with
    | 0, _ => exact key _ _ (ok_plus T) T.F_plus.kp T.b_plus T.t_SIGNS_0
    | 1, _ => exact key _ _ (ok_minus T) T.F_minus.kp T.b_minus T.t_SIGNS_1
    | 2, _ => exact key _ _ (ok_times T) T.F_times.kp T.b_times T.t_SIGNS_2
    | 3, _ => exact key _ _ (ok_quotient T) T.F_quotient.kp T.b_quotient T.t_SIGNS_3
    | 4, _ => exact key _ _ (ok_rest T) T.F_rest.kp T.b_rest T.t_SIGNS_4
    | 5, _ => exact key _ _ (ok_isless T) T.F_isless.kp T.b_isless T.t_SIGNS_5
    | 6, _ => exact key _ _ (ok_issame T) T.F_issame.kp T.b_issame T.t_SIGNS_6
    | 7, _ => exact key _ _ (ok_bitsofboth T) T.F_bitsofboth.kp T.b_bitsofboth T.t_SIGNS_7
    | 8, _ => exact key _ _ (ok_bitsofone T) T.F_bitsofone.kp T.b_bitsofone T.t_SIGNS_8
theorem sign_in (T : Txt K w mg f fd ob) {i : Nat} (hi : i < 9) : ∃ u, PySem.W.nsIn K (ob 0) (nm i) = some (some u) := by
  match i, hi with
  | 0, _ => obtain ⟨_, _, u, _, _, h, _⟩ := T.t_SIGNS_0; exact ⟨u, h⟩
  | 1, _ => obtain ⟨_, _, u, _, _, h, _⟩ := T.t_SIGNS_1; exact ⟨u, h⟩
  | 2, _ => obtain ⟨_, _, u, _, _, h, _⟩ := T.t_SIGNS_2; exact ⟨u, h⟩
  | 3, _ => obtain ⟨_, _, u, _, _, h, _⟩ := T.t_SIGNS_3; exact ⟨u, h⟩
  | 4, _ => obtain ⟨_, _, u, _, _, h, _⟩ := T.t_SIGNS_4; exact ⟨u, h⟩
  | 5, _ => obtain ⟨_, _, u, _, _, h, _⟩ := T.t_SIGNS_5; exact ⟨u, h⟩
  | 6, _ => obtain ⟨_, _, u, _, _, h, _⟩ := T.t_SIGNS_6; exact ⟨u, h⟩
  | 7, _ => obtain ⟨_, _, u, _, _, h, _⟩ := T.t_SIGNS_7; exact ⟨u, h⟩
  | 8, _ => obtain ⟨_, _, u, _, _, h, _⟩ := T.t_SIGNS_8; exact ⟨u, h⟩
theorem ok_issign (T : Txt K w mg f fd ob) : FnOk P w K mg base CX0 1 (f 11) (fd 11) ["thing"] sp_issign := by
  obtain ⟨es, nn, D_SIGNS⟩ := T.d_SIGNS
  refine T.F_issign.ok sc_issign (fun vs H Q E h => ?_) (fun cdv A outer s H vs Q E hr h => ?_)
  · obtain ⟨m, rfl, _⟩ := h
    rfl
  · obtain ⟨m, rfl, hm, q⟩ := h
    refine ⟨_, (pss_one (ps_ret (pe_and (pe_callB call_isi (by rfl) T.z_isinstance (by decide +kernel) (pa_cons (pv 0) (pa_cons (pe_bltn (v := .ty "str") (by rfl) T.z_str (by decide +kernel) rfl) pa_nil))) (pe_one (pe_cmpR (op_in_kd D_SIGNS) (pv 0) (pe_glob (v := .ref (ob 0)) (by rfl) T.m_SIGNS rfl) (by rfl)))))), ?_⟩
    cases m with
    | wo a => exact ⟨_, rfl, _, _, _, _, false, rfl, .ty _, .base (.int _), kit_ty (by decide +kernel), _, rfl, iteF q⟩
    | re k => exact ⟨_, rfl, _, _, _, _, true, rfl, .ty _, .base (.str _), kit_ty (by decide +kernel), _, rfl, iteT ⟨_, rfl, _, _, rfl, rfl, T.n_SIGNS _ (lt_no k hm), q⟩⟩
    | si i =>
      obtain ⟨u, hu⟩ := sign_in T hm
      exact ⟨_, rfl, _, _, _, _, true, rfl, .ty _, .base (.str _), kit_ty (by decide +kernel), _, rfl, iteT ⟨_, rfl, _, _, rfl, rfl, hu, q⟩⟩
theorem ok_reckoned (T : Txt K w mg f fd ob) : FnOk P w K mg base CX0 3 (f 12) (fd 12) ["e", "registers"] (sp_reckoned K) := by
  have G_issign := ok_issign (P := P) (base := base) T
  have G_toldby := ok_toldby (P := P) (base := base) T
  refine T.F_reckoned.ok sc_reckoned (fun vs H Q E h => ?_) (fun cdv A outer s H vs Q E hr h => ?_)
  · obtain ⟨e, d, its, kvs, y, r, rfl, _⟩ := h
    rfl
  · obtain ⟨e, d, its, kvs, y, r, rfl, hS, hok, hlen, hd, hg, hrun, q⟩ := h
    have hr_toldby := hr
    have hr_issign : Room 1 _ := hr.mono (by decide)
    refine ⟨_, (pss_cons (ps_set (i := 2) sc_reckoned.nd rfl (Or.inl rfl) (pe_lst pa_nil))
      (pss_cons (ps_for PassesOwn.never rfl (pi_tup (pv 0)) (pg_name (i := 3) sc_reckoned.nd rfl (Or.inl rfl)) (pss_one (ps_if (pt_val (pe_call G_issign hr_issign (by rfl) T.m_issign T.F_issign.kp T.b_issign .nil pass0 (pa_cons (pv 3) pa_nil))) (pss_cons (ps_set (i := 4) sc_reckoned.nd rfl (Or.inl rfl) (pe_bm0 PySem.F.plainAttrs_list PySem.F.slot_list_pop PySem.F.type_list_pop mt_pop (pv 2)))
      (pss_cons (ps_set (i := 5) sc_reckoned.nd rfl (Or.inl rfl) (pe_bm0 PySem.F.plainAttrs_list PySem.F.slot_list_pop PySem.F.type_list_pop mt_pop (pv 2)))
      (pss_one (ps_expr (pe_bm PySem.F.plainAttrs_list PySem.F.slot_list_append PySem.F.type_list_append mt_append (pv 2) (pa_cons (pe_call G_toldby hr_toldby (by rfl) T.m_toldby T.F_toldby.kp T.b_toldby .nil pass0 (pa_cons (pv 3) (pa_cons (pv 5) (pa_cons (pv 4) pa_nil)))) pa_nil)))))) (pss_one (ps_if (pt_val (pe_callB call_isi (by rfl) T.z_isinstance (by decide +kernel) (pa_cons (pv 3) (pa_cons (pe_bltn (v := .ty "str") (by rfl) T.z_str (by decide +kernel) rfl) pa_nil)))) (pss_one (ps_expr (pe_bm PySem.F.plainAttrs_list PySem.F.slot_list_append PySem.F.type_list_append mt_append (pv 2) (pa_cons (pe_dget2 (hu_of hr) (pv 1) (pv 3) pe_int ⟨rfl, rfl, rfl, rfl⟩) pa_nil)))) (pss_one (ps_expr (pe_bm PySem.F.plainAttrs_list PySem.F.slot_list_append PySem.F.type_list_append mt_append (pv 2) (pa_cons (pv 3) pa_nil)))))))))
      (pss_one (ps_ret (pe_ix ix_list (pv 2) (pe_un un_neg pe_int) (fun _ _ => rfl)))))), ?_⟩
    refine ⟨Nat.zero_le _, fun l hl => ?_⟩
    refine ⟨_, rfl, e, rfl, ⟨_, ex_t (Same.new hl) hS⟩, for_tup (xs := its.map Im.toV) (fun i σ' H' => ∃ (rp : List Int) (y3 y4 y5 : Option V), σ' = [some (.ref e), some (.ref d), some (.ref l), y3, y4, y5] ∧ Same H H' ∧ H' l = some (.lst (rp.reverse.map V.int)) ∧
        run (rho kvs) rp (its.drop i) = some (y :: r) ∧ (∀ x ∈ rp, W x) ∧ rp.length ≤ i)
      ⟨[], none, none, none, rfl, Same.new hl, upd_same, hrun, (fun x hx => (List.not_mem_nil hx).elim), Nat.le_refl _⟩ (fun i σ' H' _ ⟨_, _, _, _, _, s, _⟩ => ex_t s hS) ?_ ?_⟩
    · rintro i x _ H1 hx ⟨rp, y3, y4, y5, rfl, s1, h1, hr1, hW, hle⟩
      rw [List.getElem?_map] at hx
      cases em : its[i]? with
      | none =>
        rw [em] at hx
        cases hx
      | some m =>
        rw [em] at hx
        obtain rfl : m.toV = x := Option.some.inj hx
        have hi : i < its.length := (List.getElem?_eq_some_iff.mp em).1
        have hm : m ∈ its := List.mem_of_getElem? em
        have ed : its.drop i = m :: its.drop (i + 1) := by
          rw [List.drop_eq_getElem_cons hi]
          congr 1
          exact (List.getElem?_eq_some_iff.mp em).2
        rw [ed] at hr1
        have hd1 : H1 d = some (.dK kvs) := s1 _ _ hd
        have hsz : (rp.reverse.map V.int).length < sizeLine := by
          rw [List.length_map, List.length_reverse]
          exact small1000 (by omega)
        refine ⟨_, rfl, m, rfl, hok m hm, _, rfl, ?_⟩
        cases m with
        | wo a =>
          refine iteF ⟨_, rfl, _, _, _, _, false, rfl, .ty _, .base (.int _), kit_ty (by decide +kernel), _, rfl, iteF ?_⟩
          refine ⟨_, rfl, .inl ⟨rfl, _, SqL.of h1⟩, _, rfl, l, _, _, rfl, rfl, h1, hsz, ?_⟩
          refine ⟨a :: rp, _, _, _, rfl, Same.mut s1 hl, ?_, hr1, ?_, ?_⟩
          · rw [upd_same, rev_last]
            rfl
          · intro x hx
            rcases List.mem_cons.mp hx with rfl | hx
            · exact hok _ hm
            · exact hW x hx
          · rw [List.length_cons]
            omega
        | re k =>
          obtain ⟨g1, g2⟩ := hg.get k
          refine iteF ⟨_, rfl, _, _, _, _, true, rfl, .ty _, .base (.str _), kit_ty (by decide +kernel), _, rfl, iteT ?_⟩
          refine ⟨_, rfl, .inl ⟨rfl, _, SqL.of h1⟩, _, rfl, d, rfl, .inl ⟨_, .inl hd1⟩, _, rfl, _, .inl ⟨kvs, .inr (lt k), .inl hd1, rfl, rfl⟩, ?_⟩
          rw [g1]
          refine ⟨l, _, _, rfl, rfl, h1, hsz, ?_⟩
          refine ⟨rho kvs k :: rp, _, _, _, rfl, Same.mut s1 hl, ?_, hr1, ?_, ?_⟩
          · rw [upd_same, rev_last]
          · intro x hx
            rcases List.mem_cons.mp hx with rfl | hx
            · exact g2
            · exact hW x hx
          · rw [List.length_cons]
            omega
        | si j =>
          match rp, h1, hr1, hW, hle, hsz with
          | [], _, hr1, _, _, _ => cases hr1
          | [x], _, hr1, _, _, _ => cases hr1
          | v :: u :: t, h1, hr1, hW, hle, hsz =>
            have hv : W v := hW v List.mem_cons_self
            have hu : W u := hW u (List.mem_cons_of_mem _ List.mem_cons_self)
            have hj : j < 9 := hok _ hm
            rw [rev_last, rev_last] at h1
            refine iteT ⟨_, rfl, .inl ⟨rfl, _, SqL.of h1⟩, l, _, .int v, rfl, rfl, h1, last_get _ _, ?_⟩
            have h2 : (upd H1 l (.lst (t.reverse.map V.int ++ [V.int u] ++ [V.int v]).dropLast)) l = some (.lst (t.reverse.map V.int ++ [V.int u])) := by
              rw [upd_same, List.dropLast_concat]
            refine ⟨_, rfl, .inl ⟨rfl, _, SqL.of h2⟩, l, _, .int u, rfl, rfl, h2, last_get _ _, ?_⟩
            have h3 : (upd (upd H1 l (.lst (t.reverse.map V.int ++ [V.int u] ++ [V.int v]).dropLast)) l (.lst (t.reverse.map V.int ++ [V.int u]).dropLast)) l = some (.lst (t.reverse.map V.int)) := by
              rw [upd_same, List.dropLast_concat]
            refine ⟨_, rfl, .inl ⟨rfl, _, SqL.of h3⟩, _, rfl, _, rfl, _, rfl, j, u, v, hj, rfl, hu, hv, l, _, _, rfl, rfl, h3, ?_, ?_⟩
            · rw [List.length_map, List.length_reverse]
              rw [List.length_cons, List.length_cons] at hle
              exact small1000 (by omega)
            · refine ⟨br (sg j u v) :: t, _, _, _, rfl, Same.mut (Same.mut (Same.mut s1 hl) hl) hl, ?_, hr1, ?_, ?_⟩
              · rw [upd_same, rev_last]
              · intro x hx
                rcases List.mem_cons.mp hx with rfl | hx
                · exact br_W _
                · exact hW x (List.mem_cons_of_mem _ (List.mem_cons_of_mem _ hx))
              · rw [List.length_cons, List.length_cons] at hle
                rw [List.length_cons]
                omega
    · rintro _ H1 ⟨rp, y3, y4, y5, rfl, s1, h1, hr1, hW, hle⟩
      rw [List.length_map, List.drop_length] at hr1
      have e : rp = y :: r := Option.some.inj hr1
      subst e
      rw [rev_last] at h1
      exact ⟨_, rfl, _, rfl, _, _, _, _, rfl, rfl, SqL.of h1, atI_last _ _, q _ s1 (hW y List.mem_cons_self)⟩
theorem ok_lfeed (T : Txt K w mg f fd ob) : FnOk P w K mg base CX0 1 (f 13) (fd 13) ["_law_script"] (sp_lfeed K) := by
  refine T.F_lfeed.ok sc_lfeed (fun vs H Q E h => ?_) (fun cdv A outer s H vs Q E hr h => ?_)
  · obtain ⟨a, ns, rfl, _⟩ := h
    rfl
  · obtain ⟨a, ns, rfl, hS, hlen, q⟩ := h
    refine ⟨_, (pss_one (ps_ret (pe_lst (pa_cons (pe_callTy call_list_of (by rfl) T.z_list (by decide +kernel) (pa_cons (pe_slice sl_list (pv 0) po_none (po_some pe_int)) pa_nil)) (pa_cons pe_int (pa_cons pe_int pa_nil)))))), ?_⟩
    refine ⟨_, rfl, _, rfl, a, _, rfl, hS, fun c1 n1 => ⟨_, _, rfl, .inl (SqL.of upd_same), fun c n2 => ⟨(show 3 ≤ sizeLine by decide), fun p n3 => ?_⟩⟩⟩
    refine q _ p c ⟨0, upd_same, ?_, by decide, by decide⟩
    rw [upd_ne (ne_of_none upd_same n3), upd_same, cut63 (by rw [List.length_map]; exact hlen)]
theorem ok_ldraw (T : Txt K w mg f fd ob) : FnOk P w K mg base CX0 1 (f 14) (fd 14) ["_law_feed_here", "_law_many"] sp_ldraw := by
  refine T.F_ldraw.ok sc_ldraw (fun vs H Q E h => ?_) (fun cdv A outer s H vs Q E hr h => ?_)
  · obtain ⟨p, c, ns, n, m, rfl, _⟩ := h
    rfl
  · obtain ⟨p, c, ns, n, m, rfl, hP, hm0, hm1, hn1, q⟩ := h
    have hne : c ≠ p := hP.ne
    obtain ⟨r, hp, hc, hn0, hr0⟩ := hP
    refine ⟨_, (pss_cons (ps_if (pt_cmpR op_gt (pe_ix ix_list (pv 0) pe_int (fun _ _ => rfl)) pe_int (nomark _)) (pss_cons (ps_set (i := 2) sc_ldraw.nd rfl (Or.inl rfl) (pe_op op_mod (pe_ix ix_list (pv 0) pe_int (fun _ _ => rfl)) (pv 1)))
      (pss_cons (ps_asg (pe_op op_fdiv (pe_ix ix_list (pv 0) pe_int (fun _ _ => rfl)) (pv 1)) (pg_sub (pv 0) pe_int set_list))
      (pss_one (ps_ret (pv 2))))) pss_nil)
      (pss_cons (ps_set (i := 3) sc_ldraw.nd rfl (Or.inl rfl) (pe_ix ix_list (pv 0) pe_int (fun _ _ => rfl)))
      (pss_cons (ps_asg (pe_op op_add (pv 3) pe_int) (pg_sub (pv 0) pe_int set_list))
      (pss_cons (ps_set (i := 4) sc_ldraw.nd rfl (Or.inl rfl) (pv 3))
      (C8.pss_cut (ps_if (pt_cmpR op_gt (pe_callB call_len_seq (by rfl) T.z_len PySem.boot_len (pa_cons (pe_ix ix_list (pv 0) pe_int (fun _ _ => rfl)) pa_nil)) pe_int (nomark _)) (pss_one (ps_set (i := 4) sc_ldraw.nd rfl (Or.inl rfl) (pe_ix ix_list (pe_ix ix_list (pv 0) pe_int (fun _ _ => rfl)) (pe_op op_mod (pv 3) (pe_callB call_len_seq (by rfl) T.z_len PySem.boot_len (pa_cons (pe_ix ix_list (pv 0) pe_int (fun _ _ => rfl)) pa_nil))) (fun _ _ => rfl)))) pss_nil)
      (C8.pss_cut (ps_if (PW.pt (pw_and (pt_cmpR op_ge (pv 4) (pe_op op_pow pe_int pe_int) (nomark _)) (pw_and1 (pt_cmpR op_lt (pv 3) (pe_callB call_len_seq (by rfl) T.z_len PySem.boot_len (pa_cons (pe_ix ix_list (pv 0) pe_int (fun _ _ => rfl)) pa_nil)) (nomark _))))) (pss_cons (ps_asg (pe_op op_fdiv (pv 4) (pv 1)) (pg_sub (pv 0) pe_int set_list))
      (pss_one (ps_ret (pe_op op_mod (pv 4) (pv 1))))) pss_nil)
      (pss_cons (ps_set (i := 5) sc_ldraw.nd rfl (Or.inl rfl) (pe_op op_mod (pe_op op_mul (pe_op op_add (pe_op op_add (pe_op op_mod (pv 4) pe_int) (pe_op op_mul (pe_op op_mul pe_int (pv 3)) (pv 3))) pe_int) pe_int) pe_int))
      (pss_cons (ps_set (i := 5) sc_ldraw.nd rfl (Or.inl rfl) (pe_op op_mod (pe_op op_add (pe_op op_mul (pv 5) (pv 5)) (pe_op op_mul pe_int (pv 3))) pe_int))
      (pss_one (ps_ret (pe_op op_mod (pe_op op_fdiv (pe_op op_mod (pe_op op_mul (pv 5) (pe_op op_add (pe_op op_mod (pv 5) pe_int) pe_int)) pe_int) pe_int) (pv 1)))))))))))), ?_⟩
    -- if feed[2] > 0
    refine ⟨_, rfl, _, _, _, _, rfl, rfl, SqL.of hp, rfl, _, _, rfl, rfl, _, rfl, ite2 (fun h1 => ?_) (fun h1 => ?_)⟩
    · refine ⟨_, rfl, _, _, _, _, rfl, rfl, SqL.of hp, rfl, _, rfl, _, _, rfl, rfl, hm0, ?_⟩
      refine ⟨_, rfl, _, _, _, _, rfl, rfl, SqL.of hp, rfl, _, rfl, _, _, rfl, rfl, ⟨hm0, hm1⟩, _, rfl, _, _, _, _, rfl, rfl, hp, rfl, ?_⟩
      exact ⟨_, rfl, q _ _ _ (Kp.upd _) ⟨_, upd_same, (upd_ne hne).trans hc, hn0, Int.ediv_nonneg hr0 (by omega)⟩ (Int.emod_nonneg _ (by omega)) (Int.emod_lt_of_pos _ hm0) (by omega) (by omega)⟩
    · -- at = feed[1]; feed[1] = at + 1; cell = at
      refine ⟨_, rfl, _, _, _, _, rfl, rfl, SqL.of hp, rfl, ?_⟩
      refine ⟨_, rfl, _, _, rfl, rfl, _, rfl, _, _, _, _, rfl, rfl, hp, rfl, ?_⟩
      have hp1 : (upd H p (.lst [.ref c, .int (n + 1), .int r])) p = some (.lst [.ref c, .int (n + 1), .int r]) := upd_same
      have hc1 : (upd H p (.lst [.ref c, .int (n + 1), .int r])) c = some (.lst (ns.map V.int)) := (upd_ne hne).trans hc
      refine ⟨_, rfl, ?_⟩
      -- if len(feed[0]) > 0
      refine ⟨fun σ' H' => ∃ v : Int, σ' = [some (.ref p), some (.int m), none, some (.int n), some (.int v), none] ∧ H' = upd H p (.lst [.ref c, .int (n + 1), .int r]), ?_, ?_⟩
      · refine ⟨_, rfl, _, _, _, _, rfl, rfl, SqL.of hp1, rfl, _, _, rfl, .inl (SqL.of hc1), _, _, rfl, rfl, _, rfl, ite2 (fun h2 => ?_) (fun h2 => ⟨_, rfl, rfl⟩)⟩
        have hl : 0 < ((ns.map V.int).length : Int) := of_decide_eq_true h2
        obtain ⟨v, hv⟩ := atI_in (ns := ns) (Int.emod_nonneg n (by omega)) (Int.emod_lt_of_pos n hl)
        exact ⟨_, rfl, _, _, _, _, rfl, rfl, SqL.of hp1, rfl, _, rfl, _, rfl, _, _, _, _, rfl, rfl, SqL.of hp1, rfl, _, _, rfl, .inl (SqL.of hc1), _, _, rfl, rfl, hl, _, _, _, _, rfl, rfl, SqL.of hc1, hv, v, rfl, rfl⟩
      · rintro _ _ ⟨v, rfl, rfl⟩
        -- if cell >= 10 ** 18 and at < len(feed[0])
        refine ⟨fun σ' H' => σ' = [some (.ref p), some (.int m), none, some (.int n), some (.int v), none] ∧ H' = upd H p (.lst [.ref c, .int (n + 1), .int r]), ?_, ?_⟩
        · refine ⟨_, rfl, _, _, rfl, rfl, ⟨by decide, by decide, by decide⟩, _, _, rfl, rfl, _, rfl, ite2 (fun h3 => ?_) (fun h3 => iteF ⟨rfl, rfl⟩)⟩
          refine ⟨_, rfl, _, rfl, _, _, _, _, rfl, rfl, SqL.of hp1, rfl, _, _, rfl, .inl (SqL.of hc1), _, _, rfl, rfl, _, rfl, ite2 (fun h4 => ?_) (fun h4 => ⟨rfl, rfl⟩)⟩
          have hv : (10 : Int) ^ (18 : Int).toNat ≤ v := of_decide_eq_true h3
          have hv0 : 0 ≤ v := Int.le_trans (by decide) hv
          refine ⟨_, rfl, _, rfl, _, _, rfl, rfl, ⟨hm0, hm1⟩, _, rfl, _, _, _, _, rfl, rfl, hp1, rfl, ?_⟩
          refine ⟨_, rfl, _, rfl, _, _, rfl, rfl, hm0, ?_⟩
          rw [upd_upd]
          exact q _ _ (n + 1) (Kp.upd _) ⟨_, upd_same, (upd_ne hne).trans hc, by omega, Int.ediv_nonneg hv0 (by omega)⟩ (Int.emod_nonneg _ (by omega)) (Int.emod_lt_of_pos _ hm0) (by omega) (by omega)
        · rintro _ _ ⟨rfl, rfl⟩
          refine ⟨_, rfl, _, _, rfl, rfl, (by show (0 : Int) < 2147483647; decide), _, rfl, _, _, rfl, rfl, .inl ⟨by decide, by decide⟩, _, rfl, _, _, rfl, rfl, .inr ⟨by omega, by omega⟩, _, _, rfl, rfl, _, _, rfl, rfl, _, _, rfl, rfl, .inr ⟨by decide, by decide⟩, _, _, rfl, rfl, (by show (0 : Int) < 2147483647; decide), ?_⟩
          generalize hx : ((v % 2147483647 + 7919 * n * n + 104729) * 48271 % 2147483647 : Int) = x
          have hx0 : 0 ≤ x := by
            rw [← hx]
            exact Int.emod_nonneg _ (by decide)
          have hx1 : x < 2147483647 := by
            rw [← hx]
            exact Int.emod_lt_of_pos _ (by decide)
          refine ⟨_, rfl, _, rfl, _, _, rfl, rfl, .inl ⟨by omega, by omega⟩, _, rfl, _, _, rfl, rfl, .inl ⟨by decide, by decide⟩, _, _, rfl, rfl, _, _, rfl, rfl, (by show (0 : Int) < 2147483629; decide), ?_⟩
          generalize hy : ((x * x + 69621 * n) % 2147483629 : Int) = y
          have hy0 : 0 ≤ y := by
            rw [← hy]
            exact Int.emod_nonneg _ (by decide)
          have hy1 : y < 2147483629 := by
            rw [← hy]
            exact Int.emod_lt_of_pos _ (by decide)
          refine ⟨_, rfl, _, rfl, _, _, rfl, rfl, (by show (0 : Int) < 65521; decide), _, _, rfl, rfl, _, _, rfl, rfl, .inl ⟨by omega, by omega⟩, _, _, rfl, rfl, (by show (0 : Int) < 2147483587; decide), _, _, rfl, rfl, ⟨by decide, by decide⟩, _, rfl, _, _, rfl, rfl, hm0, ?_⟩
          exact q _ _ (n + 1) (Kp.upd _) ⟨_, upd_same, hc1, by omega, hr0⟩ (Int.emod_nonneg _ (by omega)) (Int.emod_lt_of_pos _ hm0) (by omega) (by omega)
theorem worth_at {i : Int} (h0 : 0 ≤ i) (h1 : i < 12) : ∃ v : Int, atI [V.int (-32768), V.int (-32767), V.int (-1), V.int 0, V.int 1, V.int 32766, V.int 32767, V.int 255, V.int 256, V.int (-256), V.int 181, V.int 182] i = some (.int v) ∧ W v := by
  have h : i = 0 ∨ i = 1 ∨ i = 2 ∨ i = 3 ∨ i = 4 ∨ i = 5 ∨ i = 6 ∨ i = 7 ∨ i = 8 ∨ i = 9 ∨ i = 10 ∨ i = 11 := by omega
  unfold W
  rcases h with rfl | rfl | rfl | rfl | rfl | rfl | rfl | rfl | rfl | rfl | rfl | rfl
  all_goals exact ⟨_, rfl, by decide, by decide⟩
theorem ok_lworth (T : Txt K w mg f fd ob) : FnOk P w K mg base CX0 2 (f 15) (fd 15) ["_law_feed_here"] sp_lworth := by
  have G_ldraw := ok_ldraw (P := P) (base := base) T
  refine T.F_lworth.ok sc_lworth (fun vs H Q E h => ?_) (fun cdv A outer s H vs Q E hr h => ?_)
  · obtain ⟨p, c, ns, n, rfl, _⟩ := h
    rfl
  · obtain ⟨p, c, ns, n, rfl, hP, hn, q⟩ := h
    have hr_ldraw := hr
    refine ⟨_, (pss_cons (ps_set (i := 1) sc_lworth.nd rfl (Or.inl rfl) (pe_call G_ldraw hr_ldraw (by rfl) T.m_ldraw T.F_ldraw.kp T.b_ldraw .nil pass0 (pa_cons (pv 0) (pa_cons pe_int pa_nil))))
      (pss_cons (ps_if (pt_cmpR op_lt (pv 1) pe_int (nomark _)) (pss_one (ps_ret (pe_op op_sub (pe_call G_ldraw hr_ldraw (by rfl) T.m_ldraw T.F_ldraw.kp T.b_ldraw .nil pass0 (pa_cons (pv 0) (pa_cons pe_int pa_nil))) pe_int))) pss_nil)
      (pss_cons (ps_if (pt_cmpR op_lt (pv 1) pe_int (nomark _)) (pss_one (ps_ret (pe_op op_sub (pe_call G_ldraw hr_ldraw (by rfl) T.m_ldraw T.F_ldraw.kp T.b_ldraw .nil pass0 (pa_cons (pv 0) (pa_cons pe_int pa_nil))) pe_int))) pss_nil)
      (pss_one (ps_ret (pe_ix ix_list (pe_lst (pa_cons (pe_un un_neg pe_int) (pa_cons (pe_un un_neg pe_int) (pa_cons (pe_un un_neg pe_int) (pa_cons pe_int (pa_cons pe_int (pa_cons pe_int (pa_cons pe_int (pa_cons pe_int (pa_cons pe_int (pa_cons (pe_un un_neg pe_int) (pa_cons pe_int (pa_cons pe_int pa_nil))))))))))))) (pe_call G_ldraw hr_ldraw (by rfl) T.m_ldraw T.F_ldraw.kp T.b_ldraw .nil pass0 (pa_cons (pv 0) (pa_cons pe_int pa_nil))) (fun _ _ => rfl))))))), ?_⟩
    refine ⟨_, rfl, p, c, ns, n, 5, rfl, hP, by decide, by decide, by omega, fun H1 d1 n1 k1 P1 d1a d1b n1a n1b => ?_⟩
    refine ⟨_, rfl, _, _, rfl, rfl, _, rfl, ite2 (fun h1 => ?_) (fun h1 => ?_)⟩
    · refine ⟨_, rfl, p, c, ns, n1, 13, rfl, P1, by decide, by decide, by omega, fun H2 d2 n2 k2 P2 d2a d2b n2a n2b => ?_⟩
      exact ⟨_, _, rfl, rfl, q _ _ _ (k1.trans k2) P2 (by omega) (by omega) ⟨by omega, by omega⟩⟩
    · refine ⟨_, rfl, _, _, rfl, rfl, _, rfl, ite2 (fun h2 => ?_) (fun h2 => ?_)⟩
      · refine ⟨_, rfl, p, c, ns, n1, 65536, rfl, P1, by decide, by decide, by omega, fun H2 d2 n2 k2 P2 d2a d2b n2a n2b => ?_⟩
        exact ⟨_, _, rfl, rfl, q _ _ _ (k1.trans k2) P2 (by omega) (by omega) ⟨by omega, by omega⟩⟩
      · refine ⟨_, rfl, _, rfl, _, rfl, _, rfl, (show 12 ≤ sizeLine by decide), fun l hl => ?_⟩
        refine ⟨_, rfl, p, c, ns, n1, 12, rfl, P1.new hl, by decide, by decide, by omega, fun H2 d2 n2 k2 P2 d2a d2b n2a n2b => ?_⟩
        obtain ⟨v, hv, hW⟩ := worth_at d2a d2b
        have e2 : H2 l = some (.lst [V.int (-32768), V.int (-32767), V.int (-1), V.int 0, V.int 1, V.int 32766, V.int 32767, V.int 255, V.int 256, V.int (-256), V.int 181, V.int 182]) := k2 _ _ (P1.ni hl) upd_same
        exact ⟨_, _, _, _, rfl, rfl, SqL.of e2, hv, q _ _ _ (k1.trans ((Kp.new hl).trans k2)) P2 (by omega) (by omega) hW⟩
theorem ok_ltells (T : Txt K w mg f fd ob) : FnOk P w K mg base CX0 1 (f 19) (fd 19) ["_law_mark", "_law_a", "_law_b"] sp_ltells := by
  refine T.F_ltells.ok sc_ltells (fun vs H Q E h => ?_) (fun cdv A outer s H vs Q E hr h => ?_)
  · obtain ⟨i, a, b, _, rfl, _⟩ := h
    rfl
  · obtain ⟨i, a, b, hi, rfl, ha, hb, q⟩ := h
    unfold W at ha hb
    refine ⟨_, (C8.pss_cut (ps_if (pt_cmpR op_in_seq (pv 0) (pe_tup (pa_cons pe_str (pa_cons pe_str pa_nil))) (by rfl)) (pss_cons (ps_asg (pe_tup (pa_cons pe_int (pa_cons pe_int pa_nil))) (pg_tup (by rfl) (pgs_cons (pg_name (i := 3) sc_ltells.nd rfl (Or.inl rfl)) (pgs_cons (pg_name (i := 4) sc_ltells.nd rfl (Or.inl rfl)) pgs_nil))))
      (C8.pss_cut (ps_if (pt_cmpR op_ne (pv 2) pe_int (nomark _)) (pss_cons (ps_set (i := 3) sc_ltells.nd rfl (Or.inl rfl) (pe_op op_fdivN (pe_op op_sub (pv 1) (pe_op op_modN (pv 1) (pv 2))) (pv 2)))
      (pss_one (ps_set (i := 4) sc_ltells.nd rfl (Or.inl rfl) (pe_op op_sub (pv 1) (pe_op op_mul (pv 3) (pv 2)))))) pss_nil)
      (pss_one (ps_set (i := 5) sc_ltells.nd rfl (Or.inl rfl) (pe_ix ix_list (pe_lst (pa_cons (pv 3) (pa_cons (pv 4) pa_nil))) (pe_callTy call_int1 (by rfl) T.z_int (by decide +kernel) (pa_cons (pe_cmpR op_eq (pv 0) pe_str (nomark _)) pa_nil)) (fun _ _ => rfl)))))) (pss_one (ps_if (pt_cmpR op_in_seq (pv 0) (pe_tup (pa_cons pe_str (pa_cons pe_str pa_nil))) (by rfl)) (pss_cons (ps_asg (pe_tup (pa_cons pe_int (pa_cons pe_int pa_nil))) (pg_tup (by rfl) (pgs_cons (pg_name (i := 5) sc_ltells.nd rfl (Or.inl rfl)) (pgs_cons (pg_name (i := 6) sc_ltells.nd rfl (Or.inl rfl)) pgs_nil))))
      (pss_one (ps_for PassesOwn.never rfl (pi_range1 (by rfl) T.z_range (pa_cons pe_int pa_nil)) (pg_name (i := 7) sc_ltells.nd rfl (Or.inl rfl)) (pss_cons (ps_par (i := 8) (j := 9) (by rfl) sc_ltells.nd rfl rfl (by decide) rfl rfl (pa_cons (pe_op op_mod (pe_op op_fdiv (pv 1) (pv 6)) pe_int) (pa_cons (pe_op op_mod (pe_op op_fdiv (pv 2) (pv 6)) pe_int) pa_nil)) (by rfl))
      (pss_cons (ps_set (i := 5) sc_ltells.nd rfl (Or.inl rfl) (pe_op op_add (pv 5) (pe_op op_mul (pv 6) (pe_ix ix_list (pe_lst (pa_cons (pe_op op_mul (pv 8) (pv 9)) (pa_cons (pe_op op_mod (pe_op op_add (pv 8) (pv 9)) pe_int) pa_nil))) (pe_callTy call_int1 (by rfl) T.z_int (by decide +kernel) (pa_cons (pe_cmpR op_eq (pv 0) pe_str (nomark _)) pa_nil)) (fun _ _ => rfl)))))
      (pss_one (ps_set (i := 6) sc_ltells.nd rfl (Or.inl rfl) (pe_op op_mul (pv 6) pe_int)))))))) (pss_one (ps_set (i := 5) sc_ltells.nd rfl (Or.inl rfl) (pe_dget (hu_of hr) (pe_disp (pps_cons pe_str (pe_op op_add (pv 1) (pv 2)) (pps_cons pe_str (pe_op op_sub (pv 1) (pv 2)) (pps_cons pe_str (pe_op op_mul (pv 1) (pv 2)) (pps_cons pe_str (pe_callTy call_int1 (by rfl) T.z_int (by decide +kernel) (pa_cons (pe_cmpR op_lt (pv 1) (pv 2) (nomark _)) pa_nil)) (pps_cons pe_str (pe_callTy call_int1 (by rfl) T.z_int (by decide +kernel) (pa_cons (pe_cmpR op_eq (pv 1) (pv 2) (nomark _)) pa_nil)) pps_nil))))) (by rfl) (by rfl) (fun z => by cases z) (by decide)) (pv 0) (fun _ _ => rfl)))))))
      (pss_one (ps_ret (pe_op op_sub (pe_op op_mod (pe_op op_add (pv 5) pe_int) pe_int) pe_int)))), ?_⟩
    refine ⟨fun σ' H' => ∃ (x : Int) (y3 y4 y6 y7 y8 y9 : Option V), σ' = [some (.str (nm i)), some (.int a), some (.int b), y3, y4, some (.int x), y6, y7, y8, y9] ∧ Same H H' ∧ br x = br (sg i a b), ?_, ?_⟩
    · -- if mark in ('/', '#')
      refine ⟨_, rfl, (show 2 ≤ sizeLine by decide), fun t1 ht1 => ⟨_, _, rfl, .inr (SqT.of upd_same), rfl, rfl, _, rfl, ?_⟩⟩
      have s1 : Same H (upd H t1 (.tup [.str "/", .str "#"])) := Same.new ht1
      by_cases hq : i = 3 ∨ i = 4
      · refine iteB1 ((in_qr i hi).trans (decide_eq_true hq)) ⟨(show 2 ≤ sizeLine by decide), fun t0 ht0 => ⟨t0, _, rfl, SqT.of upd_same, rfl, _, _, rfl, _, _, rfl, rfl, ?_⟩⟩
        have s0 : Same H (upd (upd H t1 (.tup [.str "/", .str "#"])) t0 (.tup [.int 0, .int 0])) := s1.trans (Same.new ht0)
        refine ⟨fun σ' H' => σ' = [some (.str (nm i)), some (.int a), some (.int b), some (.int (sg 3 a b)), some (.int (sg 4 a b)), none, none, none, none, none] ∧ Same H H', ?_, ?_⟩
        · refine ⟨_, rfl, rfl, _, rfl, ?_⟩
          by_cases hz : b = 0
          · subst hz
            exact iteB0 (by decide) ⟨rfl, s0⟩
          · refine iteB1 (by rw [decide_eq_false (fun z => hz (V.int.inj z))]; rfl) ?_
            refine ⟨_, rfl, _, rfl, _, rfl, _, _, rfl, rfl, hz, _, _, rfl, rfl, _, rfl, _, _, rfl, rfl, ⟨hz, by omega⟩, ?_⟩
            refine ⟨_, rfl, _, rfl, _, rfl, _, _, rfl, rfl, .inr ⟨by omega, by omega⟩, _, _, rfl, rfl, ?_, s0⟩
            have e3 : sg 3 a b = a.fdiv b := if_neg hz
            have e4 : sg 4 a b = a - b * a.fdiv b := if_neg hz
            rw [e3, e4]
            show [some (V.str (nm i)), some (V.int a), some (V.int b), some (V.int ((a - a.fmod b).fdiv b)), some (V.int (a - (a - a.fmod b).fdiv b * b)), none, none, none, none, none] = _
            rw [fdiv_own hz, Int.mul_comm]
        · rintro _ H2 ⟨rfl, s2⟩
          refine ⟨_, rfl, _, rfl, (show 2 ≤ sizeLine by decide), fun l hl => ?_⟩
          refine ⟨_, rfl, rfl, .inr ⟨_, rfl, _, _, _, .int (sg i a b), rfl, rfl, SqL.of upd_same, ?_, sg i a b, _, _, _, _, _, _, rfl, s2.trans (Same.new hl), rfl⟩⟩
          rw [is_r i hi]
          rcases hq with rfl | rfl
          · rfl
          · rfl
      · refine iteB0 ((in_qr i hi).trans (decide_eq_false hq)) ?_
        -- elif mark in ('&', '^')
        refine ⟨_, rfl, (show 2 ≤ sizeLine by decide), fun t2 ht2 => ⟨_, _, rfl, .inr (SqT.of upd_same), rfl, rfl, _, rfl, ?_⟩⟩
        have s2 : Same H (upd (upd H t1 (.tup [.str "/", .str "#"])) t2 (.tup [.str "&", .str "^"])) := s1.trans (Same.new ht2)
        by_cases hx : i = 7 ∨ i = 8
        · refine iteB1 ((in_ax i hi).trans (decide_eq_true hx)) ⟨(show 2 ≤ sizeLine by decide), fun t0 ht0 => ⟨t0, _, rfl, SqT.of upd_same, rfl, _, _, rfl, _, _, rfl, rfl, ?_⟩⟩
          refine ⟨16, rfl, by decide, by decide, for_range (lo := 0) (n := 16) (fun k σ' H' => ∃ (x : Int) (y7 y8 y9 : Option V), σ' = [some (.str (nm i)), some (.int a), some (.int b), none, none, some (.int x), some (.int (2 ^ k)), y7, y8, y9] ∧ Same H H' ∧ sg i a b = x + 2 ^ k * sg i (a / 2 ^ k) (b / 2 ^ k))
            ⟨0, none, none, none, rfl, s2.trans (Same.new ht0), ?_⟩ ?_ ?_⟩
          · rw [Int.pow_zero, Int.ediv_one, Int.ediv_one]
            omega
          · rintro k _ H3 hk ⟨x, y7, y8, y9, rfl, s3, hx3⟩
            obtain ⟨p0, p1⟩ := pow_16 k hk
            have c0 := Int.emod_nonneg (a / 2 ^ k) (show (2 : Int) ≠ 0 by decide)
            have c1 := Int.emod_lt_of_pos (a / 2 ^ k) (show (0 : Int) < 2 by decide)
            refine ⟨_, rfl, _, rfl, _, _, rfl, rfl, ⟨p0, by omega⟩, _, _, rfl, rfl, (by show (0 : Int) < 2; decide), _, rfl, _, rfl, _, _, rfl, rfl, ⟨p0, by omega⟩, _, _, rfl, rfl, (by show (0 : Int) < 2; decide), _, _, rfl, ?_⟩
            refine ⟨_, rfl, _, rfl, _, rfl, _, rfl, _, _, rfl, rfl, .inl ⟨by omega, by omega⟩, _, rfl, _, rfl, _, _, rfl, rfl, _, _, rfl, rfl, (by show (0 : Int) < 2; decide), (show 2 ≤ sizeLine by decide), fun l hl => ?_⟩
            refine ⟨_, rfl, rfl, .inr ⟨_, rfl, _, _, _, .int (dig i (a / 2 ^ k % 2) (b / 2 ^ k % 2)), rfl, rfl, SqL.of upd_same, ?_, _, _, rfl, rfl, .inl ⟨by omega, by omega⟩, _, _, rfl, rfl, ?_⟩⟩
            · rw [is_x i hi]
              rcases hx with rfl | rfl
              · rfl
              · rfl
            · exact ⟨_, rfl, _, _, rfl, rfl, .inr ⟨by decide, by decide⟩, _, _, _, _, rfl, s3.trans (Same.new hl), dig_turn hx hx3⟩
          · rintro _ H3 ⟨x, y7, y8, y9, rfl, s3, hx3⟩
            exact ⟨x, _, _, _, _, _, _, rfl, s3, dig_end hx3⟩
        · refine iteB0 ((in_ax i hi).trans (decide_eq_false hx)) ?_
          -- the written dict
          refine fun d hd => ⟨_, rfl, _, rfl, _, _, rfl, rfl, _, rfl, _, rfl, _, _, rfl, rfl, _, rfl, _, rfl, _, _, rfl, rfl, .inl ⟨by omega, by omega⟩, _, rfl, _, rfl, _, _, rfl, rfl, .inr ⟨_, rfl, _, rfl, _, rfl, rfl, .inr ⟨_, rfl, ?_⟩⟩⟩
          refine ⟨upd_same, [(.inr "+", .int (a + b)), (.inr "-", .int (a - b)), (.inr "*", .int (a * b)), (.inr "<", .int (if decide (a < b) = true then 1 else 0)), (.inr "=", .int (if decide (V.int a = V.int b) = true then 1 else 0))], rfl, (show 5 ≤ 15 by decide), _, rfl, d, .int (sg i a b), rfl, ?_, sg i a b, _, _, _, _, _, _, rfl, ?_, rfl⟩
          · refine .inl ⟨_, .inr (nm i), .inl upd_same, rfl, ?_⟩
            rw [dget5 _ _ _ _ _ i hi hq hx]
            have h5 : (if decide (a < b) = true then (1 : Int) else 0) = if a < b then 1 else 0 := by
              by_cases h : a < b
              · rw [if_pos h, if_pos (decide_eq_true h)]
              · rw [if_neg h, if_neg (fun z => h (of_decide_eq_true z))]
            have h6 : (if decide (V.int a = V.int b) = true then (1 : Int) else 0) = if a = b then 1 else 0 := by
              by_cases h : a = b
              · rw [if_pos h, if_pos (decide_eq_true (by rw [h]))]
              · rw [if_neg h, if_neg (fun z => h (V.int.inj (of_decide_eq_true z)))]
            rw [h5, h6]
            match i, hi, hq, hx with
            | 0, _, _, _ => rfl
            | 1, _, _, _ => rfl
            | 2, _, _, _ => rfl
            | 3, _, h, _ => exact absurd (.inl rfl) h
            | 4, _, h, _ => exact absurd (.inr rfl) h
            | 5, _, _, _ => rfl
            | 6, _, _, _ => rfl
            | 7, _, _, h => exact absurd (.inl rfl) h
            | 8, _, _, h => exact absurd (.inr rfl) h
          · rw [upd_upd]
            exact s2.trans (Same.new hd)
    · rintro _ H' ⟨x, y3, y4, y6, y7, y8, y9, rfl, s', hx⟩
      refine ⟨_, rfl, _, _, rfl, rfl, _, _, rfl, rfl, (by show (0 : Int) < 65536; decide), _, _, rfl, rfl, ?_⟩
      have e : (x + 32768) % 65536 - 32768 = br (sg i a b) := hx
      show Q (.int ((x + 32768) % 65536 - 32768)) H'
      rw [e]
      exact q _ s'
theorem ok_lregister (T : Txt K w mg f fd ob) : FnOk P w K mg base CX0 2 (f 16) (fd 16) ["_law_feed_here"] sp_lregister := by
  have G_ldraw := ok_ldraw (P := P) (base := base) T
  refine T.F_lregister.ok sc_lregister (fun vs H Q E h => ?_) (fun cdv A outer s H vs Q E hr h => ?_)
  · obtain ⟨p, c, ns, n, rfl, _⟩ := h
    rfl
  · obtain ⟨p, c, ns, n, rfl, hP, hn, q⟩ := h
    have hr_ldraw := hr
    refine ⟨_, (pss_one (ps_ret (pe_ix ix_str pe_str (pe_call G_ldraw hr_ldraw (by rfl) T.m_ldraw T.F_ldraw.kp T.b_ldraw .nil pass0 (pa_cons (pv 0) (pa_cons (pe_ix ix_list (pe_lst (pa_cons pe_int (pa_cons pe_int pa_nil))) (pe_op op_fdiv (pe_call G_ldraw hr_ldraw (by rfl) T.m_ldraw T.F_ldraw.kp T.b_ldraw .nil pass0 (pa_cons (pv 0) (pa_cons pe_int pa_nil))) pe_int) (fun _ _ => rfl)) pa_nil))) (fun _ _ => rfl)))), ?_⟩
    refine ⟨_, rfl, (show 2 ≤ sizeLine by decide), fun l hl => ?_⟩
    refine ⟨_, rfl, p, c, ns, n, 3, rfl, hP.new hl, by decide, by decide, by omega, fun H1 d1 n1 k1 P1 d1a d1b n1a n1b => ?_⟩
    have e1 : H1 l = some (.lst [V.int 3, V.int 16]) := k1 _ _ (hP.ni hl) upd_same
    obtain ⟨v, hv, hv0, hv1⟩ : ∃ v : Int, atI [V.int 3, V.int 16] (d1 / 2) = some (.int v) ∧ 0 < v ∧ v ≤ 16 := by
      have h : d1 / 2 = 0 ∨ d1 / 2 = 1 := by omega
      rcases h with e | e
      · rw [e]
        exact ⟨_, rfl, by decide, by decide⟩
      · rw [e]
        exact ⟨_, rfl, by decide, by decide⟩
    refine ⟨_, _, rfl, rfl, ⟨by decide, by decide⟩, _, _, _, _, rfl, rfl, SqL.of e1, hv, p, c, ns, n1, v, rfl, P1, by omega, by omega, by omega, fun H2 d2 n2 k2 P2 d2a d2b n2a n2b => ?_⟩
    obtain ⟨j, rfl⟩ := Int.eq_ofNat_of_zero_le d2a
    have hj : j < 16 := by omega
    exact ⟨_, _, _, rfl, rfl, (by decide +kernel), lt_at j hj, q _ j n2 ((Kp.new hl).trans (k1.trans k2)) P2 (by omega) (by omega) hj⟩
theorem ok_litem (T : Txt K w mg f fd ob) : FnOk P w K mg base CX0 3 (f 17) (fd 17) ["_law_feed_here"] sp_litem := by
  have G_ldraw := ok_ldraw (P := P) (base := base) T
  have G_lworth := ok_lworth (P := P) (base := base) T
  have G_lregister := ok_lregister (P := P) (base := base) T
  refine T.F_litem.ok sc_litem (fun vs H Q E h => ?_) (fun cdv A outer s H vs Q E hr h => ?_)
  · obtain ⟨p, c, ns, n, rfl, _⟩ := h
    rfl
  · obtain ⟨p, c, ns, n, rfl, hP, hn, q⟩ := h
    have hr_lworth := hr
    have hr_lregister := hr
    have hr_ldraw : Room 1 _ := hr.mono (by decide)
    refine ⟨_, (pss_one (ps_ret (pe_ix ix_list (pe_lst (pa_cons (pe_call G_lworth hr_lworth (by rfl) T.m_lworth T.F_lworth.kp T.b_lworth .nil pass0 (pa_cons (pv 0) pa_nil)) (pa_cons (pe_call G_lregister hr_lregister (by rfl) T.m_lregister T.F_lregister.kp T.b_lregister .nil pass0 (pa_cons (pv 0) pa_nil)) pa_nil))) (pe_call G_ldraw hr_ldraw (by rfl) T.m_ldraw T.F_ldraw.kp T.b_ldraw .nil pass0 (pa_cons (pv 0) (pa_cons pe_int pa_nil))) (fun _ _ => rfl)))), ?_⟩
    refine ⟨_, rfl, p, c, ns, n, rfl, hP, by omega, fun H1 a n1 k1 P1 n1a n1b hW => ?_⟩
    refine ⟨_, rfl, p, c, ns, n1, rfl, P1, by omega, fun H2 k n2 k2 P2 n2a n2b hk => ?_⟩
    refine ⟨(show 2 ≤ sizeLine by decide), fun l hl => ?_⟩
    refine ⟨_, rfl, p, c, ns, n2, 2, rfl, P2.new hl, by decide, by decide, by omega, fun H3 d n3 k3 P3 d3a d3b n3a n3b => ?_⟩
    have e3 : H3 l = some (.lst [V.int a, V.str (lt k)]) := k3 _ _ (P2.ni hl) upd_same
    have kk := (k1.trans k2).trans ((Kp.new hl).trans k3)
    have h : d = 0 ∨ d = 1 := by omega
    rcases h with rfl | rfl
    · exact ⟨_, _, _, _, rfl, rfl, SqL.of e3, rfl, q _ (.wo a) n3 kk P3 (by omega) (by omega) hW rfl⟩
    · exact ⟨_, _, _, _, rfl, rfl, SqL.of e3, rfl, q _ (.re k) n3 kk P3 (by omega) (by omega) hk rfl⟩
theorem ok_lexpression (T : Txt K w mg f fd ob) : FnOk P w K mg base CX0 4 (f 18) (fd 18) ["_law_feed_here", "_law_most"] sp_lexpression := by
  have G_ldraw := ok_ldraw (P := P) (base := base) T
  have G_litem := ok_litem (P := P) (base := base) T
  refine T.F_lexpression.ok sc_lexpression (fun vs H Q E h => ?_) (fun cdv A outer s H vs Q E hr h => ?_)
  · obtain ⟨p, c, ns, n, most, rfl, _⟩ := h
    rfl
  · obtain ⟨p, c, ns, n, most, rfl, hP, hn, hmost, q⟩ := h
    have hr_litem := hr
    have hr_ldraw : Room 1 _ := hr.mono (by decide)
    refine ⟨_, (pss_cons (ps_set (i := 2) sc_lexpression.nd rfl (Or.inl rfl) (pe_call G_ldraw hr_ldraw (by rfl) T.m_ldraw T.F_ldraw.kp T.b_ldraw .nil pass0 (pa_cons (pv 0) (pa_cons (pe_op op_add (pv 1) pe_int) pa_nil))))
      (pss_cons (ps_par3 (i := 3) (j := 4) (l := 5) (by rfl) sc_lexpression.nd rfl rfl rfl (by decide) (by decide) (by decide) rfl rfl rfl (pa_cons (pe_lst pa_nil) (pa_cons pe_int (pa_cons (pe_op op_add (pv 2) pe_int) pa_nil))) (by rfl))
      (pss_cons (ps_for PassesOwn.never rfl (pi_range1 (by rfl) T.z_range (pa_cons (pe_op op_add (pe_op op_mul pe_int (pv 2)) pe_int) pa_nil)) (pg_name (i := 6) sc_lexpression.nd rfl (Or.inl rfl)) (pss_one (ps_if (pt_M (PW.pt (pw_or (pt_cmpR op_lt (pv 4) pe_int (nomark _)) (pw_or1 (PW.pt (pw_and (pt_cmpR op_gt (pv 5) pe_int (nomark _)) (pw_and1 (pt_cmpR op_eq (pe_call G_ldraw hr_ldraw (by rfl) T.m_ldraw T.F_ldraw.kp T.b_ldraw .nil pass0 (pa_cons (pv 0) (pa_cons pe_int pa_nil))) pe_int (nomark _))))))))) (pss_cons (ps_expr (pe_bm PySem.F.plainAttrs_list PySem.F.slot_list_append PySem.F.type_list_append mt_append (pv 3) (pa_cons (pe_call G_litem hr_litem (by rfl) T.m_litem T.F_litem.kp T.b_litem .nil pass0 (pa_cons (pv 0) pa_nil)) pa_nil)))
      (pss_one (ps_par (i := 4) (j := 5) (by rfl) sc_lexpression.nd rfl rfl (by decide) rfl rfl (pa_cons (pe_op op_add (pv 4) pe_int) (pa_cons (pe_op op_sub (pv 5) pe_int) pa_nil)) (by rfl)))) (pss_cons (ps_expr (pe_bm PySem.F.plainAttrs_list PySem.F.slot_list_append PySem.F.type_list_append mt_append (pv 3) (pa_cons (pe_ix ix_str pe_str (pe_call G_ldraw hr_ldraw (by rfl) T.m_ldraw T.F_ldraw.kp T.b_ldraw .nil pass0 (pa_cons (pv 0) (pa_cons pe_int pa_nil))) (fun _ _ => rfl)) pa_nil)))
      (pss_one (ps_set (i := 4) sc_lexpression.nd rfl (Or.inl rfl) (pe_op op_sub (pv 4) pe_int)))))))
      (pss_one (ps_ret (pe_callTy call_tuple_of (by rfl) T.z_tuple (by decide +kernel) (pa_cons (pv 3) pa_nil))))))), ?_⟩
    refine ⟨_, rfl, _, rfl, _, _, rfl, rfl, p, c, ns, n, (most : Int) + 1, rfl, hP, by omega, by omega, by omega, fun H1 d1 n1 k1 P1 d1a d1b n1a n1b => ?_⟩
    obtain ⟨sn, rfl⟩ := Int.eq_ofNat_of_zero_le d1a
    refine ⟨Nat.zero_le _, fun l hl => ⟨_, rfl, _, _, rfl, rfl, _, _, _, rfl, ?_⟩⟩
    have hHl : H l = none := k1.free (P1.ni hl) hl
    refine ⟨_, rfl, _, _, rfl, rfl, .inl ⟨by decide, by decide⟩, _, _, rfl, rfl, 2 * (sn : Int) + 1, rfl, by omega, by omega, for_range (lo := 0) (n := (2 * (sn : Int) + 1).toNat) (fun j σ' H' => ∃ (its : List Im) (h pu : Nat) (y : Option V) (n' : Int),
        σ' = [some (.ref p), some (.int most), some (.int sn), some (.ref l), some (.int (h : Int)), some (.int ((sn : Int) + 1 - pu)), y] ∧ Kp p H H' ∧ Pen H' p c ns n' ∧ n ≤ n' ∧ n' ≤ n + 1 + 6 * j ∧ H' l = some (.lst (its.map Im.toV)) ∧
        (∀ m ∈ its, m.ok) ∧ its.length = j ∧ ht 0 its = some h ∧ (h : Int) = 2 * pu - j ∧ pu ≤ sn + 1 ∧ (j = 0 ∨ 1 ≤ h))
      ⟨[], 0, 0, none, n1, rfl, k1.trans (Kp.new hl), P1.new hl, by omega, by omega, upd_same, (fun m hm => (List.not_mem_nil hm).elim), rfl, rfl, rfl, by omega, Or.inl rfl⟩ ?_ ?_⟩
    · rintro j _ H2 hj ⟨its, h, pu, y, n2, rfl, k2, P2, n2a, n2b, hl2, hok, hlen, hht, hh, hpu, hj1⟩
      have nlp : l ≠ p := P1.ni hl
      have hsz : (its.map Im.toV).length < sizeLine := by
        rw [List.length_map]
        exact small1000 (by omega)
      -- the test, with a word
      refine ⟨fun b H' => ∃ n' : Int, Kp p H2 H' ∧ Pen H' p c ns n' ∧ n2 ≤ n' ∧ n' ≤ n2 + 1 ∧ (b = true → pu < sn + 1) ∧ (b = false → 2 ≤ h), ?_, ?_⟩
      · refine ⟨_, rfl, _, _, rfl, rfl, _, rfl, ite2 (fun h1 => ?_) (fun h1 => ?_)⟩
        · have h1' : (h : Int) < 2 := of_decide_eq_true h1
          exact ⟨n2, Kp.refl _ _, P2, by omega, by omega, (fun _ => by omega), (fun z => nomatch z)⟩
        · have h1' : ¬ (h : Int) < 2 := fun z => h1 (decide_eq_true z)
          refine ⟨_, rfl, _, _, rfl, rfl, _, rfl, ite2 (fun h2 => ?_) (fun h2 => ⟨n2, Kp.refl _ _, P2, by omega, by omega, (fun z => nomatch z), (fun _ => by omega)⟩)⟩
          have h2' : 0 < (sn : Int) + 1 - pu := of_decide_eq_true h2
          refine ⟨_, rfl, p, c, ns, n2, 2, rfl, P2, by decide, by decide, by omega, fun H3 d3 n3 k3 P3 d3a d3b n3a n3b => ?_⟩
          exact ⟨rfl, _, rfl, n3, k3, P3, by omega, by omega, (fun _ => by omega), (fun _ => by omega)⟩
      · rintro b H3 ⟨n3, k3, P3, n3a, n3b, hb1, hb2⟩
        have hl3 := k3 _ _ nlp hl2
        cases b with
        | true =>
          have hpu' := hb1 rfl
          refine iteT ⟨_, rfl, .inl ⟨rfl, _, SqL.of hl3⟩, _, rfl, p, c, ns, n3, rfl, P3, by omega, fun H4 m n4 k4 P4 n4a n4b hm hs => ?_⟩
          have hl4 := k4 _ _ nlp hl3
          refine ⟨l, _, _, rfl, rfl, hl4, hsz, ?_⟩
          refine ⟨_, rfl, _, _, rfl, rfl, _, rfl, _, _, rfl, rfl, _, _, rfl, ?_⟩
          refine ⟨its ++ [m], h + 1, pu + 1, some (.int (0 + (j : Int))), n4, ?_, ?_, ?_, by omega, by omega, ?_, ?_, ?_, ?_, by omega, by omega, .inr (by omega)⟩
          · have e1 : (sn : Int) + 1 - pu - 1 = (sn : Int) + 1 - ((pu + 1 : Nat) : Int) := by omega
            show [some (V.ref p), some (V.int most), some (V.int sn), some (V.ref l), some (V.int ((h : Int) + 1)), some (V.int ((sn : Int) + 1 - pu - 1)), some (V.int (0 + (j : Int)))] = _
            rw [e1]
            rfl
          · exact Kp.mut ((k2.trans k3).trans k4) hHl
          · obtain ⟨r, g1, g2, g3, g4⟩ := P4
            have nlc : c ≠ l := fun z => by
              rw [z] at g2
              have hc0 := hP.same (Same.refl H)
              obtain ⟨r0, _, c2, _⟩ := hP
              rw [z, hHl] at c2
              cases c2
            exact ⟨r, (upd_ne nlp.symm).trans g1, (upd_ne nlc).trans g2, g3, g4⟩
          · rw [upd_same, List.map_append]
            rfl
          · intro x hx
            rcases List.mem_append.mp hx with hx | hx
            · exact hok x hx
            · rw [List.mem_singleton] at hx
              rw [hx]
              exact hm
          · rw [List.length_append, hlen]
            rfl
          · rw [ht_snoc, hht]
            show (if m.sgn = true then _ else some (h + 1)) = _
            rw [hs]
            rfl
        | false =>
          have hh2 := hb2 rfl
          refine iteF ⟨_, rfl, .inl ⟨rfl, _, SqL.of hl3⟩, _, rfl, p, c, ns, n3, 9, rfl, P3, by decide, by decide, by omega, fun H4 d4 n4 k4 P4 d4a d4b n4a n4b => ?_⟩
          obtain ⟨i, rfl⟩ := Int.eq_ofNat_of_zero_le d4a
          have hi9 : i < 9 := by omega
          have hl4 := k4 _ _ nlp hl3
          refine ⟨_, _, _, rfl, rfl, (by decide +kernel), sg_at i hi9, l, _, _, rfl, rfl, hl4, hsz, ?_⟩
          refine ⟨_, rfl, _, _, rfl, rfl, ?_⟩
          refine ⟨its ++ [.si i], h - 1, pu, some (.int (0 + (j : Int))), n4, ?_, ?_, ?_, by omega, by omega, ?_, ?_, ?_, ?_, by omega, by omega, .inr (by omega)⟩
          · have e1 : (h : Int) - 1 = ((h - 1 : Nat) : Int) := by omega
            show [some (V.ref p), some (V.int most), some (V.int sn), some (V.ref l), some (V.int ((h : Int) - 1)), some (V.int ((sn : Int) + 1 - pu)), some (V.int (0 + (j : Int)))] = _
            rw [e1]
          · exact Kp.mut ((k2.trans k3).trans k4) hHl
          · obtain ⟨r, g1, g2, g3, g4⟩ := P4
            have nlc : c ≠ l := fun z => by
              obtain ⟨r0, _, c2, _⟩ := hP
              rw [z, hHl] at c2
              cases c2
            exact ⟨r, (upd_ne nlp.symm).trans g1, (upd_ne nlc).trans g2, g3, g4⟩
          · rw [upd_same, List.map_append, List.map_singleton]
            show some (HO.lst (its.map Im.toV ++ [V.str ⟨#[codes.getD i 0]⟩])) = some (HO.lst (its.map Im.toV ++ [V.str (nm i)]))
            rw [nm_code i hi9]
          · intro x hx
            rcases List.mem_append.mp hx with hx | hx
            · exact hok x hx
            · rw [List.mem_singleton] at hx
              rw [hx]
              exact hi9
          · rw [List.length_append, hlen]
            rfl
          · rw [ht_snoc, hht]
            show (if 2 ≤ h then some (h - 1) else none) = _
            rw [if_pos hh2]
    · rintro _ H2 ⟨its, h, pu, y, n2, rfl, k2, P2, n2a, n2b, hl2, hok, hlen, hht, hh, hpu, hj1⟩
      have e1 : h = 1 := by omega
      subst e1
      refine ⟨_, rfl, _, _, rfl, .inl ⟨SqL.of hl2, fun t ht' => ?_⟩⟩
      refine q _ t its n2 (k2.trans (Kp.new ht')) (P2.new ht') (by omega) (by omega) (k2.free (P2.ni ht') ht') upd_same ⟨hok, hht⟩ (by omega) (fun z => ?_)
      rw [z] at hlen
      rw [List.length_nil] at hlen
      omega
theorem ok_lregs (T : Txt K w mg f fd ob) : FnOk P w K mg base CX0 3 (f 21) (fd 21) ["_law_feed_here"] sp_lregs := by
  have G_ldraw := ok_ldraw (P := P) (base := base) T
  have G_lworth := ok_lworth (P := P) (base := base) T
  have G_lregister := ok_lregister (P := P) (base := base) T
  refine T.F_lregs.ok sc_lregs (fun vs H Q E h => ?_) (fun cdv A outer s H vs Q E hr h => ?_)
  · obtain ⟨p, c, ns, n, rfl, _⟩ := h
    rfl
  · obtain ⟨p, c, ns, n, rfl, hP, hn, q⟩ := h
    have hr_lworth := hr
    have hr_lregister := hr
    have hr_ldraw : Room 1 _ := hr.mono (by decide)
    refine ⟨_, (pss_cons (ps_set (i := 1) sc_lregs.nd rfl (Or.inl rfl) pe_dnewK)
      (pss_cons (ps_for PassesOwn.never rfl (pi_range1 (by rfl) T.z_range (pa_cons (pe_call G_ldraw hr_ldraw (by rfl) T.m_ldraw T.F_ldraw.kp T.b_ldraw .nil pass0 (pa_cons (pv 0) (pa_cons pe_int pa_nil))) pa_nil)) (pg_name (i := 2) sc_lregs.nd rfl (Or.inl rfl)) (pss_one (ps_dput (hu_of hr) (pv 1) (pe_call G_lregister hr_lregister (by rfl) T.m_lregister T.F_lregister.kp T.b_lregister .nil pass0 (pa_cons (pv 0) pa_nil)) (pe_call G_lworth hr_lworth (by rfl) T.m_lworth T.F_lworth.kp T.b_lworth .nil pass0 (pa_cons (pv 0) pa_nil)) rfl)))
      (pss_one (ps_ret (pv 1))))), ?_⟩
    intro d hd
    refine ⟨_, rfl, p, c, ns, n, 9, rfl, hP.new hd, by decide, by decide, by omega, fun H1 d1 n1 k1 P1 d1a d1b n1a n1b => ?_⟩
    have hd1 : H1 d = some (.dK []) := k1 _ _ (hP.ni hd) upd_same
    have ndp : d ≠ p := hP.ni hd
    have ndc : c ≠ d := fun z => by
      obtain ⟨r0, _, c2, _⟩ := hP
      rw [z, hd] at c2
      cases c2
    refine ⟨_, rfl, by omega, by omega, for_range (lo := 0) (n := d1.toNat) (fun j σ' H' => ∃ (kvs : List (Key × V)) (y : Option V) (n' : Int), σ' = [some (.ref p), some (.ref d), y] ∧ Kp p H H' ∧ Pen H' p c ns n' ∧ n ≤ n' ∧ n' ≤ n + 1 + 4 * j ∧ H' d = some (.dK kvs) ∧ Gd kvs ∧ kvs.length ≤ j)
      ⟨[], none, n1, rfl, (Kp.new hd).trans k1, P1, by omega, by omega, hd1, Gd.nil, Nat.le_refl _⟩ ?_ ?_⟩
    · rintro j _ H2 hj ⟨kvs, y, n2, rfl, k2, P2, n2a, n2b, hd2, hg, hlen⟩
      refine ⟨_, rfl, p, c, ns, n2, rfl, P2, by omega, fun H3 a n3 k3 P3 n3a n3b hW => ?_⟩
      refine ⟨_, rfl, _, rfl, p, c, ns, n3, rfl, P3, by omega, fun H4 k n4 k4 P4 n4a n4b hk => ?_⟩
      have hd4 := k4 _ _ ndp (k3 _ _ ndp hd2)
      refine ⟨d, _, rfl, DPut.k (k := .inr (lt k)) hd4 (small1000 (by omega)), ?_⟩
      refine ⟨_, _, n4, rfl, Kp.mut ((k2.trans k3).trans k4) hd, ?_, by omega, by omega, upd_same, hg.put _ hW, Nat.le_trans (length_putK _ _ _) (by omega)⟩
      obtain ⟨r, g1, g2, g3, g4⟩ := P4
      exact ⟨r, (upd_ne ndp.symm).trans g1, (upd_ne ndc).trans g2, g3, g4⟩
    · rintro _ H2 ⟨kvs, y, n2, rfl, k2, P2, n2a, n2b, hd2, hg, hlen⟩
      exact ⟨_, rfl, q _ d kvs n2 k2 P2 (by omega) (by omega) hd2 hg⟩
theorem ok_lreck (T : Txt K w mg f fd ob) : FnOk P w K mg base CX0 2 (f 20) (fd 20) ["_law_items", "_law_held"] (sp_lreck K) := by
  have G_ltells := ok_ltells (P := P) (base := base) T
  refine T.F_lreck.ok sc_lreck (fun vs H Q E h => ?_) (fun cdv A outer s H vs Q E hr h => ?_)
  · obtain ⟨e, d, its, kvs, y, rfl, _⟩ := h
    rfl
  · obtain ⟨e, d, its, kvs, y, rfl, hS, hok, hlen, hd, hg, hrun, q⟩ := h
    have hr_ltells := hr
    refine ⟨_, (pss_cons (ps_set (i := 2) sc_lreck.nd rfl (Or.inl rfl) (pe_lst pa_nil))
      (pss_cons (ps_for PassesOwn.never rfl (pi_tup (pv 0)) (pg_name (i := 3) sc_lreck.nd rfl (Or.inl rfl)) (pss_one (ps_if (pt_val (pe_callB call_isi (by rfl) T.z_isinstance (by decide +kernel) (pa_cons (pv 3) (pa_cons (pe_bltn (v := .ty "int") (by rfl) T.z_int (by decide +kernel) rfl) pa_nil)))) (pss_one (ps_expr (pe_bm PySem.F.plainAttrs_list PySem.F.slot_list_append PySem.F.type_list_append mt_append (pv 2) (pa_cons (pv 3) pa_nil)))) (pss_one (ps_if (pt_cmpR op_in_sign (pv 3) pe_str (by rfl)) (pss_one (ps_expr (pe_bm PySem.F.plainAttrs_list PySem.F.slot_list_append PySem.F.type_list_append mt_append (pv 2) (pa_cons (pe_dget2 (hu_of hr) (pv 1) (pv 3) pe_int ⟨rfl, rfl, rfl, rfl⟩) pa_nil)))) (pss_one (ps_set (i := 2) sc_lreck.nd rfl (Or.inl rfl) (pe_op op_cat (pe_slice sl_list (pv 2) po_none (po_some (pe_un un_neg pe_int))) (pe_lst (pa_cons (pe_call G_ltells hr_ltells (by rfl) T.m_ltells T.F_ltells.kp T.b_ltells .nil pass0 (pa_cons (pv 3) (pa_cons (pe_ix ix_list (pv 2) (pe_un un_neg pe_int) (fun _ _ => rfl)) (pa_cons (pe_ix ix_list (pv 2) (pe_un un_neg pe_int) (fun _ _ => rfl)) pa_nil)))) pa_nil))))))))))
      (pss_one (ps_ret (pe_ix ix_list (pv 2) pe_int (fun _ _ => rfl)))))), ?_⟩
    refine ⟨Nat.zero_le _, fun l hl => ?_⟩
    refine ⟨_, rfl, e, rfl, ⟨_, ex_t (Same.new hl) hS⟩, for_tup (xs := its.map Im.toV) (fun i σ' H' => ∃ (l : Addr) (rp : List Int) (y3 : Option V), σ' = [some (.ref e), some (.ref d), some (.ref l), y3] ∧ Same H H' ∧ H l = none ∧ H' l = some (.lst (rp.reverse.map V.int)) ∧
        run (rho kvs) rp (its.drop i) = some [y] ∧ (∀ x ∈ rp, W x) ∧ rp.length ≤ i)
      ⟨l, [], none, rfl, Same.new hl, hl, upd_same, hrun, (fun x hx => (List.not_mem_nil hx).elim), Nat.le_refl _⟩ (fun i σ' H' _ ⟨_, _, _, _, s, _⟩ => ex_t s hS) ?_ ?_⟩
    · rintro i x _ H1 hx ⟨l, rp, y3, rfl, s1, hl, h1, hr1, hW, hle⟩
      rw [List.getElem?_map] at hx
      cases em : its[i]? with
      | none =>
        rw [em] at hx
        cases hx
      | some m =>
        rw [em] at hx
        obtain rfl : m.toV = x := Option.some.inj hx
        have hi : i < its.length := (List.getElem?_eq_some_iff.mp em).1
        have hm : m ∈ its := List.mem_of_getElem? em
        have ed : its.drop i = m :: its.drop (i + 1) := by
          rw [List.drop_eq_getElem_cons hi]
          congr 1
          exact (List.getElem?_eq_some_iff.mp em).2
        rw [ed] at hr1
        have hd1 : H1 d = some (.dK kvs) := s1 _ _ hd
        have hsz : (rp.reverse.map V.int).length < sizeLine := by
          rw [List.length_map, List.length_reverse]
          exact small1000 (by omega)
        cases m with
        | wo a =>
          refine ⟨_, rfl, _, _, _, _, true, rfl, .ty _, .base (.int _), kit_ty (by decide +kernel), _, rfl, iteT ?_⟩
          refine ⟨_, rfl, .inl ⟨rfl, _, SqL.of h1⟩, _, rfl, l, _, _, rfl, rfl, h1, hsz, ?_⟩
          refine ⟨l, a :: rp, _, rfl, Same.mut s1 hl, hl, ?_, hr1, ?_, ?_⟩
          · rw [upd_same, rev_last]
            rfl
          · intro x hx
            rcases List.mem_cons.mp hx with rfl | hx
            · exact hok _ hm
            · exact hW x hx
          · rw [List.length_cons]
            omega
        | re k =>
          obtain ⟨g1, g2⟩ := hg.get k
          refine ⟨_, rfl, _, _, _, _, false, rfl, .ty _, .base (.str _), kit_ty (by decide +kernel), _, rfl, iteF ?_⟩
          refine ⟨_, rfl, _, letters, rfl, rfl, _, rfl, iteB1 (lt_in k (hok _ hm)) ?_⟩
          refine ⟨_, rfl, .inl ⟨rfl, _, SqL.of h1⟩, _, rfl, d, rfl, .inl ⟨_, .inl hd1⟩, _, rfl, _, .inl ⟨kvs, .inr (lt k), .inl hd1, rfl, rfl⟩, ?_⟩
          rw [g1]
          refine ⟨l, _, _, rfl, rfl, h1, hsz, ?_⟩
          refine ⟨l, rho kvs k :: rp, _, rfl, Same.mut s1 hl, hl, ?_, hr1, ?_, ?_⟩
          · rw [upd_same, rev_last]
          · intro x hx
            rcases List.mem_cons.mp hx with rfl | hx
            · exact g2
            · exact hW x hx
          · rw [List.length_cons]
            omega
        | si j =>
          match rp, h1, hr1, hW, hle, hsz with
          | [], _, hr1, _, _, _ => cases hr1
          | [x], _, hr1, _, _, _ => cases hr1
          | v :: u :: t, h1, hr1, hW, hle, hsz =>
            have hv : W v := hW v List.mem_cons_self
            have hu : W u := hW u (List.mem_cons_of_mem _ List.mem_cons_self)
            have hj : j < 9 := hok _ hm
            rw [rev_last, rev_last] at h1
            refine ⟨_, rfl, _, _, _, _, false, rfl, .ty _, .base (.str _), kit_ty (by decide +kernel), _, rfl, iteF ?_⟩
            refine ⟨_, rfl, codes.getD j 0, letters, ?_, rfl, _, rfl, iteB0 (sg_in j hj) ?_⟩
            · show V.str (nm j) = _
              rw [nm_code j hj]
            refine ⟨_, rfl, _, rfl, _, rfl, l, _, rfl, SqL.of h1, fun s hs => ?_⟩
            have h2 := Same.new (o := .lst (cutV (t.reverse.map V.int ++ [V.int u] ++ [V.int v]) none (some (-2)))) hs _ _ h1
            refine ⟨_, rfl, _, rfl, _, rfl, _, _, _, _, rfl, rfl, SqL.of h2, atI_last2 _ _ _, _, rfl, _, rfl, _, _, _, _, rfl, rfl, SqL.of h2, atI_last _ _, j, u, v, hj, rfl, hu, hv, fun H3 s3 => ⟨(show 1 ≤ sizeLine by decide), fun l1 hl1 => ?_⟩⟩
            have hs3 : (upd H3 l1 (.lst [V.int (br (sg j u v))])) s = some (.lst (t.reverse.map V.int)) := by
              refine Same.new hl1 _ _ (s3 _ _ ?_)
              rw [upd_same, cut_last2]
            refine ⟨_, _, _, _, rfl, rfl, hs3, upd_same, ?_, fun p hp => ?_⟩
            · rw [List.length_map, List.length_reverse]
              rw [List.length_cons, List.length_cons] at hle
              exact Nat.le_trans (show _ ≤ 2000 by show t.length + 1 ≤ 2000; omega) (by decide)
            · have sp := ((s1.trans (Same.new (o := .lst (cutV (t.reverse.map V.int ++ [V.int u] ++ [V.int v]) none (some (-2)))) hs)).trans s3).trans (Same.new (o := .lst [V.int (br (sg j u v))]) hl1)
              refine ⟨p, br (sg j u v) :: t, _, rfl, sp.trans (Same.new hp), sp.free hp, ?_, hr1, ?_, ?_⟩
              · rw [upd_same, rev_last]
              · intro x hx
                rcases List.mem_cons.mp hx with rfl | hx
                · exact br_W _
                · exact hW x (List.mem_cons_of_mem _ (List.mem_cons_of_mem _ hx))
              · rw [List.length_cons, List.length_cons] at hle
                rw [List.length_cons]
                omega
    · rintro _ H1 ⟨l, rp, y3, rfl, s1, hl, h1, hr1, hW, hle⟩
      rw [List.length_map, List.drop_length] at hr1
      have e : rp = [y] := Option.some.inj hr1
      subst e
      exact ⟨_, rfl, _, _, _, _, rfl, rfl, SqL.of h1, rfl, q _ s1⟩
theorem kb_reckoned (T : Txt K w mg f fd ob) : KBn K (fd 12) ["e", "registers"] 0 ["registers", "e"] (fun _ ws => ws.reverse) (fun _ zs => zs.reverse) := by
  obtain ⟨oc, od, kV, doc, pm, an, cdv, ct, osl, e, lk, hcd⟩ := T.F_reckoned.ex
  refine ⟨fun s us ws X l1 l2 => ?_, fun r1 r2 => vals_rev r2⟩
  rw [e]
  match us, ws, l1, l2 with
  | [], [u1, u2], _, _ => exact .of_eq rfl
theorem ok_law (T : Txt K w mg f fd ob) : FnOk P w K mg base CX0 5 (f 22) (fd 22) ["_law_script"] (sp_law K) := by
  have G_reckoned := ok_reckoned (P := P) (base := base) T
  have G_lfeed := ok_lfeed (P := P) (base := base) T
  have G_ldraw := ok_ldraw (P := P) (base := base) T
  have G_litem := ok_litem (P := P) (base := base) T
  have G_lexpression := ok_lexpression (P := P) (base := base) T
  have G_lreck := ok_lreck (P := P) (base := base) T
  have G_lregs := ok_lregs (P := P) (base := base) T
  refine T.F_law.ok sc_law (fun vs H Q E h => ?_) (fun cdv A outer s H vs Q E hr h => ?_)
  · obtain ⟨a, ns, rfl, _⟩ := h
    rfl
  · obtain ⟨a, ns, rfl, hS, hlen, q⟩ := h
    have hr_lexpression := hr
    have hr_reckoned : Room 3 _ := hr.mono (by decide)
    have hr_litem : Room 3 _ := hr.mono (by decide)
    have hr_lregs : Room 3 _ := hr.mono (by decide)
    have hr_lreck : Room 2 _ := hr.mono (by decide)
    have hr_lfeed : Room 1 _ := hr.mono (by decide)
    have hr_ldraw : Room 1 _ := hr.mono (by decide)
    refine ⟨_, (pss_cons (ps_set (i := 1) sc_law.nd rfl (Or.inl rfl) (pe_call G_lfeed hr_lfeed (by rfl) T.m_lfeed T.F_lfeed.kp T.b_lfeed .nil pass0 (pa_cons (pv 0) pa_nil)))
      (pss_cons (ps_for PassesOwn.never rfl (pi_range1 (by rfl) T.z_range (pa_cons pe_int pa_nil)) (pg_name (i := 2) sc_law.nd rfl (Or.inl rfl)) (C8.pss_cut (ps_set (i := 3) sc_law.nd rfl (Or.inl rfl) (pe_call G_lexpression hr_lexpression (by rfl) T.m_lexpression T.F_lexpression.kp T.b_lexpression .nil pass0 (pa_cons (pv 1) (pa_cons (pe_ix ix_list (pe_lst (pa_cons pe_int (pa_cons pe_int (pa_cons pe_int pa_nil)))) (pe_call G_ldraw hr_ldraw (by rfl) T.m_ldraw T.F_ldraw.kp T.b_ldraw .nil pass0 (pa_cons (pv 1) (pa_cons pe_int pa_nil))) (fun _ _ => rfl)) pa_nil))))
      (C8.pss_cut (ps_set (i := 4) sc_law.nd rfl (Or.inl rfl) (pe_call G_ldraw hr_ldraw (by rfl) T.m_ldraw T.F_ldraw.kp T.b_ldraw .nil pass0 (pa_cons (pv 1) (pa_cons (pe_callB call_len_seq (by rfl) T.z_len PySem.boot_len (pa_cons (pv 3) pa_nil)) pa_nil))))
      (pss_cons (ps_set (i := 5) sc_law.nd rfl (Or.inl rfl) (pv 3))
      (C8.pss_cut (ps_if (pt_M (PW.pt (pw_or (pt_not (pt_val (pe_callB call_isi (by rfl) T.z_isinstance (by decide +kernel) (pa_cons (pe_ix ix_tup (pv 3) (pv 4) (fun _ _ => rfl)) (pa_cons (pe_bltn (v := .ty "str") (by rfl) T.z_str (by decide +kernel) rfl) pa_nil))))) (pw_or1 (pt_cmpR op_in_sign (pe_ix ix_tup (pv 3) (pv 4) (fun _ _ => rfl)) pe_str (by rfl)))))) (pss_one (ps_set (i := 5) sc_law.nd rfl (Or.inl rfl) (pe_op op_catA (pe_M (pe_op op_catA (pe_slice sl_tupA (pv 3) po_none (po_some (pv 4))) (pe_tup (pa_cons (pe_call G_litem hr_litem (by rfl) T.m_litem T.F_litem.kp T.b_litem .nil pass0 (pa_cons (pv 1) pa_nil)) pa_nil)))) (pe_slice sl_tupA (pv 3) (po_some (pe_op op_add (pv 4) pe_int)) po_none)))) pss_nil)
      (C8.pss_cut (ps_par (i := 6) (j := 7) (by rfl) sc_law.nd rfl rfl (by decide) rfl rfl (pa_cons (pe_call G_lregs hr_lregs (by rfl) T.m_lregs T.F_lregs.kp T.b_lregs .nil pass0 (pa_cons (pv 1) pa_nil)) (pa_cons (pe_call G_lregs hr_lregs (by rfl) T.m_lregs T.F_lregs.kp T.b_lregs .nil pass0 (pa_cons (pv 1) pa_nil)) pa_nil)) (by rfl))
      (pss_one (ps_for PassesOwn.never rfl (pi_tup (pe_tup (pa_cons (pe_tup (pa_cons (pv 3) (pa_cons (pv 6) pa_nil))) (pa_cons (pe_tup (pa_cons (pv 5) (pa_cons (pv 6) pa_nil))) (pa_cons (pe_tup (pa_cons (pv 3) (pa_cons (pv 7) pa_nil))) (pa_cons (pe_tup (pa_cons (pv 3) (pa_cons pe_dnewK pa_nil))) (pa_cons (pe_tup (pa_cons (pv 3) (pa_cons (pv 6) pa_nil))) pa_nil))))))) (pg_tup (by rfl) (pgs_cons (pg_name (i := 8) sc_law.nd rfl (Or.inl rfl)) (pgs_cons (pg_name (i := 9) sc_law.nd rfl (Or.inl rfl)) pgs_nil))) (pss_cons (ps_set (i := 10) sc_law.nd rfl (Or.inl rfl) (pe_callTy call_dictD (by rfl) T.z_dict (by decide +kernel) (pa_cons (pv 9) pa_nil)))
      (pss_cons (ps_set (i := 11) sc_law.nd rfl (Or.inl rfl) (pe_call G_lreck hr_lreck (by rfl) T.m_lreck T.F_lreck.kp T.b_lreck .nil pass0 (pa_cons (pv 8) (pa_cons (pv 9) pa_nil))))
      (pss_one (ps_if (PW.pt (pw_or (pt_cmpR op_ne (pe_callB SkE.call_repr_int (by rfl) T.z_repr (by decide +kernel) (pa_cons (pe_call G_reckoned hr_reckoned (by rfl) T.m_reckoned T.F_reckoned.kp T.b_reckoned .nil pass0 (pa_cons (pv 8) (pa_cons (pv 10) pa_nil))) pa_nil)) (pe_callB SkE.call_repr_int (by rfl) T.z_repr (by decide +kernel) (pa_cons (pv 11) pa_nil)) (nomark _)) (pw_or (pt_cmpR op_ne (callKw0 G_reckoned hr_reckoned (by rfl) T.m_reckoned T.F_reckoned.kp (kb_reckoned T) pass0 (pk_cons (pv 10) (pk_cons (pv 8) pk_nil))) (pv 11) (nomark _)) (pw_or1 (pt_cmpR (op_ne_dictA (Nat.lt_of_succ_lt (hu_of hr))) (pv 10) (pv 9) (nomark _)))))) (pss_one (ps_ret pe_bl)) pss_nil))))))))))))
      (pss_one (ps_ret pe_bl)))), ?_⟩
    refine ⟨_, rfl, a, ns, rfl, hS, hlen, fun H1 p c P1 => ?_⟩
    refine ⟨24, rfl, by decide, by decide, for_range (lo := 0) (n := 24) (fun i σ' H' => ∃ (y2 y3 y4 y5 y6 y7 y8 y9 y10 y11 : Option V) (n : Int), σ' = [some (.ref a), some (.ref p), y2, y3, y4, y5, y6, y7, y8, y9, y10, y11] ∧ Pen H' p c ns n ∧ n ≤ 500 * i)
      ⟨none, none, none, none, none, none, none, none, none, none, 0, rfl, P1, by omega⟩ ?_ ?_⟩
    · rintro i _ H2 hi ⟨y2, y3, y4, y5, y6, y7, y8, y9, y10, y11, n, rfl, P2, hn⟩
      have hn0 := P2.nn
      -- items
      refine ⟨fun σ' H' => ∃ (t : Addr) (its : List Im) (n' : Int), σ' = [some (.ref a), some (.ref p), some (.int (0 + (i : Int))), some (.ref t), y4, y5, y6, y7, y8, y9, y10, y11] ∧ Pen H' p c ns n' ∧ n ≤ n' ∧ n' ≤ n + 301 ∧ H' t = some (.tup (its.map Im.toV)) ∧ Expr1 its ∧ its.length ≤ 15 ∧ its ≠ [], ?_, ?_⟩
      · refine ⟨_, rfl, (show 3 ≤ sizeLine by decide), fun l hl => ?_⟩
        refine ⟨_, rfl, p, c, ns, n, 3, rfl, P2.new hl, by decide, by decide, by omega, fun H3 d3 n3 k3 P3 d3a d3b n3a n3b => ?_⟩
        have e3 : H3 l = some (.lst [V.int 1, V.int 3, V.int 7]) := k3 _ _ (P2.ni hl) upd_same
        obtain ⟨v, hv, hv1⟩ : ∃ v : Nat, atI [V.int 1, V.int 3, V.int 7] d3 = some (.int (v : Int)) ∧ v ≤ 7 := by
          have h : d3 = 0 ∨ d3 = 1 ∨ d3 = 2 := by omega
          rcases h with rfl | rfl | rfl
          · exact ⟨1, rfl, by decide⟩
          · exact ⟨3, rfl, by decide⟩
          · exact ⟨7, rfl, by decide⟩
        refine ⟨_, _, _, _, rfl, rfl, SqL.of e3, hv, p, c, ns, n3, v, rfl, P3, by omega, by omega, fun H4 t its n4 k4 P4 n4a n4b _ ht hE hle hne => ?_⟩
        exact ⟨t, its, n4, rfl, P4, by omega, by omega, ht, hE, by omega, hne⟩
      rintro _ H3 ⟨t, its, n3, rfl, P3, n3a, n3b, ht3, hE, hle, hne⟩
      have hpos : 0 < its.length := List.length_pos_iff.mpr hne
      -- at
      refine ⟨fun σ' H' => ∃ (j : Nat) (n' : Int), σ' = [some (.ref a), some (.ref p), some (.int (0 + (i : Int))), some (.ref t), some (.int (j : Int)), y5, y6, y7, y8, y9, y10, y11] ∧ Pen H' p c ns n' ∧ n ≤ n' ∧ n' ≤ n + 302 ∧ H' t = some (.tup (its.map Im.toV)) ∧ j < its.length, ?_, ?_⟩
      · refine ⟨_, rfl, _, rfl, _, _, rfl, .inr (SqT.of ht3), p, c, ns, n3, (((its.map Im.toV).length : Nat) : Int), rfl, P3, by rw [List.length_map]; omega, by rw [List.length_map]; omega, by omega, fun H4 d4 n4 k4 P4 d4a d4b n4a n4b => ?_⟩
        obtain ⟨j, rfl⟩ := Int.eq_ofNat_of_zero_le d4a
        rw [List.length_map] at d4b
        exact ⟨j, n4, rfl, P4, by omega, by omega, k4 _ _ (P3.nt ht3 (fun _ z => by cases z)) ht3, by omega⟩
      rintro _ H4 ⟨j, n4, rfl, P4, n4a, n4b, ht4, hj⟩
      have em : its[j]? = some its[j] := List.getElem?_eq_getElem hj
      generalize its[j] = m at em
      have hmem : m ∈ its := List.mem_of_getElem? em
      have hat : atI (its.map Im.toV) ((j : Nat) : Int) = some m.toV := atI_nat (by rw [List.getElem?_map, em]; rfl)
      have ntp : t ≠ p := P4.nt ht4 (fun _ z => by cases z)
      have hsplit : its = its.take j ++ m :: its.drop (j + 1) := by
        have e1 : its.drop j = m :: its.drop (j + 1) := by
          rw [List.drop_eq_getElem_cons hj]
          congr 1
          exact (List.getElem?_eq_some_iff.mp em).2
        rw [← e1, List.take_append_drop]
      -- other
      refine ⟨_, rfl, ?_⟩
      refine ⟨fun σ' H' => ∃ (u : Addr) (its' : List Im) (n' : Int), σ' = [some (.ref a), some (.ref p), some (.int (0 + (i : Int))), some (.ref t), some (.int (j : Int)), some (.ref u), y6, y7, y8, y9, y10, y11] ∧ Pen H' p c ns n' ∧ n ≤ n' ∧ n' ≤ n + 310 ∧ H' t = some (.tup (its.map Im.toV)) ∧ H' u = some (.tup (its'.map Im.toV)) ∧ Expr1 its' ∧ its'.length ≤ 15, ?_, ?_⟩
      · refine ⟨fun b H' => H4 = H' ∧ (b = true → m.sgn = false), ?_, ?_⟩
        · refine ⟨_, rfl, _, rfl, _, _, _, _, rfl, rfl, SqT.of ht4, hat, ?_⟩
          cases m with
          | wo x => exact ⟨_, _, _, _, false, rfl, .ty _, .base (.int _), kit_ty (by decide +kernel), _, rfl, iteT ⟨rfl, fun _ => rfl⟩⟩
          | re k => exact ⟨_, _, _, _, true, rfl, .ty _, .base (.str _), kit_ty (by decide +kernel), _, rfl, iteF ⟨_, rfl, _, rfl, _, _, _, _, rfl, rfl, SqT.of ht4, hat, _, letters, rfl, rfl, _, rfl, rfl, fun _ => rfl⟩⟩
          | si z =>
            have hz : z < 9 := hE.ok _ hmem
            refine ⟨_, _, _, _, true, rfl, .ty _, .base (.str _), kit_ty (by decide +kernel), _, rfl, iteF ⟨_, rfl, _, rfl, _, _, _, _, rfl, rfl, SqT.of ht4, hat, codes.getD z 0, letters, ?_, rfl, _, rfl, rfl, fun hb => ?_⟩⟩
            · show V.str (nm z) = _
              rw [nm_code z hz]
            · rw [sg_in z hz] at hb
              cases hb
        · rintro b _ ⟨rfl, hb⟩
          cases b with
          | false => exact iteF ⟨t, its, n4, rfl, P4, by omega, by omega, ht4, ht4, hE, hle⟩
          | true =>
            have hsg := hb rfl
            refine iteT ⟨fun v H' => ∃ (r : Addr) (m' : Im) (n' : Int), v = .ref r ∧ Kp p H4 H' ∧ Pen H' p c ns n' ∧ n4 ≤ n' ∧ n' ≤ n4 + 5 ∧ H' r = some (.tup ((its.take j ++ [m']).map Im.toV)) ∧ m'.ok ∧ m'.sgn = false, ?_, ?_⟩
            · have hnw : ¬ (HT.sIx (its.map Im.toV).length 0 none = 0 ∧ HT.sIx (its.map Im.toV).length (its.map Im.toV).length (some ((j : Nat) : Int)) = (its.map Im.toV).length) := by
                rw [HT.sIx_nat, List.length_map]
                omega
              refine ⟨_, rfl, _, rfl, _, rfl, _, _, rfl, SqT.of ht4, fun z => absurd z hnw, fun _ s1 hs1 => ?_⟩
              refine ⟨_, rfl, p, c, ns, n4, rfl, P4.new hs1, by omega, fun H5 m' n5 k5 P5 n5a n5b hm' hs' => ⟨(show 1 ≤ sizeLine by decide), fun t1 ht1 => ?_⟩⟩
              have es1 : (upd H5 t1 (.tup [m'.toV])) s1 = some (.tup ((its.take j).map Im.toV)) := by
                refine Same.new ht1 _ _ (k5 _ _ (P4.ni hs1) ?_)
                rw [upd_same, cutTo, List.map_take]
              have kk : Kp p H4 (upd H5 t1 (.tup [m'.toV])) := ((Kp.new hs1).trans k5).trans (Kp.new ht1)
              refine ⟨_, _, _, _, rfl, rfl, SqT.of es1, SqT.of upd_same, ?_, fun hx => ?_, (fun _ hy => absurd hy (by simp)), fun hx _ r hr => ?_⟩
              · rw [List.length_map, List.length_take]
                exact Nat.le_trans (show _ ≤ 1000 by show min j its.length + 1 ≤ 1000; omega) (by decide)
              · refine ⟨t1, m', n5, rfl, kk, P5.new ht1, by omega, by omega, ?_, hm', hs'⟩
                rw [upd_same, List.map_append, hx]
                rfl
              · refine ⟨r, m', n5, rfl, kk.trans (Kp.new hr), (P5.new ht1).new hr, by omega, by omega, ?_, hm', hs'⟩
                rw [upd_same, List.map_append]
                rfl
            · rintro _ H5 ⟨r, m', n5, rfl, k5, P5, n5a, n5b, hr5, hm', hs'⟩
              have ht5 := k5 _ _ ntp ht4
              have hnw : ¬ (HT.sIx (its.map Im.toV).length 0 (some (((j + 1 : Nat) : Nat) : Int)) = 0 ∧ HT.sIx (its.map Im.toV).length (its.map Im.toV).length none = (its.map Im.toV).length) := by
                rw [HT.sIx_nat, List.length_map]
                omega
              have hE' : Expr1 (its.take j ++ m' :: its.drop (j + 1)) := by
                refine ⟨fun x hx => ?_, ?_⟩
                · rcases List.mem_append.mp hx with hx | hx
                  · exact hE.ok x (List.mem_of_mem_take hx)
                  · rcases List.mem_cons.mp hx with rfl | hx
                    · exact hm'
                    · exact hE.ok x (List.mem_of_mem_drop hx)
                · rw [ht_other _ _ 0 m' m hs' hsg, ← hsplit]
                  exact hE.ht
              have hl' : (its.take j ++ m' :: its.drop (j + 1)).length ≤ 15 := by
                rw [List.length_append, List.length_cons, List.length_take, List.length_drop]
                omega
              refine ⟨_, rfl, _, rfl, _, _, rfl, rfl, _, rfl, _, _, rfl, SqT.of ht5, fun z => absurd z hnw, fun _ s2 hs2 => ?_⟩
              have es2 : (upd H5 s2 (.tup (cutV (its.map Im.toV) (some (((j + 1 : Nat) : Nat) : Int)) none))) s2 = some (.tup ((its.drop (j + 1)).map Im.toV)) := by
                rw [upd_same, cutFrom _ (by rw [List.length_map]; omega), List.map_drop]
              refine ⟨_, _, _, _, rfl, rfl, SqT.of (Same.new hs2 _ _ hr5), SqT.of es2, ?_, fun hx => ?_, fun _ hy => ?_, fun _ _ r2 hr2 => ?_⟩
              · rw [List.length_map, List.length_map, List.length_append, List.length_take, List.length_drop]
                exact Nat.le_trans (show _ ≤ 1000 by show min j its.length + 1 + (its.length - (j + 1)) ≤ 1000; omega) (by decide)
              · rw [List.map_append] at hx
                exact absurd hx (by simp)
              · refine ⟨r, its.take j ++ m' :: its.drop (j + 1), n5, rfl, P5.new hs2, by omega, by omega, Same.new hs2 _ _ ht5, ?_, hE', hl'⟩
                have hd : its.drop (j + 1) = [] := List.map_eq_nil_iff.mp hy
                rw [hd]
                exact Same.new hs2 _ _ hr5
              · refine ⟨r2, its.take j ++ m' :: its.drop (j + 1), n5, rfl, (P5.new hs2).new hr2, by omega, by omega, Same.new hr2 _ _ (Same.new hs2 _ _ ht5), ?_, hE', hl'⟩
                rw [upd_same, ← List.map_append, List.append_assoc]
                rfl
      rintro _ H5 ⟨u, its', n5, rfl, P5, n5a, n5b, ht5, hu5, hE', hle'⟩
      -- some, more
      refine ⟨fun σ' H' => ∃ (d1 d2 : Addr) (v1 v2 : List (Key × V)) (n' : Int), σ' = [some (.ref a), some (.ref p), some (.int (0 + (i : Int))), some (.ref t), some (.int (j : Int)), some (.ref u), some (.ref d1), some (.ref d2), y8, y9, y10, y11] ∧ Pen H' p c ns n' ∧ n ≤ n' ∧ n' ≤ n + 450 ∧ H' t = some (.tup (its.map Im.toV)) ∧ H' u = some (.tup (its'.map Im.toV)) ∧
        H' d1 = some (.dK v1) ∧ Gd v1 ∧ H' d2 = some (.dK v2) ∧ Gd v2, ?_, ?_⟩
      · refine ⟨_, rfl, p, c, ns, n5, rfl, P5, by omega, fun H6 d1 v1 n6 k6 P6 n6a n6b hd1 hg1 => ?_⟩
        refine ⟨_, rfl, p, c, ns, n6, rfl, P6, by omega, fun H7 d2 v2 n7 k7 P7 n7a n7b hd2 hg2 => ?_⟩
        have nt5 : t ≠ p := P5.nt ht5 (fun _ z => by cases z)
        have nu5 : u ≠ p := P5.nt hu5 (fun _ z => by cases z)
        exact ⟨_, _, rfl, d1, d2, v1, v2, n7, rfl, P7, by omega, by omega, k7 _ _ nt5 (k6 _ _ nt5 ht5), k7 _ _ nu5 (k6 _ _ nu5 hu5), k7 _ _ (P6.nt hd1 (fun _ z => by cases z)) hd1, hg1, hd2, hg2⟩
      rintro _ H6 ⟨d1, d2, v1, v2, n6, rfl, P6, n6a, n6b, ht6, hu6, hd1, hg1, hd2, hg2⟩
      -- the five
      refine ⟨_, rfl, _, rfl, (show 2 ≤ sizeLine by decide), fun t1 h1 => ⟨_, rfl, _, rfl, (show 2 ≤ sizeLine by decide), fun t2 h2 => ⟨_, rfl, _, rfl, (show 2 ≤ sizeLine by decide), fun t3 h3 => ⟨_, rfl, fun d3 h3' => ⟨(show 2 ≤ sizeLine by decide), fun t4 h4 => ⟨_, rfl, _, rfl, (show 2 ≤ sizeLine by decide), fun t5 h5 => ⟨(show 5 ≤ sizeLine by decide), fun t6 h6 => ?_⟩⟩⟩⟩⟩⟩⟩
      have s1 := Same.new (o := .tup [V.ref t, V.ref d1]) h1
      have s2 := Same.new (o := .tup [V.ref u, V.ref d1]) h2
      have s3 := Same.new (o := .tup [V.ref t, V.ref d2]) h3
      have s3' := Same.new (o := .dK []) h3'
      have s4 := Same.new (o := .tup [V.ref t, V.ref d3]) h4
      have s5 := Same.new (o := .tup [V.ref t, V.ref d1]) h5
      have s6 := Same.new (o := .tup [V.ref t1, V.ref t2, V.ref t3, V.ref t4, V.ref t5]) h6
      have g5 := s6 t5 _ upd_same
      have g4 := (s5.trans s6) t4 _ upd_same
      have gd := (s4.trans (s5.trans s6)) d3 _ upd_same
      have g3 := (s3'.trans (s4.trans (s5.trans s6))) t3 _ upd_same
      have g2 := (s3.trans (s3'.trans (s4.trans (s5.trans s6)))) t2 _ upd_same
      have g1 := (s2.trans (s3.trans (s3'.trans (s4.trans (s5.trans s6))))) t1 _ upd_same
      have sA := s1.trans (s2.trans (s3.trans (s3'.trans (s4.trans (s5.trans s6)))))
      have P7 := P6.same sA
      have fT := sA _ _ ht6
      have fU := sA _ _ hu6
      have f1 := sA _ _ hd1
      have f2 := sA _ _ hd2
      refine ⟨t6, rfl, ⟨_, SqT.of upd_same⟩, ?_⟩
      have g6 : (upd (upd (upd (upd (upd (upd (upd H6 t1 (.tup [V.ref t, V.ref d1])) t2 (.tup [V.ref u, V.ref d1])) t3 (.tup [V.ref t, V.ref d2])) d3 (.dK [])) t4 (.tup [V.ref t, V.ref d3])) t5 (.tup [V.ref t, V.ref d1])) t6 (.tup [V.ref t1, V.ref t2, V.ref t3, V.ref t4, V.ref t5])) t6 = some (.tup [V.ref t1, V.ref t2, V.ref t3, V.ref t4, V.ref t5]) := upd_same
      refine for_tup (xs := [V.ref t1, V.ref t2, V.ref t3, V.ref t4, V.ref t5]) (fun _ σ' H' => ∃ (y8 y9 y10 y11 : Option V), σ' = [some (.ref a), some (.ref p), some (.int (0 + (i : Int))), some (.ref t), some (.int (j : Int)), some (.ref u), some (.ref d1), some (.ref d2), y8, y9, y10, y11] ∧
        Same (upd (upd (upd (upd (upd (upd (upd H6 t1 (.tup [V.ref t, V.ref d1])) t2 (.tup [V.ref u, V.ref d1])) t3 (.tup [V.ref t, V.ref d2])) d3 (.dK [])) t4 (.tup [V.ref t, V.ref d3])) t5 (.tup [V.ref t, V.ref d1])) t6 (.tup [V.ref t1, V.ref t2, V.ref t3, V.ref t4, V.ref t5])) H')
        ⟨y8, y9, y10, y11, rfl, Same.refl _⟩ (fun _ σ' H' _ ⟨_, _, _, _, _, s⟩ => SqT.of (s _ _ g6)) ?_ ?_
      · rintro jj x _ H8 hx ⟨z8, z9, z10, z11, rfl, s8⟩
        obtain ⟨tt, x1, x2, itx, kvx, rfl, e1, e2, e3, e4, e5, e6⟩ : ∃ (tt x1 x2 : Addr) (itx : List Im) (kvx : List (Key × V)), x = .ref tt ∧ H8 tt = some (.tup [V.ref x1, V.ref x2]) ∧ H8 x1 = some (.tup (itx.map Im.toV)) ∧ Expr1 itx ∧ itx.length ≤ 15 ∧ H8 x2 = some (.dK kvx) ∧ Gd kvx := by
          match jj, hx with
          | 0, hx => exact ⟨t1, t, d1, its, v1, (Option.some.inj hx).symm, s8 _ _ g1, s8 _ _ fT, hE, hle, s8 _ _ f1, hg1⟩
          | 1, hx => exact ⟨t2, u, d1, its', v1, (Option.some.inj hx).symm, s8 _ _ g2, s8 _ _ fU, hE', hle', s8 _ _ f1, hg1⟩
          | 2, hx => exact ⟨t3, t, d2, its, v2, (Option.some.inj hx).symm, s8 _ _ g3, s8 _ _ fT, hE, hle, s8 _ _ f2, hg2⟩
          | 3, hx => exact ⟨t4, t, d3, its, [], (Option.some.inj hx).symm, s8 _ _ g4, s8 _ _ fT, hE, hle, s8 _ _ gd, Gd.nil⟩
          | 4, hx => exact ⟨t5, t, d1, its, v1, (Option.some.inj hx).symm, s8 _ _ g5, s8 _ _ fT, hE, hle, s8 _ _ f1, hg1⟩
        obtain ⟨y, hy⟩ := e3.val (rho kvx)
        refine ⟨_, _, rfl, SqT.of e1, rfl, _, _, rfl, _, _, rfl, rfl, ?_⟩
        refine ⟨_, rfl, _, kvx, rfl, .inl e5, fun h9 n9 => ?_⟩
        have s9 := Same.new (o := .dK kvx) n9
        refine ⟨_, rfl, _, rfl, x1, x2, itx, kvx, y, rfl, SqT.of (s9 _ _ e2), e3.ok, by omega, s9 _ _ e5, e6, hy, fun H10 s10 => ?_⟩
        have hh10 : H10 h9 = some (.dK kvx) := s10 _ _ upd_same
        refine ⟨_, rfl, _, rfl, x1, h9, itx, kvx, y, [], rfl, SqT.of (s10 _ _ (s9 _ _ e2)), e3.ok, by omega, hh10, e6, hy, fun H11 s11 hW => ?_⟩
        have hf := few_W hW
        refine ⟨_, rfl, hf, _, rfl, _, rfl, hf, rfl, _, rfl, iteNS rfl ?_⟩
        refine ⟨_, rfl, _, rfl, rfl, rfl, x1, h9, itx, kvx, y, [], rfl, SqT.of (s11 _ _ (s10 _ _ (s9 _ _ e2))), e3.ok, by omega, s11 _ _ hh10, e6, hy, fun H12 s12 _ => ?_⟩
        refine ⟨_, rfl, rfl, _, rfl, iteNS rfl ?_⟩
        have sB := (s10.trans s11).trans s12
        refine ⟨_, rfl, _, rfl, h9, x2, kvx, kvx, rfl, rfl, sB _ _ upd_same, sB _ _ (s9 _ _ e5), rfl, e6.ne, _, rfl, iteF ?_⟩
        exact ⟨_, _, _, _, rfl, (s8.trans s9).trans sB⟩
      · rintro _ H8 ⟨z8, z9, z10, z11, rfl, s8⟩
        exact ⟨_, _, _, _, _, _, _, _, _, _, n6, rfl, P7.same s8, by omega⟩
    · rintro _ H2 ⟨y2, y3, y4, y5, y6, y7, y8, y9, y10, y11, n, rfl, P2, hn⟩
      exact q _
end
set_option maxHeartbeats 4000000 in
theorem all_mk {l : PySem.W.OpenLaw} {w : World} {K : PySem.W.Frag} {h : Heap} {mg : Str → Option Value} {fa : Addr} (X : K.In h) (G : h.Ns mainGlobals mg) (hfa : mg "law" = some (.ref fa))
    {od0 an0 od1 an1 od2 an2 od3 an3 od4 an4 od5 an5 od6 an6 od7 an7 od8 an8 od9 an9 od10 an10 od11 an11 od12 an12 od13 an13 od14 an14 od15 an15 od16 an16 od17 an17 od18 an18 od19 an19 od20 an20 od21 an21 od22 an22 : Option Addr} {sl0 sl1 sl2 sl3 sl4 sl5 sl6 sl7 sl8 sl9 sl10 sl11 sl12 sl13 sl14 sl15 sl16 sl17 sl18 sl19 sl20 sl21 sl22 : Array (Option Value)} {oc0 kV0 dc0 pm0 cd0 ct0 oc1 kV1 dc1 pm1 cd1 ct1 oc2 kV2 dc2 pm2 cd2 ct2 oc3 kV3 dc3 pm3 cd3 ct3 oc4 kV4 dc4 pm4 cd4 ct4 oc5 kV5 dc5 pm5 cd5 ct5 oc6 kV6 dc6 pm6 cd6 ct6 oc7 kV7 dc7 pm7 cd7 ct7 oc8 kV8 dc8 pm8 cd8 ct8 oc9 kV9 dc9 pm9 cd9 ct9 oc10 kV10 dc10 pm10 cd10 ct10 oc11 kV11 dc11 pm11 cd11 ct11 oc12 kV12 dc12 pm12 cd12 ct12 oc13 kV13 dc13 pm13 cd13 ct13 oc14 kV14 dc14 pm14 cd14 ct14 oc15 kV15 dc15 pm15 cd15 ct15 oc16 kV16 dc16 pm16 cd16 ct16 oc17 kV17 dc17 pm17 cd17 ct17 oc18 kV18 dc18 pm18 cd18 ct18 oc19 kV19 dc19 pm19 cd19 ct19 oc20 kV20 dc20 pm20 cd20 ct20 oc21 kV21 dc21 pm21 cd21 ct21 oc22 kV22 dc22 pm22 cd22 ct22 : Value} {a0 a1 a2 a3 a4 a5 a6 a7 a8 a9 a10 a11 a12 a13 a14 a15 a16 a17 a18 a19 a20 a21 a22 : Addr} {es_SIGNS : Array DictEntry} {nn_SIGNS : Nat} {o_SIGNS : Addr}
    (e0 : PySem.W.nsIn K mainGlobals "brought" = some (some (.ref a0)))
    (l0 : K.lookup a0 = some ⟨oc0, od0, .func (PySem.W.fnOf "brought" "brought" (defArgs s_brought) (defBody s_brought) (defScope s_brought) .none kV0 dc0 pm0 an0 cd0 ct0), sl0⟩)
    (c0 : PySem.W.codeIn K cd0 "brought" = true) (k0 : PySem.W.keepIn K (.ref a0) = true)
    (e1 : PySem.W.nsIn K mainGlobals "plus" = some (some (.ref a1)))
    (l1 : K.lookup a1 = some ⟨oc1, od1, .func (PySem.W.fnOf "plus" "plus" (defArgs s_plus) (defBody s_plus) (defScope s_plus) .none kV1 dc1 pm1 an1 cd1 ct1), sl1⟩)
    (c1 : PySem.W.codeIn K cd1 "plus" = true) (k1 : PySem.W.keepIn K (.ref a1) = true)
    (e2 : PySem.W.nsIn K mainGlobals "minus" = some (some (.ref a2)))
    (l2 : K.lookup a2 = some ⟨oc2, od2, .func (PySem.W.fnOf "minus" "minus" (defArgs s_minus) (defBody s_minus) (defScope s_minus) .none kV2 dc2 pm2 an2 cd2 ct2), sl2⟩)
    (c2 : PySem.W.codeIn K cd2 "minus" = true) (k2 : PySem.W.keepIn K (.ref a2) = true)
    (e3 : PySem.W.nsIn K mainGlobals "times" = some (some (.ref a3)))
    (l3 : K.lookup a3 = some ⟨oc3, od3, .func (PySem.W.fnOf "times" "times" (defArgs s_times) (defBody s_times) (defScope s_times) .none kV3 dc3 pm3 an3 cd3 ct3), sl3⟩)
    (c3 : PySem.W.codeIn K cd3 "times" = true) (k3 : PySem.W.keepIn K (.ref a3) = true)
    (e4 : PySem.W.nsIn K mainGlobals "quotient" = some (some (.ref a4)))
    (l4 : K.lookup a4 = some ⟨oc4, od4, .func (PySem.W.fnOf "quotient" "quotient" (defArgs s_quotient) (defBody s_quotient) (defScope s_quotient) .none kV4 dc4 pm4 an4 cd4 ct4), sl4⟩)
    (c4 : PySem.W.codeIn K cd4 "quotient" = true) (k4 : PySem.W.keepIn K (.ref a4) = true)
    (e5 : PySem.W.nsIn K mainGlobals "rest" = some (some (.ref a5)))
    (l5 : K.lookup a5 = some ⟨oc5, od5, .func (PySem.W.fnOf "rest" "rest" (defArgs s_rest) (defBody s_rest) (defScope s_rest) .none kV5 dc5 pm5 an5 cd5 ct5), sl5⟩)
    (c5 : PySem.W.codeIn K cd5 "rest" = true) (k5 : PySem.W.keepIn K (.ref a5) = true)
    (e6 : PySem.W.nsIn K mainGlobals "is_less" = some (some (.ref a6)))
    (l6 : K.lookup a6 = some ⟨oc6, od6, .func (PySem.W.fnOf "is_less" "is_less" (defArgs s_isless) (defBody s_isless) (defScope s_isless) .none kV6 dc6 pm6 an6 cd6 ct6), sl6⟩)
    (c6 : PySem.W.codeIn K cd6 "is_less" = true) (k6 : PySem.W.keepIn K (.ref a6) = true)
    (e7 : PySem.W.nsIn K mainGlobals "is_same" = some (some (.ref a7)))
    (l7 : K.lookup a7 = some ⟨oc7, od7, .func (PySem.W.fnOf "is_same" "is_same" (defArgs s_issame) (defBody s_issame) (defScope s_issame) .none kV7 dc7 pm7 an7 cd7 ct7), sl7⟩)
    (c7 : PySem.W.codeIn K cd7 "is_same" = true) (k7 : PySem.W.keepIn K (.ref a7) = true)
    (e8 : PySem.W.nsIn K mainGlobals "bits_of_both" = some (some (.ref a8)))
    (l8 : K.lookup a8 = some ⟨oc8, od8, .func (PySem.W.fnOf "bits_of_both" "bits_of_both" (defArgs s_bitsofboth) (defBody s_bitsofboth) (defScope s_bitsofboth) .none kV8 dc8 pm8 an8 cd8 ct8), sl8⟩)
    (c8 : PySem.W.codeIn K cd8 "bits_of_both" = true) (k8 : PySem.W.keepIn K (.ref a8) = true)
    (e9 : PySem.W.nsIn K mainGlobals "bits_of_one" = some (some (.ref a9)))
    (l9 : K.lookup a9 = some ⟨oc9, od9, .func (PySem.W.fnOf "bits_of_one" "bits_of_one" (defArgs s_bitsofone) (defBody s_bitsofone) (defScope s_bitsofone) .none kV9 dc9 pm9 an9 cd9 ct9), sl9⟩)
    (c9 : PySem.W.codeIn K cd9 "bits_of_one" = true) (k9 : PySem.W.keepIn K (.ref a9) = true)
    (e10 : PySem.W.nsIn K mainGlobals "told_by" = some (some (.ref a10)))
    (l10 : K.lookup a10 = some ⟨oc10, od10, .func (PySem.W.fnOf "told_by" "told_by" (defArgs s_toldby) (defBody s_toldby) (defScope s_toldby) .none kV10 dc10 pm10 an10 cd10 ct10), sl10⟩)
    (c10 : PySem.W.codeIn K cd10 "told_by" = true) (k10 : PySem.W.keepIn K (.ref a10) = true)
    (e11 : PySem.W.nsIn K mainGlobals "is_sign" = some (some (.ref a11)))
    (l11 : K.lookup a11 = some ⟨oc11, od11, .func (PySem.W.fnOf "is_sign" "is_sign" (defArgs s_issign) (defBody s_issign) (defScope s_issign) .none kV11 dc11 pm11 an11 cd11 ct11), sl11⟩)
    (c11 : PySem.W.codeIn K cd11 "is_sign" = true) (k11 : PySem.W.keepIn K (.ref a11) = true)
    (e12 : PySem.W.nsIn K mainGlobals "reckoned" = some (some (.ref a12)))
    (l12 : K.lookup a12 = some ⟨oc12, od12, .func (PySem.W.fnOf "reckoned" "reckoned" (defArgs s_reckoned) (defBody s_reckoned) (defScope s_reckoned) .none kV12 dc12 pm12 an12 cd12 ct12), sl12⟩)
    (c12 : PySem.W.codeIn K cd12 "reckoned" = true) (k12 : PySem.W.keepIn K (.ref a12) = true)
    (e13 : PySem.W.nsIn K mainGlobals "_law_feed" = some (some (.ref a13)))
    (l13 : K.lookup a13 = some ⟨oc13, od13, .func (PySem.W.fnOf "_law_feed" "_law_feed" (defArgs s_lfeed) (defBody s_lfeed) (defScope s_lfeed) .none kV13 dc13 pm13 an13 cd13 ct13), sl13⟩)
    (c13 : PySem.W.codeIn K cd13 "_law_feed" = true) (k13 : PySem.W.keepIn K (.ref a13) = true)
    (e14 : PySem.W.nsIn K mainGlobals "_law_draw" = some (some (.ref a14)))
    (l14 : K.lookup a14 = some ⟨oc14, od14, .func (PySem.W.fnOf "_law_draw" "_law_draw" (defArgs s_ldraw) (defBody s_ldraw) (defScope s_ldraw) .none kV14 dc14 pm14 an14 cd14 ct14), sl14⟩)
    (c14 : PySem.W.codeIn K cd14 "_law_draw" = true) (k14 : PySem.W.keepIn K (.ref a14) = true)
    (e15 : PySem.W.nsIn K mainGlobals "_law_worth" = some (some (.ref a15)))
    (l15 : K.lookup a15 = some ⟨oc15, od15, .func (PySem.W.fnOf "_law_worth" "_law_worth" (defArgs s_lworth) (defBody s_lworth) (defScope s_lworth) .none kV15 dc15 pm15 an15 cd15 ct15), sl15⟩)
    (c15 : PySem.W.codeIn K cd15 "_law_worth" = true) (k15 : PySem.W.keepIn K (.ref a15) = true)
    (e16 : PySem.W.nsIn K mainGlobals "_law_register" = some (some (.ref a16)))
    (l16 : K.lookup a16 = some ⟨oc16, od16, .func (PySem.W.fnOf "_law_register" "_law_register" (defArgs s_lregister) (defBody s_lregister) (defScope s_lregister) .none kV16 dc16 pm16 an16 cd16 ct16), sl16⟩)
    (c16 : PySem.W.codeIn K cd16 "_law_register" = true) (k16 : PySem.W.keepIn K (.ref a16) = true)
    (e17 : PySem.W.nsIn K mainGlobals "_law_item" = some (some (.ref a17)))
    (l17 : K.lookup a17 = some ⟨oc17, od17, .func (PySem.W.fnOf "_law_item" "_law_item" (defArgs s_litem) (defBody s_litem) (defScope s_litem) .none kV17 dc17 pm17 an17 cd17 ct17), sl17⟩)
    (c17 : PySem.W.codeIn K cd17 "_law_item" = true) (k17 : PySem.W.keepIn K (.ref a17) = true)
    (e18 : PySem.W.nsIn K mainGlobals "_law_expression" = some (some (.ref a18)))
    (l18 : K.lookup a18 = some ⟨oc18, od18, .func (PySem.W.fnOf "_law_expression" "_law_expression" (defArgs s_lexpression) (defBody s_lexpression) (defScope s_lexpression) .none kV18 dc18 pm18 an18 cd18 ct18), sl18⟩)
    (c18 : PySem.W.codeIn K cd18 "_law_expression" = true) (k18 : PySem.W.keepIn K (.ref a18) = true)
    (e19 : PySem.W.nsIn K mainGlobals "_law_tells" = some (some (.ref a19)))
    (l19 : K.lookup a19 = some ⟨oc19, od19, .func (PySem.W.fnOf "_law_tells" "_law_tells" (defArgs s_ltells) (defBody s_ltells) (defScope s_ltells) .none kV19 dc19 pm19 an19 cd19 ct19), sl19⟩)
    (c19 : PySem.W.codeIn K cd19 "_law_tells" = true) (k19 : PySem.W.keepIn K (.ref a19) = true)
    (e20 : PySem.W.nsIn K mainGlobals "_law_reckoned" = some (some (.ref a20)))
    (l20 : K.lookup a20 = some ⟨oc20, od20, .func (PySem.W.fnOf "_law_reckoned" "_law_reckoned" (defArgs s_lreck) (defBody s_lreck) (defScope s_lreck) .none kV20 dc20 pm20 an20 cd20 ct20), sl20⟩)
    (c20 : PySem.W.codeIn K cd20 "_law_reckoned" = true) (k20 : PySem.W.keepIn K (.ref a20) = true)
    (e21 : PySem.W.nsIn K mainGlobals "_law_registers" = some (some (.ref a21)))
    (l21 : K.lookup a21 = some ⟨oc21, od21, .func (PySem.W.fnOf "_law_registers" "_law_registers" (defArgs s_lregs) (defBody s_lregs) (defScope s_lregs) .none kV21 dc21 pm21 an21 cd21 ct21), sl21⟩)
    (c21 : PySem.W.codeIn K cd21 "_law_registers" = true) (k21 : PySem.W.keepIn K (.ref a21) = true)
    (e22 : PySem.W.nsIn K mainGlobals "law" = some (some (.ref a22)))
    (l22 : K.lookup a22 = some ⟨oc22, od22, .func (PySem.W.fnOf "law" "law" (defArgs s_law) (defBody s_law) (defScope s_law) .none kV22 dc22 pm22 an22 cd22 ct22), sl22⟩)
    (c22 : PySem.W.codeIn K cd22 "law" = true) (k22 : PySem.W.keepIn K (.ref a22) = true)
    (e_SIGNS : PySem.W.nsIn K mainGlobals "SIGNS" = some (some (.ref o_SIGNS)))
    (l_SIGNS : K.lookup o_SIGNS = some ⟨.type "dict", none, .dict es_SIGNS nn_SIGNS, #[]⟩)
    (k_SIGNS : PySem.W.KeysLit w.params es_SIGNS.toList)
    (v_SIGNS_0 : PySem.W.nsIn K o_SIGNS "+" = some (some (.ref a1)))
    (v_SIGNS_1 : PySem.W.nsIn K o_SIGNS "-" = some (some (.ref a2)))
    (v_SIGNS_2 : PySem.W.nsIn K o_SIGNS "*" = some (some (.ref a3)))
    (v_SIGNS_3 : PySem.W.nsIn K o_SIGNS "/" = some (some (.ref a4)))
    (v_SIGNS_4 : PySem.W.nsIn K o_SIGNS "#" = some (some (.ref a5)))
    (v_SIGNS_5 : PySem.W.nsIn K o_SIGNS "<" = some (some (.ref a6)))
    (v_SIGNS_6 : PySem.W.nsIn K o_SIGNS "=" = some (some (.ref a7)))
    (v_SIGNS_7 : PySem.W.nsIn K o_SIGNS "&" = some (some (.ref a8)))
    (v_SIGNS_8 : PySem.W.nsIn K o_SIGNS "^" = some (some (.ref a9)))
    (low_SIGNS : (o_SIGNS == sysModules) = false)
    (kd_SIGNS : Keyed es_SIGNS.toList ["+", "-", "*", "/", "#", "<", "=", "&", "^"])
    (z_dict : PySem.W.nsIn K mainGlobals "dict" = some none)
    (z_int : PySem.W.nsIn K mainGlobals "int" = some none)
    (z_isinstance : PySem.W.nsIn K mainGlobals "isinstance" = some none)
    (z_len : PySem.W.nsIn K mainGlobals "len" = some none)
    (z_list : PySem.W.nsIn K mainGlobals "list" = some none)
    (z_range : PySem.W.nsIn K mainGlobals "range" = some none)
    (z_repr : PySem.W.nsIn K mainGlobals "repr" = some none)
    (z_str : PySem.W.nsIn K mainGlobals "str" = some none)
    (z_tuple : PySem.W.nsIn K mainGlobals "tuple" = some none)
    : ∃ fd : FuncData, (∀ (s : Shared) (v : Value), BindsTo s fd ⟨[v], []⟩ [("_law_script", v)]) ∧ ∀ base : Heap, K.In base → base.Ns mainGlobals mg → FnOk l.prog w K mg base CX0 5 fa fd ["_law_script"] (sp_law K) := by
  have e := hfa.symm.trans (PySem.W.mg_of X G e22)
  cases e
  have F0 := fun_mk (st := s_brought) l0 c0 k0
  have b0 := F0.binds (ps := ["n"]) fun _ _ _ _ _ _ us hl => match us, hl with | [_], _ => rfl
  have F1 := fun_mk (st := s_plus) l1 c1 k1
  have b1 := F1.binds (ps := ["one", "other"]) fun _ _ _ _ _ _ us hl => match us, hl with | [_, _], _ => rfl
  have F2 := fun_mk (st := s_minus) l2 c2 k2
  have b2 := F2.binds (ps := ["one", "other"]) fun _ _ _ _ _ _ us hl => match us, hl with | [_, _], _ => rfl
  have F3 := fun_mk (st := s_times) l3 c3 k3
  have b3 := F3.binds (ps := ["one", "other"]) fun _ _ _ _ _ _ us hl => match us, hl with | [_, _], _ => rfl
  have F4 := fun_mk (st := s_quotient) l4 c4 k4
  have b4 := F4.binds (ps := ["one", "other"]) fun _ _ _ _ _ _ us hl => match us, hl with | [_, _], _ => rfl
  have F5 := fun_mk (st := s_rest) l5 c5 k5
  have b5 := F5.binds (ps := ["one", "other"]) fun _ _ _ _ _ _ us hl => match us, hl with | [_, _], _ => rfl
  have F6 := fun_mk (st := s_isless) l6 c6 k6
  have b6 := F6.binds (ps := ["one", "other"]) fun _ _ _ _ _ _ us hl => match us, hl with | [_, _], _ => rfl
  have F7 := fun_mk (st := s_issame) l7 c7 k7
  have b7 := F7.binds (ps := ["one", "other"]) fun _ _ _ _ _ _ us hl => match us, hl with | [_, _], _ => rfl
  have F8 := fun_mk (st := s_bitsofboth) l8 c8 k8
  have b8 := F8.binds (ps := ["one", "other"]) fun _ _ _ _ _ _ us hl => match us, hl with | [_, _], _ => rfl
  have F9 := fun_mk (st := s_bitsofone) l9 c9 k9
  have b9 := F9.binds (ps := ["one", "other"]) fun _ _ _ _ _ _ us hl => match us, hl with | [_, _], _ => rfl
  have F10 := fun_mk (st := s_toldby) l10 c10 k10
  have b10 := F10.binds (ps := ["sign", "one", "other"]) fun _ _ _ _ _ _ us hl => match us, hl with | [_, _, _], _ => rfl
  have F11 := fun_mk (st := s_issign) l11 c11 k11
  have b11 := F11.binds (ps := ["thing"]) fun _ _ _ _ _ _ us hl => match us, hl with | [_], _ => rfl
  have F12 := fun_mk (st := s_reckoned) l12 c12 k12
  have b12 := F12.binds (ps := ["e", "registers"]) fun _ _ _ _ _ _ us hl => match us, hl with | [_, _], _ => rfl
  have F13 := fun_mk (st := s_lfeed) l13 c13 k13
  have b13 := F13.binds (ps := ["_law_script"]) fun _ _ _ _ _ _ us hl => match us, hl with | [_], _ => rfl
  have F14 := fun_mk (st := s_ldraw) l14 c14 k14
  have b14 := F14.binds (ps := ["_law_feed_here", "_law_many"]) fun _ _ _ _ _ _ us hl => match us, hl with | [_, _], _ => rfl
  have F15 := fun_mk (st := s_lworth) l15 c15 k15
  have b15 := F15.binds (ps := ["_law_feed_here"]) fun _ _ _ _ _ _ us hl => match us, hl with | [_], _ => rfl
  have F16 := fun_mk (st := s_lregister) l16 c16 k16
  have b16 := F16.binds (ps := ["_law_feed_here"]) fun _ _ _ _ _ _ us hl => match us, hl with | [_], _ => rfl
  have F17 := fun_mk (st := s_litem) l17 c17 k17
  have b17 := F17.binds (ps := ["_law_feed_here"]) fun _ _ _ _ _ _ us hl => match us, hl with | [_], _ => rfl
  have F18 := fun_mk (st := s_lexpression) l18 c18 k18
  have b18 := F18.binds (ps := ["_law_feed_here", "_law_most"]) fun _ _ _ _ _ _ us hl => match us, hl with | [_, _], _ => rfl
  have F19 := fun_mk (st := s_ltells) l19 c19 k19
  have b19 := F19.binds (ps := ["_law_mark", "_law_a", "_law_b"]) fun _ _ _ _ _ _ us hl => match us, hl with | [_, _, _], _ => rfl
  have F20 := fun_mk (st := s_lreck) l20 c20 k20
  have b20 := F20.binds (ps := ["_law_items", "_law_held"]) fun _ _ _ _ _ _ us hl => match us, hl with | [_, _], _ => rfl
  have F21 := fun_mk (st := s_lregs) l21 c21 k21
  have b21 := F21.binds (ps := ["_law_feed_here"]) fun _ _ _ _ _ _ us hl => match us, hl with | [_], _ => rfl
  have F22 := fun_mk (st := s_law) l22 c22 k22
  have b22 := F22.binds (ps := ["_law_script"]) fun _ _ _ _ _ _ us hl => match us, hl with | [_], _ => rfl
  let f : Nat → Addr := fun i => match i with | 0 => a0 | 1 => a1 | 2 => a2 | 3 => a3 | 4 => a4 | 5 => a5 | 6 => a6 | 7 => a7 | 8 => a8 | 9 => a9 | 10 => a10 | 11 => a11 | 12 => a12 | 13 => a13 | 14 => a14 | 15 => a15 | 16 => a16 | 17 => a17 | 18 => a18 | 19 => a19 | 20 => a20 | 21 => a21 | 22 => fa | _ => a0
  let fd : Nat → FuncData := fun i => match i with | 0 => PySem.W.fnOf "brought" "brought" (defArgs s_brought) (defBody s_brought) (defScope s_brought) .none kV0 dc0 pm0 an0 cd0 ct0 | 1 => PySem.W.fnOf "plus" "plus" (defArgs s_plus) (defBody s_plus) (defScope s_plus) .none kV1 dc1 pm1 an1 cd1 ct1 | 2 => PySem.W.fnOf "minus" "minus" (defArgs s_minus) (defBody s_minus) (defScope s_minus) .none kV2 dc2 pm2 an2 cd2 ct2 | 3 => PySem.W.fnOf "times" "times" (defArgs s_times) (defBody s_times) (defScope s_times) .none kV3 dc3 pm3 an3 cd3 ct3 | 4 => PySem.W.fnOf "quotient" "quotient" (defArgs s_quotient) (defBody s_quotient) (defScope s_quotient) .none kV4 dc4 pm4 an4 cd4 ct4 | 5 => PySem.W.fnOf "rest" "rest" (defArgs s_rest) (defBody s_rest) (defScope s_rest) .none kV5 dc5 pm5 an5 cd5 ct5 | 6 => PySem.W.fnOf "is_less" "is_less" (defArgs s_isless) (defBody s_isless) (defScope s_isless) .none kV6 dc6 pm6 an6 cd6 ct6 | 7 => PySem.W.fnOf "is_same" "is_same" (defArgs s_issame) (defBody s_issame) (defScope s_issame) .none kV7 dc7 pm7 an7 cd7 ct7 | 8 => PySem.W.fnOf "bits_of_both" "bits_of_both" (defArgs s_bitsofboth) (defBody s_bitsofboth) (defScope s_bitsofboth) .none kV8 dc8 pm8 an8 cd8 ct8 | 9 => PySem.W.fnOf "bits_of_one" "bits_of_one" (defArgs s_bitsofone) (defBody s_bitsofone) (defScope s_bitsofone) .none kV9 dc9 pm9 an9 cd9 ct9 | 10 => PySem.W.fnOf "told_by" "told_by" (defArgs s_toldby) (defBody s_toldby) (defScope s_toldby) .none kV10 dc10 pm10 an10 cd10 ct10 | 11 => PySem.W.fnOf "is_sign" "is_sign" (defArgs s_issign) (defBody s_issign) (defScope s_issign) .none kV11 dc11 pm11 an11 cd11 ct11 | 12 => PySem.W.fnOf "reckoned" "reckoned" (defArgs s_reckoned) (defBody s_reckoned) (defScope s_reckoned) .none kV12 dc12 pm12 an12 cd12 ct12 | 13 => PySem.W.fnOf "_law_feed" "_law_feed" (defArgs s_lfeed) (defBody s_lfeed) (defScope s_lfeed) .none kV13 dc13 pm13 an13 cd13 ct13 | 14 => PySem.W.fnOf "_law_draw" "_law_draw" (defArgs s_ldraw) (defBody s_ldraw) (defScope s_ldraw) .none kV14 dc14 pm14 an14 cd14 ct14 | 15 => PySem.W.fnOf "_law_worth" "_law_worth" (defArgs s_lworth) (defBody s_lworth) (defScope s_lworth) .none kV15 dc15 pm15 an15 cd15 ct15 | 16 => PySem.W.fnOf "_law_register" "_law_register" (defArgs s_lregister) (defBody s_lregister) (defScope s_lregister) .none kV16 dc16 pm16 an16 cd16 ct16 | 17 => PySem.W.fnOf "_law_item" "_law_item" (defArgs s_litem) (defBody s_litem) (defScope s_litem) .none kV17 dc17 pm17 an17 cd17 ct17 | 18 => PySem.W.fnOf "_law_expression" "_law_expression" (defArgs s_lexpression) (defBody s_lexpression) (defScope s_lexpression) .none kV18 dc18 pm18 an18 cd18 ct18 | 19 => PySem.W.fnOf "_law_tells" "_law_tells" (defArgs s_ltells) (defBody s_ltells) (defScope s_ltells) .none kV19 dc19 pm19 an19 cd19 ct19 | 20 => PySem.W.fnOf "_law_reckoned" "_law_reckoned" (defArgs s_lreck) (defBody s_lreck) (defScope s_lreck) .none kV20 dc20 pm20 an20 cd20 ct20 | 21 => PySem.W.fnOf "_law_registers" "_law_registers" (defArgs s_lregs) (defBody s_lregs) (defScope s_lregs) .none kV21 dc21 pm21 an21 cd21 ct21 | 22 => PySem.W.fnOf "law" "law" (defArgs s_law) (defBody s_law) (defScope s_law) .none kV22 dc22 pm22 an22 cd22 ct22 | _ => PySem.W.fnOf "brought" "brought" (defArgs s_brought) (defBody s_brought) (defScope s_brought) .none kV0 dc0 pm0 an0 cd0 ct0
  let ob : Nat → Addr := fun i => match i with | 0 => o_SIGNS | _ => o_SIGNS
  have T : Txt K w mg f fd ob := ⟨F0, PySem.W.mg_of X G e0, b0, F1, PySem.W.mg_of X G e1, b1, F2, PySem.W.mg_of X G e2, b2, F3, PySem.W.mg_of X G e3, b3, F4, PySem.W.mg_of X G e4, b4, F5, PySem.W.mg_of X G e5, b5, F6, PySem.W.mg_of X G e6, b6, F7, PySem.W.mg_of X G e7, b7, F8, PySem.W.mg_of X G e8, b8, F9, PySem.W.mg_of X G e9, b9, F10, PySem.W.mg_of X G e10, b10, F11, PySem.W.mg_of X G e11, b11, F12, PySem.W.mg_of X G e12, b12, F13, PySem.W.mg_of X G e13, b13, F14, PySem.W.mg_of X G e14, b14, F15, PySem.W.mg_of X G e15, b15, F16, PySem.W.mg_of X G e16, b16, F17, PySem.W.mg_of X G e17, b17, F18, PySem.W.mg_of X G e18, b18, F19, PySem.W.mg_of X G e19, b19, F20, PySem.W.mg_of X G e20, b20, F21, PySem.W.mg_of X G e21, b21, F22, PySem.W.mg_of X G e22, b22, PySem.W.mg_of X G e_SIGNS, ⟨_, _, _, l_SIGNS, k_SIGNS, v_SIGNS_0, rfl⟩, ⟨_, _, _, l_SIGNS, k_SIGNS, v_SIGNS_1, rfl⟩, ⟨_, _, _, l_SIGNS, k_SIGNS, v_SIGNS_2, rfl⟩, ⟨_, _, _, l_SIGNS, k_SIGNS, v_SIGNS_3, rfl⟩, ⟨_, _, _, l_SIGNS, k_SIGNS, v_SIGNS_4, rfl⟩, ⟨_, _, _, l_SIGNS, k_SIGNS, v_SIGNS_5, rfl⟩, ⟨_, _, _, l_SIGNS, k_SIGNS, v_SIGNS_6, rfl⟩, ⟨_, _, _, l_SIGNS, k_SIGNS, v_SIGNS_7, rfl⟩, ⟨_, _, _, l_SIGNS, k_SIGNS, v_SIGNS_8, rfl⟩, ⟨_, _, ⟨l_SIGNS, k_SIGNS, low_SIGNS⟩⟩, fun z hz => keyed_none l_SIGNS kd_SIGNS hz, PySem.W.mg_none_of X G z_dict, PySem.W.mg_none_of X G z_int, PySem.W.mg_none_of X G z_isinstance, PySem.W.mg_none_of X G z_len, PySem.W.mg_none_of X G z_list, PySem.W.mg_none_of X G z_range, PySem.W.mg_none_of X G z_repr, PySem.W.mg_none_of X G z_str, PySem.W.mg_none_of X G z_tuple⟩
  exact ⟨fd 22, fun s v => .of_eq rfl, fun base _ _ => ok_law T⟩
end Kw
open PySem PySem.W PyProof.Rows
set_option maxRecDepth 100000 in
set_option maxHeartbeats 0 in
theorem PySem.Challenge.cw_replaytravel_k05_expressions_reckoned_holds : PySem.Challenge.rw_replaytravel_k05_expressions_reckoned.Holds := by
  w_on; o_law; k_head; (case hw => w_witness2)
  k_fill
  refine L2.walk_of (l := PySem.Challenge.rw_replaytravel_k05_expressions_reckoned) (n := 63) (k := 5) (x := "_law_script") (CX := fun _ => L2.CX0) (sp := fun w => Kw.sp_law _) rfl (by decide) rfl ⟨rfl, by decide, by decide⟩ (fun w h Y => PySem.W.kIn_of Y) ?F (fun _ _ a ns hl _ hS => ⟨a, ns, rfl, hS, hl, fun _ => rfl⟩) (fun _ _ _ _ _ h => h)
  case F =>
    intro w mg fa h KX G hmg
    refine' Kw.all_mk KX G hmg ?e0 ?l0 ?c0 ?k0 ?e1 ?l1 ?c1 ?k1 ?e2 ?l2 ?c2 ?k2 ?e3 ?l3 ?c3 ?k3 ?e4 ?l4 ?c4 ?k4 ?e5 ?l5 ?c5 ?k5 ?e6 ?l6 ?c6 ?k6 ?e7 ?l7 ?c7 ?k7 ?e8 ?l8 ?c8 ?k8 ?e9 ?l9 ?c9 ?k9 ?e10 ?l10 ?c10 ?k10 ?e11 ?l11 ?c11 ?k11 ?e12 ?l12 ?c12 ?k12 ?e13 ?l13 ?c13 ?k13 ?e14 ?l14 ?c14 ?k14 ?e15 ?l15 ?c15 ?k15 ?e16 ?l16 ?c16 ?k16 ?e17 ?l17 ?c17 ?k17 ?e18 ?l18 ?c18 ?k18 ?e19 ?l19 ?c19 ?k19 ?e20 ?l20 ?c20 ?k20 ?e21 ?l21 ?c21 ?k21 ?e22 ?l22 ?c22 ?k22 ?e_SIGNS ?l_SIGNS ?k_SIGNS ?v_SIGNS_0 ?v_SIGNS_1 ?v_SIGNS_2 ?v_SIGNS_3 ?v_SIGNS_4 ?v_SIGNS_5 ?v_SIGNS_6 ?v_SIGNS_7 ?v_SIGNS_8 ?low_SIGNS ?kd_SIGNS ?z_dict ?z_int ?z_isinstance ?z_len ?z_list ?z_range ?z_repr ?z_str ?z_tuple
    (case e0 => k_is)
    (case l0 => k_is)
    (case c0 => k_is)
    (case k0 => k_is)
    (case e1 => k_is)
    (case l1 => k_is)
    (case c1 => k_is)
    (case k1 => k_is)
    (case e2 => k_is)
    (case l2 => k_is)
    (case c2 => k_is)
    (case k2 => k_is)
    (case e3 => k_is)
    (case l3 => k_is)
    (case c3 => k_is)
    (case k3 => k_is)
    (case e4 => k_is)
    (case l4 => k_is)
    (case c4 => k_is)
    (case k4 => k_is)
    (case e5 => k_is)
    (case l5 => k_is)
    (case c5 => k_is)
    (case k5 => k_is)
    (case e6 => k_is)
    (case l6 => k_is)
    (case c6 => k_is)
    (case k6 => k_is)
    (case e7 => k_is)
    (case l7 => k_is)
    (case c7 => k_is)
    (case k7 => k_is)
    (case e8 => k_is)
    (case l8 => k_is)
    (case c8 => k_is)
    (case k8 => k_is)
    (case e9 => k_is)
    (case l9 => k_is)
    (case c9 => k_is)
    (case k9 => k_is)
    (case e10 => k_is)
    (case l10 => k_is)
    (case c10 => k_is)
    (case k10 => k_is)
    (case e11 => k_is)
    (case l11 => k_is)
    (case c11 => k_is)
    (case k11 => k_is)
    (case e12 => k_is)
    (case l12 => k_is)
    (case c12 => k_is)
    (case k12 => k_is)
    (case e13 => k_is)
    (case l13 => k_is)
    (case c13 => k_is)
    (case k13 => k_is)
    (case e14 => k_is)
    (case l14 => k_is)
    (case c14 => k_is)
    (case k14 => k_is)
    (case e15 => k_is)
    (case l15 => k_is)
    (case c15 => k_is)
    (case k15 => k_is)
    (case e16 => k_is)
    (case l16 => k_is)
    (case c16 => k_is)
    (case k16 => k_is)
    (case e17 => k_is)
    (case l17 => k_is)
    (case c17 => k_is)
    (case k17 => k_is)
    (case e18 => k_is)
    (case l18 => k_is)
    (case c18 => k_is)
    (case k18 => k_is)
    (case e19 => k_is)
    (case l19 => k_is)
    (case c19 => k_is)
    (case k19 => k_is)
    (case e20 => k_is)
    (case l20 => k_is)
    (case c20 => k_is)
    (case k20 => k_is)
    (case e21 => k_is)
    (case l21 => k_is)
    (case c21 => k_is)
    (case k21 => k_is)
    (case e22 => k_is)
    (case l22 => k_is)
    (case c22 => k_is)
    (case k22 => k_is)
    (case e_SIGNS => k_is)
    (case l_SIGNS => k_is)
    (case k_SIGNS => repeat' (first | exact trivial | refine ⟨⟨_, _, rfl, rfl⟩, ?_⟩))
    (case v_SIGNS_0 => k_is)
    (case v_SIGNS_1 => k_is)
    (case v_SIGNS_2 => k_is)
    (case v_SIGNS_3 => k_is)
    (case v_SIGNS_4 => k_is)
    (case v_SIGNS_5 => k_is)
    (case v_SIGNS_6 => k_is)
    (case v_SIGNS_7 => k_is)
    (case v_SIGNS_8 => k_is)
    (case low_SIGNS => first | k_is | decide | rfl)
    (case kd_SIGNS => repeat' (first | exact trivial | refine ⟨⟨_, rfl⟩, ?_⟩))
    (case z_dict => k_is)
    (case z_int => k_is)
    (case z_isinstance => k_is)
    (case z_len => k_is)
    (case z_list => k_is)
    (case z_range => k_is)
    (case z_repr => k_is)
    (case z_str => k_is)
    (case z_tuple => k_is)
