import PyProof.Rows.All
import Wide.All
import OpenK.AllK
import Wide.FinOn
import HandS.ForMost
import HandS.RaiseMore
import HandS.Defaults
import HandS.Wide
import HandS.Codes
import HandS.More
import HandS.Style
import HandS.CallLocal
import HandS.DictComp
import HandS.TupAny
import HandS.IsInst
import HandS.StrMore
import HandS.Walk
import HandS.Flow
import PyProof.ReprRoads
import PyProof.StrLaws
import KE.KBits
import KE.BitLaws
import KE.IntTextLaws
import PySem.Challenge.RW_replaytravel_k04_what_is_an_expression
set_option Elab.async false
set_option maxRecDepth 100000
set_option maxHeartbeats 4000000
namespace Kw
open PySem L2
def top (i : Nat) : Stmt := PySem.Challenge.pw_replaytravel_k04_what_is_an_expression.main.body.getD i (.Pass ⟨0, 0, 0, 0⟩)
abbrev s_iswhole : Stmt := top 1
abbrev N_iswhole : List Str := ["thing"]
theorem sc_iswhole : FnScope N_iswhole ["thing"] (defScope s_iswhole) := ⟨rfl, rfl, rfl, by decide +kernel, rfl, by decide +kernel, by decide +kernel⟩
abbrev s_isworth : Stmt := top 3
abbrev N_isworth : List Str := ["thing"]
theorem sc_isworth : FnScope N_isworth ["thing"] (defScope s_isworth) := ⟨rfl, rfl, rfl, by decide +kernel, rfl, by decide +kernel, by decide +kernel⟩
abbrev s_isletter : Stmt := top 17
abbrev N_isletter : List Str := ["thing"]
theorem sc_isletter : FnScope N_isletter ["thing"] (defScope s_isletter) := ⟨rfl, rfl, rfl, by decide +kernel, rfl, by decide +kernel, by decide +kernel⟩
abbrev s_issign : Stmt := top 18
abbrev N_issign : List Str := ["thing"]
theorem sc_issign : FnScope N_issign ["thing"] (defScope s_issign) := ⟨rfl, rfl, rfl, by decide +kernel, rfl, by decide +kernel, by decide +kernel⟩
abbrev s_leavesone : Stmt := top 19
abbrev N_leavesone : List Str := ["items", "height", "item"]
theorem sc_leavesone : FnScope N_leavesone ["items"] (defScope s_leavesone) := ⟨rfl, rfl, rfl, by decide +kernel, rfl, by decide +kernel, by decide +kernel⟩
abbrev s_isexpression : Stmt := top 20
abbrev N_isexpression : List Str := ["thing", "item"]
theorem sc_isexpression : FnScope N_isexpression ["thing"] (defScope s_isexpression) := ⟨rfl, rfl, rfl, by decide +kernel, rfl, by decide +kernel, by decide +kernel⟩
abbrev s_lfeed : Stmt := top 22
abbrev N_lfeed : List Str := ["_law_script"]
theorem sc_lfeed : FnScope N_lfeed ["_law_script"] (defScope s_lfeed) := ⟨rfl, rfl, rfl, by decide +kernel, rfl, by decide +kernel, by decide +kernel⟩
abbrev s_ldraw : Stmt := top 23
abbrev N_ldraw : List Str := ["_law_feed_here", "_law_many", "_law_got", "_law_at", "_law_cell", "_law_number"]
theorem sc_ldraw : FnScope N_ldraw ["_law_feed_here", "_law_many"] (defScope s_ldraw) := ⟨rfl, rfl, rfl, by decide +kernel, rfl, by decide +kernel, by decide +kernel⟩
abbrev s_lworth : Stmt := top 24
abbrev N_lworth : List Str := ["_law_feed_here", "_law_way"]
theorem sc_lworth : FnScope N_lworth ["_law_feed_here"] (defScope s_lworth) := ⟨rfl, rfl, rfl, by decide +kernel, rfl, by decide +kernel, by decide +kernel⟩
abbrev s_lregister : Stmt := top 25
abbrev N_lregister : List Str := ["_law_feed_here"]
theorem sc_lregister : FnScope N_lregister ["_law_feed_here"] (defScope s_lregister) := ⟨rfl, rfl, rfl, by decide +kernel, rfl, by decide +kernel, by decide +kernel⟩
abbrev s_litem : Stmt := top 26
abbrev N_litem : List Str := ["_law_feed_here"]
theorem sc_litem : FnScope N_litem ["_law_feed_here"] (defScope s_litem) := ⟨rfl, rfl, rfl, by decide +kernel, rfl, by decide +kernel, by decide +kernel⟩
abbrev s_lexpression : Stmt := top 27
abbrev N_lexpression : List Str := ["_law_feed_here", "_law_most", "_law_signs", "_law_items", "_law_high", "_law_left", "_law_k"]
theorem sc_lexpression : FnScope N_lexpression ["_law_feed_here", "_law_most"] (defScope s_lexpression) := ⟨rfl, rfl, rfl, by decide +kernel, rfl, by decide +kernel, by decide +kernel⟩
abbrev s_lisexp : Stmt := top 28
abbrev N_lisexp : List Str := ["_law_thing", "_law_high", "_law_item_here"]
theorem sc_lisexp : FnScope N_lisexp ["_law_thing"] (defScope s_lisexp) := ⟨rfl, rfl, rfl, by decide +kernel, rfl, by decide +kernel, by decide +kernel⟩
abbrev s_lodd : Stmt := top 29
abbrev N_lodd : List Str := ["_law_feed_here", "_law_some"]
theorem sc_lodd : FnScope N_lodd ["_law_feed_here"] (defScope s_lodd) := ⟨rfl, rfl, rfl, by decide +kernel, rfl, by decide +kernel, by decide +kernel⟩
abbrev s_lbent : Stmt := top 30
abbrev N_lbent : List Str := ["_law_feed_here", "_law_thing", "_law_at", "_law_far", "_law_way"]
theorem sc_lbent : FnScope N_lbent ["_law_feed_here", "_law_thing"] (defScope s_lbent) := ⟨rfl, rfl, rfl, by decide +kernel, rfl, by decide +kernel, by decide +kernel⟩
abbrev s_llong : Stmt := top 31
abbrev N_llong : List Str := ["_law_feed_here", "_law_many", "_law_k"]
theorem sc_llong : FnScope N_llong ["_law_feed_here"] (defScope s_llong) := ⟨rfl, rfl, rfl, by decide +kernel, rfl, by decide +kernel, by decide +kernel⟩
abbrev s_law : Stmt := top 32
abbrev N_law : List Str := ["_law_script", "_law_feed_here", "_law_k", "_law_thing", "_law_turn", "_law_due", "_law_odd_here"]
theorem sc_law : FnScope N_law ["_law_script"] (defScope s_law) := ⟨rfl, rfl, rfl, by decide +kernel, rfl, by decide +kernel, by decide +kernel⟩
abbrev s_plus : Stmt := top 4
abbrev N_plus : List Str := ["one", "other"]
theorem sc_plus : FnScope N_plus ["one", "other"] (defScope s_plus) := ⟨rfl, rfl, rfl, by decide +kernel, rfl, by decide +kernel, by decide +kernel⟩
abbrev s_minus : Stmt := top 5
abbrev N_minus : List Str := ["one", "other"]
theorem sc_minus : FnScope N_minus ["one", "other"] (defScope s_minus) := ⟨rfl, rfl, rfl, by decide +kernel, rfl, by decide +kernel, by decide +kernel⟩
abbrev s_times : Stmt := top 6
abbrev N_times : List Str := ["one", "other"]
theorem sc_times : FnScope N_times ["one", "other"] (defScope s_times) := ⟨rfl, rfl, rfl, by decide +kernel, rfl, by decide +kernel, by decide +kernel⟩
abbrev s_quotient : Stmt := top 7
abbrev N_quotient : List Str := ["one", "other"]
theorem sc_quotient : FnScope N_quotient ["one", "other"] (defScope s_quotient) := ⟨rfl, rfl, rfl, by decide +kernel, rfl, by decide +kernel, by decide +kernel⟩
abbrev s_rest : Stmt := top 8
abbrev N_rest : List Str := ["one", "other"]
theorem sc_rest : FnScope N_rest ["one", "other"] (defScope s_rest) := ⟨rfl, rfl, rfl, by decide +kernel, rfl, by decide +kernel, by decide +kernel⟩
abbrev s_isless : Stmt := top 9
abbrev N_isless : List Str := ["one", "other"]
theorem sc_isless : FnScope N_isless ["one", "other"] (defScope s_isless) := ⟨rfl, rfl, rfl, by decide +kernel, rfl, by decide +kernel, by decide +kernel⟩
abbrev s_issame : Stmt := top 10
abbrev N_issame : List Str := ["one", "other"]
theorem sc_issame : FnScope N_issame ["one", "other"] (defScope s_issame) := ⟨rfl, rfl, rfl, by decide +kernel, rfl, by decide +kernel, by decide +kernel⟩
abbrev s_bitsofboth : Stmt := top 11
abbrev N_bitsofboth : List Str := ["one", "other"]
theorem sc_bitsofboth : FnScope N_bitsofboth ["one", "other"] (defScope s_bitsofboth) := ⟨rfl, rfl, rfl, by decide +kernel, rfl, by decide +kernel, by decide +kernel⟩
abbrev s_bitsofone : Stmt := top 12
abbrev N_bitsofone : List Str := ["one", "other"]
theorem sc_bitsofone : FnScope N_bitsofone ["one", "other"] (defScope s_bitsofone) := ⟨rfl, rfl, rfl, by decide +kernel, rfl, by decide +kernel, by decide +kernel⟩
structure Txt (K : PySem.W.Frag) (w : World) (mg : Str → Option Value) (f : Nat → Addr) (fd : Nat → FuncData) (ob : Nat → Addr) : Prop where
  F_iswhole : Fun K "is_whole" "is_whole" s_iswhole (f 0) (fd 0)
  m_iswhole : mg "is_whole" = some (.ref (f 0))
  b_iswhole : Binds K (fd 0) ["thing"] []
  F_isworth : Fun K "is_worth" "is_worth" s_isworth (f 1) (fd 1)
  m_isworth : mg "is_worth" = some (.ref (f 1))
  b_isworth : Binds K (fd 1) ["thing"] []
  F_isletter : Fun K "is_letter" "is_letter" s_isletter (f 2) (fd 2)
  m_isletter : mg "is_letter" = some (.ref (f 2))
  b_isletter : Binds K (fd 2) ["thing"] []
  F_issign : Fun K "is_sign" "is_sign" s_issign (f 3) (fd 3)
  m_issign : mg "is_sign" = some (.ref (f 3))
  b_issign : Binds K (fd 3) ["thing"] []
  F_leavesone : Fun K "leaves_one" "leaves_one" s_leavesone (f 4) (fd 4)
  m_leavesone : mg "leaves_one" = some (.ref (f 4))
  b_leavesone : Binds K (fd 4) ["items"] []
  F_isexpression : Fun K "is_expression" "is_expression" s_isexpression (f 5) (fd 5)
  m_isexpression : mg "is_expression" = some (.ref (f 5))
  b_isexpression : Binds K (fd 5) ["thing"] []
  F_lfeed : Fun K "_law_feed" "_law_feed" s_lfeed (f 6) (fd 6)
  m_lfeed : mg "_law_feed" = some (.ref (f 6))
  b_lfeed : Binds K (fd 6) ["_law_script"] []
  F_ldraw : Fun K "_law_draw" "_law_draw" s_ldraw (f 7) (fd 7)
  m_ldraw : mg "_law_draw" = some (.ref (f 7))
  b_ldraw : Binds K (fd 7) ["_law_feed_here", "_law_many"] []
  F_lworth : Fun K "_law_worth" "_law_worth" s_lworth (f 8) (fd 8)
  m_lworth : mg "_law_worth" = some (.ref (f 8))
  b_lworth : Binds K (fd 8) ["_law_feed_here"] []
  F_lregister : Fun K "_law_register" "_law_register" s_lregister (f 9) (fd 9)
  m_lregister : mg "_law_register" = some (.ref (f 9))
  b_lregister : Binds K (fd 9) ["_law_feed_here"] []
  F_litem : Fun K "_law_item" "_law_item" s_litem (f 10) (fd 10)
  m_litem : mg "_law_item" = some (.ref (f 10))
  b_litem : Binds K (fd 10) ["_law_feed_here"] []
  F_lexpression : Fun K "_law_expression" "_law_expression" s_lexpression (f 11) (fd 11)
  m_lexpression : mg "_law_expression" = some (.ref (f 11))
  b_lexpression : Binds K (fd 11) ["_law_feed_here", "_law_most"] []
  F_lisexp : Fun K "_law_is_expression" "_law_is_expression" s_lisexp (f 12) (fd 12)
  m_lisexp : mg "_law_is_expression" = some (.ref (f 12))
  b_lisexp : Binds K (fd 12) ["_law_thing"] []
  F_lodd : Fun K "_law_odd" "_law_odd" s_lodd (f 13) (fd 13)
  m_lodd : mg "_law_odd" = some (.ref (f 13))
  b_lodd : Binds K (fd 13) ["_law_feed_here"] []
  F_lbent : Fun K "_law_bent" "_law_bent" s_lbent (f 14) (fd 14)
  m_lbent : mg "_law_bent" = some (.ref (f 14))
  b_lbent : Binds K (fd 14) ["_law_feed_here", "_law_thing"] []
  F_llong : Fun K "_law_long" "_law_long" s_llong (f 15) (fd 15)
  m_llong : mg "_law_long" = some (.ref (f 15))
  b_llong : Binds K (fd 15) ["_law_feed_here"] []
  F_law : Fun K "law" "law" s_law (f 16) (fd 16)
  m_law : mg "law" = some (.ref (f 16))
  b_law : Binds K (fd 16) ["_law_script"] []
  F_plus : Fun K "plus" "plus" s_plus (f 17) (fd 17)
  m_plus : mg "plus" = some (.ref (f 17))
  b_plus : Binds K (fd 17) ["one", "other"] []
  F_minus : Fun K "minus" "minus" s_minus (f 18) (fd 18)
  m_minus : mg "minus" = some (.ref (f 18))
  b_minus : Binds K (fd 18) ["one", "other"] []
  F_times : Fun K "times" "times" s_times (f 19) (fd 19)
  m_times : mg "times" = some (.ref (f 19))
  b_times : Binds K (fd 19) ["one", "other"] []
  F_quotient : Fun K "quotient" "quotient" s_quotient (f 20) (fd 20)
  m_quotient : mg "quotient" = some (.ref (f 20))
  b_quotient : Binds K (fd 20) ["one", "other"] []
  F_rest : Fun K "rest" "rest" s_rest (f 21) (fd 21)
  m_rest : mg "rest" = some (.ref (f 21))
  b_rest : Binds K (fd 21) ["one", "other"] []
  F_isless : Fun K "is_less" "is_less" s_isless (f 22) (fd 22)
  m_isless : mg "is_less" = some (.ref (f 22))
  b_isless : Binds K (fd 22) ["one", "other"] []
  F_issame : Fun K "is_same" "is_same" s_issame (f 23) (fd 23)
  m_issame : mg "is_same" = some (.ref (f 23))
  b_issame : Binds K (fd 23) ["one", "other"] []
  F_bitsofboth : Fun K "bits_of_both" "bits_of_both" s_bitsofboth (f 24) (fd 24)
  m_bitsofboth : mg "bits_of_both" = some (.ref (f 24))
  b_bitsofboth : Binds K (fd 24) ["one", "other"] []
  F_bitsofone : Fun K "bits_of_one" "bits_of_one" s_bitsofone (f 25) (fd 25)
  m_bitsofone : mg "bits_of_one" = some (.ref (f 25))
  b_bitsofone : Binds K (fd 25) ["one", "other"] []
  m_SIGNS : mg "SIGNS" = some (.ref (ob 0))
  t_SIGNS_0 : KDct K w (ob 0) "+" (.ref (f 17))
  t_SIGNS_1 : KDct K w (ob 0) "-" (.ref (f 18))
  t_SIGNS_2 : KDct K w (ob 0) "*" (.ref (f 19))
  t_SIGNS_3 : KDct K w (ob 0) "/" (.ref (f 20))
  t_SIGNS_4 : KDct K w (ob 0) "#" (.ref (f 21))
  t_SIGNS_5 : KDct K w (ob 0) "<" (.ref (f 22))
  t_SIGNS_6 : KDct K w (ob 0) "=" (.ref (f 23))
  t_SIGNS_7 : KDct K w (ob 0) "&" (.ref (f 24))
  t_SIGNS_8 : KDct K w (ob 0) "^" (.ref (f 25))
  d_SIGNS : ∃ es n, KDict K w (ob 0) es n
  n_SIGNS : ∀ z : Str, z ∉ (["+", "-", "*", "/", "#", "<", "=", "&", "^"] : List Str) → PySem.W.nsIn K (ob 0) z = some none
  c_LETTERS : ∃ t, mg "LETTERS" = some (.str "abcdefghijklmnop" t)
  c_MOST_ITEMS : ∃ t, mg "MOST_ITEMS" = some (.int 15 t)
  z_all : mg "all" = none
  z_bool : mg "bool" = none
  z_int : mg "int" = none
  z_isinstance : mg "isinstance" = none
  z_len : mg "len" = none
  z_list : mg "list" = none
  z_range : mg "range" = none
  z_repr : mg "repr" = none
  z_str : mg "str" = none
  z_tuple : mg "tuple" = none
/-! Frames: all that was tracked but p stands as it stood. -/
def Kp (p : Addr) (H H' : Hp) : Prop := ∀ b o, b ≠ p → H b = some o → H' b = some o
theorem Kp.refl (p : Addr) (H : Hp) : Kp p H H := fun _ _ _ h => h
theorem Kp.trans {p : Addr} {H H1 H2 : Hp} (a : Kp p H H1) (b : Kp p H1 H2) : Kp p H H2 := fun x o n h => b x o n (a x o n h)
theorem Kp.upd {p : Addr} {H : Hp} (o : HO) : Kp p H (upd H p o) := fun b u n h => by
  rw [upd_ne n]
  exact h
theorem Kp.new {p q : Addr} {H : Hp} {o : HO} (h : H q = none) : Kp p H (L2.upd H q o) := fun b u _ e => by
  rw [upd_ne (ne_of_none e h)]
  exact e
theorem Kp.mut {p q : Addr} {H H' : Hp} {o : HO} (k : Kp p H H') (h : H q = none) : Kp p H (L2.upd H' q o) := fun b u n e => by
  rw [upd_ne (ne_of_none e h)]
  exact k b u n e
theorem Same.kp {p : Addr} {H H' : Hp} (s : Same H H') : Kp p H H' := fun b o _ h => s b o h
theorem Same.new {q : Addr} {H : Hp} {o : HO} (h : H q = none) : Same H (L2.upd H q o) := fun b u e => by
  rw [upd_ne (ne_of_none e h)]
  exact e
theorem Same.mut {q : Addr} {H H' : Hp} {o : HO} (k : Same H H') (h : H q = none) : Same H (L2.upd H' q o) := fun b u e => by
  rw [upd_ne (ne_of_none e h)]
  exact k b u e
/-- free behind a frame is free ahead of it, but for p -/
theorem Kp.free {p q : Addr} {H H' : Hp} (k : Kp p H H') (hq : q ≠ p) (h : H' q = none) : H q = none := by
  cases e : H q with
  | none => rfl
  | some o =>
    rw [k q o hq e] at h
    cases h
/-! What holds of the feed: a list of the cells, how many were begun, what is left. -/
def Pen (H : Hp) (p c : Addr) (ns : List Int) (n : Int) : Prop :=
  ∃ r : Int, H p = some (.lst [.ref c, .int n, .int r]) ∧ H c = some (.lst (ns.map V.int)) ∧ 0 ≤ n ∧ 0 ≤ r
theorem Pen.ne {H : Hp} {p c : Addr} {ns : List Int} {n : Int} (h : Pen H p c ns n) : c ≠ p := by
  obtain ⟨r, h1, h2, _⟩ := h
  refine ne_of h2 h1 fun e => ?_
  cases ns with
  | nil => cases e
  | cons a l => cases e
theorem Pen.nn {H : Hp} {p c : Addr} {ns : List Int} {n : Int} (h : Pen H p c ns n) : 0 ≤ n := by
  obtain ⟨r, _, _, h, _⟩ := h
  exact h
theorem Pen.new {H : Hp} {p c q : Addr} {ns : List Int} {n : Int} {o : HO} (h : Pen H p c ns n) (hq : H q = none) : Pen (upd H q o) p c ns n := by
  obtain ⟨r, h1, h2, h3, h4⟩ := h
  exact ⟨r, (upd_ne (ne_of_none h1 hq)).trans h1, (upd_ne (ne_of_none h2 hq)).trans h2, h3, h4⟩
theorem Pen.same {H H' : Hp} {p c : Addr} {ns : List Int} {n : Int} (h : Pen H p c ns n) (s : Same H H') : Pen H' p c ns n := by
  obtain ⟨r, h1, h2, h3, h4⟩ := h
  exact ⟨r, s _ _ h1, s _ _ h2, h3, h4⟩
theorem Pen.ni {H : Hp} {p c q : Addr} {ns : List Int} {n : Int} (h : Pen H p c ns n) (hq : H q = none) : q ≠ p := by
  obtain ⟨r, h1, _⟩ := h
  exact (ne_of_none h1 hq).symm
theorem cut63 {xs : List V} (h : xs.length ≤ 63) : cutV xs none (some 63) = xs := by
  unfold cutV
  rw [HT.sIx_none, show HT.sIx xs.length xs.length (some 63) = min 63 xs.length from HT.sIx_nat xs.length xs.length 63]
  rw [show min 63 xs.length = xs.length by omega]
  simp
theorem atI_in {ns : List Int} {i : Int} (h0 : 0 ≤ i) (h1 : i < ((ns.map V.int).length : Int)) : ∃ v : Int, atI (ns.map V.int) i = some (.int v) := by
  obtain ⟨j, rfl⟩ := Int.eq_ofNat_of_zero_le h0
  have hj : j < ns.length := by
    rw [List.length_map] at h1
    omega
  refine ⟨ns[j], atI_nat ?_⟩
  rw [List.getElem?_map, List.getElem?_eq_getElem hj]
  rfl
theorem few {i : Int} (h : i.natAbs < 2 ^ 20) : i.natAbs.log2 < 1920 := Nat.lt_of_lt_of_le (PySem.Flt.log2_lt_of (by decide) h) (by decide)
/-! Lists of ints as data. -/
theorem dpInts {K : PySem.W.Frag} {H : Hp} : ∀ ns : List Int, DpAll K H (ns.map V.int) (ns.map PyData.int)
  | [] => .nil
  | n :: r => .cons (.int n) (dpInts r)
theorem dpL {K : PySem.W.Frag} {H : Hp} {a : Addr} {ns : List Int} (h : SqL K H a (ns.map V.int)) : Dp K H (.ref a) (.list (ns.map PyData.int)) := .lst h (dpInts ns)
theorem shInts (ns : List Int) : SeqAt.shaped (.list (ns.map PyData.int)) = true := by
  simp [SeqAt.shaped, PyData.canLay0, PyData.depth, PySem.W.ke_canLayAll0, PySem.W.ke_depthAll]
theorem eqvInts (ns ms : List Int) : PyData.eqv (.list (ns.map PyData.int)) (.list (ms.map PyData.int)) = decide (ns = ms) := by
  rw [PyData.eqv, PySem.W.ked_eqvAll]
/-! A call with keywords alone. -/
section
variable {X : Cx} {CX : CXT} {k : Nat} {f : Addr} {fd : FuncData} {ps ks : List Str} {sp : Sp} {E : XK} {x : Str} {p pos : Pos} {kws : List Keyword} {tk : TA} {g : List Value → List Value → List Value} {gV : List V → List V → List V}
theorem callKw0 (F : FnOk X.prog X.w X.K X.mg X.base CX k f fd ps sp) (hr : Room k X.A) (hg : Gl X x) (hm : X.mg x = some (.ref f))
    (hk : PySem.W.keepIn X.K (.ref f) = true) (hb : KBn X.K fd ps 0 ks g gV) (hx : Passes CX X E) (hkw : PK X kws tk)
    (hall : (backToKw pos (keywordEach kws X.env)).all (·.1.isSome) = true := by rfl)
    (hks : (backToKw pos (keywordEach kws X.env)).filterMap (·.1) = ks := by rfl)
    (hdb : (x == ("__debug__" : Str)) = false := by decide)
    (hpl : ((backTo pos (starEach [] X.env)).any (·.1) || (backToKw pos (keywordEach kws X.env)).any (·.1.isNone)) = false := by rfl) :
    PE X (.Call (.Name x p) [] kws pos) (tCallN 0 ks.length sp gV E tNil tk) := by
  constructor
  intro pins s σ H Q I h
  refine wpAny_Call_Name_kw (ld_glob I hg hm ?_ hdb)
  refine PySem.W.callWith_KW0 (h₀ := X.base) I.ok.mod.kin hk hall ?_ hpl
  refine thn (hkw.run pos pins s σ H _ I h) ?_
  rintro ws s2 ⟨zs, H2, I2, rz, l1, l2, q2⟩
  refine ⟨I2.kIn, ?_⟩
  rw [hks]
  exact run_fnN (us := []) (vs := []) F hr hb hx I2 .nil rz rfl l2 q2
end
/-! A written dict whose keys are these texts. -/
def Keyed : List DictEntry → List Str → Prop
  | [], [] => True
  | e :: r, k :: ks => (∃ t, e.key = .str k t) ∧ Keyed r ks
  | _, _ => False
theorem keyed_find : ∀ {l : List DictEntry} {ks : List Str} {z : Str}, Keyed l ks → z ∉ ks → l.find? (·.key.isStr z) = none ∧ l.any (·.refKey) = false
  | [], [], _, _, _ => ⟨rfl, rfl⟩
  | e :: r, k :: ks, z, h, hz => by
    obtain ⟨⟨t, et⟩, hr⟩ := h
    have hk : z ≠ k := fun q => hz (by rw [q]; exact List.mem_cons_self)
    obtain ⟨h1, h2⟩ := keyed_find hr (fun q => hz (List.mem_cons_of_mem _ q))
    have e1 : e.key.isStr z = false := by
      rw [PySem.W.isStr_of, et]
      show (k == z) = false
      exact beq_false_of_ne (fun q => hk q.symm)
    have e2 : e.refKey = false := by
      unfold DictEntry.refKey
      rw [et]
    refine ⟨?_, ?_⟩
    · rw [List.find?_cons, e1]
      exact h1
    · rw [List.any_cons, e2, h2]
      rfl
theorem keyed_none {K : PySem.W.Frag} {a : Addr} {c : Value} {d : Option Addr} {es : Array DictEntry} {n : Nat} {sl : Array (Option Value)} {ks : List Str} {z : Str} (l : K.lookup a = some ⟨c, d, .dict es n, sl⟩) (h : Keyed es.toList ks) (hz : z ∉ ks) :
    PySem.W.nsIn K a z = some none := by
  obtain ⟨h1, h2⟩ := keyed_find h hz
  unfold PySem.W.nsIn
  rw [l]
  show (match es.toList.find? (·.key.isStr z) with
      | some e => some (some e.val)
      | none => if es.toList.any (·.refKey) then none else some none) = some none
  rw [h1, h2]
  rfl
/-! A word between a test and what follows it; between an expression and what follows it. -/
section
variable {X : Cx}
def tM (t : TT) : TT := fun σ H Q => ∃ M : Bool → Hp → Prop, t σ H M ∧ ∀ b H', M b H' → Q b H'
theorem pt_M {e : Expr} {t : TT} (h : PT X e t) : PT X e (tM t) :=
  ⟨fun pins s σ H _ I ⟨M, hm, k⟩ => thn (h.run pins s σ H M I hm) fun b _ ⟨H1, I1, q⟩ => ⟨H1, I1, k b H1 q⟩⟩
def eM (t : TE) : TE := fun σ H Q => ∃ M : V → Hp → Prop, t σ H M ∧ ∀ v H', M v H' → Q v H'
theorem pe_M {e : Expr} {t : TE} (h : PE X e t) : PE X e (eM t) :=
  ⟨fun pins s σ H _ I ⟨M, hm, k⟩ => thn (h.run pins s σ H M I hm) fun _ _ ⟨v, H1, I1, r, q⟩ => ⟨v, H1, I1, r, k v H1 q⟩⟩
end
theorem Pen.nt {H : Hp} {p c q : Addr} {ns : List Int} {n : Int} {o : HO} (h : Pen H p c ns n) (e : H q = some o) (ho : ∀ xs, o ≠ .lst xs) : q ≠ p := by
  obtain ⟨r, h1, _⟩ := h
  exact ne_of e h1 (ho _)
theorem ex_t {K : PySem.W.Frag} {H H' : Hp} {a : Addr} {xs : List V} (e : Same H H') (h : SqT K H a xs) : SqT K H' a xs := by
  rcases h with (h | ⟨o, h⟩) | h
  · exact .inl (.inl (e _ _ h))
  · exact .inl (.inr ⟨o, e _ _ h⟩)
  · exact .inr h
/-! Defs that are called where no repr is under way (guards known): their promise, the rule, the call, the law's end. -/
structure FnG (P : Program) (w : World) (K : PySem.W.Frag) (mg : Str → Option Value) (base : Heap) (C : CXT) (k : Nat) (f : Addr) (fd : FuncData) (ps : List Str) (sp : Sp) : Prop where
  len : ∀ vs H Q E, sp vs H Q E → vs.length = ps.length
  go : ∀ (A : Around) (o : List Env) (s : Shared) (H : Hp) (args : Args) (us : List Value) (vs : List V) (Q : VK) (E : XK), A.guards = some [] → Room k A → Env0 P w K mg base A o s H →
    BindsTo s fd args (ps.zip us) → Vals vs us → sp vs H Q E → codeAny (model P w) A (.call (.ref f) args) (CR C o P w H s Q E) s
theorem FnG.of {P : Program} {w : World} {K : PySem.W.Frag} {mg : Str → Option Value} {base : Heap} {C : CXT} {k : Nat} {f : Addr} {fd : FuncData} {ps : List Str} {sp : Sp} (h : FnOk P w K mg base C k f fd ps sp) : FnG P w K mg base C k f fd ps sp :=
  ⟨h.len, fun A o s H args us vs Q E _ => h.run A o s H args us vs Q E⟩
section
open PyProof.Rows
theorem Fun.okG {P : Program} {w : World} {K : PySem.W.Frag} {mg : Str → Option Value} {base : Heap} {x qual : Str} {st : Stmt} {f : Addr} {fd : FuncData} {N ps : List Str} {k : Nat} {sp : Sp} (F : Fun K x qual st f fd) (S : FnScope N ps (defScope st))
    (len : ∀ vs H Q E, sp vs H Q E → vs.length = ps.length)
    (body : ∀ (cdv : Value) (A : Around) (o : List Env) (s : Shared) (H : Hp) (vs : List V) (Q : VK) (E : XK), A.guards = some [] → Room k (A.deeper (envOfC qual (defScope st) s.heap.objs.size f cdv)) → sp vs H Q E →
      ∃ t, PSs (cxOf CX0 P w K mg base N qual (defScope st) f cdv A o s H E).nox (defBody st) t ∧ t { nx := fun _ H' => Q .non H', rt := Q } (start N vs) H) : FnG P w K mg base CX0 (k + 1) f fd ps sp := by
  obtain ⟨oc, od, kV, doc, pm, an, cdv, ct, osl, rfl, lk, hcd⟩ := F.ex
  constructor
  · exact len
  · intro A o s H args us vs Q E hg room env bnd rel want
    have hl := len vs H Q E want
    have kin : K.In s.heap := env.mod.kin.keeps fun b u e => (env.bs b u e).1
    have nol : s.heap.NoLimit := env.mod.nolimit.keeps fun b u e => (env.bs b u e).1
    have kinds : ∀ y ∈ ps.zip us, (defScope st).names.lookup y.1 = some .local ∨ ((defScope st).names.lookup y.1 = some .cell ∧ ((cellsFrom (s.heap.objs.size + 1) (defScope st).names []).lookup y.1).isSome = true) := by
      rintro ⟨n, v⟩ hy
      rcases S.par n (List.of_mem_zip hy).1 with q | q
      · left
        exact q
      · right
        exact ⟨q, PySem.W.cellsFrom_some _ _ _ (.inl q)⟩
    refine codeAny_call_function room.depth (kin _ _ lk) rfl S.co S.gen rfl (PySem.W.codeRec_of kin hcd) (bnd _ _ _ _ ?_)
    apply wpAny_newFunctionEnv_cells S.kind kinds
    intro en he s1 q1
    subst he
    refine ⟨nol.keeps q1.toInCall.keep, codeAny_func ?_⟩
    obtain ⟨t, ht, hq⟩ := body cdv A o s H vs Q E hg (room.deeper _) want
    have J : Inv (cxOf CX0 P w K mg base N qual (defScope st) f cdv A o s H E) [] (start N vs) H s1 := inv_start S room.hd env hl rel q1
    refine wpAny_mono (ht.nox.run [] s1 (start N vs) H _ J hq) ?_ (fun e s' z => z)
    intro fl s' z
    match fl, z with
    | .ret u, ⟨v, _, H', I', rv, qv⟩ => exact ⟨v, H', I'.os, I'.bare, I'.base, I'.hok, rv, qv⟩
    | .next, ⟨_, H', I', qv⟩ => exact ⟨V.non, H', I'.os, I'.bare, I'.base, I'.hok, rfl, qv⟩
    | .brk, ⟨_, _, _, bad⟩ => exact False.elim bad
    | .cont, ⟨_, _, _, bad⟩ => exact False.elim bad
/-- the call of such a def by its name -/
theorem callG {X : Cx} {C : CXT} {k : Nat} {f : Addr} {fd : FuncData} {ps : List Str} {ds : List Value} {dvs : List V} {sp : Sp} {E : XK} {x : Str} {p pos : Pos} {e : Expr} {es : List Expr} {t : TA}
    (F : FnG X.prog X.w X.K X.mg X.base C k f fd ps sp) (hu : X.A.guards = some []) (room : Room k X.A) (glob : Gl X x) (hm : X.mg x = some (.ref f)) (kp : PySem.W.keepIn X.K (.ref f) = true) (bnd : Binds X.K fd ps ds) (hd : Vals dvs ds) (pas : Passes C X E)
    (args : PA X (e :: es) t) (h1 : (x == ("__debug__" : Str)) = false := by decide) (h2 : starEach (e :: es) X.env = (false, eval e X.env) :: starEach es X.env := by rfl) (h3 : (backTo pos (starEach es X.env)).any (·.1) = false := by rfl) :
    PE X (.Call (.Name x p) (e :: es) [] pos) (tCall sp dvs E t) := by
  constructor
  intro pins s σ H Q I h
  refine wpAny_Call_Name_kw (ld_glob I glob hm ?_ h1)
  refine PySem.W.callWith_K (h₀ := X.base) I.ok.mod.kin kp (thn (args.run pos pins s σ H _ I h) ?_) h2 h3
  rintro us s1 ⟨vs, H1, I1, r1, q1⟩
  refine ⟨I1.kIn, ?_⟩
  have r2 : Vals (vs ++ dvs) (us ++ ds) := r1.append hd
  have hl : (us ++ ds).length = ps.length := r2.length.symm.trans (F.len _ _ _ _ q1)
  refine wpAny_call (codeAny_mono (F.go X.A X.stack s1 H1 ⟨us, []⟩ (us ++ ds) (vs ++ dvs) Q E hu room I1.env0 (bnd s1 us I1.kIn hl) r2 q1) ?_)
  intro r s' hq
  match r, hq with
  | .error z, hq => exact pas pins σ H1 s1 z s' I1 hq
  | .ok (.ret u), hq => exact I1.after hq
  | .ok .next, hq => exact False.elim hq
  | .ok .brk, hq => exact False.elim hq
  | .ok .cont, hq => exact False.elim hq
/-- repr of data -/
structure ShowOk (d : PyData) : Prop where
  can : d.showable = true
  nod : d.hasDict = false
  deep : d.depth ≤ 60
  size : d.shown.length ≤ sizeLine
def rRepr (K : PySem.W.Frag) : List V → Hp → VK → Prop := fun xs H Q => ∃ (x : V) (d : PyData), xs = [x] ∧ Dp K H x d ∧ ShowOk d ∧ Q (.str d.shown) H
theorem call_reprD {X : Cx} (hg : X.A.guards = some []) (hu : X.A.units + 64 < cLine) : CallR X (.builtin "repr") (rRepr X.K) := by
  intro pins s σ H xs us Q I r h
  obtain ⟨x, d, rfl, dp, ok, q⟩ := h
  obtain ⟨u, rfl, ru⟩ := vals1 r
  obtain ⟨as, rd⟩ := Dp.reads I d x u dp ru
  cases dp with
  | non =>
    cases ru
    exact PySem.P.repr_of_none ⟨.str _, H, I.tok _, ⟨_, rfl⟩, q⟩
  | bl b =>
    cases ru
    exact PySem.P.repr_of_bool ⟨.str _, H, I.tok _, ⟨_, rfl⟩, q⟩
  | int i =>
    obtain ⟨t, rfl⟩ := ru
    exact PySem.P.repr_of_int (of_decide_eq_true ok.can) ⟨.str _, H, I.tok _, ⟨_, rfl⟩, q⟩
  | str z =>
    obtain ⟨t, rfl⟩ := ru
    exact PySem.P.repr_of_str ⟨.str _, H, I.tok _, ⟨_, rfl⟩, q⟩ ok.size
  | lst hs ha =>
    cases ru
    refine repr_of_reads' rd ok.can (fun e => by rw [ok.nod] at e; cases e) hg (by have := ok.deep; omega) (fun _ _ e => e) (fun h' t tk hk => ⟨.str _, H, I.kept hk, ⟨_, rfl⟩, q⟩) ok.size
  | tup hs ha =>
    cases ru
    refine repr_of_reads' rd ok.can (fun e => by rw [ok.nod] at e; cases e) hg (by have := ok.deep; omega) (fun _ _ e => e) (fun h' t tk hk => ⟨.str _, H, I.kept hk, ⟨_, rfl⟩, q⟩) ok.size
end
section
open PyProof.Rows
/-- the law's call from such a promise -/
theorem lawG {P : Program} {w : World} {K : PySem.W.Frag} {mg mb : Str → Option Value} {C : CXT} {k : Nat} {fa a : Addr} {fd : FuncData} {x : Str} {sp : Sp} {s0 : Shared} {vs : List Value} {ns : List Int}
    (kin : K.In s0.heap) (hns : s0.heap.Ns mainGlobals mg) (hbn : s0.heap.Ns builtinsNs mb) (hbb : ∀ z : Str, z ≠ "__name__" → mb z = bootBuiltins z) (nol : s0.heap.NoLimit) (gens : s0.gens = #[])
    (ha : s0.heap.get? a = some { cls := .type "list", data := .seq vs.toArray }) (nums : IntsAre vs ns) (few : ns.length ≤ sizeLine) (room : Room k callerA)
    (F : ∀ base : Heap, K.In base → base.Ns mainGlobals mg → FnG P w K mg base C k fa fd [x] sp) (bnd : ∀ (s : Shared) (u : Value), BindsTo s fd ⟨[u], []⟩ [(x, u)])
    (want : ∀ H : Hp, Only H → SqL K H a (ns.map V.int) → sp [.ref a] H (fun v _ => v = .bl true) fun _ _ _ => False) (noX : ∀ H e s', C [] H s0 (fun _ _ _ => False) e s' → False) :
    codeAny (model P w) callerA (.call (.ref fa) ⟨[.ref a], []⟩) (fun r s' => r = .ok (.ret (.bool true)) ∧ OldK s0.heap s'.heap ∧ s'.os = s0.os ∧ AllBare s'.gens) s0 := by
  have rel := vals_ints nums
  have nlen := nums.length
  have core : ∀ H : Hp, Only H → SqL K H a (ns.map V.int) → HOk P w H s0.heap → (∀ b, H b ≠ none → b = a) → (H a ≠ none → K.lookup a = none) →
      codeAny (model P w) callerA (.call (.ref fa) ⟨[.ref a], []⟩) (fun r s' => r = .ok (.ret (.bool true)) ∧ OldK s0.heap s'.heap ∧ s'.os = s0.os ∧ AllBare s'.gens) s0 := by
    intro H only sq hok isA notK
    have free : ∀ {b : Addr} {o : Obj} {es : Array DictEntry} {ep : Nat}, s0.heap.get? b = some o → o.data = .dict es ep → H b = none := by
      intro b o es ep e d
      cases q : H b with
      | none => rfl
      | some u =>
        obtain rfl : b = a := isA b (by rw [q]; simp)
        rw [ha] at e
        cases e
        cases d
    have nsK : ∀ {b : Addr} {m : Str → Option Value}, s0.heap.Ns b m → (hidT s0.heap H).Ns b m := by
      rintro b m ⟨o, es, ep, e, d, r⟩
      exact ⟨o, es, ep, hidT_get e (free e d), d, r⟩
    have kinB : K.In (hidT s0.heap H) := by
      intro b o e
      refine hidT_get (kin b o e) ?_
      cases q : H b with
      | none => rfl
      | some u =>
        obtain rfl : b = a := isA b (by rw [q]; simp)
        rw [notK (by rw [q]; simp)] at e
        cases e
    have lim : (hidT s0.heap H).NoLimit := by
      obtain ⟨mc, l1, l2⟩ := nol
      exact ⟨mc, nsK l1, l2⟩
    have env : Env0 P w K mg (hidT s0.heap H) callerA [] s0 H :=
      ⟨rfl, ⟨kinB, nsK hns, ⟨mb, nsK hbn, hbb⟩, lim⟩, fun b o e => of_hidT e, Nat.le_of_eq (hidT_size _ _), trivial, fun b z => absurd z (List.not_mem_nil), hok, .of_eq gens⟩
    refine codeAny_mono ((F _ kinB (nsK hns)).go callerA [] s0 H ⟨[.ref a], []⟩ [.ref a] [.ref a] _ _ rfl room env (bnd s0 (.ref a)) (.cons rfl .nil) (want H only sq)) ?_
    intro r s' h
    match r, h with
    | .error e, h => exact (noX H e s' h).elim
    | .ok .next, h => exact False.elim h
    | .ok .brk, h => exact False.elim h
    | .ok .cont, h => exact False.elim h
    | .ok (.ret u), h =>
      obtain ⟨v, H', os, bare, un, hok', rv, (q : v = .bl true)⟩ := h
      subst q
      obtain rfl : u = Value.bool true := rv
      refine ⟨rfl, OldK.of_keep ?_, os, bare⟩
      intro b o e
      cases q : H b with
      | none => exact un.keep b o e q (fun z => absurd z List.not_mem_nil) (fun z => absurd z List.not_mem_nil)
      | some u =>
        rcases only b with z | ⟨ob, xs, z⟩
        · rw [q] at z
          cases z
        · obtain ⟨e1, _⟩ := hok b _ z
          obtain ⟨e2, _⟩ := hok' b _ (un.frzs b ob _ z)
          rw [e] at e1
          cases e1
          exact e2
  cases hk : K.lookup a with
  | some o =>
    have e := kin a o hk
    rw [ha] at e
    cases e
    refine core (fun _ => none) (fun _ => .inl rfl) ?_ (fun b u z => nomatch z) (fun b z => absurd rfl z) (fun z => absurd rfl z)
    exact .inr ⟨_, vs.toArray, _, hk, rfl, rfl, rfl, by rw [List.size_toArray, nlen]; exact few, by simpa using rel⟩
  | none =>
    have at_ : ∀ b : Addr, (if b = a then some (HO.frz { cls := .type "list", data := .seq vs.toArray } (.lst (ns.map V.int))) else none) ≠ none → b = a := fun b z => by
      by_cases hb : b = a
      · exact hb
      · rw [if_neg hb] at z
        exact absurd rfl z
    refine core (fun b => if b = a then some (.frz { cls := .type "list", data := .seq vs.toArray } (.lst (ns.map V.int))) else none) (fun b => ?_) (.inl (.inr ⟨_, if_pos rfl⟩)) (fun b u z => ?_) at_ (fun _ => hk)
    · by_cases hb : b = a
      · exact .inr ⟨_, _, if_pos hb⟩
      · exact .inl (if_neg hb)
    · dsimp only at z
      obtain rfl := at_ b (by rw [z]; simp)
      rw [if_pos rfl] at z
      obtain rfl := Option.some.inj z
      exact ⟨ha, by rw [List.length_map]; exact few, vs, _, rel, ha⟩
theorem walkG {l : PySem.W.OpenLaw} {n k : Nat} {q : Program} {loose : List Str} {XP : (Str → Option Value) → Heap → Prop} {YP : World → Heap → Prop} {d : DefRec} {K : Params → PySem.W.Frag} {C : World → CXT} {sp : World → Sp} {x : Str}
    (hn : l.most = some n) (hn2 : n ≤ sizeLine) (hdf : d.params.defaults = []) (room : Room k callerA) (hY : ∀ (w : World) (h : Heap), YP w h → (K w.params).In h)
    (F : ∀ (w : World) (mg : Str → Option Value) (fa : Addr) (h : Heap), (K w.params).In h → h.Ns mainGlobals mg → mg d.name = some (.ref fa) →
      ∃ fd : FuncData, (∀ (s : Shared) (u : Value), BindsTo s fd ⟨[u], []⟩ [(x, u)]) ∧ ∀ base : Heap, (K w.params).In base → base.Ns mainGlobals mg → FnG l.prog w (K w.params) mg base (C w) k fa fd [x] (sp w))
    (want : ∀ (w : World) (H : Hp) (a : Addr) (ns : List Int), ns.length ≤ n → Only H → SqL (K w.params) H a (ns.map V.int) → sp w [.ref a] H (fun v _ => v = .bl true) fun _ _ _ => False)
    (noX : ∀ (w : World) (H : Hp) (s : Shared) (e : Value) (s' : Shared), C w [] H s (fun _ _ _ => False) e s' → False) : PySem.W.WalkO q loose XP YP l.row.toRowW d [] (fun f vs => PySem.call f vs) := by
  refine Att.attach_call hn hdf ?_
  intro w s₀ s1 mg mb fa o pm cd doc a vs ns G Y ho hd hcd hmg hobj nums hlen gens
  obtain ⟨fd, bnd, ok⟩ := F w mg fa _ (hY w _ Y) G.T.g hmg
  exact lawG (hY w _ Y) G.T.g G.T.b G.T.builtins G.T.nolimit gens hobj nums (Nat.le_trans hlen hn2) room ok bnd (fun H h1 h2 => want w H a ns hlen h1 h2) (fun H e s' => noX w H s1 e s')
end
/-! Worths and the nine signs. -/
def W (a : Int) : Prop := -32768 ≤ a ∧ a ≤ 32767
def br (n : Int) : Int := (n + 32768) % 65536 - 32768
theorem br_W (n : Int) : W (br n) := by
  unfold W br
  omega
theorem br_id {a : Int} (h : W a) : br a = a := by
  unfold W at h
  unfold br
  omega
def sg (i : Nat) (a b : Int) : Int := match i with
  | 0 => a + b
  | 1 => a - b
  | 2 => a * b
  | 3 => if b = 0 then 0 else a.fdiv b
  | 4 => if b = 0 then 0 else a - b * a.fdiv b
  | 5 => if a < b then 1 else 0
  | 6 => if a = b then 1 else 0
  | 7 => Builtin.bitAnd a b
  | _ => Builtin.bitXor a b
def nm (i : Nat) : Str := match i with
  | 0 => "+"
  | 1 => "-"
  | 2 => "*"
  | 3 => "/"
  | 4 => "#"
  | 5 => "<"
  | 6 => "="
  | 7 => "&"
  | _ => "^"
theorem few_W {a : Int} (h : W a) : a.natAbs.log2 < 1920 := few (by unfold W at h; show _ < 1048576; omega)
theorem iteB0 {c : Bool} {A B : Prop} (h : c = false) (hB : B) : if c = true then A else B := by
  rw [h]
  exact iteF hB
theorem iteB1 {c : Bool} {A B : Prop} (h : c = true) (hA : A) : if c = true then A else B := by
  rw [h]
  exact iteT hA
/-! Expressions: worths, registers, signs; reckoned with a pile (the uppermost first). -/
inductive Im where
  | wo (a : Int)
  | re (k : Nat)
  | si (i : Nat)
def lt (k : Nat) : Str := ⟨#[97 + k]⟩
def Im.toV : Im → V
  | .wo a => .int a
  | .re k => .str (lt k)
  | .si i => .str (nm i)
def Im.ok : Im → Prop
  | .wo a => W a
  | .re k => k < 16
  | .si i => i < 9
def Im.sgn : Im → Bool
  | .si _ => true
  | _ => false
def step (ρ : Nat → Int) (rp : List Int) : Im → Option (List Int)
  | .wo a => some (a :: rp)
  | .re k => some (ρ k :: rp)
  | .si i => match rp with
    | y :: x :: r => some (br (sg i x y) :: r)
    | _ => none
def run (ρ : Nat → Int) : List Int → List Im → Option (List Int)
  | rp, [] => some rp
  | rp, m :: l => match step ρ rp m with
    | some rp' => run ρ rp' l
    | none => none
def ht : Nat → List Im → Option Nat
  | h, [] => some h
  | h, m :: l => if m.sgn = true then (if 2 ≤ h then ht (h - 1) l else none) else ht (h + 1) l
theorem ht_snoc : ∀ (l : List Im) (h : Nat) (m : Im), ht h (l ++ [m]) = match ht h l with
    | some g => ht g [m]
    | none => none
  | [], h, m => rfl
  | x :: l, h, m => by
    show (if x.sgn = true then (if 2 ≤ h then ht (h - 1) (l ++ [m]) else none) else ht (h + 1) (l ++ [m])) = match (if x.sgn = true then (if 2 ≤ h then ht (h - 1) l else none) else ht (h + 1) l) with
      | some g => ht g [m]
      | none => none
    rw [ht_snoc l (h - 1) m, ht_snoc l (h + 1) m]
    split
    · split <;> rfl
    · rfl
/-- what stands in the middle of one with another thing that is no sign there -/
theorem ht_other : ∀ (l r : List Im) (h : Nat) (m m' : Im), m.sgn = false → m'.sgn = false → ht h (l ++ m :: r) = ht h (l ++ m' :: r)
  | [], r, h, m, m', e, e' => by
    show (if m.sgn = true then _ else ht (h + 1) r) = (if m'.sgn = true then _ else ht (h + 1) r)
    rw [e, e']
  | x :: l, r, h, m, m', e, e' => by
    show (if x.sgn = true then (if 2 ≤ h then ht (h - 1) (l ++ m :: r) else none) else ht (h + 1) (l ++ m :: r)) = (if x.sgn = true then (if 2 ≤ h then ht (h - 1) (l ++ m' :: r) else none) else ht (h + 1) (l ++ m' :: r))
    rw [ht_other l r (h - 1) m m' e e', ht_other l r (h + 1) m m' e e']
theorem ht_run (ρ : Nat → Int) : ∀ (l : List Im) (h g : Nat) (rp : List Int), ht h l = some g → rp.length = h → ∃ rp', run ρ rp l = some rp' ∧ rp'.length = g
  | [], h, g, rp, e, el => ⟨rp, rfl, by rw [el]; exact Option.some.inj e⟩
  | .wo a :: l, h, g, rp, e, el => ht_run ρ l (h + 1) g (a :: rp) e (by rw [List.length_cons, el])
  | .re k :: l, h, g, rp, e, el => ht_run ρ l (h + 1) g (ρ k :: rp) e (by rw [List.length_cons, el])
  | .si i :: l, h, g, rp, e, el => by
    have e2 : (if 2 ≤ h then ht (h - 1) l else none) = some g := e
    by_cases hh : 2 ≤ h
    · rw [if_pos hh] at e2
      match rp, el with
      | y :: x :: r, el =>
        obtain ⟨rp', h1, h2⟩ := ht_run ρ l (h - 1) g (br (sg i x y) :: r) e2 (by
          rw [List.length_cons, List.length_cons] at el
          rw [List.length_cons]
          omega)
        exact ⟨rp', h1, h2⟩
      | [x], el =>
        rw [List.length_singleton] at el
        omega
      | [], el =>
        rw [List.length_nil] at el
        omega
    · rw [if_neg hh] at e2
      cases e2
/-- one that is right: so many on the pile at the end as one -/
structure Expr1 (l : List Im) : Prop where
  ok : ∀ m ∈ l, m.ok
  ht : ht 0 l = some 1
theorem Expr1.val {l : List Im} (h : Expr1 l) (ρ : Nat → Int) : ∃ y, run ρ [] l = some [y] := by
  obtain ⟨rp, h1, h2⟩ := ht_run ρ l 0 1 [] h.ht rfl
  match rp, h2 with
  | [y], _ => exact ⟨y, h1⟩
/-! Registers' worths, a dict. -/
def Gd (kvs : List (Key × V)) : Prop := ∀ p ∈ kvs, valV kvs p.1 = some p.2 ∧ ∃ a, p.2 = .int a ∧ W a
def rho (kvs : List (Key × V)) (k : Nat) : Int := match valV kvs (.inr (lt k)) with
  | some (.int a) => a
  | _ => 0
theorem valV_mem {kvs : List (Key × V)} {k : Key} {v : V} (h : valV kvs k = some v) : ∃ p ∈ kvs, p.2 = v := by
  unfold valV at h
  cases e : kvs.find? fun kv => decide (kv.1 = k) with
  | none =>
    rw [e] at h
    cases h
  | some p =>
    rw [e] at h
    exact ⟨p, List.mem_of_find?_eq_some e, Option.some.inj h⟩
theorem Gd.get {kvs : List (Key × V)} (h : Gd kvs) (k : Nat) : (valV kvs (.inr (lt k))).getD (.int 0) = .int (rho kvs k) ∧ W (rho kvs k) := by
  unfold rho
  cases e : valV kvs (.inr (lt k)) with
  | none => exact ⟨rfl, by unfold W; decide⟩
  | some v =>
    obtain ⟨p, hp, rfl⟩ := valV_mem e
    obtain ⟨_, a, ha, hW⟩ := h p hp
    rw [ha]
    exact ⟨rfl, hW⟩
theorem Gd.nil : Gd [] := fun p hp => by cases hp
theorem Gd.put {kvs : List (Key × V)} (h : Gd kvs) (k : Key) {a : Int} (ha : W a) : Gd (putK kvs k (.int a)) := by
  have key : ∀ p ∈ putK kvs k (.int a), (p.1 = k ∧ p.2 = .int a) ∨ (p.1 ≠ k ∧ p ∈ kvs) := by
    intro p hp
    unfold putK at hp
    by_cases e : (kvs.any fun kv => decide (kv.1 = k)) = true
    · rw [if_pos e] at hp
      obtain ⟨q, hq, eq⟩ := List.mem_map.mp hp
      by_cases g : q.1 = k
      · rw [if_pos g] at eq
        subst eq
        exact .inl ⟨g, rfl⟩
      · rw [if_neg g] at eq
        subst eq
        exact .inr ⟨g, hq⟩
    · rw [if_neg e] at hp
      rcases List.mem_append.mp hp with hp | hp
      · refine .inr ⟨fun g => e ?_, hp⟩
        rw [List.any_eq_true]
        exact ⟨p, hp, decide_eq_true g⟩
      · rw [List.mem_singleton] at hp
        subst hp
        exact .inl ⟨rfl, rfl⟩
  intro p hp
  rw [valV_put]
  rcases key p hp with ⟨h1, h2⟩ | ⟨h1, h2⟩
  · rw [if_pos h1, h2]
    exact ⟨rfl, a, rfl, ha⟩
  · rw [if_neg h1]
    exact h p h2
theorem Gd.ne {kvs : List (Key × V)} (h : Gd kvs) : ∀ p ∈ kvs, valV kvs p.1 = some p.2 ∧ flatB p.2 = true := fun p hp => by
  obtain ⟨h1, a, h2, _⟩ := h p hp
  refine ⟨h1, ?_⟩
  rw [h2]
  rfl
/-! Texts of one sign. -/
def letters : Str := "abcdefghijklmnop"
theorem lt_at : ∀ j, j < 16 → atI (letters.cps.toList) ((j : Nat) : Int) = some (97 + j) := by decide +kernel
theorem lt_no : ∀ k, k < 16 → lt k ∉ (["+", "-", "*", "/", "#", "<", "=", "&", "^"] : List Str) := by decide +kernel
def codes : List Nat := [43, 45, 42, 47, 35, 60, 61, 38, 94]
theorem nm_code : ∀ i, i < 9 → nm i = ⟨#[codes.getD i 0]⟩ := by decide +kernel
theorem sg_at : ∀ j, j < 9 → atI (("+-*/#<=&^" : Str).cps.toList) ((j : Nat) : Int) = some (codes.getD j 0) := by decide +kernel
theorem lt_in : ∀ k, k < 16 → decide (97 + k ∈ letters.cps.toList) = true := by decide +kernel
theorem sg_in : ∀ i, i < 9 → decide (codes.getD i 0 ∈ letters.cps.toList) = false := by decide +kernel
/-! Lists at their ends. -/
theorem rev_last (y : Int) (r : List Int) : ((y :: r).reverse.map V.int) = r.reverse.map V.int ++ [.int y] := by
  rw [List.reverse_cons, List.map_append]
  rfl
theorem last_get (xs : List V) (y : V) : (xs ++ [y])[(xs ++ [y]).length - 1]? = some y := by
  rw [List.length_append, List.length_singleton, Nat.add_sub_cancel, List.getElem?_append_right (Nat.le_refl _), Nat.sub_self]
  rfl
theorem atI_last2 (xs : List V) (x y : V) : atI (xs ++ [x] ++ [y]) (-2) = some x := by
  have hl : (xs ++ [x] ++ [y]).length = xs.length + 2 := by simp
  have e : ixN (xs ++ [x] ++ [y]).length (-2) = some xs.length := by
    unfold ixN
    rw [hl, if_neg (by decide), if_pos (by omega)]
    congr 1
    omega
  unfold atI
  rw [e]
  show (xs ++ [x] ++ [y])[xs.length]? = some x
  rw [List.append_assoc, List.getElem?_append_right (Nat.le_refl _), Nat.sub_self]
  rfl
theorem cut_last2 (xs : List V) (x y : V) : cutV (xs ++ [x] ++ [y]) none (some (-2)) = xs := by
  unfold cutV
  have hl : (xs ++ [x] ++ [y]).length = xs.length + 2 := by simp
  have e : HT.sIx (xs ++ [x] ++ [y]).length (xs ++ [x] ++ [y]).length (some (-2)) = xs.length := by
    have e0 : ∀ n d : Nat, HT.sIx n d (some (-2)) = ((-2 : Int) + (n : Int)).toNat := fun n d => by
      show (if (-2 : Int) < 0 then ((-2 : Int) + (n : Int)).toNat else min (-2 : Int).toNat n) = _
      rw [if_pos (by decide)]
    rw [e0, hl]
    omega
  rw [HT.sIx_none, e, List.drop_zero, Nat.sub_zero, List.append_assoc, List.take_left]
/-! Texts by their codes: whole numbers, worths, items. -/
abbrev cp (x : Str) : List Nat := x.cps.toList
def digL (l : List Nat) : Bool := !l.isEmpty && l.all (fun c => decide (48 ≤ c) && decide (c ≤ 57)) && decide (l.length ≤ 9)
def wholeL (l : List Nat) : Option Int := if digL l = true then (if l.head? = some 48 ∧ l ≠ [48] then none else some (NumText.digitsVal l : Nat)) else none
def keepW (o : Option Int) : Option Int := match o with
  | some a => if -32768 ≤ a ∧ a ≤ 32767 then some a else none
  | none => none
def worthL (l : List Nat) : Option Int := if l.head? = some 45 then (if l = [45, 48] then none else keepW ((wholeL (l.drop 1)).map (fun a => -a))) else keepW (wholeL l)
def ov : Option Int → V
  | none => .non
  | some a => .int a
theorem cp_len (x : Str) : x.length = (cp x).length := TL.len_tl x
theorem cp_ext {x y : Str} (h : cp x = cp y) : x = y := TL.ext_tl h
theorem digit_128 : ∀ c, c < 128 → Unicode.isDigit c = (decide (48 ≤ c) && decide (c ≤ 57)) := by decide +kernel
theorem all_codes (x : Str) (p : Nat → Bool) : x.cps.all p = (cp x).all p := by
  rw [Array.all_toList]
theorem asc_digits {l : List Nat} (h : l.all (fun c => decide (c < 128)) = true) : l.all Unicode.isDigit = l.all (fun c => decide (48 ≤ c) && decide (c ≤ 57)) := by
  induction l with
  | nil => rfl
  | cons c r ih =>
    rw [List.all_cons, Bool.and_eq_true] at h
    rw [List.all_cons, List.all_cons, ih h.2, digit_128 c (of_decide_eq_true h.1)]
theorem digits_asc {l : List Nat} (h : l.all (fun c => decide (48 ≤ c) && decide (c ≤ 57)) = true) : l.all (fun c => decide (c < 128)) = true := by
  rw [List.all_eq_true] at h ⊢
  intro c hc
  have := h c hc
  rw [Bool.and_eq_true] at this
  have h2 := of_decide_eq_true this.2
  exact decide_eq_true (by omega)
theorem isascii_cp (x : Str) : Txt.isascii x = (cp x).all (fun c => decide (c < 128)) := all_codes x _
theorem isdigit_cp (x : Str) : Txt.isdigit x = (decide (0 < (cp x).length) && (cp x).all Unicode.isDigit) := by
  unfold Txt.isdigit
  rw [all_codes, cp_len]
theorem dig_of {x : Str} (h1 : Txt.isascii x = true) (h2 : Txt.isdigit x = true) (h3 : x.length ≤ 9) : digL (cp x) = true := by
  rw [isascii_cp] at h1
  rw [isdigit_cp, asc_digits h1, Bool.and_eq_true] at h2
  unfold digL
  rw [h2.2, decide_eq_true (show (cp x).length ≤ 9 by rw [← cp_len]; exact h3)]
  have := of_decide_eq_true h2.1
  cases e : cp x with
  | nil =>
    rw [e] at this
    exact absurd this (by decide)
  | cons c r => rfl
theorem dig_to {x : Str} (h : digL (cp x) = true) : Txt.isascii x = true ∧ Txt.isdigit x = true ∧ x.length ≤ 9 := by
  unfold digL at h
  rw [Bool.and_eq_true, Bool.and_eq_true] at h
  obtain ⟨⟨h1, h2⟩, h3⟩ := h
  have ha := digits_asc h2
  refine ⟨by rw [isascii_cp]; exact ha, ?_, by rw [cp_len]; exact of_decide_eq_true h3⟩
  rw [isdigit_cp, asc_digits ha, h2, Bool.and_true]
  cases e : cp x with
  | nil =>
    rw [e] at h1
    cases h1
  | cons c r => rfl
theorem dig_int {x : Str} (h : digL (cp x) = true) : intText? x = some ((NumText.digitsVal (cp x) : Nat) : Int) := by
  have h0 := dig_to h
  unfold digL at h
  rw [Bool.and_eq_true, Bool.and_eq_true] at h
  obtain ⟨⟨h1, h2⟩, h3⟩ := h
  refine PySem.intText_digits (fun c hc => ?_) (fun z => ?_) (by omega)
  · have := List.all_eq_true.mp h2 c hc
    rw [Bool.and_eq_true] at this
    exact ⟨of_decide_eq_true this.1, of_decide_eq_true this.2⟩
  · rw [show cp x = [] from z] at h1
    cases h1
theorem starts_dash (x : Str) : Txt.startswith x "-" = decide ((cp x).head? = some 45) := by
  unfold Txt.startswith
  rw [PySem.StrLaws.subAt_eq]
  have e1 : ("-" : Str).length = 1 := by decide +kernel
  have e2 : ("-" : Str).cps.toList = [45] := by decide +kernel
  rw [e1, e2, cp_len]
  show (decide (0 + 1 ≤ (cp x).length) && (((cp x).drop 0).take 1 == [45])) = _
  cases cp x with
  | nil => rfl
  | cons c r =>
    show (decide (0 + 1 ≤ (c :: r).length) && ([c] == [45])) = decide (some c = some 45)
    rw [decide_eq_true (show 0 + 1 ≤ (c :: r).length by rw [List.length_cons]; omega), Bool.true_and]
    by_cases h : c = 45
    · subst h
      rfl
    · rw [decide_eq_false (fun z => h (Option.some.inj z))]
      simp [h]
theorem str_eq (x : Str) (s : Str) : decide (V.str x = V.str s) = decide (cp x = cp s) := by
  by_cases h : cp x = cp s
  · rw [decide_eq_true h, decide_eq_true (by rw [cp_ext h])]
  · rw [decide_eq_false h, decide_eq_false (fun z => h (by rw [V.str.inj z]))]
theorem cp_zero : cp ("0" : Str) = [48] := by decide +kernel
theorem cp_mzero : cp ("-0" : Str) = [45, 48] := by decide +kernel
theorem cp_blank : cp (" " : Str) = [32] := by decide +kernel
theorem cp_cut1 (x : Str) : cp (cutS x (some 1) none) = (cp x).drop 1 := by
  unfold cutS
  show ((x.cps.toList.drop (HT.sIx x.length 0 (some 1))).take (HT.sIx x.length x.length none - HT.sIx x.length 0 (some 1))) = _
  rw [show HT.sIx x.length 0 (some 1) = min 1 x.length from HT.sIx_nat x.length 0 1, HT.sIx_none, cp_len]
  show ((cp x).drop (min 1 (cp x).length)).take ((cp x).length - min 1 (cp x).length) = _
  cases cp x with
  | nil => rfl
  | cons c r =>
    rw [show min 1 (c :: r).length = 1 by rw [List.length_cons]; omega]
    show r.take (r.length + 1 - 1) = r
    rw [Nat.add_sub_cancel, List.take_length]
/-! Flat things: numbers and texts. -/
def sgKeys : List Str := ["+", "-", "*", "/", "#", "<", "=", "&", "^"]
def sgV : V → Bool
  | .str z => decide (z ∈ sgKeys)
  | _ => false
def ltV : V → Bool
  | .str z => decide (z.length = 1) && decide (∀ c ∈ cp z, 97 ≤ c ∧ c ≤ 112)
  | _ => false
def woV : V → Bool
  | .int a => decide (-32768 ≤ a ∧ a ≤ 32767)
  | _ => false
def htV : Nat → List V → Option Nat
  | h, [] => some h
  | h, m :: l => if sgV m = true then (if 2 ≤ h then htV (h - 1) l else none) else htV (h + 1) l
def exV (xs : List V) : Bool := decide (xs.length ≤ 15) && xs.all (fun x => woV x || ltV x || sgV x) && decide (htV 0 xs = some 1)
def Flat : V → Prop
  | .int a => a.natAbs.log2 < 1920
  | .str z => z.length ≤ 100000
  | _ => False
def shV : V → Str
  | .int a => Str.ofString (toString a)
  | .str z => z
  | _ => Str.empty
def itV (z : Str) : V := match worthL (cp z) with
  | some a => .int a
  | none => .str z
/-! Texts of worths. -/
theorem cp_nat (n : Nat) : cp (Str.ofString (toString ((n : Nat) : Int))) = TL.numL n := TL.tl_num n
theorem cp_neg (n : Nat) : cp (Str.ofString (toString (Int.negSucc n))) = 45 :: TL.numL (n + 1) := by
  have e : toString (Int.negSucc n) = "-" ++ toString (((n + 1 : Nat) : Nat) : Int) := rfl
  rw [e]
  show TL.tl _ = _
  rw [TL.tl_ofString, String.toList_append, List.map_append, ← TL.tl_ofString (toString (((n + 1 : Nat) : Nat) : Int)), TL.tl_num]
  rfl
theorem numL_lead : ∀ n : Nat, (TL.numL n).head? = some 48 → n = 0
  | n, h => by
    by_cases hn : n < 10
    · rw [TL.numL_lt hn] at h
      have := Option.some.inj h
      omega
    · rw [TL.numL_step (by omega)] at h
      have hne := TL.numL_ne (n / 10)
      have h2 : (TL.numL (n / 10)).head? = some 48 := by
        cases q : TL.numL (n / 10) with
        | nil => exact absurd q hne
        | cons c r =>
          rw [q] at h
          exact h
      have := numL_lead (n / 10) h2
      omega
  termination_by n => n
theorem wholeL_num {n : Nat} (h : n < 10 ^ 9) : wholeL (TL.numL n) = some (n : Int) := by
  have hl := TL.numL_len (show 0 < 9 by decide) h
  have hd := TL.numL_digits n
  have hne := TL.numL_ne n
  have e : digL (TL.numL n) = true := by
    unfold digL
    rw [Bool.and_eq_true, Bool.and_eq_true]
    refine ⟨⟨?_, ?_⟩, decide_eq_true hl⟩
    · cases q : TL.numL n with
      | nil => exact absurd q hne
      | cons c r => rfl
    · rw [List.all_eq_true]
      intro c hc
      rw [Bool.and_eq_true]
      exact ⟨decide_eq_true (hd c hc).1, decide_eq_true (hd c hc).2⟩
  unfold wholeL
  rw [if_pos e, if_neg, TL.numL_val]
  rintro ⟨h1, h2⟩
  have hz := numL_lead n h1
  subst hz
  exact h2 (TL.numL_lt (by decide))
theorem numL_head (n : Nat) : (TL.numL n).head? ≠ some 45 := by
  intro h
  have hm : 45 ∈ TL.numL n := List.mem_of_head? h
  exact TL.numL_free (.inl (by decide)) hm
theorem itV_int {a : Int} (h : W a) : itV (Str.ofString (toString a)) = .int a := by
  unfold itV
  have e : worthL (cp (Str.ofString (toString a))) = some a := by
    unfold W at h
    cases a with
    | ofNat n =>
      have h : -32768 ≤ ((n : Nat) : Int) ∧ ((n : Nat) : Int) ≤ 32767 := h
      rw [show (Int.ofNat n) = ((n : Nat) : Int) from rfl, cp_nat]
      unfold worthL
      rw [if_neg (numL_head n), wholeL_num (by omega)]
      show (if -32768 ≤ (n : Int) ∧ (n : Int) ≤ 32767 then some (n : Int) else none) = _
      rw [if_pos h]
    | negSucc n =>
      rw [cp_neg]
      unfold worthL
      rw [if_pos (show (45 :: TL.numL (n + 1)).head? = some 45 from rfl), if_neg, List.drop_succ_cons, List.drop_zero, wholeL_num (by omega)]
      · show (if -32768 ≤ -(((n + 1 : Nat) : Nat) : Int) ∧ -(((n + 1 : Nat) : Nat) : Int) ≤ 32767 then some (-(((n + 1 : Nat) : Nat) : Int)) else none) = _
        rw [if_pos (by omega)]
        rfl
      · intro z
        have z2 := (List.cons.inj z).2
        have := TL.numL_inj (m := n + 1) (n := 0) (by rw [z2]; rfl)
        omega
  rw [e]
theorem itV_lt : ∀ k, k < 16 → itV (lt k) = .str (lt k) := by decide +kernel
theorem itV_sg : ∀ i, i < 9 → itV (nm i) = .str (nm i) := by decide +kernel
theorem sg_nm : ∀ i, i < 9 → sgV (.str (nm i)) = true := by decide +kernel
theorem sg_lt : ∀ k, k < 16 → sgV (.str (lt k)) = false := by decide +kernel
theorem lt_lt : ∀ k, k < 16 → ltV (.str (lt k)) = true := by decide +kernel
theorem lt_nm : ∀ i, i < 9 → ltV (.str (nm i)) = false := by decide +kernel
theorem nm_mem {z : Str} (h : z ∈ sgKeys) : ∃ i, i < 9 ∧ z = nm i := by
  have h2 : ∀ y ∈ sgKeys, ∃ i, i < 9 ∧ y = nm i := by
    intro y hy
    simp only [sgKeys, List.mem_cons, List.not_mem_nil, or_false] at hy
    rcases hy with e | e | e | e | e | e | e | e | e
    · exact ⟨0, by decide, e⟩
    · exact ⟨1, by decide, e⟩
    · exact ⟨2, by decide, e⟩
    · exact ⟨3, by decide, e⟩
    · exact ⟨4, by decide, e⟩
    · exact ⟨5, by decide, e⟩
    · exact ⟨6, by decide, e⟩
    · exact ⟨7, by decide, e⟩
    · exact ⟨8, by decide, e⟩
  exact h2 z h
theorem cutTo (xs : List V) (k : Nat) : cutV xs none (some (k : Int)) = xs.take k := by
  unfold cutV
  rw [HT.sIx_none, HT.sIx_nat]
  show (xs.drop 0).take (min k xs.length - 0) = _
  rw [List.drop_zero, Nat.sub_zero]
  by_cases h : k ≤ xs.length
  · rw [Nat.min_eq_left h]
  · rw [Nat.min_eq_right (by omega), List.take_of_length_le (Nat.le_refl _), List.take_of_length_le (by omega)]
theorem cutFrom (xs : List V) {k : Nat} (h : k ≤ xs.length) : cutV xs (some (k : Int)) none = xs.drop k := by
  unfold cutV
  rw [HT.sIx_none, HT.sIx_nat, Nat.min_eq_left h]
  exact List.take_of_length_le (by rw [List.length_drop]; omega)
/-! t[::-1] of a tuple; t == () of a tuple, whatever lies in it. -/
section
open PySem.Spec PyProof.Rows HT
theorem adjBack (n : Nat) : Builtin.Slice.sliceAdjust none none (-1) (n : Int) = ((n : Int) - 1, -1) := rfl
theorem placesBack (n : Nat) : Builtin.Slice.slicePlaces ((n : Int) - 1) (-1) (-1) = n := by
  unfold Builtin.Slice.slicePlaces
  rw [if_neg (by decide)]
  by_cases h : n = 0
  · subst h
    rfl
  · rw [if_pos (by omega)]
    have e : ((n : Int) - 1 - -1 - 1) / (- -1) = (n : Int) - 1 := by
      rw [show (- -1 : Int) = 1 by decide, Int.ediv_one]
      omega
    rw [e]
    omega
theorem pickBack (xs : List Value) : ((List.range xs.toArray.size).filterMap fun (m : Nat) => xs.toArray[((xs.toArray.size : Int) - 1 + (m : Int) * (-1)).toNat]?).toArray = xs.reverse.toArray := by
  congr 1
  apply List.ext_getElem?
  intro i
  have e : (List.range xs.toArray.size).filterMap (fun (m : Nat) => xs.toArray[((xs.toArray.size : Int) - 1 + (m : Int) * (-1)).toNat]?) = (List.range xs.length).map (fun m => xs.getD (xs.length - 1 - m) .none) := by
    rw [List.size_toArray]
    have key : ∀ l : List Nat, (∀ m ∈ l, m < xs.length) → l.filterMap (fun (m : Nat) => xs.toArray[((xs.length : Int) - 1 + (m : Int) * (-1)).toNat]?) = l.map (fun m => xs.getD (xs.length - 1 - m) .none) := by
      intro l
      induction l with
      | nil => exact fun _ => rfl
      | cons m r ih =>
        intro h
        have hm := h m List.mem_cons_self
        have e1 : ((xs.length : Int) - 1 + (m : Int) * (-1)).toNat = xs.length - 1 - m := by omega
        have hlt : xs.length - 1 - m < xs.length := by omega
        rw [List.map_cons, ← ih (fun k hk => h k (List.mem_cons_of_mem _ hk)), List.filterMap_cons]
        rw [e1, List.getElem?_toArray, List.getElem?_eq_getElem hlt, List.getD_eq_getElem?_getD, List.getElem?_eq_getElem hlt]
        rfl
    exact key _ (fun m hm => List.mem_range.mp hm)
  rw [e, List.getElem?_map]
  by_cases hi : i < xs.length
  · rw [List.getElem?_range hi, List.getElem?_reverse hi, List.getElem?_eq_getElem (show xs.length - 1 - i < xs.length by omega)]
    rw [Option.map_some, List.getD_eq_getElem?_getD, List.getElem?_eq_getElem (show xs.length - 1 - i < xs.length by omega)]
    rfl
  · rw [List.getElem?_eq_none (by rw [List.length_range]; omega), List.getElem?_eq_none (by rw [List.length_reverse]; omega)]
    rfl
variable {prog : Program} {w : World} {A : Around} {E : Value → Shared → Prop} {s : Shared}
theorem sliceBack {sl : Addr} {vl vu vk : Value} {n : Nat} {Q : Int × Int × Nat → Shared → Prop} (hs : s.heap.IsSliceOf sl vl vu vk) (pl : IsPart vl none) (pu : IsPart vu none) (pk : IsPart vk (some (-1)))
    (h : Q ((n : Int) - 1, -1, n) s) : wpAny (model prog w) A (Builtin.Slice.sliceApplied (.ref sl) (pure (n : Int))) Q E s := by
  obtain ⟨oo, hoo, _, hdd⟩ := id hs
  unfold Builtin.Slice.sliceApplied Builtin.Slice.sliceFields
  refine wpAny_bind (wpAny_bind (wpAny_field hoo hdd (x := vl) rfl (wpAny_bind (wpAny_field hoo hdd (x := vu) rfl (wpAny_bind (wpAny_field hoo hdd (x := vk) rfl (wpAny_pure ?_)))))))
  refine wpAny_bind (slicePart_ pk ?_)
  show wpAny _ _ (if ((-1 : Int) == 0) = true then _ else _) _ _ s
  rw [if_neg (show ¬ (((-1 : Int) == 0) = true) by decide)]
  refine wpAny_bind (slicePart_ pl (wpAny_bind (slicePart_ pu (wpAny_bind (wpAny_pure ?_)))))
  show wpAny _ _ (match Builtin.Slice.sliceAdjust none none (-1) (n : Int) with | (a, b) => pure (a, (-1 : Int), Builtin.Slice.slicePlaces a b (-1))) _ _ s
  rw [adjBack n]
  show wpAny _ _ (pure ((n : Int) - 1, (-1 : Int), Builtin.Slice.slicePlaces ((n : Int) - 1) (-1) (-1))) _ _ s
  rw [placesBack]
  exact wpAny_pure h
theorem itemBack {t sl : Addr} {its : List Value} {vl vu vk : Value} {Q : Value → Shared → Prop} (ht : IsTup s.heap t its.toArray) (hs : s.heap.IsSliceOf sl vl vu vk) (pl : IsPart vl none) (pu : IsPart vu none) (pk : IsPart vk (some (-1)))
    (h : Q (.ref s.heap.objs.size) { s with heap := s.heap.push { cls := .type "tuple", data := .seq its.reverse.toArray } }) (hsz : its.length ≤ sizeLine) : wpAny (model prog w) A (getItem (.ref t) (.ref sl)) Q E s := by
  have fits : sizeOk (.seq its.reverse.toArray) := by
    show its.reverse.toArray.size ≤ sizeLine
    rw [List.size_toArray, List.length_reverse]
    exact hsz
  obtain ⟨oo, hoo, hcc, _⟩ := id hs
  have isSl : s.TypeIs (.ref sl) "slice" := ⟨oo, hoo, hcc⟩
  unfold getItem
  try with_reducible refine wpAny_holding ?_
  first | refine wpAny_bind (wpAny_pure ?_) | skip
  refine wpAny_bind (wpAny_sequenceKey (ht.typeIs) (by decide) ?_)
  refine wpAny_bind (wpAny_callSpecial?_slot (name := Str.ofString "__getitem__") (ht.typeIs) PyProof.Rows.slot_tuple_getitem (wpAny_call_entry PyProof.Rows.slot_tuple_getitem (ht.typeIs) entry_tuple_getitem ?_ (args_tuple_getitem _ _)))
  show wpAny _ _ (Builtin.Tuple.tupleItemsOf (.ref t) >>= _) _ _ s
  refine wpAny_bind (tupleItemsOf_ ht ?_)
  refine wpAny_bind (wpAny_typeOf isSl ?_)
  rw [if_pos (by decide)]
  refine wpAny_bind (sliceBack hs pl pu pk ?_)
  show wpAny _ _ (if (((its.toArray.size : Int) - 1) == 0 && (-1 : Int) == 1 && its.toArray.size == its.toArray.size) = true then _ else _) _ _ s
  rw [if_neg (by simp), pickBack]
  first
    | exact wpAny_bind (m := Builtin.Tuple.tupleExact _) (wpAny_newObj_type (wpAny_pure ⟨_, rfl, wpAny_pure h⟩) fits)
    | exact wpAny_bind (m := Builtin.Tuple.tupleExact _) (wpAny_newObj_type (wpAny_bind (wpAny_pure (wpAny_pure ⟨_, rfl, wpAny_pure h⟩))) fits)
    | exact wpAny_bind (wpAny_bind (m := Builtin.Tuple.tupleExact _) (wpAny_newObj_type (wpAny_pure (wpAny_pure ⟨_, rfl, wpAny_pure h⟩)) fits))
    | exact wpAny_bind (wpAny_bind (m := Builtin.Tuple.tupleExact _) (wpAny_newObj_type (wpAny_pure ⟨_, rfl, wpAny_pure h⟩) fits))
end
section
open PySem.Spec PyProof.Rows
variable {X : Cx}
def tRevT (K : PySem.W.Frag) (te : TE) : TE := fun σ H Q => te σ H fun x H1 => ∃ a xs, x = .ref a ∧ SqT K H1 a xs ∧ ∀ p, H1 p = none → Q (.ref p) (upd H1 p (.tup xs.reverse))
theorem pe_revT {e : Expr} {te : TE} {k : Nat} {p1 p2 p3 pos : Pos} (he : PE X e te) : PE X (.Subscript e (.Slice none none (some (.UnaryOp .USub (.Constant (.int 1) k p1) p2)) p3) pos) (tRevT X.K te) := by
  constructor
  intro pins s σ H Q I h
  refine Subscript_ (thn (he.run pins s σ H _ I h) fun v s1 ⟨x, H1, I1, r1, a, xs, ex, hx, q⟩ => ?_)
  subst ex
  cases r1
  have hst : PO X (some (.UnaryOp .USub (.Constant (.int 1) k p1) p2)) (tPart (tUn (rU fun i => .int (-i)) (tC (.int 1)))) := po_some (pe_un un_neg pe_int)
  refine wpAny_Slice (thn (po_none.run pins s1 σ H1 (fun o H2 => o = none ∧ H2 = H1) I1 ⟨rfl, rfl⟩) ?_)
  rintro vl s2 ⟨_, H2, I2, pl, rfl, rfl⟩
  refine thn (po_none.run pins s2 σ H2 (fun o H3 => o = none ∧ H3 = H2) I2 ⟨rfl, rfl⟩) ?_
  rintro vu s3 ⟨_, H3, I3, pu, rfl, rfl⟩
  refine thn (hst.run pins s3 σ H3 (fun o H4 => o = some (-1) ∧ H4 = H3) I3 ⟨1, rfl, -1, rfl, rfl, rfl⟩) ?_
  rintro vk s4 ⟨_, H4, I4, pk, rfl, rfl⟩
  have I5 : Inv X pins σ H4 { s4 with heap := s4.heap.push { cls := .type "slice", data := .fields #[vl, vu, vk] } } := I4.kept (t' := s4.toks) fun b ob z => Heap.get?_push_of_some _ z
  obtain ⟨its, r, ht, hz⟩ := I5.tuple hx
  have hlen := r.length
  show wpAny (model X.prog X.w) X.A (subscriptTail e (.Slice none none (some (.UnaryOp .USub (.Constant (.int 1) k p1) p2)) p3) (.ref a) (.ref s4.heap.objs.size)) (EP X pins σ Q) X.xe { s4 with heap := s4.heap.push { cls := .type "slice", data := .fields #[vl, vu, vk] } }
  refine tail_any (ops := [.ref a, .ref s4.heap.objs.size]) ht.typeIs PyProof.Rows.slot_tuple_getitem.lookup ?_ (by with_unfolding_all rfl)
  refine itemBack ht (Heap.IsSliceOf.new _ vl vu vk) pl pu pk ?_ (by omega)
  refine ⟨.ref _, _, I5.laid (t' := s4.toks) (o := .tup xs.reverse) (fun b ob z => Heap.get?_push_of_some _ z) (Nat.le_refl _) ?_, rfl, q _ (I5.hok.fresh (Nat.le_refl _))⟩
  exact ⟨by rw [List.length_reverse]; exact hz, _, r.reverse, IsTup.new _ _⟩
/-- a tuple of whatever == () -/
def rEqE (K : PySem.W.Frag) : R2 := fun x y H Q => ∃ a b xs, x = .ref a ∧ y = .ref b ∧ SqT K H a xs ∧ SqT K H b [] ∧ Q (.bl (decide (xs = []))) H
theorem op_eqE (hu : X.A.units + 64 < cLine) : OpR X (compareOp .Eq) (rEqE X.K) := by
  intro pins s σ H x y v u Q I rx ry h
  obtain ⟨a, b, xs, rfl, rfl, ha, hb, q⟩ := h
  cases rx
  cases ry
  obtain ⟨its, r1, p1, _⟩ := I.tuple ha
  obtain ⟨its2, r2, p2, _⟩ := I.tuple hb
  cases r2
  refine SeqAt.eq_tupleAt (e := fun _ => true) p1 p2 (by omega) (fun j _ h2 => absurd h2 (by simp)) ⟨.bl (decide (xs = [])), H, I, ?_, q⟩
  cases r1 <;> simp [L2.RelV]
end
/-! The promises. -/
def sp_lfeed (K : PySem.W.Frag) : Sp := fun vs H Q _ => ∃ (a : Addr) (ns : List Int), vs = [.ref a] ∧ SqL K H a (ns.map V.int) ∧ ns.length ≤ 63 ∧
  ∀ H' p c, Pen H' p c ns 0 → Q (.ref p) H'
def sp_ldraw : Sp := fun vs H Q _ => ∃ (p c : Addr) (ns : List Int) (n m : Int), vs = [.ref p, .int m] ∧ Pen H p c ns n ∧ 0 < m ∧ m < 1073741824 ∧ n < 1000000 ∧
  ∀ (H' : Hp) (d n' : Int), Kp p H H' → Pen H' p c ns n' → 0 ≤ d → d < m → n ≤ n' → n' ≤ n + 1 → Q (.int d) H'
def sp_lworth : Sp := fun vs H Q _ => ∃ (p c : Addr) (ns : List Int) (n : Int), vs = [.ref p] ∧ Pen H p c ns n ∧ n < 900000 ∧
  ∀ (H' : Hp) (k n' : Int), Kp p H H' → Pen H' p c ns n' → n ≤ n' → n' ≤ n + 2 → W k → Q (.int k) H'
def sp_lregister : Sp := fun vs H Q _ => ∃ (p c : Addr) (ns : List Int) (n : Int), vs = [.ref p] ∧ Pen H p c ns n ∧ n < 900000 ∧
  ∀ (H' : Hp) (k : Nat) (n' : Int), Kp p H H' → Pen H' p c ns n' → n ≤ n' → n' ≤ n + 2 → k < 16 → Q (.str (lt k)) H'
def sp_litem : Sp := fun vs H Q _ => ∃ (p c : Addr) (ns : List Int) (n : Int), vs = [.ref p] ∧ Pen H p c ns n ∧ n < 890000 ∧
  ∀ (H' : Hp) (m : Im) (n' : Int), Kp p H H' → Pen H' p c ns n' → n ≤ n' → n' ≤ n + 5 → m.ok → m.sgn = false → Q m.toV H'
def sp_lexpression : Sp := fun vs H Q _ => ∃ (p c : Addr) (ns : List Int) (n : Int) (most : Nat), vs = [.ref p, .int (most : Int)] ∧ Pen H p c ns n ∧ n < 880000 ∧ most ≤ 20 ∧
  ∀ (H' : Hp) (t : Addr) (its : List Im) (n' : Int), Kp p H H' → Pen H' p c ns n' → n ≤ n' → n' ≤ n + 300 → H t = none → H' t = some (.tup (its.map Im.toV)) → Expr1 its → its.length ≤ 2 * most + 1 → its ≠ [] → Q (.ref t) H'
/-! Things of any kind. -/
def Kn (H : Hp) : V → Prop
  | .ref a => (∃ xs, H a = some (.tup xs)) ∨ (∃ xs, H a = some (.lst xs)) ∨ ∃ kvs, H a = some (.dK kvs)
  | .non => True
  | .bl _ => True
  | .int _ => True
  | .str z => z.length ≤ 100000
  | _ => False
theorem Kn.same {H H' : Hp} {x : V} (s : Same H H') (h : Kn H x) : Kn H' x := by
  cases x with
  | ref a =>
    rcases h with ⟨xs, e⟩ | ⟨xs, e⟩ | ⟨xs, e⟩
    · exact .inl ⟨xs, s _ _ e⟩
    · exact .inr (.inl ⟨xs, s _ _ e⟩)
    · exact .inr (.inr ⟨xs, s _ _ e⟩)
  | non => exact h
  | bl b => exact h
  | int i => exact h
  | str z => exact h
  | byt b => exact h
  | flt b => exact h
  | ty n => exact h
def inV2 : V → Bool
  | .int _ => true
  | _ => false
def exT (H : Hp) : V → Bool
  | .ref a => match H a with
    | some (.tup xs) => exV xs
    | _ => false
  | _ => false
theorem exT_tup {H : Hp} {t : Addr} {xs : List V} (h : H t = some (.tup xs)) : exT H (.ref t) = exV xs := by
  simp only [exT, h]
theorem exT_lst {H : Hp} {t : Addr} {xs : List V} (h : H t = some (.lst xs)) : exT H (.ref t) = false := by
  simp only [exT, h]
theorem exT_dK {H : Hp} {t : Addr} {xs : List (Key × V)} (h : H t = some (.dK xs)) : exT H (.ref t) = false := by
  simp only [exT, h]
def sp_iswhole : Sp := fun vs H Q _ => ∃ x : V, vs = [x] ∧ Kn H x ∧ Q (.bl (inV2 x)) H
def sp_isworth : Sp := fun vs H Q _ => ∃ x : V, vs = [x] ∧ Kn H x ∧ Q (.bl (woV x)) H
def sp_isletter : Sp := fun vs H Q _ => ∃ x : V, vs = [x] ∧ Kn H x ∧ Q (.bl (ltV x)) H
def sp_issignV : Sp := fun vs H Q _ => ∃ x : V, vs = [x] ∧ Kn H x ∧ Q (.bl (sgV x)) H
def sp_leavesone (K : PySem.W.Frag) : Sp := fun vs H Q _ => ∃ (t : Addr) (xs : List V), vs = [.ref t] ∧ SqT K H t xs ∧ (∀ x ∈ xs, Kn H x) ∧ Q (.bl (decide (htV 0 xs = some 1))) H
def sp_isexpA : Sp := fun vs H Q _ => ∃ x : V, vs = [x] ∧ Kn H x ∧ (∀ t xs, x = .ref t → H t = some (.tup xs) → xs.length ≤ 1000 ∧ ∀ y ∈ xs, Kn H y) ∧ ∀ H', Same H H' → Q (.bl (exT H x)) H'
theorem len_size {n : Nat} (h : n ≤ 100000) : n ≤ sizeLine := Nat.le_trans h (by decide)
theorem one_code {z : Str} (h : z.length = 1) : ∃ c, z = ⟨#[c]⟩ := by
  rw [cp_len] at h
  obtain ⟨c, hc⟩ := List.length_eq_one_iff.mp h
  exact ⟨c, cp_ext hc⟩
theorem letters_mem : ∀ c : Nat, decide (c ∈ letters.cps.toList) = decide (97 ≤ c ∧ c ≤ 112) := by
  intro c
  have e : letters.cps.toList = [97, 98, 99, 100, 101, 102, 103, 104, 105, 106, 107, 108, 109, 110, 111, 112] := by decide +kernel
  rw [e]
  by_cases h : 97 ≤ c ∧ c ≤ 112
  · rw [decide_eq_true h]
    refine decide_eq_true ?_
    simp only [List.mem_cons, List.not_mem_nil, or_false]
    omega
  · rw [decide_eq_false h]
    refine decide_eq_false ?_
    simp only [List.mem_cons, List.not_mem_nil, or_false]
    omega
/-! Things that lie within one another, so deep and so long at most. -/
def Low (H : Hp) : V → Prop
  | .ref a => (∃ xs, H a = some (.lst xs)) ∨ ∃ kvs, H a = some (.dK kvs)
  | .non => True
  | .bl _ => True
  | .int _ => True
  | .str z => z.length ≤ 100000
  | _ => False
def Th (H : Hp) (L : Nat) : Nat → V → Prop
  | 0, x => Low H x
  | d + 1, x => Low H x ∨ ∃ t xs, x = .ref t ∧ H t = some (.tup xs) ∧ xs.length ≤ L ∧ ∀ y ∈ xs, Th H L d y
theorem Low.th {H : Hp} {L : Nat} {x : V} (h : Low H x) : ∀ d, Th H L d x
  | 0 => h
  | _ + 1 => .inl h
theorem Low.kp {H H' : Hp} {p c : Addr} {ns : List Int} {n : Int} {x : V} (k : Kp p H H') (P : Pen H' p c ns n) (h : Low H x) : Low H' x := by
  cases x with
  | ref a =>
    by_cases hp : a = p
    · subst hp
      obtain ⟨r, e, _⟩ := P
      exact .inl ⟨_, e⟩
    · rcases h with ⟨xs, e⟩ | ⟨xs, e⟩
      · exact .inl ⟨xs, k _ _ hp e⟩
      · exact .inr ⟨xs, k _ _ hp e⟩
  | non => exact h
  | bl b => exact h
  | int i => exact h
  | str z => exact h
  | byt b => exact h
  | flt b => exact h
  | ty n => exact h
theorem Th.kp {H H' : Hp} {p c : Addr} {ns ns0 : List Int} {n n0 : Int} {c0 : Addr} {L : Nat} (k : Kp p H H') (P0 : Pen H p c0 ns0 n0) (P : Pen H' p c ns n) : ∀ {d : Nat} {x : V}, Th H L d x → Th H' L d x
  | 0, _, h => Low.kp k P h
  | d + 1, _, .inl h => .inl (Low.kp k P h)
  | d + 1, _, .inr ⟨t, xs, e, ht, hl, hx⟩ => .inr ⟨t, xs, e, k _ _ (P0.nt ht (fun _ z => by cases z)) ht, hl, fun y hy => Th.kp k P0 P (hx y hy)⟩
theorem Low.same {H H' : Hp} {x : V} (s : Same H H') (h : Low H x) : Low H' x := by
  cases x with
  | ref a =>
    rcases h with ⟨xs, e⟩ | ⟨xs, e⟩
    · exact .inl ⟨xs, s _ _ e⟩
    · exact .inr ⟨xs, s _ _ e⟩
  | non => exact h
  | bl b => exact h
  | int i => exact h
  | str z => exact h
  | byt b => exact h
  | flt b => exact h
  | ty n => exact h
theorem Th.same {H H' : Hp} {L : Nat} (s : Same H H') : ∀ {d : Nat} {x : V}, Th H L d x → Th H' L d x
  | 0, _, h => Low.same s h
  | d + 1, _, .inl h => .inl (Low.same s h)
  | d + 1, _, .inr ⟨t, xs, e, ht, hl, hx⟩ => .inr ⟨t, xs, e, s _ _ ht, hl, fun y hy => Th.same s (hx y hy)⟩
theorem Th.mono {H : Hp} {L L' : Nat} (hL : L ≤ L') : ∀ {d d' : Nat} {x : V}, d ≤ d' → Th H L d x → Th H L' d' x
  | 0, d', _, _, h => Low.th h d'
  | d + 1, 0, _, hd, _ => absurd hd (by omega)
  | d + 1, d' + 1, _, _, .inl h => .inl h
  | d + 1, d' + 1, _, hd, .inr ⟨t, xs, e, ht, hl, hx⟩ => .inr ⟨t, xs, e, ht, Nat.le_trans hl hL, fun y hy => Th.mono hL (by omega) (hx y hy)⟩
theorem Low.kn {H : Hp} {x : V} (h : Low H x) : Kn H x := by
  cases x with
  | ref a =>
    rcases h with ⟨xs, e⟩ | ⟨xs, e⟩
    · exact .inr (.inl ⟨xs, e⟩)
    · exact .inr (.inr ⟨xs, e⟩)
  | non => exact h
  | bl b => exact h
  | int i => exact h
  | str z => exact h
  | byt b => exact h
  | flt b => exact h
  | ty n => exact h
theorem Th.kn {H : Hp} {L : Nat} : ∀ {d : Nat} {x : V}, Th H L d x → Kn H x
  | 0, _, h => Low.kn h
  | d + 1, _, .inl h => Low.kn h
  | d + 1, _, .inr ⟨t, xs, e, ht, _⟩ => by
    rw [e]
    exact .inl ⟨xs, ht⟩
theorem Low.no {H : Hp} {t : Addr} {xs : List V} (h : Low H (.ref t)) (ht : H t = some (.tup xs)) : False := by
  rcases h with ⟨ys, e⟩ | ⟨ys, e⟩
  · rw [ht] at e
    cases e
  · rw [ht] at e
    cases e
theorem Th.items {H : Hp} {L d : Nat} {x : V} (h : Th H L d x) : ∀ t xs, x = .ref t → H t = some (.tup xs) → xs.length ≤ L ∧ ∀ y ∈ xs, Kn H y := by
  intro t xs ex ht
  subst ex
  cases d with
  | zero => exact (Low.no h ht).elim
  | succ d =>
    rcases h with h | ⟨t', xs', e, ht', hl, hx⟩
    · exact (Low.no h ht).elim
    · obtain rfl := V.ref.inj e
      rw [ht] at ht'
      obtain rfl : xs = xs' := HO.tup.inj (Option.some.inj ht')
      exact ⟨hl, fun y hy => (hx y hy).kn⟩
/-! Slices and sums of tuples: a tuple of what is due, new or not. -/
theorem catAny {K : PySem.W.Frag} {H : Hp} {a b : Addr} {xs ys : List V} {Q : VK} (ha : H a = some (.tup xs)) (hb : H b = some (.tup ys)) (hl : xs.length + ys.length ≤ sizeLine)
    (q : ∀ r H', Same H H' → H' r = some (.tup (xs ++ ys)) → Q (.ref r) H') : rCatA K (.ref a) (.ref b) H Q := by
  refine ⟨a, b, xs, ys, rfl, rfl, SqT.of ha, SqT.of hb, hl, fun e => ?_, fun _ e => ?_, fun _ _ p hp => q p _ (Same.new hp) upd_same⟩
  · subst e
    exact q b H (Same.refl H) hb
  · subst e
    refine q a H (Same.refl H) ?_
    rw [List.append_nil]
    exact ha
theorem cutWhole {xs : List V} {lo hi : Option Int} (h : HT.sIx xs.length 0 lo = 0 ∧ HT.sIx xs.length xs.length hi = xs.length) : cutV xs lo hi = xs := by
  unfold cutV
  rw [h.1, h.2, List.drop_zero, Nat.sub_zero, List.take_length]
theorem slAny {K : PySem.W.Frag} {H : Hp} {a : Addr} {xs : List V} {lo hi : Option Int} {Q : VK} (ha : H a = some (.tup xs)) (q : ∀ r H', Same H H' → H' r = some (.tup (cutV xs lo hi)) → Q (.ref r) H') : rSlA K (.ref a) lo hi H Q := by
  refine ⟨a, xs, rfl, SqT.of ha, fun e => ?_, fun _ p hp => q p _ (Same.new hp) upd_same⟩
  refine q a H (Same.refl H) ?_
  rw [cutWhole e]
  exact ha
theorem slFrom {K : PySem.W.Frag} {H : Hp} {σ : St} {a : Addr} {xs : List V} {lo : Option Int} {Q : VK} (ha : H a = some (.tup xs)) (q : ∀ r H', Same H H' → H' r = some (.tup (cutV xs lo none)) → Q (.ref r) H') : tNoPart σ H fun u H3 => rSlA K (.ref a) lo u H3 Q :=
  show rSlA K (.ref a) lo none H Q from slAny ha q
/-! What the law finds of a thing. -/
def okV (x : V) : Bool := woV x || ltV x || sgV x
theorem lt_code (c : Nat) : ltV (.str ⟨#[c]⟩) = decide (97 ≤ c ∧ c ≤ 112) := by
  show (decide ((⟨#[c]⟩ : Str).length = 1) && decide (∀ d ∈ cp ⟨#[c]⟩, 97 ≤ d ∧ d ≤ 112)) = _
  rw [decide_eq_true (show (⟨#[c]⟩ : Str).length = 1 from rfl), Bool.true_and]
  by_cases h2 : 97 ≤ c ∧ c ≤ 112
  · rw [decide_eq_true h2, decide_eq_true]
    intro d hd
    rw [show d = c from List.mem_singleton.mp hd]
    exact h2
  · rw [decide_eq_false h2, decide_eq_false]
    exact fun g => h2 (g c (List.mem_singleton.mpr rfl))
theorem sg_code (c : Nat) : sgV (.str ⟨#[c]⟩) = decide (c ∈ codes) := by
  have e : sgKeys = codes.map fun c => ⟨#[c]⟩ := by decide +kernel
  show decide ((⟨#[c]⟩ : Str) ∈ sgKeys) = _
  rw [e]
  by_cases h : c ∈ codes
  · rw [decide_eq_true h, decide_eq_true (List.mem_map_of_mem h)]
  · rw [decide_eq_false h, decide_eq_false]
    intro g
    obtain ⟨d, hd, e2⟩ := List.mem_map.mp g
    have e3 : #[d] = #[c] := congrArg Str.cps e2
    have : d = c := by simpa using e3
    exact h (this ▸ hd)
theorem sg_len {z : Str} (h : z.length ≠ 1) : sgV (.str z) = false := by
  have e : ∀ k ∈ sgKeys, k.length = 1 := by decide +kernel
  exact decide_eq_false (fun g => h (e z g))
theorem lt_len {z : Str} (h : z.length ≠ 1) : ltV (.str z) = false := by
  show (decide (z.length = 1) && _) = _
  rw [decide_eq_false h]
  rfl
theorem all_mem (c : Nat) : decide (c ∈ ("abcdefghijklmnop+-*/#<=&^" : Str).cps.toList) = (ltV (.str ⟨#[c]⟩) || sgV (.str ⟨#[c]⟩)) := by
  have e : ("abcdefghijklmnop+-*/#<=&^" : Str).cps.toList = letters.cps.toList ++ codes := by decide +kernel
  rw [e, lt_code, sg_code, ← letters_mem]
  by_cases h1 : c ∈ letters.cps.toList
  · rw [decide_eq_true h1, decide_eq_true (List.mem_append_left _ h1)]
    rfl
  · by_cases h2 : c ∈ codes
    · rw [decide_eq_false h1, decide_eq_true h2, decide_eq_true (List.mem_append_right _ h2)]
      rfl
    · rw [decide_eq_false h1, decide_eq_false h2, decide_eq_false]
      · rfl
      · intro g
        rcases List.mem_append.mp g with g | g
        · exact h1 g
        · exact h2 g
theorem sign_mem (c : Nat) : decide (c ∈ ("+-*/#<=&^" : Str).cps.toList) = sgV (.str ⟨#[c]⟩) := by
  have e : ("+-*/#<=&^" : Str).cps.toList = codes := by decide +kernel
  rw [e, sg_code]
theorem exV_bad {xs : List V} {x : V} (hm : x ∈ xs) (h : okV x = false) : exV xs = false := by
  unfold exV
  have : xs.all (fun x => woV x || ltV x || sgV x) = false := by
    rw [List.all_eq_false]
    exact ⟨x, hm, by rw [show (woV x || ltV x || sgV x) = okV x from rfl, h]; decide⟩
  rw [this, Bool.and_false]
  rfl
theorem exV_ht {xs : List V} (h : htV 0 xs ≠ some 1) : exV xs = false := by
  unfold exV
  rw [decide_eq_false h, Bool.and_false]
theorem exV_all {xs : List V} (h : xs.all okV = true) (hl : xs.length ≤ 15) : exV xs = decide (htV 0 xs = some 1) := by
  unfold exV
  rw [show xs.all (fun x => woV x || ltV x || sgV x) = true from h, decide_eq_true hl]
  rfl
theorem pickAll {l : List V} {Pr : V → Prop} (h : ∀ x ∈ l, Pr x) {j : Nat} (hj : j < l.length) : ∃ x, atI l ((j : Nat) : Int) = some x ∧ Pr x :=
  ⟨l[j], atI_nat (List.getElem?_eq_getElem hj), h _ (List.getElem_mem hj)⟩
theorem thS {H : Hp} {L d : Nat} {z : Str} (h : z.length ≤ 100000) : Th H L d (.str z) := Low.th (x := .str z) h d
theorem thT {H : Hp} {L d : Nat} {t : Addr} {xs : List V} (h : H t = some (.tup xs)) (hl : xs.length ≤ L) (hx : ∀ y ∈ xs, Th H L d y) : Th H L (d + 1) (.ref t) := .inr ⟨t, xs, rfl, h, hl, hx⟩
theorem fm {Pr : V → Prop} {x : V} {l : List V} (h1 : Pr x) (h2 : ∀ y ∈ l, Pr y) : ∀ y ∈ x :: l, Pr y := List.forall_mem_cons.mpr ⟨h1, h2⟩
theorem fn {Pr : V → Prop} : ∀ y ∈ ([] : List V), Pr y := fun _ h => nomatch h
theorem Th.ex {H : Hp} {L d : Nat} {x : V} (h : Th H L d x) (hL : L ≤ 1000) : ∀ t xs, x = .ref t → H t = some (.tup xs) → xs.length ≤ 1000 ∧ ∀ y ∈ xs, Kn H y := fun t xs e ht =>
  ⟨Nat.le_trans (h.items t xs e ht).1 hL, (h.items t xs e ht).2⟩
theorem exT_same {H H' : Hp} {x : V} (s : Same H H') (h : Kn H x) : exT H' x = exT H x := by
  cases x with
  | ref a =>
    rcases h with ⟨xs, e⟩ | ⟨xs, e⟩ | ⟨xs, e⟩
    · rw [exT_tup e, exT_tup (s _ _ e)]
    · rw [exT_lst e, exT_lst (s _ _ e)]
    · rw [exT_dK e, exT_dK (s _ _ e)]
  | non => rfl
  | bl b => rfl
  | int i => rfl
  | str z => rfl
  | byt b => rfl
  | flt b => rfl
  | ty n => rfl
theorem bool_show (b : Bool) : ShowOk (.bool b) := ⟨rfl, rfl, Nat.zero_le _, by cases b <;> decide +kernel⟩
theorem th_ims {H : Hp} {t : Addr} {its : List Im} (h : H t = some (.tup (its.map Im.toV))) (hok : ∀ m ∈ its, m.ok) (hl : its.length ≤ 17) : Th H 20 1 (.ref t) := by
  refine thT h (by rw [List.length_map]; omega) fun y hy => ?_
  obtain ⟨m, hm, rfl⟩ := List.mem_map.mp hy
  have ho := hok m hm
  cases m with
  | wo a => exact trivial
  | re k =>
    have e : ∀ k, k < 16 → (lt k).length ≤ 100000 := by decide +kernel
    exact e k ho
  | si i =>
    have e : ∀ i, i < 9 → (nm i).length ≤ 100000 := by decide +kernel
    exact e i ho
section
variable {P : Program} {w : World} {K : PySem.W.Frag} {mg : Str → Option Value} {base : Heap} {f : Nat → Addr} {fd : Nat → FuncData} {ob : Nat → Addr}
theorem sign_in (T : Txt K w mg f fd ob) {i : Nat} (hi : i < 9) : ∃ u, PySem.W.nsIn K (ob 0) (nm i) = some (some u) := by
  match i, hi with
  | 0, _ => obtain ⟨_, _, u, _, _, h, _⟩ := T.t_SIGNS_0; exact ⟨u, h⟩
  | 1, _ => obtain ⟨_, _, u, _, _, h, _⟩ := T.t_SIGNS_1; exact ⟨u, h⟩
  | 2, _ => obtain ⟨_, _, u, _, _, h, _⟩ := T.t_SIGNS_2; exact ⟨u, h⟩
  | 3, _ => obtain ⟨_, _, u, _, _, h, _⟩ := T.t_SIGNS_3; exact ⟨u, h⟩
  | 4, _ => obtain ⟨_, _, u, _, _, h, _⟩ := T.t_SIGNS_4; exact ⟨u, h⟩
  | 5, _ => obtain ⟨_, _, u, _, _, h, _⟩ := T.t_SIGNS_5; exact ⟨u, h⟩
  | 6, _ => obtain ⟨_, _, u, _, _, h, _⟩ := T.t_SIGNS_6; exact ⟨u, h⟩
  | 7, _ => obtain ⟨_, _, u, _, _, h, _⟩ := T.t_SIGNS_7; exact ⟨u, h⟩
  | 8, _ => obtain ⟨_, _, u, _, _, h, _⟩ := T.t_SIGNS_8; exact ⟨u, h⟩
theorem ok_iswhole (T : Txt K w mg f fd ob) : FnOk P w K mg base CX0 1 (f 0) (fd 0) ["thing"] sp_iswhole := by
  refine T.F_iswhole.ok sc_iswhole (fun vs H Q E h => ?_) (fun cdv A outer s H vs Q E hr h => ?_)
  · obtain ⟨x, rfl, _⟩ := h
    rfl
  · obtain ⟨x, rfl, hx, q⟩ := h
    refine ⟨_, (pss_one (ps_ret (pe_and (pe_callB call_isi (by rfl) T.z_isinstance (by decide +kernel) (pa_cons (pv 0) (pa_cons (pe_bltn (v := .ty "int") (by rfl) T.z_int (by decide +kernel) rfl) pa_nil))) (pe_one (pe_not (pe_callB call_isi (by rfl) T.z_isinstance (by decide +kernel) (pa_cons (pv 0) (pa_cons (pe_bltn (v := .ty "bool") (by rfl) T.z_bool (by decide +kernel) rfl) pa_nil)))))))), ?_⟩
    cases x with
    | non => exact ⟨_, rfl, _, _, _, _, false, rfl, .ty _, .base .non, kit_ty (by decide +kernel), _, rfl, iteF q⟩
    | bl b => exact ⟨_, rfl, _, _, _, _, true, rfl, .ty _, .base (.bl _), kit_ty (by decide +kernel), _, rfl, iteT ⟨_, rfl, _, _, _, _, true, rfl, .ty _, .base (.bl _), kit_ty (by decide +kernel), _, rfl, q⟩⟩
    | int i => exact ⟨_, rfl, _, _, _, _, true, rfl, .ty _, .base (.int _), kit_ty (by decide +kernel), _, rfl, iteT ⟨_, rfl, _, _, _, _, false, rfl, .ty _, .base (.int _), kit_ty (by decide +kernel), _, rfl, q⟩⟩
    | str z => exact ⟨_, rfl, _, _, _, _, false, rfl, .ty _, .base (.str _), kit_ty (by decide +kernel), _, rfl, iteF q⟩
    | byt b => exact hx.elim
    | flt b => exact hx.elim
    | ref a =>
      rcases hx with ⟨xs, e⟩ | ⟨xs, e⟩ | ⟨xs, e⟩
      · exact ⟨_, rfl, _, _, _, _, false, rfl, .ty _, .base (.tup e), kit_ty (by decide +kernel), _, rfl, iteF q⟩
      · exact ⟨_, rfl, _, _, _, _, false, rfl, .ty _, .base (.lst e), kit_ty (by decide +kernel), _, rfl, iteF q⟩
      · exact ⟨_, rfl, _, _, _, _, false, rfl, .ty _, .base (.dK e), kit_ty (by decide +kernel), _, rfl, iteF q⟩
    | ty n => exact hx.elim
theorem ok_isworth (T : Txt K w mg f fd ob) : FnOk P w K mg base CX0 2 (f 1) (fd 1) ["thing"] sp_isworth := by
  have G_iswhole := ok_iswhole (P := P) (base := base) T
  refine T.F_isworth.ok sc_isworth (fun vs H Q E h => ?_) (fun cdv A outer s H vs Q E hr h => ?_)
  · obtain ⟨x, rfl, _⟩ := h
    rfl
  · obtain ⟨x, rfl, hx, q⟩ := h
    have hr_iswhole := hr
    refine ⟨_, (pss_one (ps_ret (pe_and (pe_call G_iswhole hr_iswhole (by rfl) T.m_iswhole T.F_iswhole.kp T.b_iswhole .nil pass0 (pa_cons (pv 0) pa_nil)) (pe_one (pe_chain op_le op_le (pe_un un_neg pe_int) (pv 0) pe_int))))), ?_⟩
    refine ⟨_, rfl, x, rfl, hx, _, rfl, ?_⟩
    cases x with
    | int i =>
      refine iteT ⟨_, rfl, _, rfl, _, _, rfl, rfl, _, rfl, ite2 (fun h1 => ⟨_, _, rfl, rfl, ?_⟩) (fun h1 => ?_)⟩
      · have h1' : -32768 ≤ i := of_decide_eq_true h1
        have e : woV (.int i) = decide (i ≤ 32767) := by
          show decide (-32768 ≤ i ∧ i ≤ 32767) = _
          by_cases h2 : i ≤ 32767
          · rw [decide_eq_true h2, decide_eq_true ⟨h1', h2⟩]
          · rw [decide_eq_false h2, decide_eq_false (fun z => h2 z.2)]
        rw [e] at q
        exact q
      · have e : woV (.int i) = false := decide_eq_false (fun z => h1 (decide_eq_true z.1))
        rw [e] at q
        exact q
    | non => exact iteF q
    | bl b => exact iteF q
    | str z => exact iteF q
    | byt b => exact hx.elim
    | flt b => exact hx.elim
    | ref a => exact iteF q
    | ty n => exact hx.elim
theorem ok_isletter (T : Txt K w mg f fd ob) : FnOk P w K mg base CX0 1 (f 2) (fd 2) ["thing"] sp_isletter := by
  obtain ⟨tkL, h_LETTERS⟩ := T.c_LETTERS
  refine T.F_isletter.ok sc_isletter (fun vs H Q E h => ?_) (fun cdv A outer s H vs Q E hr h => ?_)
  · obtain ⟨x, rfl, _⟩ := h
    rfl
  · obtain ⟨x, rfl, hx, q⟩ := h
    refine ⟨_, (pss_one (ps_ret (pe_and (pe_callB call_isi (by rfl) T.z_isinstance (by decide +kernel) (pa_cons (pv 0) (pa_cons (pe_bltn (v := .ty "str") (by rfl) T.z_str (by decide +kernel) rfl) pa_nil))) (pe_and (pe_cmpR op_eq (pe_callB call_len_str (by rfl) T.z_len PySem.boot_len (pa_cons (pv 0) pa_nil)) pe_int (nomark _)) (pe_one (pe_cmpR op_in_sign (pv 0) (pe_glob (v := .str "abcdefghijklmnop") (by rfl) h_LETTERS ⟨_, rfl⟩) (by rfl))))))), ?_⟩
    cases x with
    | str z =>
      refine ⟨_, rfl, _, _, _, _, true, rfl, .ty _, .base (.str _), kit_ty (by decide +kernel), _, rfl, iteT ⟨_, rfl, z, rfl, len_size hx, rfl, _, rfl, ?_⟩⟩
      by_cases h1 : z.length = 1
      · obtain ⟨c, rfl⟩ := one_code h1
        refine iteB1 (decide_eq_true (by rw [h1]; rfl)) ⟨_, rfl, c, letters, rfl, rfl, ?_⟩
        rw [letters_mem]
        have e : ltV (.str ⟨#[c]⟩) = decide (97 ≤ c ∧ c ≤ 112) := by
          show (decide ((⟨#[c]⟩ : Str).length = 1) && decide (∀ d ∈ cp ⟨#[c]⟩, 97 ≤ d ∧ d ≤ 112)) = _
          rw [decide_eq_true h1, Bool.true_and]
          by_cases h2 : 97 ≤ c ∧ c ≤ 112
          · rw [decide_eq_true h2, decide_eq_true]
            intro d hd
            rw [show d = c from List.mem_singleton.mp hd]
            exact h2
          · rw [decide_eq_false h2, decide_eq_false]
            exact fun g => h2 (g c (List.mem_singleton.mpr rfl))
        rw [e] at q
        exact q
      · refine iteB0 (decide_eq_false (fun g => h1 (by have := V.int.inj g; omega))) ?_
        have e : ltV (.str z) = false := by
          show (decide (z.length = 1) && _) = _
          rw [decide_eq_false h1]
          rfl
        rw [e] at q
        exact q
    | non => exact ⟨_, rfl, _, _, _, _, false, rfl, .ty _, .base .non, kit_ty (by decide +kernel), _, rfl, iteF q⟩
    | bl b => exact ⟨_, rfl, _, _, _, _, false, rfl, .ty _, .base (.bl _), kit_ty (by decide +kernel), _, rfl, iteF q⟩
    | int i => exact ⟨_, rfl, _, _, _, _, false, rfl, .ty _, .base (.int _), kit_ty (by decide +kernel), _, rfl, iteF q⟩
    | byt b => exact hx.elim
    | flt b => exact hx.elim
    | ref a =>
      rcases hx with ⟨xs, e⟩ | ⟨xs, e⟩ | ⟨xs, e⟩
      · exact ⟨_, rfl, _, _, _, _, false, rfl, .ty _, .base (.tup e), kit_ty (by decide +kernel), _, rfl, iteF q⟩
      · exact ⟨_, rfl, _, _, _, _, false, rfl, .ty _, .base (.lst e), kit_ty (by decide +kernel), _, rfl, iteF q⟩
      · exact ⟨_, rfl, _, _, _, _, false, rfl, .ty _, .base (.dK e), kit_ty (by decide +kernel), _, rfl, iteF q⟩
    | ty n => exact hx.elim
theorem ok_issignV (T : Txt K w mg f fd ob) : FnOk P w K mg base CX0 1 (f 3) (fd 3) ["thing"] sp_issignV := by
  obtain ⟨es, nn, D_SIGNS⟩ := T.d_SIGNS
  refine T.F_issign.ok sc_issign (fun vs H Q E h => ?_) (fun cdv A outer s H vs Q E hr h => ?_)
  · obtain ⟨m, rfl, _⟩ := h
    rfl
  · obtain ⟨x, rfl, hx, q⟩ := h
    refine ⟨_, (pss_one (ps_ret (pe_and (pe_callB call_isi (by rfl) T.z_isinstance (by decide +kernel) (pa_cons (pv 0) (pa_cons (pe_bltn (v := .ty "str") (by rfl) T.z_str (by decide +kernel) rfl) pa_nil))) (pe_one (pe_cmpR (op_in_kd D_SIGNS) (pv 0) (pe_glob (v := .ref (ob 0)) (by rfl) T.m_SIGNS rfl) (by rfl)))))), ?_⟩
    cases x with
    | str z =>
      refine ⟨_, rfl, _, _, _, _, true, rfl, .ty _, .base (.str _), kit_ty (by decide +kernel), _, rfl, iteT ⟨_, rfl, z, ?_⟩⟩
      by_cases h1 : z ∈ sgKeys
      · obtain ⟨i, hi, rfl⟩ := nm_mem h1
        obtain ⟨u, hu⟩ := sign_in T hi
        refine ⟨_, rfl, rfl, hu, ?_⟩
        rw [sg_nm i hi] at q
        exact q
      · refine ⟨_, rfl, rfl, T.n_SIGNS _ h1, ?_⟩
        have e : sgV (.str z) = false := decide_eq_false h1
        rw [e] at q
        exact q
    | non => exact ⟨_, rfl, _, _, _, _, false, rfl, .ty _, .base .non, kit_ty (by decide +kernel), _, rfl, iteF q⟩
    | bl b => exact ⟨_, rfl, _, _, _, _, false, rfl, .ty _, .base (.bl _), kit_ty (by decide +kernel), _, rfl, iteF q⟩
    | int i => exact ⟨_, rfl, _, _, _, _, false, rfl, .ty _, .base (.int _), kit_ty (by decide +kernel), _, rfl, iteF q⟩
    | byt b => exact hx.elim
    | flt b => exact hx.elim
    | ref a =>
      rcases hx with ⟨xs, e⟩ | ⟨xs, e⟩ | ⟨xs, e⟩
      · exact ⟨_, rfl, _, _, _, _, false, rfl, .ty _, .base (.tup e), kit_ty (by decide +kernel), _, rfl, iteF q⟩
      · exact ⟨_, rfl, _, _, _, _, false, rfl, .ty _, .base (.lst e), kit_ty (by decide +kernel), _, rfl, iteF q⟩
      · exact ⟨_, rfl, _, _, _, _, false, rfl, .ty _, .base (.dK e), kit_ty (by decide +kernel), _, rfl, iteF q⟩
    | ty n => exact hx.elim
theorem ok_leavesone (T : Txt K w mg f fd ob) : FnOk P w K mg base CX0 2 (f 4) (fd 4) ["items"] (sp_leavesone K) := by
  have G_issign := ok_issignV (P := P) (base := base) T
  refine T.F_leavesone.ok sc_leavesone (fun vs H Q E h => ?_) (fun cdv A outer s H vs Q E hr h => ?_)
  · obtain ⟨t, xs, rfl, _⟩ := h
    rfl
  · obtain ⟨t, xs, rfl, hS, hx, q⟩ := h
    have hr_issign := hr
    refine ⟨_, (pss_cons (ps_set (i := 1) sc_leavesone.nd rfl (Or.inl rfl) pe_int)
      (pss_cons (ps_for PassesOwn.never rfl (pi_tup (pv 0)) (pg_name (i := 2) sc_leavesone.nd rfl (Or.inl rfl)) (pss_one (ps_if (pt_val (pe_call G_issign hr_issign (by rfl) T.m_issign T.F_issign.kp T.b_issign .nil pass0 (pa_cons (pv 2) pa_nil))) (pss_cons (ps_if (pt_cmpR op_lt (pv 1) pe_int (nomark _)) (pss_one (ps_ret pe_bl)) pss_nil)
      (pss_one (ps_aug (i := 1) sc_leavesone.nd rfl (Or.inl rfl) pe_int ip_sub))) (pss_one (ps_aug (i := 1) sc_leavesone.nd rfl (Or.inl rfl) pe_int ip_add)))))
      (pss_one (ps_ret (pe_cmpR op_eq (pv 1) pe_int (nomark _)))))), ?_⟩
    refine ⟨_, rfl, t, rfl, ⟨_, hS⟩, for_tup (xs := xs) (fun i σ' H' => ∃ (h : Nat) (y : Option V), σ' = [some (.ref t), some (.int (h : Int)), y] ∧ H = H' ∧ htV 0 xs = htV h (xs.drop i))
      ⟨0, none, rfl, rfl, rfl⟩ (fun i σ' H' _ ⟨_, _, _, e, _⟩ => by rw [← e]; exact hS) ?_ ?_⟩
    · rintro i x _ _ hi ⟨h, y, rfl, rfl, hh⟩
      have hl : i < xs.length := (List.getElem?_eq_some_iff.mp hi).1
      have ed : xs.drop i = x :: xs.drop (i + 1) := by
        rw [List.drop_eq_getElem_cons hl]
        congr 1
        exact (List.getElem?_eq_some_iff.mp hi).2
      rw [ed] at hh
      refine ⟨_, rfl, x, rfl, hx x (List.mem_of_getElem? hi), _, rfl, ?_⟩
      cases es : sgV x with
      | true =>
        have hh2 : htV 0 xs = if 2 ≤ h then htV (h - 1) (xs.drop (i + 1)) else none := by
          rw [hh]
          show (if sgV x = true then (if 2 ≤ h then htV (h - 1) (xs.drop (i + 1)) else none) else _) = _
          rw [es]
          rfl
        refine iteT ⟨_, rfl, _, _, rfl, rfl, _, rfl, ite2 (fun h1 => ?_) (fun h1 => ?_)⟩
        · have h1' : (h : Int) < 2 := of_decide_eq_true h1
          rw [hh2, if_neg (by omega)] at q
          exact q
        · have h1' : ¬ (h : Int) < 2 := fun g => h1 (decide_eq_true g)
          refine ⟨_, rfl, _, _, rfl, rfl, h - 1, some x, ?_, rfl, by rw [hh2, if_pos (by omega)]⟩
          show [some (V.ref t), some (V.int ((h : Int) - 1)), some x] = _
          rw [show (h : Int) - 1 = ((h - 1 : Nat) : Int) by omega]
      | false =>
        refine iteF ⟨_, rfl, _, _, rfl, rfl, h + 1, _, rfl, rfl, ?_⟩
        rw [hh]
        show (if sgV x = true then _ else htV (h + 1) (xs.drop (i + 1))) = _
        rw [es]
        rfl
    · rintro _ _ ⟨h, y, rfl, rfl, hh⟩
      rw [List.drop_length] at hh
      have e : decide (htV 0 xs = some 1) = decide (V.int (h : Int) = V.int 1) := by
        rw [hh]
        show decide (some h = some 1) = _
        by_cases g : h = 1
        · subst g
          rfl
        · rw [decide_eq_false (fun z => g (Option.some.inj z)), decide_eq_false (fun z => g (by have := V.int.inj z; omega))]
      rw [e] at q
      exact ⟨_, rfl, rfl, q⟩
theorem ok_isexpression (T : Txt K w mg f fd ob) : FnOk P w K mg base CX0 3 (f 5) (fd 5) ["thing"] sp_isexpA := by
  obtain ⟨tkM, h_MOST_ITEMS⟩ := T.c_MOST_ITEMS
  have G_isworth := ok_isworth (P := P) (base := base) T
  have G_isletter := ok_isletter (P := P) (base := base) T
  have G_issign := ok_issignV (P := P) (base := base) T
  have G_leavesone := ok_leavesone (P := P) (base := base) T
  refine T.F_isexpression.ok sc_isexpression (fun vs H Q E h => ?_) (fun cdv A outer s H vs Q E hr h => ?_)
  · obtain ⟨x, rfl, _⟩ := h
    rfl
  · obtain ⟨x, rfl, hx0, hx1, q⟩ := h
    have hr_isworth := hr
    have hr_leavesone := hr
    have hr_isletter : Room 1 _ := hr.mono (by decide)
    have hr_issign : Room 1 _ := hr.mono (by decide)
    refine ⟨_, (pss_cons (ps_if (PW.pt (pw_or (pt_not (pt_val (pe_callB call_isi (by rfl) T.z_isinstance (by decide +kernel) (pa_cons (pv 0) (pa_cons (pe_bltn (v := .ty "tuple") (by rfl) T.z_tuple (by decide +kernel) rfl) pa_nil))))) (pw_or1 (pt_cmpR op_gt (pe_callB call_len_seq (by rfl) T.z_len PySem.boot_len (pa_cons (pv 0) pa_nil)) (pe_glob (v := .int 15) (by rfl) h_MOST_ITEMS ⟨_, rfl⟩) (nomark _))))) (pss_one (ps_ret pe_bl)) pss_nil)
      (pss_cons (ps_if (pt_not (pt_val (pe_callB (cr_all rfl) (by rfl) T.z_all (by decide +kernel) (pa_cons (pe_lc (own := [("item", 1)]) (g := (gName 1)) (tt := tYes) (te := (tOrV (tCall sp_isworth [] E0 (tCons (tVar 1) tNil)) (tOrV (tCall sp_isletter [] E0 (tCons (tVar 1) tNil)) (tCall sp_issignV [] E0 (tCons (tVar 1) tNil))))) (by rfl) sc_isexpression.nd (pi_tup (pv 0)) (blkOk_by (own := [("item", 1)]) (N := N_isexpression) (sc := defScope s_isexpression) (by decide +kernel)) (fun _ _ _ _ _ => (pg_name (i := 1) sc_isexpression.nd rfl (Or.inl rfl))) (fun _ _ _ _ _ => pts_nil) (fun _ _ _ _ _ => (pe_or (pe_call G_isworth hr_isworth (by rfl) T.m_isworth T.F_isworth.kp T.b_isworth .nil pass0 (pa_cons (pv 1) pa_nil)) (pe_or (pe_call G_isletter hr_isletter (by rfl) T.m_isletter T.F_isletter.kp T.b_isletter .nil pass0 (pa_cons (pv 1) pa_nil)) (pe_one (pe_call G_issign hr_issign (by rfl) T.m_issign T.F_issign.kp T.b_issign .nil pass0 (pa_cons (pv 1) pa_nil))))))) pa_nil)))) (pss_one (ps_ret pe_bl)) pss_nil)
      (pss_one (ps_ret (pe_call G_leavesone hr_leavesone (by rfl) T.m_leavesone T.F_leavesone.kp T.b_leavesone .nil pass0 (pa_cons (pv 0) pa_nil)))))), ?_⟩
    have no : exT H x = false → Q (.bl false) H := fun e => by
      have q2 := q H (Same.refl H)
      rw [e] at q2
      exact q2
    cases x with
    | non => exact ⟨_, rfl, _, _, _, _, false, rfl, .ty _, .base .non, kit_ty (by decide +kernel), _, rfl, iteT (no rfl)⟩
    | bl b => exact ⟨_, rfl, _, _, _, _, false, rfl, .ty _, .base (.bl _), kit_ty (by decide +kernel), _, rfl, iteT (no rfl)⟩
    | int i => exact ⟨_, rfl, _, _, _, _, false, rfl, .ty _, .base (.int _), kit_ty (by decide +kernel), _, rfl, iteT (no rfl)⟩
    | str z => exact ⟨_, rfl, _, _, _, _, false, rfl, .ty _, .base (.str _), kit_ty (by decide +kernel), _, rfl, iteT (no rfl)⟩
    | byt b => exact hx0.elim
    | flt b => exact hx0.elim
    | ty n => exact hx0.elim
    | ref t =>
      rcases hx0 with ⟨xs, ht⟩ | ⟨xs, ht⟩ | ⟨xs, ht⟩
      rotate_left
      · exact ⟨_, rfl, _, _, _, _, false, rfl, .ty _, .base (.lst ht), kit_ty (by decide +kernel), _, rfl, iteT (no (exT_lst ht))⟩
      · exact ⟨_, rfl, _, _, _, _, false, rfl, .ty _, .base (.dK ht), kit_ty (by decide +kernel), _, rfl, iteT (no (exT_dK ht))⟩
      · obtain ⟨hlen, hx⟩ := hx1 t xs rfl ht
        rw [exT_tup ht] at q
        refine ⟨_, rfl, _, _, _, _, true, rfl, .ty _, .base (.tup ht), kit_ty (by decide +kernel), _, rfl, iteF ?_⟩
        refine ⟨_, rfl, _, _, rfl, .inr (SqT.of ht), _, _, rfl, rfl, _, rfl, ite2 (fun h1 => ?_) (fun h1 => ?_)⟩
        · have h1' : (15 : Int) < ((xs.length : Nat) : Int) := of_decide_eq_true h1
          have e : exV xs = false := by
            unfold exV
            rw [decide_eq_false (show ¬ xs.length ≤ 15 by omega)]
            rfl
          have q2 := q H (Same.refl H)
          rw [e] at q2
          exact q2
        · have h1' : ¬ (15 : Int) < ((xs.length : Nat) : Int) := fun g => h1 (decide_eq_true g)
          refine ⟨_, rfl, t, rfl, ⟨_, SqT.of ht⟩, fun D nD => ?_⟩
          refine lc_tup (K := K) (a := t) (xs := xs) (fun i H' => Same H H' ∧ H' D = some (.lst (((xs.take i).map (fun x => woV x || ltV x || sgV x)).map V.bl))) ⟨Same.new nD, upd_same⟩ (fun i H' _ h => SqT.of (h.1 _ _ ht)) ?_ ?_
          · rintro i x H1 hi ⟨s1, hD⟩
            have hl : i < xs.length := (List.getElem?_eq_some_iff.mp hi).1
            have hf := (hx x (List.mem_of_getElem? hi)).same s1
            have et : xs.take (i + 1) = xs.take i ++ [x] := by
              rw [List.take_add_one, hi]
              rfl
            have key : ∃ acc, H1 D = some (.lst acc) ∧ acc.length < sizeLine ∧ Same H (upd H1 D (.lst (acc ++ [V.bl (woV x || ltV x || sgV x)]))) ∧ (upd H1 D (.lst (acc ++ [V.bl (woV x || ltV x || sgV x)]))) D = some (.lst (((xs.take (i + 1)).map (fun x => woV x || ltV x || sgV x)).map V.bl)) := by
              refine ⟨_, hD, ?_, Same.mut s1 nD, ?_⟩
              · rw [List.length_map, List.length_map, List.length_take]
                exact small1000 (by omega)
              · rw [upd_same, et, List.map_append, List.map_append]
                rfl
            refine ⟨rfl, _, rfl, x, rfl, hf, _, rfl, ?_⟩
            cases e1 : woV x with
            | true =>
              rw [e1] at key
              exact iteT key
            | false =>
              refine iteF ⟨_, rfl, x, rfl, hf, _, rfl, ?_⟩
              cases e2 : ltV x with
              | true =>
                rw [e1, e2] at key
                exact iteT key
              | false =>
                refine iteF ⟨_, rfl, x, rfl, hf, ?_⟩
                rw [e1, e2] at key
                exact key
          · rintro H1 ⟨s1, hD⟩
            rw [List.take_length] at hD
            refine ⟨D, _, rfl, SqL.of hD, _, rfl, ?_⟩
            have ea : (xs.map (fun x => woV x || ltV x || sgV x)).all id = xs.all (fun x => woV x || ltV x || sgV x) := by
              rw [List.all_map]
              rfl
            rw [ea]
            cases e1 : xs.all (fun x => woV x || ltV x || sgV x) with
            | false =>
              refine iteT ?_
              have e : exV xs = false := by
                unfold exV
                rw [e1, Bool.and_false]
                rfl
              have q2 := q H1 s1
              rw [e] at q2
              exact q2
            | true =>
              refine iteF ⟨_, rfl, t, xs, rfl, SqT.of (s1 _ _ ht), fun x hm => (hx x hm).same s1, ?_⟩
              have e : exV xs = decide (htV 0 xs = some 1) := by
                unfold exV
                rw [e1, decide_eq_true (show xs.length ≤ 15 by omega)]
                rfl
              have q2 := q H1 s1
              rw [e] at q2
              exact q2
theorem ok_lfeed (T : Txt K w mg f fd ob) : FnOk P w K mg base CX0 1 (f 6) (fd 6) ["_law_script"] (sp_lfeed K) := by
  refine T.F_lfeed.ok sc_lfeed (fun vs H Q E h => ?_) (fun cdv A outer s H vs Q E hr h => ?_)
  · obtain ⟨a, ns, rfl, _⟩ := h
    rfl
  · obtain ⟨a, ns, rfl, hS, hlen, q⟩ := h
    refine ⟨_, (pss_one (ps_ret (pe_lst (pa_cons (pe_callTy call_list_of (by rfl) T.z_list (by decide +kernel) (pa_cons (pe_slice sl_list (pv 0) po_none (po_some pe_int)) pa_nil)) (pa_cons pe_int (pa_cons pe_int pa_nil)))))), ?_⟩
    refine ⟨_, rfl, _, rfl, a, _, rfl, hS, fun c1 n1 => ⟨_, _, rfl, .inl (SqL.of upd_same), fun c n2 => ⟨(show 3 ≤ sizeLine by decide), fun p n3 => ?_⟩⟩⟩
    refine q _ p c ⟨0, upd_same, ?_, by decide, by decide⟩
    rw [upd_ne (ne_of_none upd_same n3), upd_same, cut63 (by rw [List.length_map]; exact hlen)]
theorem ok_ldraw (T : Txt K w mg f fd ob) : FnOk P w K mg base CX0 1 (f 7) (fd 7) ["_law_feed_here", "_law_many"] sp_ldraw := by
  refine T.F_ldraw.ok sc_ldraw (fun vs H Q E h => ?_) (fun cdv A outer s H vs Q E hr h => ?_)
  · obtain ⟨p, c, ns, n, m, rfl, _⟩ := h
    rfl
  · obtain ⟨p, c, ns, n, m, rfl, hP, hm0, hm1, hn1, q⟩ := h
    have hne : c ≠ p := hP.ne
    obtain ⟨r, hp, hc, hn0, hr0⟩ := hP
    refine ⟨_, (pss_cons (ps_if (pt_cmpR op_gt (pe_ix ix_list (pv 0) pe_int (fun _ _ => rfl)) pe_int (nomark _)) (pss_cons (ps_set (i := 2) sc_ldraw.nd rfl (Or.inl rfl) (pe_op op_mod (pe_ix ix_list (pv 0) pe_int (fun _ _ => rfl)) (pv 1)))
      (pss_cons (ps_asg (pe_op op_fdiv (pe_ix ix_list (pv 0) pe_int (fun _ _ => rfl)) (pv 1)) (pg_sub (pv 0) pe_int set_list))
      (pss_one (ps_ret (pv 2))))) pss_nil)
      (pss_cons (ps_set (i := 3) sc_ldraw.nd rfl (Or.inl rfl) (pe_ix ix_list (pv 0) pe_int (fun _ _ => rfl)))
      (pss_cons (ps_asg (pe_op op_add (pv 3) pe_int) (pg_sub (pv 0) pe_int set_list))
      (pss_cons (ps_set (i := 4) sc_ldraw.nd rfl (Or.inl rfl) (pv 3))
      (C8.pss_cut (ps_if (pt_cmpR op_gt (pe_callB call_len_seq (by rfl) T.z_len PySem.boot_len (pa_cons (pe_ix ix_list (pv 0) pe_int (fun _ _ => rfl)) pa_nil)) pe_int (nomark _)) (pss_one (ps_set (i := 4) sc_ldraw.nd rfl (Or.inl rfl) (pe_ix ix_list (pe_ix ix_list (pv 0) pe_int (fun _ _ => rfl)) (pe_op op_mod (pv 3) (pe_callB call_len_seq (by rfl) T.z_len PySem.boot_len (pa_cons (pe_ix ix_list (pv 0) pe_int (fun _ _ => rfl)) pa_nil))) (fun _ _ => rfl)))) pss_nil)
      (C8.pss_cut (ps_if (PW.pt (pw_and (pt_cmpR op_ge (pv 4) (pe_op op_pow pe_int pe_int) (nomark _)) (pw_and1 (pt_cmpR op_lt (pv 3) (pe_callB call_len_seq (by rfl) T.z_len PySem.boot_len (pa_cons (pe_ix ix_list (pv 0) pe_int (fun _ _ => rfl)) pa_nil)) (nomark _))))) (pss_cons (ps_asg (pe_op op_fdiv (pv 4) (pv 1)) (pg_sub (pv 0) pe_int set_list))
      (pss_one (ps_ret (pe_op op_mod (pv 4) (pv 1))))) pss_nil)
      (pss_cons (ps_set (i := 5) sc_ldraw.nd rfl (Or.inl rfl) (pe_op op_mod (pe_op op_mul (pe_op op_add (pe_op op_add (pe_op op_mod (pv 4) pe_int) (pe_op op_mul (pe_op op_mul pe_int (pv 3)) (pv 3))) pe_int) pe_int) pe_int))
      (pss_cons (ps_set (i := 5) sc_ldraw.nd rfl (Or.inl rfl) (pe_op op_mod (pe_op op_add (pe_op op_mul (pv 5) (pv 5)) (pe_op op_mul pe_int (pv 3))) pe_int))
      (pss_one (ps_ret (pe_op op_mod (pe_op op_fdiv (pe_op op_mod (pe_op op_mul (pv 5) (pe_op op_add (pe_op op_mod (pv 5) pe_int) pe_int)) pe_int) pe_int) (pv 1)))))))))))), ?_⟩
    -- if feed[2] > 0
    refine ⟨_, rfl, _, _, _, _, rfl, rfl, SqL.of hp, rfl, _, _, rfl, rfl, _, rfl, ite2 (fun h1 => ?_) (fun h1 => ?_)⟩
    · refine ⟨_, rfl, _, _, _, _, rfl, rfl, SqL.of hp, rfl, _, rfl, _, _, rfl, rfl, hm0, ?_⟩
      refine ⟨_, rfl, _, _, _, _, rfl, rfl, SqL.of hp, rfl, _, rfl, _, _, rfl, rfl, ⟨hm0, hm1⟩, _, rfl, _, _, _, _, rfl, rfl, hp, rfl, ?_⟩
      exact ⟨_, rfl, q _ _ _ (Kp.upd _) ⟨_, upd_same, (upd_ne hne).trans hc, hn0, Int.ediv_nonneg hr0 (by omega)⟩ (Int.emod_nonneg _ (by omega)) (Int.emod_lt_of_pos _ hm0) (by omega) (by omega)⟩
    · -- at = feed[1]; feed[1] = at + 1; cell = at
      refine ⟨_, rfl, _, _, _, _, rfl, rfl, SqL.of hp, rfl, ?_⟩
      refine ⟨_, rfl, _, _, rfl, rfl, _, rfl, _, _, _, _, rfl, rfl, hp, rfl, ?_⟩
      have hp1 : (upd H p (.lst [.ref c, .int (n + 1), .int r])) p = some (.lst [.ref c, .int (n + 1), .int r]) := upd_same
      have hc1 : (upd H p (.lst [.ref c, .int (n + 1), .int r])) c = some (.lst (ns.map V.int)) := (upd_ne hne).trans hc
      refine ⟨_, rfl, ?_⟩
      -- if len(feed[0]) > 0
      refine ⟨fun σ' H' => ∃ v : Int, σ' = [some (.ref p), some (.int m), none, some (.int n), some (.int v), none] ∧ H' = upd H p (.lst [.ref c, .int (n + 1), .int r]), ?_, ?_⟩
      · refine ⟨_, rfl, _, _, _, _, rfl, rfl, SqL.of hp1, rfl, _, _, rfl, .inl (SqL.of hc1), _, _, rfl, rfl, _, rfl, ite2 (fun h2 => ?_) (fun h2 => ⟨_, rfl, rfl⟩)⟩
        have hl : 0 < ((ns.map V.int).length : Int) := of_decide_eq_true h2
        obtain ⟨v, hv⟩ := atI_in (ns := ns) (Int.emod_nonneg n (by omega)) (Int.emod_lt_of_pos n hl)
        exact ⟨_, rfl, _, _, _, _, rfl, rfl, SqL.of hp1, rfl, _, rfl, _, rfl, _, _, _, _, rfl, rfl, SqL.of hp1, rfl, _, _, rfl, .inl (SqL.of hc1), _, _, rfl, rfl, hl, _, _, _, _, rfl, rfl, SqL.of hc1, hv, v, rfl, rfl⟩
      · rintro _ _ ⟨v, rfl, rfl⟩
        -- if cell >= 10 ** 18 and at < len(feed[0])
        refine ⟨fun σ' H' => σ' = [some (.ref p), some (.int m), none, some (.int n), some (.int v), none] ∧ H' = upd H p (.lst [.ref c, .int (n + 1), .int r]), ?_, ?_⟩
        · refine ⟨_, rfl, _, _, rfl, rfl, ⟨by decide, by decide, by decide⟩, _, _, rfl, rfl, _, rfl, ite2 (fun h3 => ?_) (fun h3 => iteF ⟨rfl, rfl⟩)⟩
          refine ⟨_, rfl, _, rfl, _, _, _, _, rfl, rfl, SqL.of hp1, rfl, _, _, rfl, .inl (SqL.of hc1), _, _, rfl, rfl, _, rfl, ite2 (fun h4 => ?_) (fun h4 => ⟨rfl, rfl⟩)⟩
          have hv : (10 : Int) ^ (18 : Int).toNat ≤ v := of_decide_eq_true h3
          have hv0 : 0 ≤ v := Int.le_trans (by decide) hv
          refine ⟨_, rfl, _, rfl, _, _, rfl, rfl, ⟨hm0, hm1⟩, _, rfl, _, _, _, _, rfl, rfl, hp1, rfl, ?_⟩
          refine ⟨_, rfl, _, rfl, _, _, rfl, rfl, hm0, ?_⟩
          rw [upd_upd]
          exact q _ _ (n + 1) (Kp.upd _) ⟨_, upd_same, (upd_ne hne).trans hc, by omega, Int.ediv_nonneg hv0 (by omega)⟩ (Int.emod_nonneg _ (by omega)) (Int.emod_lt_of_pos _ hm0) (by omega) (by omega)
        · rintro _ _ ⟨rfl, rfl⟩
          refine ⟨_, rfl, _, _, rfl, rfl, (by show (0 : Int) < 2147483647; decide), _, rfl, _, _, rfl, rfl, .inl ⟨by decide, by decide⟩, _, rfl, _, _, rfl, rfl, .inr ⟨by omega, by omega⟩, _, _, rfl, rfl, _, _, rfl, rfl, _, _, rfl, rfl, .inr ⟨by decide, by decide⟩, _, _, rfl, rfl, (by show (0 : Int) < 2147483647; decide), ?_⟩
          generalize hx : ((v % 2147483647 + 7919 * n * n + 104729) * 48271 % 2147483647 : Int) = x
          have hx0 : 0 ≤ x := by
            rw [← hx]
            exact Int.emod_nonneg _ (by decide)
          have hx1 : x < 2147483647 := by
            rw [← hx]
            exact Int.emod_lt_of_pos _ (by decide)
          refine ⟨_, rfl, _, rfl, _, _, rfl, rfl, .inl ⟨by omega, by omega⟩, _, rfl, _, _, rfl, rfl, .inl ⟨by decide, by decide⟩, _, _, rfl, rfl, _, _, rfl, rfl, (by show (0 : Int) < 2147483629; decide), ?_⟩
          generalize hy : ((x * x + 69621 * n) % 2147483629 : Int) = y
          have hy0 : 0 ≤ y := by
            rw [← hy]
            exact Int.emod_nonneg _ (by decide)
          have hy1 : y < 2147483629 := by
            rw [← hy]
            exact Int.emod_lt_of_pos _ (by decide)
          refine ⟨_, rfl, _, rfl, _, _, rfl, rfl, (by show (0 : Int) < 65521; decide), _, _, rfl, rfl, _, _, rfl, rfl, .inl ⟨by omega, by omega⟩, _, _, rfl, rfl, (by show (0 : Int) < 2147483587; decide), _, _, rfl, rfl, ⟨by decide, by decide⟩, _, rfl, _, _, rfl, rfl, hm0, ?_⟩
          exact q _ _ (n + 1) (Kp.upd _) ⟨_, upd_same, hc1, by omega, hr0⟩ (Int.emod_nonneg _ (by omega)) (Int.emod_lt_of_pos _ hm0) (by omega) (by omega)
theorem worth_at {i : Int} (h0 : 0 ≤ i) (h1 : i < 12) : ∃ v : Int, atI [V.int (-32768), V.int (-32767), V.int (-1), V.int 0, V.int 1, V.int 32766, V.int 32767, V.int 255, V.int 256, V.int (-256), V.int 181, V.int 182] i = some (.int v) ∧ W v := by
  have h : i = 0 ∨ i = 1 ∨ i = 2 ∨ i = 3 ∨ i = 4 ∨ i = 5 ∨ i = 6 ∨ i = 7 ∨ i = 8 ∨ i = 9 ∨ i = 10 ∨ i = 11 := by omega
  unfold W
  rcases h with rfl | rfl | rfl | rfl | rfl | rfl | rfl | rfl | rfl | rfl | rfl | rfl
  all_goals exact ⟨_, rfl, by decide, by decide⟩
theorem ok_lworth (T : Txt K w mg f fd ob) : FnOk P w K mg base CX0 2 (f 8) (fd 8) ["_law_feed_here"] sp_lworth := by
  have G_ldraw := ok_ldraw (P := P) (base := base) T
  refine T.F_lworth.ok sc_lworth (fun vs H Q E h => ?_) (fun cdv A outer s H vs Q E hr h => ?_)
  · obtain ⟨p, c, ns, n, rfl, _⟩ := h
    rfl
  · obtain ⟨p, c, ns, n, rfl, hP, hn, q⟩ := h
    have hr_ldraw := hr
    refine ⟨_, (pss_cons (ps_set (i := 1) sc_lworth.nd rfl (Or.inl rfl) (pe_call G_ldraw hr_ldraw (by rfl) T.m_ldraw T.F_ldraw.kp T.b_ldraw .nil pass0 (pa_cons (pv 0) (pa_cons pe_int pa_nil))))
      (pss_cons (ps_if (pt_cmpR op_lt (pv 1) pe_int (nomark _)) (pss_one (ps_ret (pe_op op_sub (pe_call G_ldraw hr_ldraw (by rfl) T.m_ldraw T.F_ldraw.kp T.b_ldraw .nil pass0 (pa_cons (pv 0) (pa_cons pe_int pa_nil))) pe_int))) pss_nil)
      (pss_cons (ps_if (pt_cmpR op_lt (pv 1) pe_int (nomark _)) (pss_one (ps_ret (pe_op op_sub (pe_call G_ldraw hr_ldraw (by rfl) T.m_ldraw T.F_ldraw.kp T.b_ldraw .nil pass0 (pa_cons (pv 0) (pa_cons pe_int pa_nil))) pe_int))) pss_nil)
      (pss_one (ps_ret (pe_ix ix_list (pe_lst (pa_cons (pe_un un_neg pe_int) (pa_cons (pe_un un_neg pe_int) (pa_cons (pe_un un_neg pe_int) (pa_cons pe_int (pa_cons pe_int (pa_cons pe_int (pa_cons pe_int (pa_cons pe_int (pa_cons pe_int (pa_cons (pe_un un_neg pe_int) (pa_cons pe_int (pa_cons pe_int pa_nil))))))))))))) (pe_call G_ldraw hr_ldraw (by rfl) T.m_ldraw T.F_ldraw.kp T.b_ldraw .nil pass0 (pa_cons (pv 0) (pa_cons pe_int pa_nil))) (fun _ _ => rfl))))))), ?_⟩
    refine ⟨_, rfl, p, c, ns, n, 5, rfl, hP, by decide, by decide, by omega, fun H1 d1 n1 k1 P1 d1a d1b n1a n1b => ?_⟩
    refine ⟨_, rfl, _, _, rfl, rfl, _, rfl, ite2 (fun h1 => ?_) (fun h1 => ?_)⟩
    · refine ⟨_, rfl, p, c, ns, n1, 13, rfl, P1, by decide, by decide, by omega, fun H2 d2 n2 k2 P2 d2a d2b n2a n2b => ?_⟩
      exact ⟨_, _, rfl, rfl, q _ _ _ (k1.trans k2) P2 (by omega) (by omega) ⟨by omega, by omega⟩⟩
    · refine ⟨_, rfl, _, _, rfl, rfl, _, rfl, ite2 (fun h2 => ?_) (fun h2 => ?_)⟩
      · refine ⟨_, rfl, p, c, ns, n1, 65536, rfl, P1, by decide, by decide, by omega, fun H2 d2 n2 k2 P2 d2a d2b n2a n2b => ?_⟩
        exact ⟨_, _, rfl, rfl, q _ _ _ (k1.trans k2) P2 (by omega) (by omega) ⟨by omega, by omega⟩⟩
      · refine ⟨_, rfl, _, rfl, _, rfl, _, rfl, (show 12 ≤ sizeLine by decide), fun l hl => ?_⟩
        refine ⟨_, rfl, p, c, ns, n1, 12, rfl, P1.new hl, by decide, by decide, by omega, fun H2 d2 n2 k2 P2 d2a d2b n2a n2b => ?_⟩
        obtain ⟨v, hv, hW⟩ := worth_at d2a d2b
        have e2 : H2 l = some (.lst [V.int (-32768), V.int (-32767), V.int (-1), V.int 0, V.int 1, V.int 32766, V.int 32767, V.int 255, V.int 256, V.int (-256), V.int 181, V.int 182]) := k2 _ _ (P1.ni hl) upd_same
        exact ⟨_, _, _, _, rfl, rfl, SqL.of e2, hv, q _ _ _ (k1.trans ((Kp.new hl).trans k2)) P2 (by omega) (by omega) hW⟩
theorem ok_lregister (T : Txt K w mg f fd ob) : FnOk P w K mg base CX0 2 (f 9) (fd 9) ["_law_feed_here"] sp_lregister := by
  have G_ldraw := ok_ldraw (P := P) (base := base) T
  refine T.F_lregister.ok sc_lregister (fun vs H Q E h => ?_) (fun cdv A outer s H vs Q E hr h => ?_)
  · obtain ⟨p, c, ns, n, rfl, _⟩ := h
    rfl
  · obtain ⟨p, c, ns, n, rfl, hP, hn, q⟩ := h
    have hr_ldraw := hr
    refine ⟨_, (pss_one (ps_ret (pe_ix ix_str pe_str (pe_call G_ldraw hr_ldraw (by rfl) T.m_ldraw T.F_ldraw.kp T.b_ldraw .nil pass0 (pa_cons (pv 0) (pa_cons (pe_ix ix_list (pe_lst (pa_cons pe_int (pa_cons pe_int pa_nil))) (pe_op op_fdiv (pe_call G_ldraw hr_ldraw (by rfl) T.m_ldraw T.F_ldraw.kp T.b_ldraw .nil pass0 (pa_cons (pv 0) (pa_cons pe_int pa_nil))) pe_int) (fun _ _ => rfl)) pa_nil))) (fun _ _ => rfl)))), ?_⟩
    refine ⟨_, rfl, (show 2 ≤ sizeLine by decide), fun l hl => ?_⟩
    refine ⟨_, rfl, p, c, ns, n, 3, rfl, hP.new hl, by decide, by decide, by omega, fun H1 d1 n1 k1 P1 d1a d1b n1a n1b => ?_⟩
    have e1 : H1 l = some (.lst [V.int 3, V.int 16]) := k1 _ _ (hP.ni hl) upd_same
    obtain ⟨v, hv, hv0, hv1⟩ : ∃ v : Int, atI [V.int 3, V.int 16] (d1 / 2) = some (.int v) ∧ 0 < v ∧ v ≤ 16 := by
      have h : d1 / 2 = 0 ∨ d1 / 2 = 1 := by omega
      rcases h with e | e
      · rw [e]
        exact ⟨_, rfl, by decide, by decide⟩
      · rw [e]
        exact ⟨_, rfl, by decide, by decide⟩
    refine ⟨_, _, rfl, rfl, ⟨by decide, by decide⟩, _, _, _, _, rfl, rfl, SqL.of e1, hv, p, c, ns, n1, v, rfl, P1, by omega, by omega, by omega, fun H2 d2 n2 k2 P2 d2a d2b n2a n2b => ?_⟩
    obtain ⟨j, rfl⟩ := Int.eq_ofNat_of_zero_le d2a
    have hj : j < 16 := by omega
    exact ⟨_, _, _, rfl, rfl, (by decide +kernel), lt_at j hj, q _ j n2 ((Kp.new hl).trans (k1.trans k2)) P2 (by omega) (by omega) hj⟩
theorem ok_litem (T : Txt K w mg f fd ob) : FnOk P w K mg base CX0 3 (f 10) (fd 10) ["_law_feed_here"] sp_litem := by
  have G_ldraw := ok_ldraw (P := P) (base := base) T
  have G_lworth := ok_lworth (P := P) (base := base) T
  have G_lregister := ok_lregister (P := P) (base := base) T
  refine T.F_litem.ok sc_litem (fun vs H Q E h => ?_) (fun cdv A outer s H vs Q E hr h => ?_)
  · obtain ⟨p, c, ns, n, rfl, _⟩ := h
    rfl
  · obtain ⟨p, c, ns, n, rfl, hP, hn, q⟩ := h
    have hr_lworth := hr
    have hr_lregister := hr
    have hr_ldraw : Room 1 _ := hr.mono (by decide)
    refine ⟨_, (pss_one (ps_ret (pe_ix ix_list (pe_lst (pa_cons (pe_call G_lworth hr_lworth (by rfl) T.m_lworth T.F_lworth.kp T.b_lworth .nil pass0 (pa_cons (pv 0) pa_nil)) (pa_cons (pe_call G_lregister hr_lregister (by rfl) T.m_lregister T.F_lregister.kp T.b_lregister .nil pass0 (pa_cons (pv 0) pa_nil)) pa_nil))) (pe_call G_ldraw hr_ldraw (by rfl) T.m_ldraw T.F_ldraw.kp T.b_ldraw .nil pass0 (pa_cons (pv 0) (pa_cons pe_int pa_nil))) (fun _ _ => rfl)))), ?_⟩
    refine ⟨_, rfl, p, c, ns, n, rfl, hP, by omega, fun H1 a n1 k1 P1 n1a n1b hW => ?_⟩
    refine ⟨_, rfl, p, c, ns, n1, rfl, P1, by omega, fun H2 k n2 k2 P2 n2a n2b hk => ?_⟩
    refine ⟨(show 2 ≤ sizeLine by decide), fun l hl => ?_⟩
    refine ⟨_, rfl, p, c, ns, n2, 2, rfl, P2.new hl, by decide, by decide, by omega, fun H3 d n3 k3 P3 d3a d3b n3a n3b => ?_⟩
    have e3 : H3 l = some (.lst [V.int a, V.str (lt k)]) := k3 _ _ (P2.ni hl) upd_same
    have kk := (k1.trans k2).trans ((Kp.new hl).trans k3)
    have h : d = 0 ∨ d = 1 := by omega
    rcases h with rfl | rfl
    · exact ⟨_, _, _, _, rfl, rfl, SqL.of e3, rfl, q _ (.wo a) n3 kk P3 (by omega) (by omega) hW rfl⟩
    · exact ⟨_, _, _, _, rfl, rfl, SqL.of e3, rfl, q _ (.re k) n3 kk P3 (by omega) (by omega) hk rfl⟩
theorem ok_lexpression (T : Txt K w mg f fd ob) : FnOk P w K mg base CX0 4 (f 11) (fd 11) ["_law_feed_here", "_law_most"] sp_lexpression := by
  have G_ldraw := ok_ldraw (P := P) (base := base) T
  have G_litem := ok_litem (P := P) (base := base) T
  refine T.F_lexpression.ok sc_lexpression (fun vs H Q E h => ?_) (fun cdv A outer s H vs Q E hr h => ?_)
  · obtain ⟨p, c, ns, n, most, rfl, _⟩ := h
    rfl
  · obtain ⟨p, c, ns, n, most, rfl, hP, hn, hmost, q⟩ := h
    have hr_litem := hr
    have hr_ldraw : Room 1 _ := hr.mono (by decide)
    refine ⟨_, (pss_cons (ps_set (i := 2) sc_lexpression.nd rfl (Or.inl rfl) (pe_call G_ldraw hr_ldraw (by rfl) T.m_ldraw T.F_ldraw.kp T.b_ldraw .nil pass0 (pa_cons (pv 0) (pa_cons (pe_op op_add (pv 1) pe_int) pa_nil))))
      (pss_cons (ps_par3 (i := 3) (j := 4) (l := 5) (by rfl) sc_lexpression.nd rfl rfl rfl (by decide) (by decide) (by decide) rfl rfl rfl (pa_cons (pe_lst pa_nil) (pa_cons pe_int (pa_cons (pe_op op_add (pv 2) pe_int) pa_nil))) (by rfl))
      (pss_cons (ps_for PassesOwn.never rfl (pi_range1 (by rfl) T.z_range (pa_cons (pe_op op_add (pe_op op_mul pe_int (pv 2)) pe_int) pa_nil)) (pg_name (i := 6) sc_lexpression.nd rfl (Or.inl rfl)) (pss_one (ps_if (pt_M (PW.pt (pw_or (pt_cmpR op_lt (pv 4) pe_int (nomark _)) (pw_or1 (PW.pt (pw_and (pt_cmpR op_gt (pv 5) pe_int (nomark _)) (pw_and1 (pt_cmpR op_eq (pe_call G_ldraw hr_ldraw (by rfl) T.m_ldraw T.F_ldraw.kp T.b_ldraw .nil pass0 (pa_cons (pv 0) (pa_cons pe_int pa_nil))) pe_int (nomark _))))))))) (pss_cons (ps_expr (pe_bm PySem.F.plainAttrs_list PySem.F.slot_list_append PySem.F.type_list_append mt_append (pv 3) (pa_cons (pe_call G_litem hr_litem (by rfl) T.m_litem T.F_litem.kp T.b_litem .nil pass0 (pa_cons (pv 0) pa_nil)) pa_nil)))
      (pss_one (ps_par (i := 4) (j := 5) (by rfl) sc_lexpression.nd rfl rfl (by decide) rfl rfl (pa_cons (pe_op op_add (pv 4) pe_int) (pa_cons (pe_op op_sub (pv 5) pe_int) pa_nil)) (by rfl)))) (pss_cons (ps_expr (pe_bm PySem.F.plainAttrs_list PySem.F.slot_list_append PySem.F.type_list_append mt_append (pv 3) (pa_cons (pe_ix ix_str pe_str (pe_call G_ldraw hr_ldraw (by rfl) T.m_ldraw T.F_ldraw.kp T.b_ldraw .nil pass0 (pa_cons (pv 0) (pa_cons pe_int pa_nil))) (fun _ _ => rfl)) pa_nil)))
      (pss_one (ps_set (i := 4) sc_lexpression.nd rfl (Or.inl rfl) (pe_op op_sub (pv 4) pe_int)))))))
      (pss_one (ps_ret (pe_callTy call_tuple_of (by rfl) T.z_tuple (by decide +kernel) (pa_cons (pv 3) pa_nil))))))), ?_⟩
    refine ⟨_, rfl, _, rfl, _, _, rfl, rfl, p, c, ns, n, (most : Int) + 1, rfl, hP, by omega, by omega, by omega, fun H1 d1 n1 k1 P1 d1a d1b n1a n1b => ?_⟩
    obtain ⟨sn, rfl⟩ := Int.eq_ofNat_of_zero_le d1a
    refine ⟨Nat.zero_le _, fun l hl => ⟨_, rfl, _, _, rfl, rfl, _, _, _, rfl, ?_⟩⟩
    have hHl : H l = none := k1.free (P1.ni hl) hl
    refine ⟨_, rfl, _, _, rfl, rfl, .inl ⟨by decide, by decide⟩, _, _, rfl, rfl, 2 * (sn : Int) + 1, rfl, by omega, by omega, for_range (lo := 0) (n := (2 * (sn : Int) + 1).toNat) (fun j σ' H' => ∃ (its : List Im) (h pu : Nat) (y : Option V) (n' : Int),
        σ' = [some (.ref p), some (.int most), some (.int sn), some (.ref l), some (.int (h : Int)), some (.int ((sn : Int) + 1 - pu)), y] ∧ Kp p H H' ∧ Pen H' p c ns n' ∧ n ≤ n' ∧ n' ≤ n + 1 + 6 * j ∧ H' l = some (.lst (its.map Im.toV)) ∧
        (∀ m ∈ its, m.ok) ∧ its.length = j ∧ ht 0 its = some h ∧ (h : Int) = 2 * pu - j ∧ pu ≤ sn + 1 ∧ (j = 0 ∨ 1 ≤ h))
      ⟨[], 0, 0, none, n1, rfl, k1.trans (Kp.new hl), P1.new hl, by omega, by omega, upd_same, (fun m hm => (List.not_mem_nil hm).elim), rfl, rfl, rfl, by omega, Or.inl rfl⟩ ?_ ?_⟩
    · rintro j _ H2 hj ⟨its, h, pu, y, n2, rfl, k2, P2, n2a, n2b, hl2, hok, hlen, hht, hh, hpu, hj1⟩
      have nlp : l ≠ p := P1.ni hl
      have hsz : (its.map Im.toV).length < sizeLine := by
        rw [List.length_map]
        exact small1000 (by omega)
      -- the test, with a word
      refine ⟨fun b H' => ∃ n' : Int, Kp p H2 H' ∧ Pen H' p c ns n' ∧ n2 ≤ n' ∧ n' ≤ n2 + 1 ∧ (b = true → pu < sn + 1) ∧ (b = false → 2 ≤ h), ?_, ?_⟩
      · refine ⟨_, rfl, _, _, rfl, rfl, _, rfl, ite2 (fun h1 => ?_) (fun h1 => ?_)⟩
        · have h1' : (h : Int) < 2 := of_decide_eq_true h1
          exact ⟨n2, Kp.refl _ _, P2, by omega, by omega, (fun _ => by omega), (fun z => nomatch z)⟩
        · have h1' : ¬ (h : Int) < 2 := fun z => h1 (decide_eq_true z)
          refine ⟨_, rfl, _, _, rfl, rfl, _, rfl, ite2 (fun h2 => ?_) (fun h2 => ⟨n2, Kp.refl _ _, P2, by omega, by omega, (fun z => nomatch z), (fun _ => by omega)⟩)⟩
          have h2' : 0 < (sn : Int) + 1 - pu := of_decide_eq_true h2
          refine ⟨_, rfl, p, c, ns, n2, 2, rfl, P2, by decide, by decide, by omega, fun H3 d3 n3 k3 P3 d3a d3b n3a n3b => ?_⟩
          exact ⟨rfl, _, rfl, n3, k3, P3, by omega, by omega, (fun _ => by omega), (fun _ => by omega)⟩
      · rintro b H3 ⟨n3, k3, P3, n3a, n3b, hb1, hb2⟩
        have hl3 := k3 _ _ nlp hl2
        cases b with
        | true =>
          have hpu' := hb1 rfl
          refine iteT ⟨_, rfl, .inl ⟨rfl, _, SqL.of hl3⟩, _, rfl, p, c, ns, n3, rfl, P3, by omega, fun H4 m n4 k4 P4 n4a n4b hm hs => ?_⟩
          have hl4 := k4 _ _ nlp hl3
          refine ⟨l, _, _, rfl, rfl, hl4, hsz, ?_⟩
          refine ⟨_, rfl, _, _, rfl, rfl, _, rfl, _, _, rfl, rfl, _, _, rfl, ?_⟩
          refine ⟨its ++ [m], h + 1, pu + 1, some (.int (0 + (j : Int))), n4, ?_, ?_, ?_, by omega, by omega, ?_, ?_, ?_, ?_, by omega, by omega, .inr (by omega)⟩
          · have e1 : (sn : Int) + 1 - pu - 1 = (sn : Int) + 1 - ((pu + 1 : Nat) : Int) := by omega
            show [some (V.ref p), some (V.int most), some (V.int sn), some (V.ref l), some (V.int ((h : Int) + 1)), some (V.int ((sn : Int) + 1 - pu - 1)), some (V.int (0 + (j : Int)))] = _
            rw [e1]
            rfl
          · exact Kp.mut ((k2.trans k3).trans k4) hHl
          · obtain ⟨r, g1, g2, g3, g4⟩ := P4
            have nlc : c ≠ l := fun z => by
              rw [z] at g2
              have hc0 := hP.same (Same.refl H)
              obtain ⟨r0, _, c2, _⟩ := hP
              rw [z, hHl] at c2
              cases c2
            exact ⟨r, (upd_ne nlp.symm).trans g1, (upd_ne nlc).trans g2, g3, g4⟩
          · rw [upd_same, List.map_append]
            rfl
          · intro x hx
            rcases List.mem_append.mp hx with hx | hx
            · exact hok x hx
            · rw [List.mem_singleton] at hx
              rw [hx]
              exact hm
          · rw [List.length_append, hlen]
            rfl
          · rw [ht_snoc, hht]
            show (if m.sgn = true then _ else some (h + 1)) = _
            rw [hs]
            rfl
        | false =>
          have hh2 := hb2 rfl
          refine iteF ⟨_, rfl, .inl ⟨rfl, _, SqL.of hl3⟩, _, rfl, p, c, ns, n3, 9, rfl, P3, by decide, by decide, by omega, fun H4 d4 n4 k4 P4 d4a d4b n4a n4b => ?_⟩
          obtain ⟨i, rfl⟩ := Int.eq_ofNat_of_zero_le d4a
          have hi9 : i < 9 := by omega
          have hl4 := k4 _ _ nlp hl3
          refine ⟨_, _, _, rfl, rfl, (by decide +kernel), sg_at i hi9, l, _, _, rfl, rfl, hl4, hsz, ?_⟩
          refine ⟨_, rfl, _, _, rfl, rfl, ?_⟩
          refine ⟨its ++ [.si i], h - 1, pu, some (.int (0 + (j : Int))), n4, ?_, ?_, ?_, by omega, by omega, ?_, ?_, ?_, ?_, by omega, by omega, .inr (by omega)⟩
          · have e1 : (h : Int) - 1 = ((h - 1 : Nat) : Int) := by omega
            show [some (V.ref p), some (V.int most), some (V.int sn), some (V.ref l), some (V.int ((h : Int) - 1)), some (V.int ((sn : Int) + 1 - pu)), some (V.int (0 + (j : Int)))] = _
            rw [e1]
          · exact Kp.mut ((k2.trans k3).trans k4) hHl
          · obtain ⟨r, g1, g2, g3, g4⟩ := P4
            have nlc : c ≠ l := fun z => by
              obtain ⟨r0, _, c2, _⟩ := hP
              rw [z, hHl] at c2
              cases c2
            exact ⟨r, (upd_ne nlp.symm).trans g1, (upd_ne nlc).trans g2, g3, g4⟩
          · rw [upd_same, List.map_append, List.map_singleton]
            show some (HO.lst (its.map Im.toV ++ [V.str ⟨#[codes.getD i 0]⟩])) = some (HO.lst (its.map Im.toV ++ [V.str (nm i)]))
            rw [nm_code i hi9]
          · intro x hx
            rcases List.mem_append.mp hx with hx | hx
            · exact hok x hx
            · rw [List.mem_singleton] at hx
              rw [hx]
              exact hi9
          · rw [List.length_append, hlen]
            rfl
          · rw [ht_snoc, hht]
            show (if 2 ≤ h then some (h - 1) else none) = _
            rw [if_pos hh2]
    · rintro _ H2 ⟨its, h, pu, y, n2, rfl, k2, P2, n2a, n2b, hl2, hok, hlen, hht, hh, hpu, hj1⟩
      have e1 : h = 1 := by omega
      subst e1
      refine ⟨_, rfl, _, _, rfl, .inl ⟨SqL.of hl2, fun t ht' => ?_⟩⟩
      refine q _ t its n2 (k2.trans (Kp.new ht')) (P2.new ht') (by omega) (by omega) (k2.free (P2.ni ht') ht') upd_same ⟨hok, hht⟩ (by omega) (fun z => ?_)
      rw [z] at hlen
      rw [List.length_nil] at hlen
      omega
--SPLIT
def sp_lodd : Sp := fun vs H Q _ => ∃ (p c : Addr) (ns : List Int) (n : Int), vs = [.ref p] ∧ Pen H p c ns n ∧ n < 890000 ∧
  ∀ (H' : Hp) (v : V) (n' : Int), Kp p H H' → Pen H' p c ns n' → n ≤ n' → n' ≤ n + 1 → Th H' 3 2 v → Q v H'
def sp_lbent (D : Nat) : Sp := fun vs H Q _ => ∃ (p c : Addr) (ns : List Int) (n : Int) (x : V) (d L : Nat), vs = [.ref p, x] ∧ Pen H p c ns n ∧ n + 10 * D < 880000 ∧ d ≤ D ∧ Th H L d x ∧ 3 ≤ L ∧ L ≤ 900 ∧
  ∀ (H' : Hp) (v : V) (n' : Int), Kp p H H' → Pen H' p c ns n' → n ≤ n' → n' ≤ n + 5 * D + 6 → Th H' (L + 1) (d + 2) v → Q v H'
def sp_llong : Sp := fun vs H Q _ => ∃ (p c : Addr) (ns : List Int) (n : Int), vs = [.ref p] ∧ Pen H p c ns n ∧ n < 870000 ∧
  ∀ (H' : Hp) (t : Addr) (its : List Im) (n' : Int), Kp p H H' → Pen H' p c ns n' → n ≤ n' → n' ≤ n + 200 → H' t = some (.tup (its.map Im.toV)) → (∀ m ∈ its, m.ok) → its.length ≤ 17 → Q (.ref t) H'
def sp_law (K : PySem.W.Frag) : Sp := fun vs H Q _ => ∃ (a : Addr) (ns : List Int), vs = [.ref a] ∧ SqL K H a (ns.map V.int) ∧ ns.length ≤ 63 ∧ ∀ H', Q (.bl true) H'
theorem ok_lisexp (T : Txt K w mg f fd ob) : FnOk P w K mg base CX0 1 (f 12) (fd 12) ["_law_thing"] sp_isexpA := by
  refine T.F_lisexp.ok sc_lisexp (fun vs H Q E h => ?_) (fun cdv A outer s H vs Q E hr h => ?_)
  · obtain ⟨x, rfl, _⟩ := h
    rfl
  · obtain ⟨x, rfl, hx0, hx1, q⟩ := h
    refine ⟨_, (pss_cons (ps_if (PW.pt (pw_or (pt_not (pt_val (pe_callB call_isi (by rfl) T.z_isinstance (by decide +kernel) (pa_cons (pv 0) (pa_cons (pe_bltn (v := .ty "tuple") (by rfl) T.z_tuple (by decide +kernel) rfl) pa_nil))))) (pw_or1 (pt_not (pt_chain op_le op_le pe_int (pe_callB call_len_seq (by rfl) T.z_len PySem.boot_len (pa_cons (pv 0) pa_nil)) pe_int))))) (pss_one (ps_ret pe_bl)) pss_nil)
      (pss_cons (ps_set (i := 1) sc_lisexp.nd rfl (Or.inl rfl) pe_int)
      (pss_cons (ps_for PassesOwn.never rfl (pi_tup (pv 0)) (pg_name (i := 2) sc_lisexp.nd rfl (Or.inl rfl)) (pss_cons (ps_if (pt_val (pe_callB call_isi (by rfl) T.z_isinstance (by decide +kernel) (pa_cons (pv 2) (pa_cons (pe_bltn (v := .ty "str") (by rfl) T.z_str (by decide +kernel) rfl) pa_nil)))) (pss_cons (ps_if (PW.pt (pw_or (pt_cmpR op_ne (pe_callB call_len_str (by rfl) T.z_len PySem.boot_len (pa_cons (pv 2) pa_nil)) pe_int (nomark _)) (pw_or1 (pt_cmpR op_notIn_sign (pv 2) pe_str (by rfl))))) (pss_one (ps_ret pe_bl)) pss_nil)
      (pss_one (ps_set (i := 1) sc_lisexp.nd rfl (Or.inl rfl) (pe_op op_add (pv 1) (pe_ix ix_list (pe_lst (pa_cons pe_int (pa_cons (pe_un un_neg pe_int) pa_nil))) (pe_callTy call_int1 (by rfl) T.z_int (by decide +kernel) (pa_cons (pe_cmpR op_in_sign (pv 2) pe_str (by rfl)) pa_nil)) (fun _ _ => rfl)))))) (pss_one (ps_if (PW.pt (pw_or (pt_val (pe_callB call_isi (by rfl) T.z_isinstance (by decide +kernel) (pa_cons (pv 2) (pa_cons (pe_bltn (v := .ty "bool") (by rfl) T.z_bool (by decide +kernel) rfl) pa_nil)))) (pw_or (pt_not (pt_val (pe_callB call_isi (by rfl) T.z_isinstance (by decide +kernel) (pa_cons (pv 2) (pa_cons (pe_bltn (v := .ty "int") (by rfl) T.z_int (by decide +kernel) rfl) pa_nil))))) (pw_or1 (pt_not (pt_chain op_le op_le (pe_un un_neg pe_int) (pv 2) pe_int)))))) (pss_one (ps_ret pe_bl)) (pss_one (ps_set (i := 1) sc_lisexp.nd rfl (Or.inl rfl) (pe_op op_add (pv 1) pe_int))))))
      (pss_one (ps_if (pt_cmpR op_lt (pv 1) pe_int (nomark _)) (pss_one (ps_ret pe_bl)) pss_nil))))
      (pss_one (ps_ret (pe_cmpR op_eq (pv 1) pe_int (nomark _))))))), ?_⟩
    have no : exT H x = false → Q (.bl false) H := fun e => by
      have q2 := q H (Same.refl H)
      rw [e] at q2
      exact q2
    cases x with
    | non => exact ⟨_, rfl, _, _, _, _, false, rfl, .ty _, .base .non, kit_ty (by decide +kernel), _, rfl, iteT (no rfl)⟩
    | bl b => exact ⟨_, rfl, _, _, _, _, false, rfl, .ty _, .base (.bl _), kit_ty (by decide +kernel), _, rfl, iteT (no rfl)⟩
    | int i => exact ⟨_, rfl, _, _, _, _, false, rfl, .ty _, .base (.int _), kit_ty (by decide +kernel), _, rfl, iteT (no rfl)⟩
    | str z => exact ⟨_, rfl, _, _, _, _, false, rfl, .ty _, .base (.str _), kit_ty (by decide +kernel), _, rfl, iteT (no rfl)⟩
    | byt b => exact hx0.elim
    | flt b => exact hx0.elim
    | ty n => exact hx0.elim
    | ref t =>
      rcases hx0 with ⟨xs, ht⟩ | ⟨xs, ht⟩ | ⟨xs, ht⟩
      rotate_left
      · exact ⟨_, rfl, _, _, _, _, false, rfl, .ty _, .base (.lst ht), kit_ty (by decide +kernel), _, rfl, iteT (no (exT_lst ht))⟩
      · exact ⟨_, rfl, _, _, _, _, false, rfl, .ty _, .base (.dK ht), kit_ty (by decide +kernel), _, rfl, iteT (no (exT_dK ht))⟩
      · obtain ⟨hlen, hx⟩ := hx1 t xs rfl ht
        rw [exT_tup ht] at q
        have no : ∀ H', Same H H' → exV xs = false → Q (.bl false) H' := fun H' s' e => by
          have q2 := q H' s'
          rw [e] at q2
          exact q2
        refine ⟨_, rfl, _, _, _, _, true, rfl, .ty _, .base (.tup ht), kit_ty (by decide +kernel), _, rfl, iteF ?_⟩
        refine ⟨_, rfl, _, _, rfl, .inr (SqT.of ht), _, _, rfl, rfl, _, rfl, ?_⟩
        by_cases h1 : 1 ≤ xs.length
        rotate_left
        · refine iteB0 (decide_eq_false (by omega)) ⟨_, rfl, iteT (no H (Same.refl H) (exV_ht ?_))⟩
          have e : xs = [] := List.length_eq_zero_iff.mp (by omega)
          rw [e]
          decide
        refine iteB1 (decide_eq_true (by omega)) ⟨_, _, rfl, rfl, _, rfl, ?_⟩
        by_cases h2 : xs.length ≤ 15
        rotate_left
        · refine iteB1 (by rw [decide_eq_false (by omega)]; rfl) (no H (Same.refl H) ?_)
          unfold exV
          rw [decide_eq_false h2]
          rfl
        refine iteB0 (by rw [decide_eq_true (by omega)]; rfl) ?_
        refine ⟨_, rfl, t, rfl, ⟨_, SqT.of ht⟩, for_tup (xs := xs) (fun i σ' H' => ∃ (h : Nat) (y : Option V), σ' = [some (.ref t), some (.int (h : Int)), y] ∧ Same H H' ∧ (xs.take i).all okV = true ∧ htV 0 xs = htV h (xs.drop i))
          ⟨0, none, rfl, Same.refl H, rfl, rfl⟩ (fun i σ' H' _ ⟨_, _, _, s, _⟩ => SqT.of (s _ _ ht)) ?_ ?_⟩
        · rintro i x _ H1 hi ⟨h, y, rfl, s1, hall, hh⟩
          have hl : i < xs.length := (List.getElem?_eq_some_iff.mp hi).1
          have hm : x ∈ xs := List.mem_of_getElem? hi
          have hk : Kn H1 x := (hx x hm).same s1
          have ed : xs.drop i = x :: xs.drop (i + 1) := by
            rw [List.drop_eq_getElem_cons hl]
            congr 1
            exact (List.getElem?_eq_some_iff.mp hi).2
          rw [ed] at hh
          have et : okV x = true → (xs.take (i + 1)).all okV = true := fun e => by
            rw [List.take_add_one, hi, List.all_append, hall]
            show (true && (okV x && true)) = true
            rw [e]
            rfl
          have ns : sgV x = false → htV 0 xs = htV (h + 1) (xs.drop (i + 1)) := fun e => by
            rw [hh]
            show (if sgV x = true then _ else htV (h + 1) (xs.drop (i + 1))) = _
            rw [e]
            rfl
          have bad := fun (e : okV x = false) => exV_bad hm e
          cases x with
          | non => exact ⟨_, rfl, _, _, _, _, false, rfl, .ty _, .base .non, kit_ty (by decide +kernel), _, rfl, iteF ⟨_, rfl, _, _, _, _, false, rfl, .ty _, .base .non, kit_ty (by decide +kernel), _, rfl, iteF ⟨_, rfl, _, _, _, _, false, rfl, .ty _, .base .non, kit_ty (by decide +kernel), _, rfl, iteT (no _ s1 (bad rfl))⟩⟩⟩
          | bl b => exact ⟨_, rfl, _, _, _, _, false, rfl, .ty _, .base (.bl _), kit_ty (by decide +kernel), _, rfl, iteF ⟨_, rfl, _, _, _, _, true, rfl, .ty _, .base (.bl _), kit_ty (by decide +kernel), _, rfl, iteT (no _ s1 (bad rfl))⟩⟩
          | byt b => exact hk.elim
          | flt b => exact hk.elim
          | ty n => exact hk.elim
          | ref a =>
            rcases hk with ⟨ys, e⟩ | ⟨ys, e⟩ | ⟨ys, e⟩
            · exact ⟨_, rfl, _, _, _, _, false, rfl, .ty _, .base (.tup e), kit_ty (by decide +kernel), _, rfl, iteF ⟨_, rfl, _, _, _, _, false, rfl, .ty _, .base (.tup e), kit_ty (by decide +kernel), _, rfl, iteF ⟨_, rfl, _, _, _, _, false, rfl, .ty _, .base (.tup e), kit_ty (by decide +kernel), _, rfl, iteT (no _ s1 (bad rfl))⟩⟩⟩
            · exact ⟨_, rfl, _, _, _, _, false, rfl, .ty _, .base (.lst e), kit_ty (by decide +kernel), _, rfl, iteF ⟨_, rfl, _, _, _, _, false, rfl, .ty _, .base (.lst e), kit_ty (by decide +kernel), _, rfl, iteF ⟨_, rfl, _, _, _, _, false, rfl, .ty _, .base (.lst e), kit_ty (by decide +kernel), _, rfl, iteT (no _ s1 (bad rfl))⟩⟩⟩
            · exact ⟨_, rfl, _, _, _, _, false, rfl, .ty _, .base (.dK e), kit_ty (by decide +kernel), _, rfl, iteF ⟨_, rfl, _, _, _, _, false, rfl, .ty _, .base (.dK e), kit_ty (by decide +kernel), _, rfl, iteF ⟨_, rfl, _, _, _, _, false, rfl, .ty _, .base (.dK e), kit_ty (by decide +kernel), _, rfl, iteT (no _ s1 (bad rfl))⟩⟩⟩
          | int k =>
            refine ⟨_, rfl, _, _, _, _, false, rfl, .ty _, .base (.int _), kit_ty (by decide +kernel), _, rfl, iteF ⟨_, rfl, _, _, _, _, false, rfl, .ty _, .base (.int _), kit_ty (by decide +kernel), _, rfl, iteF ⟨_, rfl, _, _, _, _, true, rfl, .ty _, .base (.int _), kit_ty (by decide +kernel), _, rfl, iteF ?_⟩⟩⟩
            refine ⟨_, rfl, _, rfl, _, _, rfl, rfl, _, rfl, ?_⟩
            by_cases g1 : -32768 ≤ k
            rotate_left
            · refine iteB0 (decide_eq_false g1) ⟨_, rfl, iteT (no _ s1 (bad ?_))⟩
              show (decide (-32768 ≤ k ∧ k ≤ 32767) || _ || _) = false
              rw [decide_eq_false (fun z => g1 z.1)]
              rfl
            refine iteB1 (decide_eq_true g1) ⟨_, _, rfl, rfl, _, rfl, ?_⟩
            by_cases g2 : k ≤ 32767
            rotate_left
            · refine iteB1 (by rw [decide_eq_false g2]; rfl) (no _ s1 (bad ?_))
              show (decide (-32768 ≤ k ∧ k ≤ 32767) || _ || _) = false
              rw [decide_eq_false (fun z => g2 z.2)]
              rfl
            refine iteB0 (by rw [decide_eq_true g2]; rfl) ⟨_, rfl, _, _, rfl, rfl, _, rfl, _, _, rfl, rfl, _, rfl, iteB0 (decide_eq_false (by omega)) ?_⟩
            refine ⟨h + 1, _, rfl, s1, et ?_, ns rfl⟩
            show (decide (-32768 ≤ k ∧ k ≤ 32767) || _ || _) = true
            rw [decide_eq_true ⟨g1, g2⟩]
            rfl
          | str z =>
            refine ⟨_, rfl, _, _, _, _, true, rfl, .ty _, .base (.str _), kit_ty (by decide +kernel), _, rfl, iteT ?_⟩
            refine ⟨_, rfl, z, rfl, len_size hk, rfl, _, rfl, ?_⟩
            by_cases g1 : z.length = 1
            rotate_left
            · refine iteB1 (by rw [decide_eq_false (fun e => g1 (by have := V.int.inj e; omega))]; rfl) (no _ s1 (bad ?_))
              show (false || ltV (.str z) || sgV (.str z)) = false
              rw [lt_len g1, sg_len g1]
              rfl
            obtain ⟨cc, rfl⟩ := one_code g1
            refine iteNS (by rw [g1]; rfl) ⟨_, rfl, cc, _, rfl, rfl, _, rfl, ?_⟩
            rw [all_mem]
            cases eo : (ltV (.str ⟨#[cc]⟩) || sgV (.str ⟨#[cc]⟩)) with
            | false =>
              refine iteT (no _ s1 (bad ?_))
              show (false || ltV (.str ⟨#[cc]⟩) || sgV (.str ⟨#[cc]⟩)) = false
              rw [Bool.false_or, eo]
            | true =>
              have eok : okV (.str ⟨#[cc]⟩) = true := by
                show (false || ltV (.str ⟨#[cc]⟩) || sgV (.str ⟨#[cc]⟩)) = true
                rw [Bool.false_or, eo]
              refine iteF ⟨_, rfl, _, rfl, (show 2 ≤ sizeLine by decide), fun l hl => ?_⟩
              refine ⟨_, rfl, cc, _, rfl, rfl, .inr ⟨_, rfl, ?_⟩⟩
              cases es : sgV (.str ⟨#[cc]⟩) with
              | false =>
                refine ⟨_, _, _, _, rfl, rfl, SqL.of upd_same, (show _ = some (V.int 1) by rw [sign_mem, es]; rfl), _, _, rfl, rfl, _, rfl, _, _, rfl, rfl, _, rfl, iteB0 (decide_eq_false (by omega)) ?_⟩
                exact ⟨h + 1, _, rfl, s1.trans (Same.new hl), et eok, ns es⟩
              | true =>
                have hs : htV 0 xs = if 2 ≤ h then htV (h - 1) (xs.drop (i + 1)) else none := by
                  rw [hh]
                  show (if sgV (.str ⟨#[cc]⟩) = true then (if 2 ≤ h then htV (h - 1) (xs.drop (i + 1)) else none) else _) = _
                  rw [es]
                  rfl
                refine ⟨_, _, _, _, rfl, rfl, SqL.of upd_same, (show _ = some (V.int (-1)) by rw [sign_mem, es]; rfl), _, _, rfl, rfl, _, rfl, _, _, rfl, rfl, _, rfl, ?_⟩
                by_cases g2 : 2 ≤ h
                · rw [if_pos g2] at hs
                  refine iteB0 (decide_eq_false (by omega)) ⟨h - 1, some (V.str ⟨#[cc]⟩), ?_, s1.trans (Same.new hl), et eok, hs⟩
                  show [some (V.ref t), some (V.int ((h : Int) + -1)), some (V.str ⟨#[cc]⟩)] = _
                  rw [show (h : Int) + -1 = ((h - 1 : Nat) : Int) by omega]
                · rw [if_neg g2] at hs
                  exact iteB1 (decide_eq_true (by omega)) (no _ (s1.trans (Same.new hl)) (exV_ht (by rw [hs]; exact fun e => by cases e)))
        · rintro _ H1 ⟨h, y, rfl, s1, hall, hh⟩
          rw [List.take_length] at hall
          rw [List.drop_length] at hh
          have q2 := q H1 s1
          rw [exV_all hall h2, hh] at q2
          have e : decide (htV h [] = some 1) = decide (V.int (h : Int) = V.int 1) := by
            show decide (some h = some 1) = _
            by_cases g : h = 1
            · subst g
              rfl
            · rw [decide_eq_false (fun z => g (Option.some.inj z)), decide_eq_false (fun z => g (by have := V.int.inj z; omega))]
          rw [e] at q2
          exact ⟨_, rfl, rfl, q2⟩
theorem ok_lodd (T : Txt K w mg f fd ob) : FnOk P w K mg base CX0 2 (f 13) (fd 13) ["_law_feed_here"] sp_lodd := by
  have G_ldraw := ok_ldraw (P := P) (base := base) T
  refine T.F_lodd.ok sc_lodd (fun vs H Q E h => ?_) (fun cdv A outer s H vs Q E hr h => ?_)
  · obtain ⟨p, c, ns, n, rfl, _⟩ := h
    rfl
  · obtain ⟨p, c, ns, n, rfl, hP, hn, q⟩ := h
    have hr_ldraw := hr
    refine ⟨_, (pss_cons (ps_set (i := 1) sc_lodd.nd rfl (Or.inl rfl) (pe_lst (pa_cons pe_non (pa_cons pe_bl (pa_cons pe_bl (pa_cons (pe_un un_neg pe_int) (pa_cons pe_int (pa_cons (pe_op op_pow pe_int pe_int) (pa_cons pe_str (pa_cons pe_str (pa_cons pe_str (pa_cons pe_str (pa_cons pe_str (pa_cons (pe_tup pa_nil) (pa_cons (pe_tup (pa_cons pe_int pa_nil)) (pa_cons (pe_lst (pa_cons pe_int pa_nil)) (pa_cons pe_dnewK (pa_cons pe_str (pa_cons pe_str (pa_cons pe_str pa_nil))))))))))))))))))))
      (pss_one (ps_ret (pe_ix ix_list (pe_op op_cat (pv 1) (pe_lst (pa_cons pe_str (pa_cons pe_str (pa_cons pe_int (pa_cons (pe_un un_neg pe_int) (pa_cons pe_int (pa_cons pe_int (pa_cons (pe_tup (pa_cons pe_str (pa_cons pe_str (pa_cons (pe_tup (pa_cons pe_int pa_nil)) pa_nil)))) pa_nil))))))))) (pe_call G_ldraw hr_ldraw (by rfl) T.m_ldraw T.F_ldraw.kp T.b_ldraw .nil pass0 (pa_cons (pv 0) (pa_cons pe_int pa_nil))) (fun _ _ => rfl))))), ?_⟩
    refine ⟨_, rfl, _, _, rfl, rfl, ⟨by decide, by decide, by decide⟩, Nat.zero_le _, fun a1 h1 => ⟨(show 1 ≤ sizeLine by decide), fun a2 h2 => ⟨(show 1 ≤ sizeLine by decide), fun a3 h3 => fun a4 h4 => ⟨(show 18 ≤ sizeLine by decide), fun l1 g1 => ?_⟩⟩⟩⟩
    refine ⟨_, rfl, _, rfl, (show 1 ≤ sizeLine by decide), fun a5 h5 => ⟨(show 3 ≤ sizeLine by decide), fun a6 h6 => ⟨(show 7 ≤ sizeLine by decide), fun l2 g2 => ?_⟩⟩⟩
    refine ⟨_, _, _, _, rfl, rfl, ((Same.new h5).trans ((Same.new h6).trans (Same.new g2))) _ _ upd_same, upd_same, (show 18 + 7 ≤ sizeLine by decide), fun l3 g3 => ?_⟩
    refine ⟨_, rfl, p, c, ns, n, 25, rfl, (((((((((hP.new h1).new h2).new h3).new h4).new g1).new h5).new h6).new g2).new g3), by decide, by decide, by omega, fun H' d n' k P' da db na nb => ?_⟩
    obtain ⟨j, rfl⟩ := Int.eq_ofNat_of_zero_le da
    have f1 := k _ _ (hP.ni h1) (((Same.new h2).trans ((Same.new h3).trans ((Same.new h4).trans ((Same.new g1).trans ((Same.new h5).trans ((Same.new h6).trans ((Same.new g2).trans (Same.new g3)))))))) _ _ upd_same)
    have f2 := k _ _ ((hP.new h1).ni h2) (((Same.new h3).trans ((Same.new h4).trans ((Same.new g1).trans ((Same.new h5).trans ((Same.new h6).trans ((Same.new g2).trans (Same.new g3))))))) _ _ upd_same)
    have f3 := k _ _ (((hP.new h1).new h2).ni h3) (((Same.new h4).trans ((Same.new g1).trans ((Same.new h5).trans ((Same.new h6).trans ((Same.new g2).trans (Same.new g3)))))) _ _ upd_same)
    have f4 := k _ _ ((((hP.new h1).new h2).new h3).ni h4) (((Same.new g1).trans ((Same.new h5).trans ((Same.new h6).trans ((Same.new g2).trans (Same.new g3))))) _ _ upd_same)
    have f5 := k _ _ ((((((hP.new h1).new h2).new h3).new h4).new g1).ni h5) (((Same.new h6).trans ((Same.new g2).trans (Same.new g3))) _ _ upd_same)
    have f6 := k _ _ (((((((hP.new h1).new h2).new h3).new h4).new g1).new h5).ni h6) (((Same.new g2).trans (Same.new g3)) _ _ upd_same)
    have e3 := k _ _ (((((((((hP.new h1).new h2).new h3).new h4).new g1).new h5).new h6).new g2).ni g3) upd_same
    have kk := (Same.kp (p := p) ((Same.new h1).trans ((Same.new h2).trans ((Same.new h3).trans ((Same.new h4).trans ((Same.new g1).trans ((Same.new h5).trans ((Same.new h6).trans ((Same.new g2).trans (Same.new g3)))))))))).trans k
    suffices key : ∀ l : List V, H' l3 = some (.lst l) → (∀ y ∈ l, Th H' 3 2 y) → l.length = 25 → rIxL K (V.ref l3) (V.int (j : Int)) H' Q by
      refine key _ e3 (List.forall_mem_append.mpr ⟨?_, ?_⟩) rfl
      · exact (fm (.inl trivial) (fm (.inl trivial) (fm (.inl trivial) (fm (.inl trivial) (fm (.inl trivial) (fm (.inl trivial) (fm (thS (by decide +kernel)) (fm (thS (by decide +kernel)) (fm (thS (by decide +kernel)) (fm (thS (by decide +kernel)) (fm (thS (by decide +kernel)) (fm (thT f1 (Nat.zero_le _) fn) (fm (thT f2 (show 1 ≤ 3 by decide) (fm (.inl trivial) fn)) (fm (.inl (.inl ⟨_, f3⟩)) (fm (.inl (.inr ⟨_, f4⟩)) (fm (thS (by decide +kernel)) (fm (thS (by decide +kernel)) (fm (thS (by decide +kernel)) fn))))))))))))))))))
      · exact (fm (thS (by decide +kernel)) (fm (thS (by decide +kernel)) (fm (.inl trivial) (fm (.inl trivial) (fm (.inl trivial) (fm (.inl trivial) (fm (thT f6 (show 3 ≤ 3 by decide) (fm (thS (by decide +kernel)) (fm (thS (by decide +kernel)) (fm (thT f5 (show 1 ≤ 3 by decide) (fm trivial fn)) fn)))) fn)))))))
    intro l e3 hall hl
    obtain ⟨x, hx, hT⟩ := pickAll hall (show j < l.length by omega)
    exact ⟨_, _, _, _, rfl, rfl, SqL.of e3, hx, q _ x n' kk P' (by omega) (by omega) hT⟩
def prevSp : Nat → Sp
  | 0 => fun _ _ _ _ => False
  | D + 1 => sp_lbent D
theorem step_lbent (T : Txt K w mg f fd ob) (D : Nat) (G_lbent : FnOk P w K mg base CX0 (2 + D) (f 14) (fd 14) ["_law_feed_here", "_law_thing"] (prevSp D)) : FnOk P w K mg base CX0 (2 + D + 1) (f 14) (fd 14) ["_law_feed_here", "_law_thing"] (sp_lbent D) := by
  have G_ldraw := ok_ldraw (P := P) (base := base) T
  have G_lodd := ok_lodd (P := P) (base := base) T
  refine T.F_lbent.ok sc_lbent (fun vs H Q E h => ?_) (fun cdv A outer s H vs Q E hr h => ?_)
  · obtain ⟨p, c, ns, n, x, d, L, rfl, _⟩ := h
    rfl
  · obtain ⟨p, c, ns, n, x, d, L, rfl, hP, hn, hd, hx, hL3, hL9, q⟩ := h
    have hn0 := hP.nn
    have hr_lbent := hr
    have hr_lodd : Room 2 _ := hr.mono (by omega)
    have hr_ldraw : Room 1 _ := hr.mono (by omega)
    refine ⟨_, (pss_cons (ps_if (pt_M (PW.pt (pw_or (pt_not (pt_val (pe_callB call_isi (by rfl) T.z_isinstance (by decide +kernel) (pa_cons (pv 1) (pa_cons (pe_bltn (v := .ty "tuple") (by rfl) T.z_tuple (by decide +kernel) rfl) pa_nil))))) (pw_or (pt_cmpR (op_eqE hr.units) (pv 1) (pe_tup pa_nil) (nomark _)) (pw_or1 (pt_cmpR op_eq (pe_call G_ldraw hr_ldraw (by rfl) T.m_ldraw T.F_ldraw.kp T.b_ldraw .nil pass0 (pa_cons (pv 0) (pa_cons pe_int pa_nil))) pe_int (nomark _))))))) (pss_one (ps_ret (pe_call G_lodd hr_lodd (by rfl) T.m_lodd T.F_lodd.kp T.b_lodd .nil pass0 (pa_cons (pv 0) pa_nil)))) pss_nil)
      (pss_cons (ps_par (i := 2) (j := 3) (by rfl) sc_lbent.nd rfl rfl (by decide) rfl rfl (pa_cons (pe_call G_ldraw hr_ldraw (by rfl) T.m_ldraw T.F_ldraw.kp T.b_ldraw .nil pass0 (pa_cons (pv 0) (pa_cons (pe_callB call_len_seq (by rfl) T.z_len PySem.boot_len (pa_cons (pv 1) pa_nil)) pa_nil))) (pa_cons (pe_call G_ldraw hr_ldraw (by rfl) T.m_ldraw T.F_ldraw.kp T.b_ldraw .nil pass0 (pa_cons (pv 0) (pa_cons (pe_callB call_len_seq (by rfl) T.z_len PySem.boot_len (pa_cons (pv 1) pa_nil)) pa_nil))) pa_nil)) (by rfl))
      (pss_cons (ps_set (i := 4) sc_lbent.nd rfl (Or.inl rfl) (pe_call G_ldraw hr_ldraw (by rfl) T.m_ldraw T.F_ldraw.kp T.b_ldraw .nil pass0 (pa_cons (pv 0) (pa_cons pe_int pa_nil))))
      (pss_cons (ps_if (pt_cmpR op_lt (pv 4) pe_int (nomark _)) (pss_one (ps_ret (pe_op op_catA (pe_M (pe_op op_catA (pe_slice sl_tupA (pv 1) po_none (po_some (pv 2))) (pe_tup (pa_cons (pe_call G_lbent hr_lbent (by rfl) T.m_lbent T.F_lbent.kp T.b_lbent .nil pass0 (pa_cons (pv 0) (pa_cons (pe_ix ix_tup (pv 1) (pv 2) (fun _ _ => rfl)) pa_nil))) pa_nil)))) (pe_slice sl_tupA (pv 1) (po_some (pe_op op_add (pv 2) pe_int)) po_none)))) pss_nil)
      (pss_cons (ps_if (pt_cmpR op_eq (pv 4) pe_int (nomark _)) (pss_one (ps_ret (pe_op op_catA (pe_slice sl_tupA (pv 1) po_none (po_some (pv 2))) (pe_slice sl_tupA (pv 1) (po_some (pe_op op_add (pv 2) pe_int)) po_none)))) pss_nil)
      (pss_cons (ps_if (pt_cmpR op_eq (pv 4) pe_int (nomark _)) (pss_one (ps_ret (pe_op op_catA (pe_M (pe_op op_catA (pe_slice sl_tupA (pv 1) po_none (po_some (pv 2))) (pe_tup (pa_cons (pe_ix ix_tup (pv 1) (pv 3) (fun _ _ => rfl)) pa_nil)))) (pe_slice sl_tupA (pv 1) (po_some (pv 2)) po_none)))) pss_nil)
      (pss_one (ps_ret (pe_ix ix_list (pe_lst (pa_cons (pe_M (pe_op op_catA (pe_M (pe_op op_catA (pe_slice sl_tupA (pv 1) po_none (po_some (pv 2))) (pe_tup (pa_cons (pe_ix ix_tup (pv 1) (pv 3) (fun _ _ => rfl)) pa_nil)))) (pe_slice sl_tupA (pv 1) (po_some (pe_op op_add (pv 2) pe_int)) po_none))) (pa_cons (pe_ix ix_list (pe_lst (pa_cons (pe_revT (pv 1)) (pa_cons (pe_callTy call_list_of (by rfl) T.z_list (by decide +kernel) (pa_cons (pv 1) pa_nil)) pa_nil))) (pe_call G_ldraw hr_ldraw (by rfl) T.m_ldraw T.F_ldraw.kp T.b_ldraw .nil pass0 (pa_cons (pv 0) (pa_cons pe_int pa_nil))) (fun _ _ => rfl)) pa_nil))) (pe_op op_sub (pv 4) pe_int) (fun _ _ => rfl)))))))))), ?_⟩
    refine ⟨fun b H' => ∃ n', Kp p H H' ∧ Pen H' p c ns n' ∧ n ≤ n' ∧ n' ≤ n + 1 ∧ (b = false → ∃ t xs d', x = .ref t ∧ H' t = some (.tup xs) ∧ xs ≠ [] ∧ xs.length ≤ L ∧ d = d' + 1 ∧ ∀ y ∈ xs, Th H' L d' y), ?_, ?_⟩
    · have low : Low H x → _ := fun hlow => (⟨n, Kp.refl p H, hP, by omega, by omega, fun e => by cases e⟩ : ∃ n', Kp p H H ∧ Pen H p c ns n' ∧ n ≤ n' ∧ n' ≤ n + 1 ∧ (true = false → ∃ t xs d', x = .ref t ∧ H t = some (.tup xs) ∧ xs ≠ [] ∧ xs.length ≤ L ∧ d = d' + 1 ∧ ∀ y ∈ xs, Th H L d' y))
      have hx2 : Low H x ∨ ∃ t xs d', x = .ref t ∧ H t = some (.tup xs) ∧ xs.length ≤ L ∧ d = d' + 1 ∧ ∀ y ∈ xs, Th H L d' y := by
        cases d with
        | zero => exact .inl hx
        | succ d =>
          rcases hx with hx | ⟨t, xs, e, ht, hl, hy⟩
          · exact .inl hx
          · exact .inr ⟨t, xs, d, e, ht, hl, rfl, hy⟩
      rcases hx2 with hlow | ⟨t, xs, d', rfl, ht, hl, rfl, hy⟩
      · have m := low hlow
        cases x with
        | non => exact ⟨_, rfl, _, _, _, _, false, rfl, .ty _, .base .non, kit_ty (by decide +kernel), _, rfl, iteT m⟩
        | bl b => exact ⟨_, rfl, _, _, _, _, false, rfl, .ty _, .base (.bl _), kit_ty (by decide +kernel), _, rfl, iteT m⟩
        | int i => exact ⟨_, rfl, _, _, _, _, false, rfl, .ty _, .base (.int _), kit_ty (by decide +kernel), _, rfl, iteT m⟩
        | str z => exact ⟨_, rfl, _, _, _, _, false, rfl, .ty _, .base (.str _), kit_ty (by decide +kernel), _, rfl, iteT m⟩
        | byt b => exact hlow.elim
        | flt b => exact hlow.elim
        | ty n => exact hlow.elim
        | ref a =>
          rcases hlow with ⟨ys, e⟩ | ⟨ys, e⟩
          · exact ⟨_, rfl, _, _, _, _, false, rfl, .ty _, .base (.lst e), kit_ty (by decide +kernel), _, rfl, iteT m⟩
          · exact ⟨_, rfl, _, _, _, _, false, rfl, .ty _, .base (.dK e), kit_ty (by decide +kernel), _, rfl, iteT m⟩
      · refine ⟨_, rfl, _, _, _, _, true, rfl, .ty _, .base (.tup ht), kit_ty (by decide +kernel), _, rfl, iteF ?_⟩
        refine ⟨_, rfl, Nat.zero_le _, fun e he => ⟨t, e, xs, rfl, rfl, SqT.of (Same.new he _ _ ht), SqT.of upd_same, _, rfl, ?_⟩⟩
        by_cases hxs : xs = []
        · exact iteB1 (decide_eq_true hxs) ⟨n, Kp.new he, hP.new he, by omega, by omega, fun e => by cases e⟩
        · refine iteB0 (decide_eq_false hxs) ⟨_, rfl, p, c, ns, n, 9, rfl, hP.new he, by decide, by decide, by omega, fun H1 g n1 k1 P1 ga gb n1a n1b => ⟨rfl, _, rfl, ?_⟩⟩
          have ht1 := Same.new (o := .tup []) he _ _ ht
          exact ⟨n1, (Kp.new he).trans k1, P1, by omega, by omega, fun _ => ⟨t, xs, d', rfl, k1 _ _ ((hP.new he).nt ht1 (fun _ z => by cases z)) ht1, hxs, hl, rfl, fun y hm => Th.kp k1 (hP.new he) P1 (Th.same (Same.new he) (hy y hm))⟩⟩
    rintro b H1 ⟨n1, k1, P1, n1a, n1b, hb⟩
    cases b with
    | true => exact iteT ⟨_, rfl, p, c, ns, n1, rfl, P1, by omega, fun H2 v n2 k2 P2 n2a n2b hT => q _ v n2 (k1.trans k2) P2 (by omega) (by omega) (hT.mono (by omega) (by omega))⟩
    | false =>
      obtain ⟨t, xs, d', rfl, ht, hne, hl, rfl, hy⟩ := hb rfl
      obtain ⟨D', rfl⟩ : ∃ D', D = D' + 1 := ⟨D - 1, by omega⟩
      have hpos : 0 < xs.length := List.length_pos_iff.mpr hne
      have ntp : t ≠ p := P1.nt ht (fun _ z => by cases z)
      refine iteF ⟨_, rfl, _, rfl, _, _, rfl, .inr (SqT.of ht), p, c, ns, n1, ((xs.length : Nat) : Int), rfl, P1, by omega, by omega, by omega, fun H2 a2 n2 k2 P2 a2a a2b n2a n2b => ?_⟩
      have ht2 := k2 _ _ ntp ht
      refine ⟨_, rfl, _, rfl, _, _, rfl, .inr (SqT.of ht2), p, c, ns, n2, ((xs.length : Nat) : Int), rfl, P2, by omega, by omega, by omega, fun H3 a3 n3 k3 P3 a3a a3b n3a n3b => ⟨_, _, rfl, ?_⟩⟩
      obtain ⟨i, rfl⟩ := Int.eq_ofNat_of_zero_le a2a
      obtain ⟨j, rfl⟩ := Int.eq_ofNat_of_zero_le a3a
      have hi : i < xs.length := by omega
      have hj : j < xs.length := by omega
      refine ⟨_, rfl, p, c, ns, n3, 10, rfl, P3, by decide, by decide, by omega, fun H4 w4 n4 k4 P4 w4a w4b n4a n4b => ?_⟩
      have ht4 := k4 _ _ ntp (k3 _ _ ntp ht2)
      have k14 : Kp p H H4 := ((k1.trans k2).trans k3).trans k4
      have hy4 : ∀ y ∈ xs, Th H4 L d' y := fun y hm => Th.kp ((k2.trans k3).trans k4) P1 P4 (hy y hm)
      have big : ∀ {k : Nat}, k ≤ 1000 → k ≤ sizeLine := fun h => Nat.le_trans h (by decide)
      have hat : atI xs ((i : Nat) : Int) = some xs[i] := atI_nat (List.getElem?_eq_getElem hi)
      have haf : atI xs ((j : Nat) : Int) = some xs[j] := atI_nat (List.getElem?_eq_getElem hj)
      have hmi : xs[i] ∈ xs := List.getElem_mem hi
      have hmj : xs[j] ∈ xs := List.getElem_mem hj
      generalize xs[i] = xi at hat hmi
      generalize xs[j] = xj at haf hmj
      have e1 : cutV xs none (some ((i : Nat) : Int)) = xs.take i := cutTo xs i
      have e2 : cutV xs (some (((i : Nat) : Int) + 1)) none = xs.drop (i + 1) := cutFrom (k := i + 1) xs (by omega)
      have e3 : cutV xs (some ((i : Nat) : Int)) none = xs.drop i := cutFrom xs (by omega)
      have lt1 : (xs.take i).length = i := by
        rw [List.length_take]
        omega
      have ld1 : (xs.drop (i + 1)).length = xs.length - (i + 1) := List.length_drop
      have ld0 : (xs.drop i).length = xs.length - i := List.length_drop
      have inT : ∀ y ∈ xs.take i, y ∈ xs := fun y hm => List.mem_of_mem_take hm
      have inD : ∀ k, ∀ y ∈ xs.drop k, y ∈ xs := fun k y hm => List.mem_of_mem_drop hm
      -- told: a tuple of things that are there
      have told : ∀ (H' : Hp) (r : Addr) (zs : List V), Same H4 H' → H' r = some (.tup zs) → zs.length ≤ L + 1 → (∀ y ∈ zs, y ∈ xs) → Q (.ref r) H' := fun H' r zs s hr hlz hz =>
        q H' (.ref r) n4 (k14.trans (Same.kp s)) (P4.same s) (by omega) (by omega) (thT hr hlz fun y hm => (Th.same s (hy4 y (hz y hm))).mono (by omega) (by omega))
      refine ⟨_, rfl, _, _, rfl, rfl, _, rfl, ite2 (fun _ => ?_) (fun hw => ?_)⟩
      · refine ⟨fun v H' => ∃ (r : Addr) (y : V) (n' : Int), v = .ref r ∧ Kp p H4 H' ∧ Pen H' p c ns n' ∧ n4 ≤ n' ∧ n' ≤ n4 + 5 * D' + 6 ∧ H' r = some (.tup (xs.take i ++ [y])) ∧ Th H' (L + 1) (d' + 2) y, ?_, ?_⟩
        · refine ⟨_, rfl, _, rfl, _, rfl, slAny ht4 fun r1 H5 s5 hr1 => ?_⟩
          rw [e1] at hr1
          refine ⟨_, rfl, _, rfl, _, rfl, _, _, _, _, rfl, rfl, SqT.of (s5 _ _ ht4), hat, ?_⟩
          refine ⟨p, c, ns, n4, xi, d', L, rfl, P4.same s5, by omega, by omega, Th.same s5 (hy4 _ hmi), hL3, hL9, fun H6 v n6 k6 P6 n6a n6b hT => ⟨(show 1 ≤ sizeLine by decide), fun t1 ht1 => ?_⟩⟩
          have hr1' := Same.new (o := .tup [v]) ht1 _ _ (k6 _ _ ((P4.same s5).nt hr1 (fun _ z => by cases z)) hr1)
          refine catAny hr1' upd_same (big (by rw [lt1, List.length_singleton]; omega)) fun r H7 s7 hr7 => ?_
          exact ⟨r, v, n6, rfl, ((((Same.kp s5)).trans k6).trans (Kp.new ht1)).trans (Same.kp s7), (P6.new ht1).same s7, by omega, by omega, hr7, Th.same ((Same.new ht1).trans s7) hT⟩
        · rintro _ H7 ⟨r, y, n7, rfl, k7, P7, n7a, n7b, hr7, hT7⟩
          refine ⟨_, rfl, _, rfl, _, _, rfl, rfl, _, rfl, slFrom (k7 _ _ ntp ht4) fun r2 H8 s8 hr2 => ?_⟩
          rw [e2] at hr2
          refine catAny (s8 _ _ hr7) hr2 (big (by rw [List.length_append, lt1, ld1, List.length_singleton]; omega)) fun r3 H9 s9 hr3 => ?_
          refine q H9 (.ref r3) n7 ((k14.trans k7).trans (Same.kp (s8.trans s9))) (P7.same (s8.trans s9)) (by omega) (by omega) (thT hr3 ?_ fun z hz => ?_)
          · rw [List.length_append, List.length_append, lt1, ld1, List.length_singleton]
            omega
          · have old : ∀ z ∈ xs, Th H9 (L + 1) (d' + 2) z := fun z hm => (Th.same (s8.trans s9) (Th.kp k7 P4 P7 (hy4 z hm))).mono (by omega) (by omega)
            rcases List.mem_append.mp hz with hz | hz
            · rcases List.mem_append.mp hz with hz | hz
              · exact old z (inT z hz)
              · rw [List.mem_singleton] at hz
                rw [hz]
                exact Th.same (s8.trans s9) hT7
            · exact old z (inD _ z hz)
      refine ⟨_, rfl, rfl, _, rfl, ite2 (fun _ => ?_) (fun hw6 => ?_)⟩
      · refine ⟨_, rfl, _, rfl, _, rfl, slAny ht4 fun r1 H5 s5 hr1 => ?_⟩
        rw [e1] at hr1
        refine ⟨_, rfl, _, rfl, _, _, rfl, rfl, _, rfl, slFrom (s5 _ _ ht4) fun r2 H6 s6 hr2 => ?_⟩
        rw [e2] at hr2
        refine catAny (s6 _ _ hr1) hr2 (big (by rw [lt1, ld1]; omega)) fun r3 H7 s7 hr3 => ?_
        refine told H7 r3 _ ((s5.trans s6).trans s7) hr3 (by rw [List.length_append, lt1, ld1]; omega) fun y hm => ?_
        rcases List.mem_append.mp hm with hm | hm
        · exact inT y hm
        · exact inD _ y hm
      have front : ∀ {Hx : Hp}, Same H4 Hx → ∀ y, y = xj → (∀ z ∈ xs.take i ++ [y], z ∈ xs) := fun _ y hyj z hz => by
        rcases List.mem_append.mp hz with hz | hz
        · exact inT z hz
        · rw [List.mem_singleton] at hz
          rw [hz, hyj]
          exact hmj
      refine ⟨_, rfl, rfl, _, rfl, ite2 (fun _ => ?_) (fun hw7 => ?_)⟩
      · refine ⟨fun v H' => ∃ r : Addr, v = .ref r ∧ Same H4 H' ∧ H' r = some (.tup (xs.take i ++ [xj])), ?_, ?_⟩
        · refine ⟨_, rfl, _, rfl, _, rfl, slAny ht4 fun r1 H5 s5 hr1 => ?_⟩
          rw [e1] at hr1
          refine ⟨_, rfl, _, rfl, _, _, _, _, rfl, rfl, SqT.of (s5 _ _ ht4), haf, (show 1 ≤ sizeLine by decide), fun t1 ht1 => ?_⟩
          refine catAny (Same.new ht1 _ _ hr1) upd_same (big (by rw [lt1, List.length_singleton]; omega)) fun r H7 s7 hr7 => ?_
          exact ⟨r, rfl, (s5.trans (Same.new ht1)).trans s7, hr7⟩
        · rintro _ H7 ⟨r, rfl, s7, hr7⟩
          refine ⟨_, rfl, _, rfl, _, rfl, slFrom (s7 _ _ ht4) fun r2 H8 s8 hr2 => ?_⟩
          rw [e3] at hr2
          refine catAny (s8 _ _ hr7) hr2 (big (by rw [List.length_append, lt1, ld0, List.length_singleton]; omega)) fun r3 H9 s9 hr3 => ?_
          refine told H9 r3 _ ((s7.trans s8).trans s9) hr3 (by rw [List.length_append, List.length_append, lt1, ld0, List.length_singleton]; omega) fun y hm => ?_
          rcases List.mem_append.mp hm with hm | hm
          · exact front s7 xj rfl y hm
          · exact inD _ y hm
      have hw8 : w4 = 8 ∨ w4 = 9 := by
        have a1 : ¬ w4 < 6 := fun z => hw (decide_eq_true z)
        have a2 : w4 ≠ 6 := fun z => hw6 (decide_eq_true (by rw [z]))
        have a3 : w4 ≠ 7 := fun z => hw7 (decide_eq_true (by rw [z]))
        omega
      refine ⟨fun v H' => ∃ r : Addr, v = .ref r ∧ Same H4 H' ∧ H' r = some (.tup (xs.take i ++ [xj] ++ xs.drop (i + 1))), ?_, ?_⟩
      · refine ⟨fun v H' => ∃ r : Addr, v = .ref r ∧ Same H4 H' ∧ H' r = some (.tup (xs.take i ++ [xj])), ?_, ?_⟩
        · refine ⟨_, rfl, _, rfl, _, rfl, slAny ht4 fun r1 H5 s5 hr1 => ?_⟩
          rw [e1] at hr1
          refine ⟨_, rfl, _, rfl, _, _, _, _, rfl, rfl, SqT.of (s5 _ _ ht4), haf, (show 1 ≤ sizeLine by decide), fun t1 ht1 => ?_⟩
          refine catAny (Same.new ht1 _ _ hr1) upd_same (big (by rw [lt1, List.length_singleton]; omega)) fun r H7 s7 hr7 => ?_
          exact ⟨r, rfl, (s5.trans (Same.new ht1)).trans s7, hr7⟩
        · rintro _ H7 ⟨r, rfl, s7, hr7⟩
          refine ⟨_, rfl, _, rfl, _, _, rfl, rfl, _, rfl, slFrom (s7 _ _ ht4) fun r2 H8 s8 hr2 => ?_⟩
          rw [e2] at hr2
          refine catAny (s8 _ _ hr7) hr2 (big (by rw [List.length_append, lt1, ld1, List.length_singleton]; omega)) fun r3 H9 s9 hr3 => ?_
          exact ⟨r3, rfl, (s7.trans s8).trans s9, hr3⟩
      · rintro _ H5 ⟨r, rfl, s5, hr5⟩
        have P5 := P4.same s5
        refine ⟨_, rfl, t, xs, rfl, SqT.of (s5 _ _ ht4), fun r6 hr6 => ?_⟩
        refine ⟨_, rfl, _, _, rfl, .inr (SqT.of (Same.new hr6 _ _ (s5 _ _ ht4))), fun l7 hl7 => ⟨(show 2 ≤ sizeLine by decide), fun l8 hl8 => ?_⟩⟩
        refine ⟨_, rfl, p, c, ns, n4, 2, rfl, ((P5.new hr6).new hl7).new hl8, by decide, by decide, by omega, fun H9 b n9 k9 P9 ba bb n9a n9b => ?_⟩
        have s8 := (Same.new hr6).trans ((Same.new hl7).trans (Same.new (o := .lst [V.ref r6, V.ref l7]) hl8))
        have e8 := k9 _ _ (((P5.new hr6).new hl7).ni hl8) upd_same
        have f6 := k9 _ _ (P5.ni hr6) (((Same.new hl7).trans (Same.new hl8)) _ _ upd_same)
        have f7 := k9 _ _ ((P5.new hr6).ni hl7) ((Same.new hl8) _ _ upd_same)
        have f5 := k9 _ _ (P5.nt hr5 (fun _ z => by cases z)) (s8 _ _ hr5)
        have k49 : Kp p H4 H9 := ((Same.kp s5).trans (Same.kp s8)).trans k9
        have old : ∀ z ∈ xs, Th H9 (L + 1) (d' + 2) z := fun z hm => (Th.kp k49 P4 P9 (hy4 z hm)).mono (by omega) (by omega)
        have fin : ∀ (H' : Hp) (v : V), Same H9 H' → Th H9 (L + 1) (d' + 1 + 2) v → Q v H' := fun H' v s hT => q H' v n9 ((k14.trans k49).trans (Same.kp s)) (P9.same s) (by omega) (by omega) (Th.same s hT)
        have v5 : Th H9 (L + 1) (d' + 1 + 2) (.ref r) := by
          refine thT f5 ?_ fun z hz => ?_
          · rw [List.length_append, List.length_append, lt1, ld1, List.length_singleton]
            omega
          · rcases List.mem_append.mp hz with hz | hz
            · exact old z (front s5 xj rfl z hz)
            · exact old z (inD _ z hz)
        have v6 : Th H9 (L + 1) (d' + 1 + 2) (.ref r6) := thT f6 (by rw [List.length_reverse]; omega) fun z hz => old z (List.mem_reverse.mp hz)
        have v7 : Th H9 (L + 1) (d' + 1 + 2) (.ref l7) := .inl (.inl ⟨_, f7⟩)
        obtain ⟨v, hv, hT⟩ : ∃ v, atI [V.ref r6, V.ref l7] b = some v ∧ Th H9 (L + 1) (d' + 1 + 2) v := by
          have h : b = 0 ∨ b = 1 := by omega
          rcases h with rfl | rfl
          · exact ⟨_, rfl, v6⟩
          · exact ⟨_, rfl, v7⟩
        refine ⟨_, _, _, _, rfl, rfl, SqL.of e8, hv, (show 2 ≤ sizeLine by decide), fun l10 hl10 => ?_⟩
        rcases hw8 with rfl | rfl
        · exact ⟨_, rfl, _, _, rfl, rfl, _, _, _, _, rfl, rfl, SqL.of upd_same, (show atI [V.ref r, v] ((0 : Nat) : Int) = some (V.ref r) from atI_nat rfl), fin _ _ (Same.new hl10) v5⟩
        · exact ⟨_, rfl, _, _, rfl, rfl, _, _, _, _, rfl, rfl, SqL.of upd_same, (show atI [V.ref r, v] ((1 : Nat) : Int) = some v from atI_nat rfl), fin _ _ (Same.new hl10) hT⟩
theorem ok_lbent (T : Txt K w mg f fd ob) : ∀ D, FnOk P w K mg base CX0 (2 + D + 1) (f 14) (fd 14) ["_law_feed_here", "_law_thing"] (sp_lbent D)
  | 0 => step_lbent T 0 (by
      constructor
      · intro vs H Q E h
        exact h.elim
      · intro A o s H args us vs Q E _ _ _ _ h
        exact h.elim)
  | D + 1 => step_lbent T (D + 1) (ok_lbent T D)
theorem ok_llong (T : Txt K w mg f fd ob) : FnOk P w K mg base CX0 4 (f 15) (fd 15) ["_law_feed_here"] sp_llong := by
  have G_ldraw := ok_ldraw (P := P) (base := base) T
  have G_litem := ok_litem (P := P) (base := base) T
  refine T.F_llong.ok sc_llong (fun vs H Q E h => ?_) (fun cdv A outer s H vs Q E hr h => ?_)
  · obtain ⟨p, c, ns, n, rfl, _⟩ := h
    rfl
  · obtain ⟨p, c, ns, n, rfl, hP, hn, q⟩ := h
    have hr_litem := hr
    have hr_ldraw : Room 1 _ := hr.mono (by decide)
    refine ⟨_, (pss_cons (ps_set (i := 1) sc_llong.nd rfl (Or.inl rfl) (pe_op op_add pe_int (pe_call G_ldraw hr_ldraw (by rfl) T.m_ldraw T.F_ldraw.kp T.b_ldraw .nil pass0 (pa_cons (pv 0) (pa_cons pe_int pa_nil)))))
      (pss_one (ps_ret (pe_callTy call_tuple_of (by rfl) T.z_tuple (by decide +kernel) (pa_cons (pe_op op_cat (pe_lc (own := [("_law_k", 2)]) (g := (gName 2)) (tt := tYes) (te := (tCall sp_litem [] E0 (tCons (tVar 0) tNil))) (by rfl) sc_llong.nd (pi_range1 (by rfl) T.z_range (pa_cons (pv 1) pa_nil)) (blkOk_by (own := [("_law_k", 2)]) (N := N_llong) (sc := defScope s_llong) (by decide +kernel)) (fun _ _ _ _ _ => (pg_name (i := 2) sc_llong.nd rfl (Or.inl rfl))) (fun _ _ _ _ _ => pts_nil) (fun _ _ _ _ _ => (pe_call G_litem hr_litem (by rfl) T.m_litem T.F_litem.kp T.b_litem .nil pass0 (pa_cons (pv 0) pa_nil)))) (pe_lc (own := [("_law_k", 2)]) (g := (gName 2)) (tt := tYes) (te := (tOp (rIxS) (tC (.str "+-*/#<=&^")) (tCall sp_ldraw [] E0 (tCons (tVar 0) (tCons (tC (.int 9)) tNil))))) (by rfl) sc_llong.nd (pi_range1 (by rfl) T.z_range (pa_cons (pe_op op_sub (pv 1) pe_int) pa_nil)) (blkOk_by (own := [("_law_k", 2)]) (N := N_llong) (sc := defScope s_llong) (by decide +kernel)) (fun _ _ _ _ _ => (pg_name (i := 2) sc_llong.nd rfl (Or.inl rfl))) (fun _ _ _ _ _ => pts_nil) (fun _ _ _ _ _ => (pe_ix ix_str pe_str (pe_call G_ldraw hr_ldraw (by rfl) T.m_ldraw T.F_ldraw.kp T.b_ldraw .nil pass0 (pa_cons (pv 0) (pa_cons pe_int pa_nil))) (fun _ _ => rfl))))) pa_nil))))), ?_⟩
    refine ⟨_, rfl, p, c, ns, n, 3, rfl, hP, by decide, by decide, by omega, fun H1 d1 n1 k1 P1 d1a d1b n1a n1b => ⟨_, _, rfl, rfl, ?_⟩⟩
    have pmut : ∀ {H0 H2 : Hp} {D : Addr} {o : HO} {m n2 : Int}, Pen H0 p c ns m → H0 D = none → Pen H2 p c ns n2 → Pen (upd H2 D o) p c ns n2 := fun {H0 H2 D o m n2} Q0 hD Q2 => by
      have ndp : D ≠ p := Q0.ni hD
      have ndc : c ≠ D := fun z => by
        obtain ⟨r0, _, c2, _⟩ := Q0
        rw [z, hD] at c2
        cases c2
      obtain ⟨r, g1, g2, g3, g4⟩ := Q2
      exact ⟨r, (upd_ne ndp.symm).trans g1, (upd_ne ndc).trans g2, g3, g4⟩
    have sml : ∀ {k : Nat}, k ≤ 1000 → k ≤ sizeLine := fun h => Nat.le_trans h (by decide)
    refine ⟨_, rfl, _, rfl, by omega, by omega, fun D nD => ?_⟩
    have hDp : D ≠ p := P1.ni nD
    refine lc_it walk_range (fun i H' => ∃ (its : List Im) (n' : Int), Kp p H1 H' ∧ Pen H' p c ns n' ∧ n1 ≤ n' ∧ n' ≤ n1 + 5 * i ∧ H' D = some (.lst (its.map Im.toV)) ∧ (∀ m ∈ its, m.ok) ∧ its.length = i)
      ⟨[], n1, Kp.new nD, P1.new nD, by omega, by omega, upd_same, (fun m hm => nomatch hm), rfl⟩ (fun _ _ _ _ => trivial) ?_ ?_
    · rintro i x H2 _ hi ⟨its, n2, k2, P2, n2a, n2b, hD, hok, hlen⟩ ⟨rfl, rfl⟩
      refine ⟨rfl, _, rfl, p, c, ns, n2, rfl, P2, by omega, fun H3 m n3 k3 P3 n3a n3b hm _ => ?_⟩
      refine ⟨_, k3 _ _ hDp hD, ?_, its ++ [m], n3, Kp.mut (k2.trans k3) nD, pmut P1 nD P3, by omega, by omega, ?_, fun m' hm' => ?_, ?_⟩
      · rw [List.length_map]
        exact small1000 (by omega)
      · rw [upd_same, List.map_append]
        rfl
      · rcases List.mem_append.mp hm' with hm' | hm'
        · exact hok _ hm'
        · rw [List.mem_singleton] at hm'
          rw [hm']
          exact hm
      · rw [List.length_append, List.length_singleton, hlen]
    rintro H2 ⟨its, n2, k2, P2, n2a, n2b, hD, hok, hlen⟩
    refine ⟨_, rfl, _, _, rfl, rfl, _, rfl, by omega, by omega, fun D2 nD2 => ?_⟩
    have hD2p : D2 ≠ p := P2.ni nD2
    refine lc_it walk_range (fun i H' => ∃ (fts : List Im) (n' : Int), Kp p H2 H' ∧ Pen H' p c ns n' ∧ n2 ≤ n' ∧ n' ≤ n2 + i ∧ H' D2 = some (.lst (fts.map Im.toV)) ∧ (∀ m ∈ fts, m.ok) ∧ fts.length = i)
      ⟨[], n2, Kp.new nD2, P2.new nD2, by omega, by omega, upd_same, (fun m hm => nomatch hm), rfl⟩ (fun _ _ _ _ => trivial) ?_ ?_
    · rintro i x H3 _ hi ⟨fts, n3, k3, P3, n3a, n3b, hD3, hok3, hlen3⟩ ⟨rfl, rfl⟩
      refine ⟨rfl, _, rfl, p, c, ns, n3, 9, rfl, P3, by decide, by decide, by omega, fun H4 z0 n4 k4 P4 za zb n4a n4b => ?_⟩
      obtain ⟨z, rfl⟩ := Int.eq_ofNat_of_zero_le za
      have hz : z < 9 := by omega
      refine ⟨_, _, _, rfl, rfl, (by decide +kernel), sg_at z hz, _, k4 _ _ hD2p hD3, ?_, fts ++ [.si z], n4, Kp.mut (k3.trans k4) nD2, pmut P2 nD2 P4, by omega, by omega, ?_, fun m' hm' => ?_, ?_⟩
      · rw [List.length_map]
        exact small1000 (by omega)
      · rw [upd_same, List.map_append, ← nm_code z hz]
        rfl
      · rcases List.mem_append.mp hm' with hm' | hm'
        · exact hok3 _ hm'
        · rw [List.mem_singleton] at hm'
          rw [hm']
          exact hz
      · rw [List.length_append, List.length_singleton, hlen3]
    rintro H3 ⟨fts, n3, k3, P3, n3a, n3b, hD3, hok3, hlen3⟩
    refine ⟨_, _, _, _, rfl, rfl, k3 _ _ hDp hD, hD3, sml (by rw [List.length_map, List.length_map]; omega), fun l3 hl3 => ⟨l3, _, rfl, .inl ⟨SqL.of upd_same, fun t ht => ?_⟩⟩⟩
    refine q _ t (its ++ fts) n3 (((k1.trans (k2.trans k3)).trans (Kp.new hl3)).trans (Kp.new ht)) ((P3.new hl3).new ht) (by omega) (by omega) ?_ (fun m hm => ?_) ?_
    · rw [upd_same, List.map_append]
    · rcases List.mem_append.mp hm with hm | hm
      · exact hok m hm
      · exact hok3 m hm
    · rw [List.length_append]
      omega
theorem ok_law (T : Txt K w mg f fd ob) : FnG P w K mg base CX0 9 (f 16) (fd 16) ["_law_script"] (sp_law K) := by
  have G_isexpression := ok_isexpression (P := P) (base := base) T
  have G_lisexp := ok_lisexp (P := P) (base := base) T
  have G_lodd := ok_lodd (P := P) (base := base) T
  have G_lbent := ok_lbent (P := P) (base := base) T 5
  have G_llong := ok_llong (P := P) (base := base) T
  have G_lfeed := ok_lfeed (P := P) (base := base) T
  have G_ldraw := ok_ldraw (P := P) (base := base) T
  have G_lexpression := ok_lexpression (P := P) (base := base) T
  refine Fun.okG T.F_law sc_law (fun vs H Q E h => ?_) (fun cdv A outer s H vs Q E hg hr h => ?_)
  · obtain ⟨a, ns, rfl, _⟩ := h
    rfl
  · obtain ⟨a, ns, rfl, hsq, hlen, q⟩ := h
    have hr_lbent := hr
    have hr_lexpression : Room 4 _ := hr.mono (by decide)
    have hr_llong : Room 4 _ := hr.mono (by decide)
    have hr_isexpression : Room 3 _ := hr.mono (by decide)
    have hr_lodd : Room 2 _ := hr.mono (by decide)
    have hr_lisexp : Room 1 _ := hr.mono (by decide)
    have hr_lfeed : Room 1 _ := hr.mono (by decide)
    have hr_ldraw : Room 1 _ := hr.mono (by decide)
    have hu64 := hr.units
    refine ⟨_, (pss_cons (ps_set (i := 1) sc_law.nd rfl (Or.inl rfl) (pe_call G_lfeed hr_lfeed (by rfl) T.m_lfeed T.F_lfeed.kp T.b_lfeed .nil pass0 (pa_cons (pv 0) pa_nil)))
      (pss_cons (ps_for PassesOwn.never rfl (pi_range1 (by rfl) T.z_range (pa_cons pe_int pa_nil)) (pg_name (i := 2) sc_law.nd rfl (Or.inl rfl)) (C8.pss_cut (ps_set (i := 3) sc_law.nd rfl (Or.inl rfl) (pe_ix ix_list (pe_lst (pa_cons (pe_call G_lexpression hr_lexpression (by rfl) T.m_lexpression T.F_lexpression.kp T.b_lexpression .nil pass0 (pa_cons (pv 1) (pa_cons pe_int pa_nil))) (pa_cons (pe_call G_llong hr_llong (by rfl) T.m_llong T.F_llong.kp T.b_llong .nil pass0 (pa_cons (pv 1) pa_nil)) pa_nil))) (pe_op op_fdiv (pe_call G_ldraw hr_ldraw (by rfl) T.m_ldraw T.F_ldraw.kp T.b_ldraw .nil pass0 (pa_cons (pv 1) (pa_cons pe_int pa_nil))) pe_int) (fun _ _ => rfl)))
      (pss_cons (ps_if (pt_cmpR op_ne (pe_callB (call_reprD hg hu64) (by rfl) T.z_repr (by decide +kernel) (pa_cons (pe_call G_isexpression hr_isexpression (by rfl) T.m_isexpression T.F_isexpression.kp T.b_isexpression .nil pass0 (pa_cons (pv 3) pa_nil)) pa_nil)) (pe_callB (call_reprD hg hu64) (by rfl) T.z_repr (by decide +kernel) (pa_cons (pe_call G_lisexp hr_lisexp (by rfl) T.m_lisexp T.F_lisexp.kp T.b_lisexp .nil pass0 (pa_cons (pv 3) pa_nil)) pa_nil)) (nomark _)) (pss_one (ps_ret pe_bl)) pss_nil)
      (C8.pss_cut (ps_for PassesOwn.never rfl (pi_range1 (by rfl) T.z_range (pa_cons pe_int pa_nil)) (pg_name (i := 4) sc_law.nd rfl (Or.inl rfl)) (C8.pss_cut (ps_set (i := 3) sc_law.nd rfl (Or.inl rfl) (pe_call G_lbent hr_lbent (by rfl) T.m_lbent T.F_lbent.kp T.b_lbent .nil pass0 (pa_cons (pv 1) (pa_cons (pv 3) pa_nil))))
      (pss_cons (ps_set (i := 5) sc_law.nd rfl (Or.inl rfl) (pe_call G_lisexp hr_lisexp (by rfl) T.m_lisexp T.F_lisexp.kp T.b_lisexp .nil pass0 (pa_cons (pv 3) pa_nil)))
      (pss_one (ps_if (pt_cmpR op_ne (pe_callB (call_reprD hg hu64) (by rfl) T.z_repr (by decide +kernel) (pa_cons (pe_call G_isexpression hr_isexpression (by rfl) T.m_isexpression T.F_isexpression.kp T.b_isexpression .nil pass0 (pa_cons (pv 3) pa_nil)) pa_nil)) (pe_callB (call_reprD hg hu64) (by rfl) T.z_repr (by decide +kernel) (pa_cons (pv 5) pa_nil)) (nomark _)) (pss_one (ps_ret pe_bl)) pss_nil)))))
      (C8.pss_cut (ps_set (i := 6) sc_law.nd rfl (Or.inl rfl) (pe_call G_lodd hr_lodd (by rfl) T.m_lodd T.F_lodd.kp T.b_lodd .nil pass0 (pa_cons (pv 1) pa_nil)))
      (pss_one (ps_if (pt_cmpR op_ne (pe_callB (call_reprD hg hu64) (by rfl) T.z_repr (by decide +kernel) (pa_cons (pe_call G_isexpression hr_isexpression (by rfl) T.m_isexpression T.F_isexpression.kp T.b_isexpression .nil pass0 (pa_cons (pv 6) pa_nil)) pa_nil)) (pe_callB (call_reprD hg hu64) (by rfl) T.z_repr (by decide +kernel) (pa_cons (pe_call G_lisexp hr_lisexp (by rfl) T.m_lisexp T.F_lisexp.kp T.b_lisexp .nil pass0 (pa_cons (pv 6) pa_nil)) pa_nil)) (nomark _)) (pss_one (ps_ret pe_bl)) pss_nil)))))))
      (pss_one (ps_ret pe_bl)))), ?_⟩
    refine ⟨_, rfl, a, ns, rfl, hsq, hlen, fun H1 p c P1 => ?_⟩
    refine ⟨30, rfl, by decide, by decide, for_range (lo := 0) (n := 30) (fun i σ' H' => ∃ (y2 y3 y4 y5 y6 : Option V) (n : Int), σ' = [some (.ref a), some (.ref p), y2, y3, y4, y5, y6] ∧ Pen H' p c ns n ∧ n ≤ 1000 * i)
      ⟨none, none, none, none, none, 0, rfl, P1, by omega⟩ ?_ ?_⟩
    · rintro i _ H2 hi ⟨y2, y3, y4, y5, y6, n, rfl, P2, hn⟩
      have hn0 := P2.nn
      refine ⟨fun σ' H' => ∃ (x : V) (n' : Int), σ' = [some (.ref a), some (.ref p), some (.int (0 + (i : Int))), some x, y4, y5, y6] ∧ Pen H' p c ns n' ∧ n ≤ n' ∧ n' ≤ n + 501 ∧ Th H' 20 1 x, ?_, ?_⟩
      · refine ⟨_, rfl, p, c, ns, n, 7, rfl, P2, by omega, by omega, fun H3 t its n3 k3 P3 n3a n3b _ ht hE hle hne => ?_⟩
        refine ⟨_, rfl, p, c, ns, n3, rfl, P3, by omega, fun H4 u fts n4 k4 P4 n4a n4b hu hok hlf => ⟨(show 2 ≤ sizeLine by decide), fun l hl => ?_⟩⟩
        refine ⟨_, rfl, p, c, ns, n4, 6, rfl, P4.new hl, by decide, by decide, by omega, fun H5 d5 n5 k5 P5 d5a d5b n5a n5b => ?_⟩
        have ht4 := k4 _ _ (P3.nt ht (fun _ z => by cases z)) ht
        have e5 : H5 l = some (.lst [V.ref t, V.ref u]) := k5 _ _ (P4.ni hl) upd_same
        have t5 := k5 _ _ (P4.nt ht4 (fun _ z => by cases z)) (Same.new hl _ _ ht4)
        have u5 := k5 _ _ (P4.nt hu (fun _ z => by cases z)) (Same.new hl _ _ hu)
        obtain ⟨v, hv, hT⟩ : ∃ v, atI [V.ref t, V.ref u] (d5 / 5) = some v ∧ Th H5 20 1 v := by
          have h : d5 / 5 = 0 ∨ d5 / 5 = 1 := by omega
          rcases h with e | e
          · rw [e]
            exact ⟨_, rfl, th_ims t5 hE.ok (by omega)⟩
          · rw [e]
            exact ⟨_, rfl, th_ims u5 hok hlf⟩
        exact ⟨_, _, rfl, rfl, ⟨by decide, by decide⟩, _, _, _, _, rfl, rfl, SqL.of e5, hv, v, n5, rfl, P5, by omega, by omega, hT⟩
      rintro _ H3 ⟨x, n3, rfl, P3, n3a, n3b, hT3⟩
      refine ⟨_, rfl, x, rfl, hT3.kn, hT3.ex (by decide), fun H4 s4 => ⟨_, _, rfl, .bl _, bool_show _, ?_⟩⟩
      have hT4 := Th.same s4 hT3
      refine ⟨_, rfl, x, rfl, hT4.kn, hT4.ex (by decide), fun H5 s5 => ⟨_, _, rfl, .bl _, bool_show _, rfl, _, rfl, iteNS (by rw [exT_same s4 hT3.kn]) ?_⟩⟩
      have s35 := s4.trans s5
      have P5 := P3.same s35
      have hT5 := Th.same s35 hT3
      -- spoilt
      refine ⟨fun σ' H' => ∃ (z3 z4 z5 : Option V) (n' : Int), σ' = [some (.ref a), some (.ref p), some (.int (0 + (i : Int))), z3, z4, z5, y6] ∧ Pen H' p c ns n' ∧ n ≤ n' ∧ n' ≤ n + 700, ?_, ?_⟩
      · refine ⟨3, rfl, by decide, by decide, for_range (lo := 0) (n := 3) (fun j σ' H' => ∃ (z : V) (z4 z5 : Option V) (n' : Int), σ' = [some (.ref a), some (.ref p), some (.int (0 + (i : Int))), some z, z4, z5, y6] ∧ Pen H' p c ns n' ∧ n3 ≤ n' ∧ n' ≤ n3 + 40 * j ∧ Th H' (20 + j) (1 + 2 * j) z)
          ⟨x, y4, y5, n3, rfl, P5, by omega, by omega, hT5⟩ ?_ ?_⟩
        · rintro j _ H6 hj ⟨z, z4, z5, n6, rfl, P6, n6a, n6b, hT6⟩
          refine ⟨fun σ' H' => ∃ (v : V) (n' : Int), σ' = [some (.ref a), some (.ref p), some (.int (0 + (i : Int))), some v, some (.int (0 + (j : Int))), z5, y6] ∧ Pen H' p c ns n' ∧ n6 ≤ n' ∧ n' ≤ n6 + 40 ∧ Th H' (20 + j + 1) (1 + 2 * j + 2) v, ?_, ?_⟩
          · refine ⟨_, rfl, _, rfl, p, c, ns, n6, z, 1 + 2 * j, 20 + j, rfl, P6, by omega, by omega, hT6, by omega, by omega, fun H7 v n7 k7 P7 n7a n7b hT7 => ?_⟩
            exact ⟨v, n7, rfl, P7, by omega, by omega, hT7⟩
          rintro _ H7 ⟨v, n7, rfl, P7, n7a, n7b, hT7⟩
          refine ⟨_, rfl, v, rfl, hT7.kn, hT7.ex (by omega), fun H8 s8 => ?_⟩
          have hT8 := Th.same s8 hT7
          refine ⟨_, rfl, v, rfl, hT8.kn, hT8.ex (by omega), fun H9 s9 => ⟨_, _, rfl, .bl _, bool_show _, ?_⟩⟩
          refine ⟨_, rfl, _, _, rfl, .bl _, bool_show _, rfl, _, rfl, iteNS (by rw [exT_same s8 hT7.kn]) ?_⟩
          exact ⟨v, _, _, n7, rfl, P7.same (s8.trans s9), by omega, by omega, Th.same (s8.trans s9) hT7⟩
        · rintro _ H6 ⟨z, z4, z5, n6, rfl, P6, n6a, n6b, hT6⟩
          exact ⟨_, _, _, n6, rfl, P6, by omega, by omega⟩
      rintro _ H6 ⟨z3, z4, z5, n6, rfl, P6, n6a, n6b⟩
      -- an odd one
      refine ⟨fun σ' H' => ∃ (v : V) (n' : Int), σ' = [some (.ref a), some (.ref p), some (.int (0 + (i : Int))), z3, z4, z5, some v] ∧ Pen H' p c ns n' ∧ n ≤ n' ∧ n' ≤ n + 701 ∧ Th H' 3 2 v, ?_, ?_⟩
      · refine ⟨_, rfl, p, c, ns, n6, rfl, P6, by omega, fun H7 v n7 k7 P7 n7a n7b hT7 => ?_⟩
        exact ⟨v, n7, rfl, P7, by omega, by omega, hT7⟩
      rintro _ H7 ⟨v, n7, rfl, P7, n7a, n7b, hT7⟩
      refine ⟨_, rfl, v, rfl, hT7.kn, hT7.ex (by decide), fun H8 s8 => ⟨_, _, rfl, .bl _, bool_show _, ?_⟩⟩
      have hT8 := Th.same s8 hT7
      refine ⟨_, rfl, v, rfl, hT8.kn, hT8.ex (by decide), fun H9 s9 => ⟨_, _, rfl, .bl _, bool_show _, rfl, _, rfl, iteNS (by rw [exT_same s8 hT7.kn]) ?_⟩⟩
      exact ⟨_, _, _, _, _, n7, rfl, P7.same (s8.trans s9), by omega⟩
    · rintro _ H2 ⟨y2, y3, y4, y5, y6, n, rfl, P2, hn⟩
      exact q _
end
--END
set_option maxHeartbeats 4000000 in
theorem all_mk {l : PySem.W.OpenLaw} {w : World} {K : PySem.W.Frag} {h : Heap} {mg : Str → Option Value} {fa : Addr} (X : K.In h) (G : h.Ns mainGlobals mg) (hfa : mg "law" = some (.ref fa))
    {od0 an0 od1 an1 od2 an2 od3 an3 od4 an4 od5 an5 od6 an6 od7 an7 od8 an8 od9 an9 od10 an10 od11 an11 od12 an12 od13 an13 od14 an14 od15 an15 od16 an16 od17 an17 od18 an18 od19 an19 od20 an20 od21 an21 od22 an22 od23 an23 od24 an24 od25 an25 : Option Addr} {sl0 sl1 sl2 sl3 sl4 sl5 sl6 sl7 sl8 sl9 sl10 sl11 sl12 sl13 sl14 sl15 sl16 sl17 sl18 sl19 sl20 sl21 sl22 sl23 sl24 sl25 : Array (Option Value)} {oc0 kV0 dc0 pm0 cd0 ct0 oc1 kV1 dc1 pm1 cd1 ct1 oc2 kV2 dc2 pm2 cd2 ct2 oc3 kV3 dc3 pm3 cd3 ct3 oc4 kV4 dc4 pm4 cd4 ct4 oc5 kV5 dc5 pm5 cd5 ct5 oc6 kV6 dc6 pm6 cd6 ct6 oc7 kV7 dc7 pm7 cd7 ct7 oc8 kV8 dc8 pm8 cd8 ct8 oc9 kV9 dc9 pm9 cd9 ct9 oc10 kV10 dc10 pm10 cd10 ct10 oc11 kV11 dc11 pm11 cd11 ct11 oc12 kV12 dc12 pm12 cd12 ct12 oc13 kV13 dc13 pm13 cd13 ct13 oc14 kV14 dc14 pm14 cd14 ct14 oc15 kV15 dc15 pm15 cd15 ct15 oc16 kV16 dc16 pm16 cd16 ct16 oc17 kV17 dc17 pm17 cd17 ct17 oc18 kV18 dc18 pm18 cd18 ct18 oc19 kV19 dc19 pm19 cd19 ct19 oc20 kV20 dc20 pm20 cd20 ct20 oc21 kV21 dc21 pm21 cd21 ct21 oc22 kV22 dc22 pm22 cd22 ct22 oc23 kV23 dc23 pm23 cd23 ct23 oc24 kV24 dc24 pm24 cd24 ct24 oc25 kV25 dc25 pm25 cd25 ct25 : Value} {a0 a1 a2 a3 a4 a5 a6 a7 a8 a9 a10 a11 a12 a13 a14 a15 a16 a17 a18 a19 a20 a21 a22 a23 a24 a25 : Addr} {es_SIGNS : Array DictEntry} {nn_SIGNS : Nat} {o_SIGNS : Addr} {tk_LETTERS : Tok} {tk_MOST_ITEMS : Tok}
    (e0 : PySem.W.nsIn K mainGlobals "is_whole" = some (some (.ref a0)))
    (l0 : K.lookup a0 = some ⟨oc0, od0, .func (PySem.W.fnOf "is_whole" "is_whole" (defArgs s_iswhole) (defBody s_iswhole) (defScope s_iswhole) .none kV0 dc0 pm0 an0 cd0 ct0), sl0⟩)
    (c0 : PySem.W.codeIn K cd0 "is_whole" = true) (k0 : PySem.W.keepIn K (.ref a0) = true)
    (e1 : PySem.W.nsIn K mainGlobals "is_worth" = some (some (.ref a1)))
    (l1 : K.lookup a1 = some ⟨oc1, od1, .func (PySem.W.fnOf "is_worth" "is_worth" (defArgs s_isworth) (defBody s_isworth) (defScope s_isworth) .none kV1 dc1 pm1 an1 cd1 ct1), sl1⟩)
    (c1 : PySem.W.codeIn K cd1 "is_worth" = true) (k1 : PySem.W.keepIn K (.ref a1) = true)
    (e2 : PySem.W.nsIn K mainGlobals "is_letter" = some (some (.ref a2)))
    (l2 : K.lookup a2 = some ⟨oc2, od2, .func (PySem.W.fnOf "is_letter" "is_letter" (defArgs s_isletter) (defBody s_isletter) (defScope s_isletter) .none kV2 dc2 pm2 an2 cd2 ct2), sl2⟩)
    (c2 : PySem.W.codeIn K cd2 "is_letter" = true) (k2 : PySem.W.keepIn K (.ref a2) = true)
    (e3 : PySem.W.nsIn K mainGlobals "is_sign" = some (some (.ref a3)))
    (l3 : K.lookup a3 = some ⟨oc3, od3, .func (PySem.W.fnOf "is_sign" "is_sign" (defArgs s_issign) (defBody s_issign) (defScope s_issign) .none kV3 dc3 pm3 an3 cd3 ct3), sl3⟩)
    (c3 : PySem.W.codeIn K cd3 "is_sign" = true) (k3 : PySem.W.keepIn K (.ref a3) = true)
    (e4 : PySem.W.nsIn K mainGlobals "leaves_one" = some (some (.ref a4)))
    (l4 : K.lookup a4 = some ⟨oc4, od4, .func (PySem.W.fnOf "leaves_one" "leaves_one" (defArgs s_leavesone) (defBody s_leavesone) (defScope s_leavesone) .none kV4 dc4 pm4 an4 cd4 ct4), sl4⟩)
    (c4 : PySem.W.codeIn K cd4 "leaves_one" = true) (k4 : PySem.W.keepIn K (.ref a4) = true)
    (e5 : PySem.W.nsIn K mainGlobals "is_expression" = some (some (.ref a5)))
    (l5 : K.lookup a5 = some ⟨oc5, od5, .func (PySem.W.fnOf "is_expression" "is_expression" (defArgs s_isexpression) (defBody s_isexpression) (defScope s_isexpression) .none kV5 dc5 pm5 an5 cd5 ct5), sl5⟩)
    (c5 : PySem.W.codeIn K cd5 "is_expression" = true) (k5 : PySem.W.keepIn K (.ref a5) = true)
    (e6 : PySem.W.nsIn K mainGlobals "_law_feed" = some (some (.ref a6)))
    (l6 : K.lookup a6 = some ⟨oc6, od6, .func (PySem.W.fnOf "_law_feed" "_law_feed" (defArgs s_lfeed) (defBody s_lfeed) (defScope s_lfeed) .none kV6 dc6 pm6 an6 cd6 ct6), sl6⟩)
    (c6 : PySem.W.codeIn K cd6 "_law_feed" = true) (k6 : PySem.W.keepIn K (.ref a6) = true)
    (e7 : PySem.W.nsIn K mainGlobals "_law_draw" = some (some (.ref a7)))
    (l7 : K.lookup a7 = some ⟨oc7, od7, .func (PySem.W.fnOf "_law_draw" "_law_draw" (defArgs s_ldraw) (defBody s_ldraw) (defScope s_ldraw) .none kV7 dc7 pm7 an7 cd7 ct7), sl7⟩)
    (c7 : PySem.W.codeIn K cd7 "_law_draw" = true) (k7 : PySem.W.keepIn K (.ref a7) = true)
    (e8 : PySem.W.nsIn K mainGlobals "_law_worth" = some (some (.ref a8)))
    (l8 : K.lookup a8 = some ⟨oc8, od8, .func (PySem.W.fnOf "_law_worth" "_law_worth" (defArgs s_lworth) (defBody s_lworth) (defScope s_lworth) .none kV8 dc8 pm8 an8 cd8 ct8), sl8⟩)
    (c8 : PySem.W.codeIn K cd8 "_law_worth" = true) (k8 : PySem.W.keepIn K (.ref a8) = true)
    (e9 : PySem.W.nsIn K mainGlobals "_law_register" = some (some (.ref a9)))
    (l9 : K.lookup a9 = some ⟨oc9, od9, .func (PySem.W.fnOf "_law_register" "_law_register" (defArgs s_lregister) (defBody s_lregister) (defScope s_lregister) .none kV9 dc9 pm9 an9 cd9 ct9), sl9⟩)
    (c9 : PySem.W.codeIn K cd9 "_law_register" = true) (k9 : PySem.W.keepIn K (.ref a9) = true)
    (e10 : PySem.W.nsIn K mainGlobals "_law_item" = some (some (.ref a10)))
    (l10 : K.lookup a10 = some ⟨oc10, od10, .func (PySem.W.fnOf "_law_item" "_law_item" (defArgs s_litem) (defBody s_litem) (defScope s_litem) .none kV10 dc10 pm10 an10 cd10 ct10), sl10⟩)
    (c10 : PySem.W.codeIn K cd10 "_law_item" = true) (k10 : PySem.W.keepIn K (.ref a10) = true)
    (e11 : PySem.W.nsIn K mainGlobals "_law_expression" = some (some (.ref a11)))
    (l11 : K.lookup a11 = some ⟨oc11, od11, .func (PySem.W.fnOf "_law_expression" "_law_expression" (defArgs s_lexpression) (defBody s_lexpression) (defScope s_lexpression) .none kV11 dc11 pm11 an11 cd11 ct11), sl11⟩)
    (c11 : PySem.W.codeIn K cd11 "_law_expression" = true) (k11 : PySem.W.keepIn K (.ref a11) = true)
    (e12 : PySem.W.nsIn K mainGlobals "_law_is_expression" = some (some (.ref a12)))
    (l12 : K.lookup a12 = some ⟨oc12, od12, .func (PySem.W.fnOf "_law_is_expression" "_law_is_expression" (defArgs s_lisexp) (defBody s_lisexp) (defScope s_lisexp) .none kV12 dc12 pm12 an12 cd12 ct12), sl12⟩)
    (c12 : PySem.W.codeIn K cd12 "_law_is_expression" = true) (k12 : PySem.W.keepIn K (.ref a12) = true)
    (e13 : PySem.W.nsIn K mainGlobals "_law_odd" = some (some (.ref a13)))
    (l13 : K.lookup a13 = some ⟨oc13, od13, .func (PySem.W.fnOf "_law_odd" "_law_odd" (defArgs s_lodd) (defBody s_lodd) (defScope s_lodd) .none kV13 dc13 pm13 an13 cd13 ct13), sl13⟩)
    (c13 : PySem.W.codeIn K cd13 "_law_odd" = true) (k13 : PySem.W.keepIn K (.ref a13) = true)
    (e14 : PySem.W.nsIn K mainGlobals "_law_bent" = some (some (.ref a14)))
    (l14 : K.lookup a14 = some ⟨oc14, od14, .func (PySem.W.fnOf "_law_bent" "_law_bent" (defArgs s_lbent) (defBody s_lbent) (defScope s_lbent) .none kV14 dc14 pm14 an14 cd14 ct14), sl14⟩)
    (c14 : PySem.W.codeIn K cd14 "_law_bent" = true) (k14 : PySem.W.keepIn K (.ref a14) = true)
    (e15 : PySem.W.nsIn K mainGlobals "_law_long" = some (some (.ref a15)))
    (l15 : K.lookup a15 = some ⟨oc15, od15, .func (PySem.W.fnOf "_law_long" "_law_long" (defArgs s_llong) (defBody s_llong) (defScope s_llong) .none kV15 dc15 pm15 an15 cd15 ct15), sl15⟩)
    (c15 : PySem.W.codeIn K cd15 "_law_long" = true) (k15 : PySem.W.keepIn K (.ref a15) = true)
    (e16 : PySem.W.nsIn K mainGlobals "law" = some (some (.ref a16)))
    (l16 : K.lookup a16 = some ⟨oc16, od16, .func (PySem.W.fnOf "law" "law" (defArgs s_law) (defBody s_law) (defScope s_law) .none kV16 dc16 pm16 an16 cd16 ct16), sl16⟩)
    (c16 : PySem.W.codeIn K cd16 "law" = true) (k16 : PySem.W.keepIn K (.ref a16) = true)
    (e17 : PySem.W.nsIn K mainGlobals "plus" = some (some (.ref a17)))
    (l17 : K.lookup a17 = some ⟨oc17, od17, .func (PySem.W.fnOf "plus" "plus" (defArgs s_plus) (defBody s_plus) (defScope s_plus) .none kV17 dc17 pm17 an17 cd17 ct17), sl17⟩)
    (c17 : PySem.W.codeIn K cd17 "plus" = true) (k17 : PySem.W.keepIn K (.ref a17) = true)
    (e18 : PySem.W.nsIn K mainGlobals "minus" = some (some (.ref a18)))
    (l18 : K.lookup a18 = some ⟨oc18, od18, .func (PySem.W.fnOf "minus" "minus" (defArgs s_minus) (defBody s_minus) (defScope s_minus) .none kV18 dc18 pm18 an18 cd18 ct18), sl18⟩)
    (c18 : PySem.W.codeIn K cd18 "minus" = true) (k18 : PySem.W.keepIn K (.ref a18) = true)
    (e19 : PySem.W.nsIn K mainGlobals "times" = some (some (.ref a19)))
    (l19 : K.lookup a19 = some ⟨oc19, od19, .func (PySem.W.fnOf "times" "times" (defArgs s_times) (defBody s_times) (defScope s_times) .none kV19 dc19 pm19 an19 cd19 ct19), sl19⟩)
    (c19 : PySem.W.codeIn K cd19 "times" = true) (k19 : PySem.W.keepIn K (.ref a19) = true)
    (e20 : PySem.W.nsIn K mainGlobals "quotient" = some (some (.ref a20)))
    (l20 : K.lookup a20 = some ⟨oc20, od20, .func (PySem.W.fnOf "quotient" "quotient" (defArgs s_quotient) (defBody s_quotient) (defScope s_quotient) .none kV20 dc20 pm20 an20 cd20 ct20), sl20⟩)
    (c20 : PySem.W.codeIn K cd20 "quotient" = true) (k20 : PySem.W.keepIn K (.ref a20) = true)
    (e21 : PySem.W.nsIn K mainGlobals "rest" = some (some (.ref a21)))
    (l21 : K.lookup a21 = some ⟨oc21, od21, .func (PySem.W.fnOf "rest" "rest" (defArgs s_rest) (defBody s_rest) (defScope s_rest) .none kV21 dc21 pm21 an21 cd21 ct21), sl21⟩)
    (c21 : PySem.W.codeIn K cd21 "rest" = true) (k21 : PySem.W.keepIn K (.ref a21) = true)
    (e22 : PySem.W.nsIn K mainGlobals "is_less" = some (some (.ref a22)))
    (l22 : K.lookup a22 = some ⟨oc22, od22, .func (PySem.W.fnOf "is_less" "is_less" (defArgs s_isless) (defBody s_isless) (defScope s_isless) .none kV22 dc22 pm22 an22 cd22 ct22), sl22⟩)
    (c22 : PySem.W.codeIn K cd22 "is_less" = true) (k22 : PySem.W.keepIn K (.ref a22) = true)
    (e23 : PySem.W.nsIn K mainGlobals "is_same" = some (some (.ref a23)))
    (l23 : K.lookup a23 = some ⟨oc23, od23, .func (PySem.W.fnOf "is_same" "is_same" (defArgs s_issame) (defBody s_issame) (defScope s_issame) .none kV23 dc23 pm23 an23 cd23 ct23), sl23⟩)
    (c23 : PySem.W.codeIn K cd23 "is_same" = true) (k23 : PySem.W.keepIn K (.ref a23) = true)
    (e24 : PySem.W.nsIn K mainGlobals "bits_of_both" = some (some (.ref a24)))
    (l24 : K.lookup a24 = some ⟨oc24, od24, .func (PySem.W.fnOf "bits_of_both" "bits_of_both" (defArgs s_bitsofboth) (defBody s_bitsofboth) (defScope s_bitsofboth) .none kV24 dc24 pm24 an24 cd24 ct24), sl24⟩)
    (c24 : PySem.W.codeIn K cd24 "bits_of_both" = true) (k24 : PySem.W.keepIn K (.ref a24) = true)
    (e25 : PySem.W.nsIn K mainGlobals "bits_of_one" = some (some (.ref a25)))
    (l25 : K.lookup a25 = some ⟨oc25, od25, .func (PySem.W.fnOf "bits_of_one" "bits_of_one" (defArgs s_bitsofone) (defBody s_bitsofone) (defScope s_bitsofone) .none kV25 dc25 pm25 an25 cd25 ct25), sl25⟩)
    (c25 : PySem.W.codeIn K cd25 "bits_of_one" = true) (k25 : PySem.W.keepIn K (.ref a25) = true)
    (e_SIGNS : PySem.W.nsIn K mainGlobals "SIGNS" = some (some (.ref o_SIGNS)))
    (l_SIGNS : K.lookup o_SIGNS = some ⟨.type "dict", none, .dict es_SIGNS nn_SIGNS, #[]⟩)
    (k_SIGNS : PySem.W.KeysLit w.params es_SIGNS.toList)
    (v_SIGNS_0 : PySem.W.nsIn K o_SIGNS "+" = some (some (.ref a17)))
    (v_SIGNS_1 : PySem.W.nsIn K o_SIGNS "-" = some (some (.ref a18)))
    (v_SIGNS_2 : PySem.W.nsIn K o_SIGNS "*" = some (some (.ref a19)))
    (v_SIGNS_3 : PySem.W.nsIn K o_SIGNS "/" = some (some (.ref a20)))
    (v_SIGNS_4 : PySem.W.nsIn K o_SIGNS "#" = some (some (.ref a21)))
    (v_SIGNS_5 : PySem.W.nsIn K o_SIGNS "<" = some (some (.ref a22)))
    (v_SIGNS_6 : PySem.W.nsIn K o_SIGNS "=" = some (some (.ref a23)))
    (v_SIGNS_7 : PySem.W.nsIn K o_SIGNS "&" = some (some (.ref a24)))
    (v_SIGNS_8 : PySem.W.nsIn K o_SIGNS "^" = some (some (.ref a25)))
    (low_SIGNS : (o_SIGNS == sysModules) = false)
    (kd_SIGNS : Keyed es_SIGNS.toList ["+", "-", "*", "/", "#", "<", "=", "&", "^"])
    (c_LETTERS : PySem.W.nsIn K mainGlobals "LETTERS" = some (some (.str "abcdefghijklmnop" tk_LETTERS)))
    (c_MOST_ITEMS : PySem.W.nsIn K mainGlobals "MOST_ITEMS" = some (some (.int 15 tk_MOST_ITEMS)))
    (z_all : PySem.W.nsIn K mainGlobals "all" = some none)
    (z_bool : PySem.W.nsIn K mainGlobals "bool" = some none)
    (z_int : PySem.W.nsIn K mainGlobals "int" = some none)
    (z_isinstance : PySem.W.nsIn K mainGlobals "isinstance" = some none)
    (z_len : PySem.W.nsIn K mainGlobals "len" = some none)
    (z_list : PySem.W.nsIn K mainGlobals "list" = some none)
    (z_range : PySem.W.nsIn K mainGlobals "range" = some none)
    (z_repr : PySem.W.nsIn K mainGlobals "repr" = some none)
    (z_str : PySem.W.nsIn K mainGlobals "str" = some none)
    (z_tuple : PySem.W.nsIn K mainGlobals "tuple" = some none)
    : ∃ fd : FuncData, (∀ (s : Shared) (v : Value), BindsTo s fd ⟨[v], []⟩ [("_law_script", v)]) ∧ ∀ base : Heap, K.In base → base.Ns mainGlobals mg → FnG l.prog w K mg base CX0 9 fa fd ["_law_script"] (sp_law K) := by
  have e := hfa.symm.trans (PySem.W.mg_of X G e16)
  cases e
  have F0 := fun_mk (st := s_iswhole) l0 c0 k0
  have b0 := F0.binds (ps := ["thing"]) fun _ _ _ _ _ _ us hl => match us, hl with | [_], _ => rfl
  have F1 := fun_mk (st := s_isworth) l1 c1 k1
  have b1 := F1.binds (ps := ["thing"]) fun _ _ _ _ _ _ us hl => match us, hl with | [_], _ => rfl
  have F2 := fun_mk (st := s_isletter) l2 c2 k2
  have b2 := F2.binds (ps := ["thing"]) fun _ _ _ _ _ _ us hl => match us, hl with | [_], _ => rfl
  have F3 := fun_mk (st := s_issign) l3 c3 k3
  have b3 := F3.binds (ps := ["thing"]) fun _ _ _ _ _ _ us hl => match us, hl with | [_], _ => rfl
  have F4 := fun_mk (st := s_leavesone) l4 c4 k4
  have b4 := F4.binds (ps := ["items"]) fun _ _ _ _ _ _ us hl => match us, hl with | [_], _ => rfl
  have F5 := fun_mk (st := s_isexpression) l5 c5 k5
  have b5 := F5.binds (ps := ["thing"]) fun _ _ _ _ _ _ us hl => match us, hl with | [_], _ => rfl
  have F6 := fun_mk (st := s_lfeed) l6 c6 k6
  have b6 := F6.binds (ps := ["_law_script"]) fun _ _ _ _ _ _ us hl => match us, hl with | [_], _ => rfl
  have F7 := fun_mk (st := s_ldraw) l7 c7 k7
  have b7 := F7.binds (ps := ["_law_feed_here", "_law_many"]) fun _ _ _ _ _ _ us hl => match us, hl with | [_, _], _ => rfl
  have F8 := fun_mk (st := s_lworth) l8 c8 k8
  have b8 := F8.binds (ps := ["_law_feed_here"]) fun _ _ _ _ _ _ us hl => match us, hl with | [_], _ => rfl
  have F9 := fun_mk (st := s_lregister) l9 c9 k9
  have b9 := F9.binds (ps := ["_law_feed_here"]) fun _ _ _ _ _ _ us hl => match us, hl with | [_], _ => rfl
  have F10 := fun_mk (st := s_litem) l10 c10 k10
  have b10 := F10.binds (ps := ["_law_feed_here"]) fun _ _ _ _ _ _ us hl => match us, hl with | [_], _ => rfl
  have F11 := fun_mk (st := s_lexpression) l11 c11 k11
  have b11 := F11.binds (ps := ["_law_feed_here", "_law_most"]) fun _ _ _ _ _ _ us hl => match us, hl with | [_, _], _ => rfl
  have F12 := fun_mk (st := s_lisexp) l12 c12 k12
  have b12 := F12.binds (ps := ["_law_thing"]) fun _ _ _ _ _ _ us hl => match us, hl with | [_], _ => rfl
  have F13 := fun_mk (st := s_lodd) l13 c13 k13
  have b13 := F13.binds (ps := ["_law_feed_here"]) fun _ _ _ _ _ _ us hl => match us, hl with | [_], _ => rfl
  have F14 := fun_mk (st := s_lbent) l14 c14 k14
  have b14 := F14.binds (ps := ["_law_feed_here", "_law_thing"]) fun _ _ _ _ _ _ us hl => match us, hl with | [_, _], _ => rfl
  have F15 := fun_mk (st := s_llong) l15 c15 k15
  have b15 := F15.binds (ps := ["_law_feed_here"]) fun _ _ _ _ _ _ us hl => match us, hl with | [_], _ => rfl
  have F16 := fun_mk (st := s_law) l16 c16 k16
  have b16 := F16.binds (ps := ["_law_script"]) fun _ _ _ _ _ _ us hl => match us, hl with | [_], _ => rfl
  have F17 := fun_mk (st := s_plus) l17 c17 k17
  have b17 := F17.binds (ps := ["one", "other"]) fun _ _ _ _ _ _ us hl => match us, hl with | [_, _], _ => rfl
  have F18 := fun_mk (st := s_minus) l18 c18 k18
  have b18 := F18.binds (ps := ["one", "other"]) fun _ _ _ _ _ _ us hl => match us, hl with | [_, _], _ => rfl
  have F19 := fun_mk (st := s_times) l19 c19 k19
  have b19 := F19.binds (ps := ["one", "other"]) fun _ _ _ _ _ _ us hl => match us, hl with | [_, _], _ => rfl
  have F20 := fun_mk (st := s_quotient) l20 c20 k20
  have b20 := F20.binds (ps := ["one", "other"]) fun _ _ _ _ _ _ us hl => match us, hl with | [_, _], _ => rfl
  have F21 := fun_mk (st := s_rest) l21 c21 k21
  have b21 := F21.binds (ps := ["one", "other"]) fun _ _ _ _ _ _ us hl => match us, hl with | [_, _], _ => rfl
  have F22 := fun_mk (st := s_isless) l22 c22 k22
  have b22 := F22.binds (ps := ["one", "other"]) fun _ _ _ _ _ _ us hl => match us, hl with | [_, _], _ => rfl
  have F23 := fun_mk (st := s_issame) l23 c23 k23
  have b23 := F23.binds (ps := ["one", "other"]) fun _ _ _ _ _ _ us hl => match us, hl with | [_, _], _ => rfl
  have F24 := fun_mk (st := s_bitsofboth) l24 c24 k24
  have b24 := F24.binds (ps := ["one", "other"]) fun _ _ _ _ _ _ us hl => match us, hl with | [_, _], _ => rfl
  have F25 := fun_mk (st := s_bitsofone) l25 c25 k25
  have b25 := F25.binds (ps := ["one", "other"]) fun _ _ _ _ _ _ us hl => match us, hl with | [_, _], _ => rfl
  let f : Nat → Addr := fun i => match i with | 0 => a0 | 1 => a1 | 2 => a2 | 3 => a3 | 4 => a4 | 5 => a5 | 6 => a6 | 7 => a7 | 8 => a8 | 9 => a9 | 10 => a10 | 11 => a11 | 12 => a12 | 13 => a13 | 14 => a14 | 15 => a15 | 16 => fa | 17 => a17 | 18 => a18 | 19 => a19 | 20 => a20 | 21 => a21 | 22 => a22 | 23 => a23 | 24 => a24 | 25 => a25 | _ => a0
  let fd : Nat → FuncData := fun i => match i with | 0 => PySem.W.fnOf "is_whole" "is_whole" (defArgs s_iswhole) (defBody s_iswhole) (defScope s_iswhole) .none kV0 dc0 pm0 an0 cd0 ct0 | 1 => PySem.W.fnOf "is_worth" "is_worth" (defArgs s_isworth) (defBody s_isworth) (defScope s_isworth) .none kV1 dc1 pm1 an1 cd1 ct1 | 2 => PySem.W.fnOf "is_letter" "is_letter" (defArgs s_isletter) (defBody s_isletter) (defScope s_isletter) .none kV2 dc2 pm2 an2 cd2 ct2 | 3 => PySem.W.fnOf "is_sign" "is_sign" (defArgs s_issign) (defBody s_issign) (defScope s_issign) .none kV3 dc3 pm3 an3 cd3 ct3 | 4 => PySem.W.fnOf "leaves_one" "leaves_one" (defArgs s_leavesone) (defBody s_leavesone) (defScope s_leavesone) .none kV4 dc4 pm4 an4 cd4 ct4 | 5 => PySem.W.fnOf "is_expression" "is_expression" (defArgs s_isexpression) (defBody s_isexpression) (defScope s_isexpression) .none kV5 dc5 pm5 an5 cd5 ct5 | 6 => PySem.W.fnOf "_law_feed" "_law_feed" (defArgs s_lfeed) (defBody s_lfeed) (defScope s_lfeed) .none kV6 dc6 pm6 an6 cd6 ct6 | 7 => PySem.W.fnOf "_law_draw" "_law_draw" (defArgs s_ldraw) (defBody s_ldraw) (defScope s_ldraw) .none kV7 dc7 pm7 an7 cd7 ct7 | 8 => PySem.W.fnOf "_law_worth" "_law_worth" (defArgs s_lworth) (defBody s_lworth) (defScope s_lworth) .none kV8 dc8 pm8 an8 cd8 ct8 | 9 => PySem.W.fnOf "_law_register" "_law_register" (defArgs s_lregister) (defBody s_lregister) (defScope s_lregister) .none kV9 dc9 pm9 an9 cd9 ct9 | 10 => PySem.W.fnOf "_law_item" "_law_item" (defArgs s_litem) (defBody s_litem) (defScope s_litem) .none kV10 dc10 pm10 an10 cd10 ct10 | 11 => PySem.W.fnOf "_law_expression" "_law_expression" (defArgs s_lexpression) (defBody s_lexpression) (defScope s_lexpression) .none kV11 dc11 pm11 an11 cd11 ct11 | 12 => PySem.W.fnOf "_law_is_expression" "_law_is_expression" (defArgs s_lisexp) (defBody s_lisexp) (defScope s_lisexp) .none kV12 dc12 pm12 an12 cd12 ct12 | 13 => PySem.W.fnOf "_law_odd" "_law_odd" (defArgs s_lodd) (defBody s_lodd) (defScope s_lodd) .none kV13 dc13 pm13 an13 cd13 ct13 | 14 => PySem.W.fnOf "_law_bent" "_law_bent" (defArgs s_lbent) (defBody s_lbent) (defScope s_lbent) .none kV14 dc14 pm14 an14 cd14 ct14 | 15 => PySem.W.fnOf "_law_long" "_law_long" (defArgs s_llong) (defBody s_llong) (defScope s_llong) .none kV15 dc15 pm15 an15 cd15 ct15 | 16 => PySem.W.fnOf "law" "law" (defArgs s_law) (defBody s_law) (defScope s_law) .none kV16 dc16 pm16 an16 cd16 ct16 | 17 => PySem.W.fnOf "plus" "plus" (defArgs s_plus) (defBody s_plus) (defScope s_plus) .none kV17 dc17 pm17 an17 cd17 ct17 | 18 => PySem.W.fnOf "minus" "minus" (defArgs s_minus) (defBody s_minus) (defScope s_minus) .none kV18 dc18 pm18 an18 cd18 ct18 | 19 => PySem.W.fnOf "times" "times" (defArgs s_times) (defBody s_times) (defScope s_times) .none kV19 dc19 pm19 an19 cd19 ct19 | 20 => PySem.W.fnOf "quotient" "quotient" (defArgs s_quotient) (defBody s_quotient) (defScope s_quotient) .none kV20 dc20 pm20 an20 cd20 ct20 | 21 => PySem.W.fnOf "rest" "rest" (defArgs s_rest) (defBody s_rest) (defScope s_rest) .none kV21 dc21 pm21 an21 cd21 ct21 | 22 => PySem.W.fnOf "is_less" "is_less" (defArgs s_isless) (defBody s_isless) (defScope s_isless) .none kV22 dc22 pm22 an22 cd22 ct22 | 23 => PySem.W.fnOf "is_same" "is_same" (defArgs s_issame) (defBody s_issame) (defScope s_issame) .none kV23 dc23 pm23 an23 cd23 ct23 | 24 => PySem.W.fnOf "bits_of_both" "bits_of_both" (defArgs s_bitsofboth) (defBody s_bitsofboth) (defScope s_bitsofboth) .none kV24 dc24 pm24 an24 cd24 ct24 | 25 => PySem.W.fnOf "bits_of_one" "bits_of_one" (defArgs s_bitsofone) (defBody s_bitsofone) (defScope s_bitsofone) .none kV25 dc25 pm25 an25 cd25 ct25 | _ => PySem.W.fnOf "is_whole" "is_whole" (defArgs s_iswhole) (defBody s_iswhole) (defScope s_iswhole) .none kV0 dc0 pm0 an0 cd0 ct0
  let ob : Nat → Addr := fun i => match i with | 0 => o_SIGNS | _ => o_SIGNS
  have T : Txt K w mg f fd ob := ⟨F0, PySem.W.mg_of X G e0, b0, F1, PySem.W.mg_of X G e1, b1, F2, PySem.W.mg_of X G e2, b2, F3, PySem.W.mg_of X G e3, b3, F4, PySem.W.mg_of X G e4, b4, F5, PySem.W.mg_of X G e5, b5, F6, PySem.W.mg_of X G e6, b6, F7, PySem.W.mg_of X G e7, b7, F8, PySem.W.mg_of X G e8, b8, F9, PySem.W.mg_of X G e9, b9, F10, PySem.W.mg_of X G e10, b10, F11, PySem.W.mg_of X G e11, b11, F12, PySem.W.mg_of X G e12, b12, F13, PySem.W.mg_of X G e13, b13, F14, PySem.W.mg_of X G e14, b14, F15, PySem.W.mg_of X G e15, b15, F16, PySem.W.mg_of X G e16, b16, F17, PySem.W.mg_of X G e17, b17, F18, PySem.W.mg_of X G e18, b18, F19, PySem.W.mg_of X G e19, b19, F20, PySem.W.mg_of X G e20, b20, F21, PySem.W.mg_of X G e21, b21, F22, PySem.W.mg_of X G e22, b22, F23, PySem.W.mg_of X G e23, b23, F24, PySem.W.mg_of X G e24, b24, F25, PySem.W.mg_of X G e25, b25, PySem.W.mg_of X G e_SIGNS, ⟨_, _, _, l_SIGNS, k_SIGNS, v_SIGNS_0, rfl⟩, ⟨_, _, _, l_SIGNS, k_SIGNS, v_SIGNS_1, rfl⟩, ⟨_, _, _, l_SIGNS, k_SIGNS, v_SIGNS_2, rfl⟩, ⟨_, _, _, l_SIGNS, k_SIGNS, v_SIGNS_3, rfl⟩, ⟨_, _, _, l_SIGNS, k_SIGNS, v_SIGNS_4, rfl⟩, ⟨_, _, _, l_SIGNS, k_SIGNS, v_SIGNS_5, rfl⟩, ⟨_, _, _, l_SIGNS, k_SIGNS, v_SIGNS_6, rfl⟩, ⟨_, _, _, l_SIGNS, k_SIGNS, v_SIGNS_7, rfl⟩, ⟨_, _, _, l_SIGNS, k_SIGNS, v_SIGNS_8, rfl⟩, ⟨_, _, ⟨l_SIGNS, k_SIGNS, low_SIGNS⟩⟩, fun z hz => keyed_none l_SIGNS kd_SIGNS hz, ⟨_, PySem.W.mg_of X G c_LETTERS⟩, ⟨_, PySem.W.mg_of X G c_MOST_ITEMS⟩, PySem.W.mg_none_of X G z_all, PySem.W.mg_none_of X G z_bool, PySem.W.mg_none_of X G z_int, PySem.W.mg_none_of X G z_isinstance, PySem.W.mg_none_of X G z_len, PySem.W.mg_none_of X G z_list, PySem.W.mg_none_of X G z_range, PySem.W.mg_none_of X G z_repr, PySem.W.mg_none_of X G z_str, PySem.W.mg_none_of X G z_tuple⟩
  exact ⟨fd 16, fun s v => .of_eq rfl, fun base _ _ => ok_law T⟩
end Kw
open PySem PySem.W PyProof.Rows
set_option maxRecDepth 100000 in
set_option maxHeartbeats 0 in
theorem PySem.Challenge.cw_replaytravel_k04_what_is_an_expression_holds : PySem.Challenge.rw_replaytravel_k04_what_is_an_expression.Holds := by
  w_on; o_law; k_head; (case hw => w_witness2)
  k_fill
  refine Kw.walkG (l := PySem.Challenge.rw_replaytravel_k04_what_is_an_expression) (n := 63) (k := 9) (x := "_law_script") (C := fun _ => L2.CX0) (sp := fun w => Kw.sp_law _) rfl (by decide) rfl ⟨rfl, by decide, by decide⟩ (fun w h Y => PySem.W.kIn_of Y) ?F (fun _ _ a ns hl _ hS => ⟨a, ns, rfl, hS, hl, fun _ => rfl⟩) (fun _ _ _ _ _ h => h)
  case F =>
    intro w mg fa h KX G hmg
    refine' Kw.all_mk KX G hmg ?e0 ?l0 ?c0 ?k0 ?e1 ?l1 ?c1 ?k1 ?e2 ?l2 ?c2 ?k2 ?e3 ?l3 ?c3 ?k3 ?e4 ?l4 ?c4 ?k4 ?e5 ?l5 ?c5 ?k5 ?e6 ?l6 ?c6 ?k6 ?e7 ?l7 ?c7 ?k7 ?e8 ?l8 ?c8 ?k8 ?e9 ?l9 ?c9 ?k9 ?e10 ?l10 ?c10 ?k10 ?e11 ?l11 ?c11 ?k11 ?e12 ?l12 ?c12 ?k12 ?e13 ?l13 ?c13 ?k13 ?e14 ?l14 ?c14 ?k14 ?e15 ?l15 ?c15 ?k15 ?e16 ?l16 ?c16 ?k16 ?e17 ?l17 ?c17 ?k17 ?e18 ?l18 ?c18 ?k18 ?e19 ?l19 ?c19 ?k19 ?e20 ?l20 ?c20 ?k20 ?e21 ?l21 ?c21 ?k21 ?e22 ?l22 ?c22 ?k22 ?e23 ?l23 ?c23 ?k23 ?e24 ?l24 ?c24 ?k24 ?e25 ?l25 ?c25 ?k25 ?e_SIGNS ?l_SIGNS ?k_SIGNS ?v_SIGNS_0 ?v_SIGNS_1 ?v_SIGNS_2 ?v_SIGNS_3 ?v_SIGNS_4 ?v_SIGNS_5 ?v_SIGNS_6 ?v_SIGNS_7 ?v_SIGNS_8 ?low_SIGNS ?kd_SIGNS ?c_LETTERS ?c_MOST_ITEMS ?z_all ?z_bool ?z_int ?z_isinstance ?z_len ?z_list ?z_range ?z_repr ?z_str ?z_tuple
    (case e0 => k_is)
    (case l0 => k_is)
    (case c0 => k_is)
    (case k0 => k_is)
    (case e1 => k_is)
    (case l1 => k_is)
    (case c1 => k_is)
    (case k1 => k_is)
    (case e2 => k_is)
    (case l2 => k_is)
    (case c2 => k_is)
    (case k2 => k_is)
    (case e3 => k_is)
    (case l3 => k_is)
    (case c3 => k_is)
    (case k3 => k_is)
    (case e4 => k_is)
    (case l4 => k_is)
    (case c4 => k_is)
    (case k4 => k_is)
    (case e5 => k_is)
    (case l5 => k_is)
    (case c5 => k_is)
    (case k5 => k_is)
    (case e6 => k_is)
    (case l6 => k_is)
    (case c6 => k_is)
    (case k6 => k_is)
    (case e7 => k_is)
    (case l7 => k_is)
    (case c7 => k_is)
    (case k7 => k_is)
    (case e8 => k_is)
    (case l8 => k_is)
    (case c8 => k_is)
    (case k8 => k_is)
    (case e9 => k_is)
    (case l9 => k_is)
    (case c9 => k_is)
    (case k9 => k_is)
    (case e10 => k_is)
    (case l10 => k_is)
    (case c10 => k_is)
    (case k10 => k_is)
    (case e11 => k_is)
    (case l11 => k_is)
    (case c11 => k_is)
    (case k11 => k_is)
    (case e12 => k_is)
    (case l12 => k_is)
    (case c12 => k_is)
    (case k12 => k_is)
    (case e13 => k_is)
    (case l13 => k_is)
    (case c13 => k_is)
    (case k13 => k_is)
    (case e14 => k_is)
    (case l14 => k_is)
    (case c14 => k_is)
    (case k14 => k_is)
    (case e15 => k_is)
    (case l15 => k_is)
    (case c15 => k_is)
    (case k15 => k_is)
    (case e16 => k_is)
    (case l16 => k_is)
    (case c16 => k_is)
    (case k16 => k_is)
    (case e17 => k_is)
    (case l17 => k_is)
    (case c17 => k_is)
    (case k17 => k_is)
    (case e18 => k_is)
    (case l18 => k_is)
    (case c18 => k_is)
    (case k18 => k_is)
    (case e19 => k_is)
    (case l19 => k_is)
    (case c19 => k_is)
    (case k19 => k_is)
    (case e20 => k_is)
    (case l20 => k_is)
    (case c20 => k_is)
    (case k20 => k_is)
    (case e21 => k_is)
    (case l21 => k_is)
    (case c21 => k_is)
    (case k21 => k_is)
    (case e22 => k_is)
    (case l22 => k_is)
    (case c22 => k_is)
    (case k22 => k_is)
    (case e23 => k_is)
    (case l23 => k_is)
    (case c23 => k_is)
    (case k23 => k_is)
    (case e24 => k_is)
    (case l24 => k_is)
    (case c24 => k_is)
    (case k24 => k_is)
    (case e25 => k_is)
    (case l25 => k_is)
    (case c25 => k_is)
    (case k25 => k_is)
    (case e_SIGNS => k_is)
    (case l_SIGNS => k_is)
    (case k_SIGNS => repeat' (first | exact trivial | refine ⟨⟨_, _, rfl, rfl⟩, ?_⟩))
    (case v_SIGNS_0 => k_is)
    (case v_SIGNS_1 => k_is)
    (case v_SIGNS_2 => k_is)
    (case v_SIGNS_3 => k_is)
    (case v_SIGNS_4 => k_is)
    (case v_SIGNS_5 => k_is)
    (case v_SIGNS_6 => k_is)
    (case v_SIGNS_7 => k_is)
    (case v_SIGNS_8 => k_is)
    (case low_SIGNS => first | k_is | decide | rfl)
    (case kd_SIGNS => repeat' (first | exact trivial | refine ⟨⟨_, rfl⟩, ?_⟩))
    (case c_LETTERS => k_is)
    (case c_MOST_ITEMS => k_is)
    (case z_all => k_is)
    (case z_bool => k_is)
    (case z_int => k_is)
    (case z_isinstance => k_is)
    (case z_len => k_is)
    (case z_list => k_is)
    (case z_range => k_is)
    (case z_repr => k_is)
    (case z_str => k_is)
    (case z_tuple => k_is)
