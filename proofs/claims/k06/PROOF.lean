import PyProof.Rows.All
import Wide.All
import OpenK.AllK
import Wide.FinOn
import HandS.ForMost
import HandS.RaiseMore
import HandS.Defaults
import HandS.Wide
import HandS.Codes
import HandS.More
import HandS.Style
import HandS.CallLocal
import HandS.DictComp
import HandS.TupAny
import HandS.IsInst
import HandS.StrMore
import HandS.Walk
import HandS.Flow
import PyProof.ReprRoads
import PyProof.StrLaws
import HandS.Exc
import HandS.ExcInit
import HandS.ExcField
import HandS.ExcIs
import HandS.WordsExc
import KE.KExcIs
import KE.KIsAll
import KE.KBits
import KE.BitLaws
import KE.IntTextLaws
import KE.IntTextText
import KE.DataEq
import PyProof.StrLawsRepr
import PySem.Challenge.RW_replaytravel_k06_expressions_written_and
set_option Elab.async false
set_option maxRecDepth 100000
set_option maxHeartbeats 4000000
namespace Kw
open PySem L2
def top (i : Nat) : Stmt := PySem.Challenge.pw_replaytravel_k06_expressions_written_and.main.body.getD i (.Pass ⟨0, 0, 0, 0⟩)
def cls0 : Stmt → Stmt
  | .ClassDef (body := b) .. => b.getD 0 (.Pass ⟨0, 0, 0, 0⟩)
  | s => s
abbrev s_iNoText : Stmt := cls0 (top 1)
abbrev N_iNoText : List Str := ["self", "nth"]
theorem sc_iNoText : FnScope N_iNoText ["self", "nth"] (defScope s_iNoText) := ⟨rfl, rfl, rfl, by decide +kernel, rfl, by decide +kernel, by decide +kernel⟩
abbrev s_law : Stmt := top 44
abbrev N_law : List Str := ["_law_script", "_law_feed_here", "_law_k", "_law_e", "_law_text", "_law_turn", "_law_due"]
theorem sc_law : FnScope N_law ["_law_script"] (defScope s_law) := ⟨rfl, rfl, rfl, by decide +kernel, rfl, by decide +kernel, by decide +kernel⟩
abbrev s_iswhole : Stmt := top 5
abbrev N_iswhole : List Str := ["thing"]
theorem sc_iswhole : FnScope N_iswhole ["thing"] (defScope s_iswhole) := ⟨rfl, rfl, rfl, by decide +kernel, rfl, by decide +kernel, by decide +kernel⟩
abbrev s_wholeof : Stmt := top 6
abbrev N_wholeof : List Str := ["text"]
theorem sc_wholeof : FnScope N_wholeof ["text"] (defScope s_wholeof) := ⟨rfl, rfl, rfl, by decide +kernel, rfl, by decide +kernel, by decide +kernel⟩
abbrev s_isworth : Stmt := top 8
abbrev N_isworth : List Str := ["thing"]
theorem sc_isworth : FnScope N_isworth ["thing"] (defScope s_isworth) := ⟨rfl, rfl, rfl, by decide +kernel, rfl, by decide +kernel, by decide +kernel⟩
abbrev s_worthof : Stmt := top 9
abbrev N_worthof : List Str := ["text", "number", "size"]
theorem sc_worthof : FnScope N_worthof ["text"] (defScope s_worthof) := ⟨rfl, rfl, rfl, by decide +kernel, rfl, by decide +kernel, by decide +kernel⟩
abbrev s_plus : Stmt := top 10
abbrev N_plus : List Str := ["one", "other"]
theorem sc_plus : FnScope N_plus ["one", "other"] (defScope s_plus) := ⟨rfl, rfl, rfl, by decide +kernel, rfl, by decide +kernel, by decide +kernel⟩
abbrev s_minus : Stmt := top 11
abbrev N_minus : List Str := ["one", "other"]
theorem sc_minus : FnScope N_minus ["one", "other"] (defScope s_minus) := ⟨rfl, rfl, rfl, by decide +kernel, rfl, by decide +kernel, by decide +kernel⟩
abbrev s_times : Stmt := top 12
abbrev N_times : List Str := ["one", "other"]
theorem sc_times : FnScope N_times ["one", "other"] (defScope s_times) := ⟨rfl, rfl, rfl, by decide +kernel, rfl, by decide +kernel, by decide +kernel⟩
abbrev s_quotient : Stmt := top 13
abbrev N_quotient : List Str := ["one", "other"]
theorem sc_quotient : FnScope N_quotient ["one", "other"] (defScope s_quotient) := ⟨rfl, rfl, rfl, by decide +kernel, rfl, by decide +kernel, by decide +kernel⟩
abbrev s_rest : Stmt := top 14
abbrev N_rest : List Str := ["one", "other"]
theorem sc_rest : FnScope N_rest ["one", "other"] (defScope s_rest) := ⟨rfl, rfl, rfl, by decide +kernel, rfl, by decide +kernel, by decide +kernel⟩
abbrev s_isless : Stmt := top 15
abbrev N_isless : List Str := ["one", "other"]
theorem sc_isless : FnScope N_isless ["one", "other"] (defScope s_isless) := ⟨rfl, rfl, rfl, by decide +kernel, rfl, by decide +kernel, by decide +kernel⟩
abbrev s_issame : Stmt := top 16
abbrev N_issame : List Str := ["one", "other"]
theorem sc_issame : FnScope N_issame ["one", "other"] (defScope s_issame) := ⟨rfl, rfl, rfl, by decide +kernel, rfl, by decide +kernel, by decide +kernel⟩
abbrev s_bitsofboth : Stmt := top 17
abbrev N_bitsofboth : List Str := ["one", "other"]
theorem sc_bitsofboth : FnScope N_bitsofboth ["one", "other"] (defScope s_bitsofboth) := ⟨rfl, rfl, rfl, by decide +kernel, rfl, by decide +kernel, by decide +kernel⟩
abbrev s_bitsofone : Stmt := top 18
abbrev N_bitsofone : List Str := ["one", "other"]
theorem sc_bitsofone : FnScope N_bitsofone ["one", "other"] (defScope s_bitsofone) := ⟨rfl, rfl, rfl, by decide +kernel, rfl, by decide +kernel, by decide +kernel⟩
abbrev s_isletter : Stmt := top 23
abbrev N_isletter : List Str := ["thing"]
theorem sc_isletter : FnScope N_isletter ["thing"] (defScope s_isletter) := ⟨rfl, rfl, rfl, by decide +kernel, rfl, by decide +kernel, by decide +kernel⟩
abbrev s_issign : Stmt := top 24
abbrev N_issign : List Str := ["thing"]
theorem sc_issign : FnScope N_issign ["thing"] (defScope s_issign) := ⟨rfl, rfl, rfl, by decide +kernel, rfl, by decide +kernel, by decide +kernel⟩
abbrev s_leavesone : Stmt := top 25
abbrev N_leavesone : List Str := ["items", "height", "item"]
theorem sc_leavesone : FnScope N_leavesone ["items"] (defScope s_leavesone) := ⟨rfl, rfl, rfl, by decide +kernel, rfl, by decide +kernel, by decide +kernel⟩
abbrev s_isexpression : Stmt := top 26
abbrev N_isexpression : List Str := ["thing", "item"]
theorem sc_isexpression : FnScope N_isexpression ["thing"] (defScope s_isexpression) := ⟨rfl, rfl, rfl, by decide +kernel, rfl, by decide +kernel, by decide +kernel⟩
abbrev s_showexpression : Stmt := top 27
abbrev N_showexpression : List Str := ["e", "item"]
theorem sc_showexpression : FnScope N_showexpression ["e"] (defScope s_showexpression) := ⟨rfl, rfl, rfl, by decide +kernel, rfl, by decide +kernel, by decide +kernel⟩
abbrev s_itemof : Stmt := top 28
abbrev N_itemof : List Str := ["word", "worth"]
theorem sc_itemof : FnScope N_itemof ["word"] (defScope s_itemof) := ⟨rfl, rfl, rfl, by decide +kernel, rfl, by decide +kernel, by decide +kernel⟩
abbrev s_expressionof : Stmt := top 29
abbrev N_expressionof : List Str := ["text", "e", "word"]
theorem sc_expressionof : FnScope N_expressionof ["text"] (defScope s_expressionof) := ⟨rfl, rfl, rfl, by decide +kernel, rfl, by decide +kernel, by decide +kernel⟩
abbrev s_readexpression : Stmt := top 30
abbrev N_readexpression : List Str := ["text", "e"]
theorem sc_readexpression : FnScope N_readexpression ["text"] (defScope s_readexpression) := ⟨rfl, rfl, rfl, by decide +kernel, rfl, by decide +kernel, by decide +kernel⟩
abbrev s_lread : Stmt := top 43
abbrev N_lread : List Str := ["_law_text", "_law_kept", "_law_found", "_law_e"]
theorem sc_lread : FnScope N_lread ["_law_text"] (defScope s_lread) := ⟨rfl, rfl, rfl, by decide +kernel, rfl, by decide +kernel, by decide +kernel⟩
abbrev s_lfeed : Stmt := top 32
abbrev N_lfeed : List Str := ["_law_script"]
theorem sc_lfeed : FnScope N_lfeed ["_law_script"] (defScope s_lfeed) := ⟨rfl, rfl, rfl, by decide +kernel, rfl, by decide +kernel, by decide +kernel⟩
abbrev s_ldraw : Stmt := top 33
abbrev N_ldraw : List Str := ["_law_feed_here", "_law_many", "_law_got", "_law_at", "_law_cell", "_law_number"]
theorem sc_ldraw : FnScope N_ldraw ["_law_feed_here", "_law_many"] (defScope s_ldraw) := ⟨rfl, rfl, rfl, by decide +kernel, rfl, by decide +kernel, by decide +kernel⟩
abbrev s_lworth : Stmt := top 34
abbrev N_lworth : List Str := ["_law_feed_here", "_law_way"]
theorem sc_lworth : FnScope N_lworth ["_law_feed_here"] (defScope s_lworth) := ⟨rfl, rfl, rfl, by decide +kernel, rfl, by decide +kernel, by decide +kernel⟩
abbrev s_lregister : Stmt := top 35
abbrev N_lregister : List Str := ["_law_feed_here"]
theorem sc_lregister : FnScope N_lregister ["_law_feed_here"] (defScope s_lregister) := ⟨rfl, rfl, rfl, by decide +kernel, rfl, by decide +kernel, by decide +kernel⟩
abbrev s_litem : Stmt := top 36
abbrev N_litem : List Str := ["_law_feed_here"]
theorem sc_litem : FnScope N_litem ["_law_feed_here"] (defScope s_litem) := ⟨rfl, rfl, rfl, by decide +kernel, rfl, by decide +kernel, by decide +kernel⟩
abbrev s_lexpression : Stmt := top 37
abbrev N_lexpression : List Str := ["_law_feed_here", "_law_most", "_law_signs", "_law_items", "_law_high", "_law_left", "_law_k"]
theorem sc_lexpression : FnScope N_lexpression ["_law_feed_here", "_law_most"] (defScope s_lexpression) := ⟨rfl, rfl, rfl, by decide +kernel, rfl, by decide +kernel, by decide +kernel⟩
abbrev s_lisexp : Stmt := top 38
abbrev N_lisexp : List Str := ["_law_thing", "_law_high", "_law_item_here"]
theorem sc_lisexp : FnScope N_lisexp ["_law_thing"] (defScope s_lisexp) := ⟨rfl, rfl, rfl, by decide +kernel, rfl, by decide +kernel, by decide +kernel⟩
abbrev s_lextext : Stmt := top 39
abbrev N_lextext : List Str := ["_law_e", "_law_item_here"]
theorem sc_lextext : FnScope N_lextext ["_law_e"] (defScope s_lextext) := ⟨rfl, rfl, rfl, by decide +kernel, rfl, by decide +kernel, by decide +kernel⟩
abbrev s_lnumin : Stmt := top 40
abbrev N_lnumin : List Str := ["_law_word", "_law_least", "_law_figures", "_law_one", "_law_found"]
theorem sc_lnumin : FnScope N_lnumin ["_law_word", "_law_least"] (defScope s_lnumin) := ⟨rfl, rfl, rfl, by decide +kernel, rfl, by decide +kernel, by decide +kernel⟩
abbrev s_lspoilt : Stmt := top 42
abbrev N_lspoilt : List Str := ["_law_feed_here", "_law_text", "_law_signs", "_law_at", "_law_sign", "_law_words", "_law_way", "_law_one", "_law_other"]
theorem sc_lspoilt : FnScope N_lspoilt ["_law_feed_here", "_law_text"] (defScope s_lspoilt) := ⟨rfl, rfl, rfl, by decide +kernel, rfl, by decide +kernel, by decide +kernel⟩
abbrev s_lexprin : Stmt := top 41
abbrev N_lexprin : List Str := ["_law_text", "_law_items", "_law_word"]
theorem sc_lexprin : FnScope N_lexprin ["_law_text"] (defScope s_lexprin) := ⟨rfl, rfl, rfl, by decide +kernel, rfl, by decide +kernel, by decide +kernel⟩
structure Txt (K : PySem.W.Frag) (w : World) (mg : Str → Option Value) (f : Nat → Addr) (fd : Nat → FuncData) (ob : Nat → Addr) : Prop where
  F_iNoText : Fun K "__init__" "NoText.__init__" s_iNoText (f 0) (fd 0)
  m_NoText : mg "NoText" = some (.ref (ob 1))
  X_NoText : OexC K (ob 1)
  XI_NoText : PySem.W.findIn K (.ref (ob 1)) "__init__" = some (some (.ref (f 0)))
  XT_NoText : PySem.W.typeIn K (.ref (f 0)) = some (.type "function")
  XF_NoText : XfC K (ob 1)
  XC_NoText : PySem.W.isClsIn K (ob 1) = true
  XE_NoText : PySem.W.exmOne K (.ref (ob 1)) (.ref (ob 1)) = some true
  XN_NoText_nth : PySem.W.findIn K (.ref (ob 1)) "nth" = some none
  b_iNoText : Binds K (fd 0) ["self", "nth"] []
  F_law : Fun K "law" "law" s_law (f 1) (fd 1)
  m_law : mg "law" = some (.ref (f 1))
  b_law : Binds K (fd 1) ["_law_script"] []
  F_iswhole : Fun K "is_whole" "is_whole" s_iswhole (f 2) (fd 2)
  m_iswhole : mg "is_whole" = some (.ref (f 2))
  b_iswhole : Binds K (fd 2) ["thing"] []
  F_wholeof : Fun K "whole_of" "whole_of" s_wholeof (f 3) (fd 3)
  m_wholeof : mg "whole_of" = some (.ref (f 3))
  b_wholeof : Binds K (fd 3) ["text"] []
  F_isworth : Fun K "is_worth" "is_worth" s_isworth (f 4) (fd 4)
  m_isworth : mg "is_worth" = some (.ref (f 4))
  b_isworth : Binds K (fd 4) ["thing"] []
  F_worthof : Fun K "worth_of" "worth_of" s_worthof (f 5) (fd 5)
  m_worthof : mg "worth_of" = some (.ref (f 5))
  b_worthof : Binds K (fd 5) ["text"] []
  F_plus : Fun K "plus" "plus" s_plus (f 6) (fd 6)
  m_plus : mg "plus" = some (.ref (f 6))
  b_plus : Binds K (fd 6) ["one", "other"] []
  F_minus : Fun K "minus" "minus" s_minus (f 7) (fd 7)
  m_minus : mg "minus" = some (.ref (f 7))
  b_minus : Binds K (fd 7) ["one", "other"] []
  F_times : Fun K "times" "times" s_times (f 8) (fd 8)
  m_times : mg "times" = some (.ref (f 8))
  b_times : Binds K (fd 8) ["one", "other"] []
  F_quotient : Fun K "quotient" "quotient" s_quotient (f 9) (fd 9)
  m_quotient : mg "quotient" = some (.ref (f 9))
  b_quotient : Binds K (fd 9) ["one", "other"] []
  F_rest : Fun K "rest" "rest" s_rest (f 10) (fd 10)
  m_rest : mg "rest" = some (.ref (f 10))
  b_rest : Binds K (fd 10) ["one", "other"] []
  F_isless : Fun K "is_less" "is_less" s_isless (f 11) (fd 11)
  m_isless : mg "is_less" = some (.ref (f 11))
  b_isless : Binds K (fd 11) ["one", "other"] []
  F_issame : Fun K "is_same" "is_same" s_issame (f 12) (fd 12)
  m_issame : mg "is_same" = some (.ref (f 12))
  b_issame : Binds K (fd 12) ["one", "other"] []
  F_bitsofboth : Fun K "bits_of_both" "bits_of_both" s_bitsofboth (f 13) (fd 13)
  m_bitsofboth : mg "bits_of_both" = some (.ref (f 13))
  b_bitsofboth : Binds K (fd 13) ["one", "other"] []
  F_bitsofone : Fun K "bits_of_one" "bits_of_one" s_bitsofone (f 14) (fd 14)
  m_bitsofone : mg "bits_of_one" = some (.ref (f 14))
  b_bitsofone : Binds K (fd 14) ["one", "other"] []
  F_isletter : Fun K "is_letter" "is_letter" s_isletter (f 15) (fd 15)
  m_isletter : mg "is_letter" = some (.ref (f 15))
  b_isletter : Binds K (fd 15) ["thing"] []
  F_issign : Fun K "is_sign" "is_sign" s_issign (f 16) (fd 16)
  m_issign : mg "is_sign" = some (.ref (f 16))
  b_issign : Binds K (fd 16) ["thing"] []
  F_leavesone : Fun K "leaves_one" "leaves_one" s_leavesone (f 17) (fd 17)
  m_leavesone : mg "leaves_one" = some (.ref (f 17))
  b_leavesone : Binds K (fd 17) ["items"] []
  F_isexpression : Fun K "is_expression" "is_expression" s_isexpression (f 18) (fd 18)
  m_isexpression : mg "is_expression" = some (.ref (f 18))
  b_isexpression : Binds K (fd 18) ["thing"] []
  F_showexpression : Fun K "show_expression" "show_expression" s_showexpression (f 19) (fd 19)
  m_showexpression : mg "show_expression" = some (.ref (f 19))
  b_showexpression : Binds K (fd 19) ["e"] []
  F_itemof : Fun K "item_of" "item_of" s_itemof (f 20) (fd 20)
  m_itemof : mg "item_of" = some (.ref (f 20))
  b_itemof : Binds K (fd 20) ["word"] []
  F_expressionof : Fun K "expression_of" "expression_of" s_expressionof (f 21) (fd 21)
  m_expressionof : mg "expression_of" = some (.ref (f 21))
  b_expressionof : Binds K (fd 21) ["text"] []
  F_readexpression : Fun K "read_expression" "read_expression" s_readexpression (f 22) (fd 22)
  m_readexpression : mg "read_expression" = some (.ref (f 22))
  b_readexpression : Binds K (fd 22) ["text"] []
  F_lread : Fun K "_law_read" "_law_read" s_lread (f 23) (fd 23)
  m_lread : mg "_law_read" = some (.ref (f 23))
  b_lread : Binds K (fd 23) ["_law_text"] []
  F_lfeed : Fun K "_law_feed" "_law_feed" s_lfeed (f 24) (fd 24)
  m_lfeed : mg "_law_feed" = some (.ref (f 24))
  b_lfeed : Binds K (fd 24) ["_law_script"] []
  F_ldraw : Fun K "_law_draw" "_law_draw" s_ldraw (f 25) (fd 25)
  m_ldraw : mg "_law_draw" = some (.ref (f 25))
  b_ldraw : Binds K (fd 25) ["_law_feed_here", "_law_many"] []
  F_lworth : Fun K "_law_worth" "_law_worth" s_lworth (f 26) (fd 26)
  m_lworth : mg "_law_worth" = some (.ref (f 26))
  b_lworth : Binds K (fd 26) ["_law_feed_here"] []
  F_lregister : Fun K "_law_register" "_law_register" s_lregister (f 27) (fd 27)
  m_lregister : mg "_law_register" = some (.ref (f 27))
  b_lregister : Binds K (fd 27) ["_law_feed_here"] []
  F_litem : Fun K "_law_item" "_law_item" s_litem (f 28) (fd 28)
  m_litem : mg "_law_item" = some (.ref (f 28))
  b_litem : Binds K (fd 28) ["_law_feed_here"] []
  F_lexpression : Fun K "_law_expression" "_law_expression" s_lexpression (f 29) (fd 29)
  m_lexpression : mg "_law_expression" = some (.ref (f 29))
  b_lexpression : Binds K (fd 29) ["_law_feed_here", "_law_most"] []
  F_lisexp : Fun K "_law_is_expression" "_law_is_expression" s_lisexp (f 30) (fd 30)
  m_lisexp : mg "_law_is_expression" = some (.ref (f 30))
  b_lisexp : Binds K (fd 30) ["_law_thing"] []
  F_lextext : Fun K "_law_expression_text" "_law_expression_text" s_lextext (f 31) (fd 31)
  m_lextext : mg "_law_expression_text" = some (.ref (f 31))
  b_lextext : Binds K (fd 31) ["_law_e"] []
  F_lnumin : Fun K "_law_number_in" "_law_number_in" s_lnumin (f 32) (fd 32)
  m_lnumin : mg "_law_number_in" = some (.ref (f 32))
  b_lnumin : Binds K (fd 32) ["_law_word", "_law_least"] []
  F_lspoilt : Fun K "_law_spoilt" "_law_spoilt" s_lspoilt (f 33) (fd 33)
  m_lspoilt : mg "_law_spoilt" = some (.ref (f 33))
  b_lspoilt : Binds K (fd 33) ["_law_feed_here", "_law_text"] []
  F_lexprin : Fun K "_law_expression_in" "_law_expression_in" s_lexprin (f 34) (fd 34)
  m_lexprin : mg "_law_expression_in" = some (.ref (f 34))
  b_lexprin : Binds K (fd 34) ["_law_text"] []
  m_SIGNS : mg "SIGNS" = some (.ref (ob 0))
  t_SIGNS_0 : KDct K w (ob 0) "+" (.ref (f 6))
  t_SIGNS_1 : KDct K w (ob 0) "-" (.ref (f 7))
  t_SIGNS_2 : KDct K w (ob 0) "*" (.ref (f 8))
  t_SIGNS_3 : KDct K w (ob 0) "/" (.ref (f 9))
  t_SIGNS_4 : KDct K w (ob 0) "#" (.ref (f 10))
  t_SIGNS_5 : KDct K w (ob 0) "<" (.ref (f 11))
  t_SIGNS_6 : KDct K w (ob 0) "=" (.ref (f 12))
  t_SIGNS_7 : KDct K w (ob 0) "&" (.ref (f 13))
  t_SIGNS_8 : KDct K w (ob 0) "^" (.ref (f 14))
  d_SIGNS : ∃ es n, KDict K w (ob 0) es n
  n_SIGNS : ∀ z : Str, z ∉ (["+", "-", "*", "/", "#", "<", "=", "&", "^"] : List Str) → PySem.W.nsIn K (ob 0) z = some none
  m_NoRow : mg "NoRow" = some (.ref (ob 2))
  m_NotAhead : mg "NotAhead" = some (.ref (ob 3))
  q_cls : PySem.W.findIn K (.ref (ob 1)) "__class__" = some (some (.builtin "object.__class__"))
  q_get : PySem.W.specialIn K (.builtin "object.__class__") "__get__" = some (some (.builtin "getset_descriptor.__get__"))
  q_tks : PySem.W.takesIn K (.builtin "object.__class__") = some true
  q_mro : PySem.W.mroIn K (ob 1) (.type "object") = some true
  q_ive : PySem.W.kitOne K (.ref (ob 1)) (.type "ValueError") = some true
  q_itw : PySem.W.kitAny K (.ref (ob 1)) [.ref (ob 2), .ref (ob 3)] = some false
  c_LETTERS : ∃ t, mg "LETTERS" = some (.str "abcdefghijklmnop" t)
  c_MOST_ITEMS : ∃ t, mg "MOST_ITEMS" = some (.int 15 t)
  z_ValueError : mg "ValueError" = none
  z_all : mg "all" = none
  z_bool : mg "bool" = none
  z_int : mg "int" = none
  z_isinstance : mg "isinstance" = none
  z_len : mg "len" = none
  z_list : mg "list" = none
  z_range : mg "range" = none
  z_repr : mg "repr" = none
  z_str : mg "str" = none
  z_tuple : mg "tuple" = none
/-! Frames: all that was tracked but p stands as it stood. -/
def Kp (p : Addr) (H H' : Hp) : Prop := ∀ b o, b ≠ p → H b = some o → H' b = some o
theorem Kp.refl (p : Addr) (H : Hp) : Kp p H H := fun _ _ _ h => h
theorem Kp.trans {p : Addr} {H H1 H2 : Hp} (a : Kp p H H1) (b : Kp p H1 H2) : Kp p H H2 := fun x o n h => b x o n (a x o n h)
theorem Kp.upd {p : Addr} {H : Hp} (o : HO) : Kp p H (upd H p o) := fun b u n h => by
  rw [upd_ne n]
  exact h
theorem Kp.new {p q : Addr} {H : Hp} {o : HO} (h : H q = none) : Kp p H (L2.upd H q o) := fun b u _ e => by
  rw [upd_ne (ne_of_none e h)]
  exact e
theorem Kp.mut {p q : Addr} {H H' : Hp} {o : HO} (k : Kp p H H') (h : H q = none) : Kp p H (L2.upd H' q o) := fun b u n e => by
  rw [upd_ne (ne_of_none e h)]
  exact k b u n e
theorem Same.kp {p : Addr} {H H' : Hp} (s : Same H H') : Kp p H H' := fun b o _ h => s b o h
theorem Same.new {q : Addr} {H : Hp} {o : HO} (h : H q = none) : Same H (L2.upd H q o) := fun b u e => by
  rw [upd_ne (ne_of_none e h)]
  exact e
theorem Same.mut {q : Addr} {H H' : Hp} {o : HO} (k : Same H H') (h : H q = none) : Same H (L2.upd H' q o) := fun b u e => by
  rw [upd_ne (ne_of_none e h)]
  exact k b u e
/-- free behind a frame is free ahead of it, but for p -/
theorem Kp.free {p q : Addr} {H H' : Hp} (k : Kp p H H') (hq : q ≠ p) (h : H' q = none) : H q = none := by
  cases e : H q with
  | none => rfl
  | some o =>
    rw [k q o hq e] at h
    cases h
/-! What holds of the feed: a list of the cells, how many were begun, what is left. -/
def Pen (H : Hp) (p c : Addr) (ns : List Int) (n : Int) : Prop :=
  ∃ r : Int, H p = some (.lst [.ref c, .int n, .int r]) ∧ H c = some (.lst (ns.map V.int)) ∧ 0 ≤ n ∧ 0 ≤ r
theorem Pen.ne {H : Hp} {p c : Addr} {ns : List Int} {n : Int} (h : Pen H p c ns n) : c ≠ p := by
  obtain ⟨r, h1, h2, _⟩ := h
  refine ne_of h2 h1 fun e => ?_
  cases ns with
  | nil => cases e
  | cons a l => cases e
theorem Pen.nn {H : Hp} {p c : Addr} {ns : List Int} {n : Int} (h : Pen H p c ns n) : 0 ≤ n := by
  obtain ⟨r, _, _, h, _⟩ := h
  exact h
theorem Pen.new {H : Hp} {p c q : Addr} {ns : List Int} {n : Int} {o : HO} (h : Pen H p c ns n) (hq : H q = none) : Pen (upd H q o) p c ns n := by
  obtain ⟨r, h1, h2, h3, h4⟩ := h
  exact ⟨r, (upd_ne (ne_of_none h1 hq)).trans h1, (upd_ne (ne_of_none h2 hq)).trans h2, h3, h4⟩
theorem Pen.same {H H' : Hp} {p c : Addr} {ns : List Int} {n : Int} (h : Pen H p c ns n) (s : Same H H') : Pen H' p c ns n := by
  obtain ⟨r, h1, h2, h3, h4⟩ := h
  exact ⟨r, s _ _ h1, s _ _ h2, h3, h4⟩
theorem Pen.ni {H : Hp} {p c q : Addr} {ns : List Int} {n : Int} (h : Pen H p c ns n) (hq : H q = none) : q ≠ p := by
  obtain ⟨r, h1, _⟩ := h
  exact (ne_of_none h1 hq).symm
theorem cut63 {xs : List V} (h : xs.length ≤ 63) : cutV xs none (some 63) = xs := by
  unfold cutV
  rw [HT.sIx_none, show HT.sIx xs.length xs.length (some 63) = min 63 xs.length from HT.sIx_nat xs.length xs.length 63]
  rw [show min 63 xs.length = xs.length by omega]
  simp
theorem atI_in {ns : List Int} {i : Int} (h0 : 0 ≤ i) (h1 : i < ((ns.map V.int).length : Int)) : ∃ v : Int, atI (ns.map V.int) i = some (.int v) := by
  obtain ⟨j, rfl⟩ := Int.eq_ofNat_of_zero_le h0
  have hj : j < ns.length := by
    rw [List.length_map] at h1
    omega
  refine ⟨ns[j], atI_nat ?_⟩
  rw [List.getElem?_map, List.getElem?_eq_getElem hj]
  rfl
theorem few {i : Int} (h : i.natAbs < 2 ^ 20) : i.natAbs.log2 < 1920 := Nat.lt_of_lt_of_le (PySem.Flt.log2_lt_of (by decide) h) (by decide)
/-! Lists of ints as data. -/
theorem dpInts {K : PySem.W.Frag} {H : Hp} : ∀ ns : List Int, DpAll K H (ns.map V.int) (ns.map PyData.int)
  | [] => .nil
  | n :: r => .cons (.int n) (dpInts r)
theorem dpL {K : PySem.W.Frag} {H : Hp} {a : Addr} {ns : List Int} (h : SqL K H a (ns.map V.int)) : Dp K H (.ref a) (.list (ns.map PyData.int)) := .lst h (dpInts ns)
theorem shInts (ns : List Int) : SeqAt.shaped (.list (ns.map PyData.int)) = true := by
  simp [SeqAt.shaped, PyData.canLay0, PyData.depth, PySem.W.ke_canLayAll0, PySem.W.ke_depthAll]
theorem eqvInts (ns ms : List Int) : PyData.eqv (.list (ns.map PyData.int)) (.list (ms.map PyData.int)) = decide (ns = ms) := by
  rw [PyData.eqv, PySem.W.ked_eqvAll]
/-! A call with keywords alone. -/
section
variable {X : Cx} {CX : CXT} {k : Nat} {f : Addr} {fd : FuncData} {ps ks : List Str} {sp : Sp} {E : XK} {x : Str} {p pos : Pos} {kws : List Keyword} {tk : TA} {g : List Value → List Value → List Value} {gV : List V → List V → List V}
theorem callKw0 (F : FnOk X.prog X.w X.K X.mg X.base CX k f fd ps sp) (hr : Room k X.A) (hg : Gl X x) (hm : X.mg x = some (.ref f))
    (hk : PySem.W.keepIn X.K (.ref f) = true) (hb : KBn X.K fd ps 0 ks g gV) (hx : Passes CX X E) (hkw : PK X kws tk)
    (hall : (backToKw pos (keywordEach kws X.env)).all (·.1.isSome) = true := by rfl)
    (hks : (backToKw pos (keywordEach kws X.env)).filterMap (·.1) = ks := by rfl)
    (hdb : (x == ("__debug__" : Str)) = false := by decide)
    (hpl : ((backTo pos (starEach [] X.env)).any (·.1) || (backToKw pos (keywordEach kws X.env)).any (·.1.isNone)) = false := by rfl) :
    PE X (.Call (.Name x p) [] kws pos) (tCallN 0 ks.length sp gV E tNil tk) := by
  constructor
  intro pins s σ H Q I h
  refine wpAny_Call_Name_kw (ld_glob I hg hm ?_ hdb)
  refine PySem.W.callWith_KW0 (h₀ := X.base) I.ok.mod.kin hk hall ?_ hpl
  refine thn (hkw.run pos pins s σ H _ I h) ?_
  rintro ws s2 ⟨zs, H2, I2, rz, l1, l2, q2⟩
  refine ⟨I2.kIn, ?_⟩
  rw [hks]
  exact run_fnN (us := []) (vs := []) F hr hb hx I2 .nil rz rfl l2 q2
end
/-! A written dict whose keys are these texts. -/
def Keyed : List DictEntry → List Str → Prop
  | [], [] => True
  | e :: r, k :: ks => (∃ t, e.key = .str k t) ∧ Keyed r ks
  | _, _ => False
theorem keyed_find : ∀ {l : List DictEntry} {ks : List Str} {z : Str}, Keyed l ks → z ∉ ks → l.find? (·.key.isStr z) = none ∧ l.any (·.refKey) = false
  | [], [], _, _, _ => ⟨rfl, rfl⟩
  | e :: r, k :: ks, z, h, hz => by
    obtain ⟨⟨t, et⟩, hr⟩ := h
    have hk : z ≠ k := fun q => hz (by rw [q]; exact List.mem_cons_self)
    obtain ⟨h1, h2⟩ := keyed_find hr (fun q => hz (List.mem_cons_of_mem _ q))
    have e1 : e.key.isStr z = false := by
      rw [PySem.W.isStr_of, et]
      show (k == z) = false
      exact beq_false_of_ne (fun q => hk q.symm)
    have e2 : e.refKey = false := by
      unfold DictEntry.refKey
      rw [et]
    refine ⟨?_, ?_⟩
    · rw [List.find?_cons, e1]
      exact h1
    · rw [List.any_cons, e2, h2]
      rfl
theorem keyed_none {K : PySem.W.Frag} {a : Addr} {c : Value} {d : Option Addr} {es : Array DictEntry} {n : Nat} {sl : Array (Option Value)} {ks : List Str} {z : Str} (l : K.lookup a = some ⟨c, d, .dict es n, sl⟩) (h : Keyed es.toList ks) (hz : z ∉ ks) :
    PySem.W.nsIn K a z = some none := by
  obtain ⟨h1, h2⟩ := keyed_find h hz
  unfold PySem.W.nsIn
  rw [l]
  show (match es.toList.find? (·.key.isStr z) with
      | some e => some (some e.val)
      | none => if es.toList.any (·.refKey) then none else some none) = some none
  rw [h1, h2]
  rfl
/-! A word between a test and what follows it; between an expression and what follows it. -/
section
variable {X : Cx}
def tM (t : TT) : TT := fun σ H Q => ∃ M : Bool → Hp → Prop, t σ H M ∧ ∀ b H', M b H' → Q b H'
theorem pt_M {e : Expr} {t : TT} (h : PT X e t) : PT X e (tM t) :=
  ⟨fun pins s σ H _ I ⟨M, hm, k⟩ => thn (h.run pins s σ H M I hm) fun b _ ⟨H1, I1, q⟩ => ⟨H1, I1, k b H1 q⟩⟩
def eM (t : TE) : TE := fun σ H Q => ∃ M : V → Hp → Prop, t σ H M ∧ ∀ v H', M v H' → Q v H'
theorem pe_M {e : Expr} {t : TE} (h : PE X e t) : PE X e (eM t) :=
  ⟨fun pins s σ H _ I ⟨M, hm, k⟩ => thn (h.run pins s σ H M I hm) fun _ _ ⟨v, H1, I1, r, q⟩ => ⟨v, H1, I1, r, k v H1 q⟩⟩
end
theorem Pen.nt {H : Hp} {p c q : Addr} {ns : List Int} {n : Int} {o : HO} (h : Pen H p c ns n) (e : H q = some o) (ho : ∀ xs, o ≠ .lst xs) : q ≠ p := by
  obtain ⟨r, h1, _⟩ := h
  exact ne_of e h1 (ho _)
theorem ex_t {K : PySem.W.Frag} {H H' : Hp} {a : Addr} {xs : List V} (e : Same H H') (h : SqT K H a xs) : SqT K H' a xs := by
  rcases h with (h | ⟨o, h⟩) | h
  · exact .inl (.inl (e _ _ h))
  · exact .inl (.inr ⟨o, e _ _ h⟩)
  · exact .inr h
/-! Defs that are called where no repr is under way (guards known): their promise, the rule, the call, the law's end. -/
structure FnG (P : Program) (w : World) (K : PySem.W.Frag) (mg : Str → Option Value) (base : Heap) (C : CXT) (k : Nat) (f : Addr) (fd : FuncData) (ps : List Str) (sp : Sp) : Prop where
  len : ∀ vs H Q E, sp vs H Q E → vs.length = ps.length
  go : ∀ (A : Around) (o : List Env) (s : Shared) (H : Hp) (args : Args) (us : List Value) (vs : List V) (Q : VK) (E : XK), A.guards = some [] → Room k A → Env0 P w K mg base A o s H →
    BindsTo s fd args (ps.zip us) → Vals vs us → sp vs H Q E → codeAny (model P w) A (.call (.ref f) args) (CR C o P w H s Q E) s
theorem FnG.of {P : Program} {w : World} {K : PySem.W.Frag} {mg : Str → Option Value} {base : Heap} {C : CXT} {k : Nat} {f : Addr} {fd : FuncData} {ps : List Str} {sp : Sp} (h : FnOk P w K mg base C k f fd ps sp) : FnG P w K mg base C k f fd ps sp :=
  ⟨h.len, fun A o s H args us vs Q E _ => h.run A o s H args us vs Q E⟩
section
open PyProof.Rows
theorem Fun.okG {P : Program} {w : World} {K : PySem.W.Frag} {mg : Str → Option Value} {base : Heap} {x qual : Str} {st : Stmt} {f : Addr} {fd : FuncData} {N ps : List Str} {k : Nat} {sp : Sp} (F : Fun K x qual st f fd) (S : FnScope N ps (defScope st))
    (len : ∀ vs H Q E, sp vs H Q E → vs.length = ps.length)
    (body : ∀ (cdv : Value) (A : Around) (o : List Env) (s : Shared) (H : Hp) (vs : List V) (Q : VK) (E : XK), A.guards = some [] → Room k (A.deeper (envOfC qual (defScope st) s.heap.objs.size f cdv)) → sp vs H Q E →
      ∃ t, PSs (cxOf CX0 P w K mg base N qual (defScope st) f cdv A o s H E).nox (defBody st) t ∧ t { nx := fun _ H' => Q .non H', rt := Q } (start N vs) H) : FnG P w K mg base CX0 (k + 1) f fd ps sp := by
  obtain ⟨oc, od, kV, doc, pm, an, cdv, ct, osl, rfl, lk, hcd⟩ := F.ex
  constructor
  · exact len
  · intro A o s H args us vs Q E hg room env bnd rel want
    have hl := len vs H Q E want
    have kin : K.In s.heap := env.mod.kin.keeps fun b u e => (env.bs b u e).1
    have nol : s.heap.NoLimit := env.mod.nolimit.keeps fun b u e => (env.bs b u e).1
    have kinds : ∀ y ∈ ps.zip us, (defScope st).names.lookup y.1 = some .local ∨ ((defScope st).names.lookup y.1 = some .cell ∧ ((cellsFrom (s.heap.objs.size + 1) (defScope st).names []).lookup y.1).isSome = true) := by
      rintro ⟨n, v⟩ hy
      rcases S.par n (List.of_mem_zip hy).1 with q | q
      · left
        exact q
      · right
        exact ⟨q, PySem.W.cellsFrom_some _ _ _ (.inl q)⟩
    refine codeAny_call_function room.depth (kin _ _ lk) rfl S.co S.gen rfl (PySem.W.codeRec_of kin hcd) (bnd _ _ _ _ ?_)
    apply wpAny_newFunctionEnv_cells S.kind kinds
    intro en he s1 q1
    subst he
    refine ⟨nol.keeps q1.toInCall.keep, codeAny_func ?_⟩
    obtain ⟨t, ht, hq⟩ := body cdv A o s H vs Q E hg (room.deeper _) want
    have J : Inv (cxOf CX0 P w K mg base N qual (defScope st) f cdv A o s H E) [] (start N vs) H s1 := inv_start S room.hd env hl rel q1
    refine wpAny_mono (ht.nox.run [] s1 (start N vs) H _ J hq) ?_ (fun e s' z => z)
    intro fl s' z
    match fl, z with
    | .ret u, ⟨v, _, H', I', rv, qv⟩ => exact ⟨v, H', I'.os, I'.bare, I'.base, I'.hok, rv, qv⟩
    | .next, ⟨_, H', I', qv⟩ => exact ⟨V.non, H', I'.os, I'.bare, I'.base, I'.hok, rfl, qv⟩
    | .brk, ⟨_, _, _, bad⟩ => exact False.elim bad
    | .cont, ⟨_, _, _, bad⟩ => exact False.elim bad
/-- the call of such a def by its name -/
theorem callG {X : Cx} {C : CXT} {k : Nat} {f : Addr} {fd : FuncData} {ps : List Str} {ds : List Value} {dvs : List V} {sp : Sp} {E : XK} {x : Str} {p pos : Pos} {e : Expr} {es : List Expr} {t : TA}
    (F : FnG X.prog X.w X.K X.mg X.base C k f fd ps sp) (hu : X.A.guards = some []) (room : Room k X.A) (glob : Gl X x) (hm : X.mg x = some (.ref f)) (kp : PySem.W.keepIn X.K (.ref f) = true) (bnd : Binds X.K fd ps ds) (hd : Vals dvs ds) (pas : Passes C X E)
    (args : PA X (e :: es) t) (h1 : (x == ("__debug__" : Str)) = false := by decide) (h2 : starEach (e :: es) X.env = (false, eval e X.env) :: starEach es X.env := by rfl) (h3 : (backTo pos (starEach es X.env)).any (·.1) = false := by rfl) :
    PE X (.Call (.Name x p) (e :: es) [] pos) (tCall sp dvs E t) := by
  constructor
  intro pins s σ H Q I h
  refine wpAny_Call_Name_kw (ld_glob I glob hm ?_ h1)
  refine PySem.W.callWith_K (h₀ := X.base) I.ok.mod.kin kp (thn (args.run pos pins s σ H _ I h) ?_) h2 h3
  rintro us s1 ⟨vs, H1, I1, r1, q1⟩
  refine ⟨I1.kIn, ?_⟩
  have r2 : Vals (vs ++ dvs) (us ++ ds) := r1.append hd
  have hl : (us ++ ds).length = ps.length := r2.length.symm.trans (F.len _ _ _ _ q1)
  refine wpAny_call (codeAny_mono (F.go X.A X.stack s1 H1 ⟨us, []⟩ (us ++ ds) (vs ++ dvs) Q E hu room I1.env0 (bnd s1 us I1.kIn hl) r2 q1) ?_)
  intro r s' hq
  match r, hq with
  | .error z, hq => exact pas pins σ H1 s1 z s' I1 hq
  | .ok (.ret u), hq => exact I1.after hq
  | .ok .next, hq => exact False.elim hq
  | .ok .brk, hq => exact False.elim hq
  | .ok .cont, hq => exact False.elim hq
/-- repr of data -/
structure ShowOk (d : PyData) : Prop where
  can : d.showable = true
  nod : d.hasDict = false
  deep : d.depth ≤ 60
  size : d.shown.length ≤ sizeLine
def rRepr (K : PySem.W.Frag) : List V → Hp → VK → Prop := fun xs H Q => ∃ (x : V) (d : PyData), xs = [x] ∧ Dp K H x d ∧ ShowOk d ∧ Q (.str d.shown) H
theorem call_reprD {X : Cx} (hg : X.A.guards = some []) (hu : X.A.units + 64 < cLine) : CallR X (.builtin "repr") (rRepr X.K) := by
  intro pins s σ H xs us Q I r h
  obtain ⟨x, d, rfl, dp, ok, q⟩ := h
  obtain ⟨u, rfl, ru⟩ := vals1 r
  obtain ⟨as, rd⟩ := Dp.reads I d x u dp ru
  cases dp with
  | non =>
    cases ru
    exact PySem.P.repr_of_none ⟨.str _, H, I.tok _, ⟨_, rfl⟩, q⟩
  | bl b =>
    cases ru
    exact PySem.P.repr_of_bool ⟨.str _, H, I.tok _, ⟨_, rfl⟩, q⟩
  | int i =>
    obtain ⟨t, rfl⟩ := ru
    exact PySem.P.repr_of_int (of_decide_eq_true ok.can) ⟨.str _, H, I.tok _, ⟨_, rfl⟩, q⟩
  | str z =>
    obtain ⟨t, rfl⟩ := ru
    exact PySem.P.repr_of_str ⟨.str _, H, I.tok _, ⟨_, rfl⟩, q⟩ ok.size
  | lst hs ha =>
    cases ru
    refine repr_of_reads' rd ok.can (fun e => by rw [ok.nod] at e; cases e) hg (by have := ok.deep; omega) (fun _ _ e => e) (fun h' t tk hk => ⟨.str _, H, I.kept hk, ⟨_, rfl⟩, q⟩) ok.size
  | tup hs ha =>
    cases ru
    refine repr_of_reads' rd ok.can (fun e => by rw [ok.nod] at e; cases e) hg (by have := ok.deep; omega) (fun _ _ e => e) (fun h' t tk hk => ⟨.str _, H, I.kept hk, ⟨_, rfl⟩, q⟩) ok.size
end
section
open PyProof.Rows
/-- the law's call from such a promise -/
theorem lawG {P : Program} {w : World} {K : PySem.W.Frag} {mg mb : Str → Option Value} {C : CXT} {k : Nat} {fa a : Addr} {fd : FuncData} {x : Str} {sp : Sp} {s0 : Shared} {vs : List Value} {ns : List Int}
    (kin : K.In s0.heap) (hns : s0.heap.Ns mainGlobals mg) (hbn : s0.heap.Ns builtinsNs mb) (hbb : ∀ z : Str, z ≠ "__name__" → mb z = bootBuiltins z) (nol : s0.heap.NoLimit) (gens : s0.gens = #[])
    (ha : s0.heap.get? a = some { cls := .type "list", data := .seq vs.toArray }) (nums : IntsAre vs ns) (few : ns.length ≤ sizeLine) (room : Room k callerA)
    (F : ∀ base : Heap, K.In base → base.Ns mainGlobals mg → FnG P w K mg base C k fa fd [x] sp) (bnd : ∀ (s : Shared) (u : Value), BindsTo s fd ⟨[u], []⟩ [(x, u)])
    (want : ∀ H : Hp, Only H → SqL K H a (ns.map V.int) → sp [.ref a] H (fun v _ => v = .bl true) fun _ _ _ => False) (noX : ∀ H e s', C [] H s0 (fun _ _ _ => False) e s' → False) :
    codeAny (model P w) callerA (.call (.ref fa) ⟨[.ref a], []⟩) (fun r s' => r = .ok (.ret (.bool true)) ∧ OldK s0.heap s'.heap ∧ s'.os = s0.os ∧ AllBare s'.gens) s0 := by
  have rel := vals_ints nums
  have nlen := nums.length
  have core : ∀ H : Hp, Only H → SqL K H a (ns.map V.int) → HOk P w H s0.heap → (∀ b, H b ≠ none → b = a) → (H a ≠ none → K.lookup a = none) →
      codeAny (model P w) callerA (.call (.ref fa) ⟨[.ref a], []⟩) (fun r s' => r = .ok (.ret (.bool true)) ∧ OldK s0.heap s'.heap ∧ s'.os = s0.os ∧ AllBare s'.gens) s0 := by
    intro H only sq hok isA notK
    have free : ∀ {b : Addr} {o : Obj} {es : Array DictEntry} {ep : Nat}, s0.heap.get? b = some o → o.data = .dict es ep → H b = none := by
      intro b o es ep e d
      cases q : H b with
      | none => rfl
      | some u =>
        obtain rfl : b = a := isA b (by rw [q]; simp)
        rw [ha] at e
        cases e
        cases d
    have nsK : ∀ {b : Addr} {m : Str → Option Value}, s0.heap.Ns b m → (hidT s0.heap H).Ns b m := by
      rintro b m ⟨o, es, ep, e, d, r⟩
      exact ⟨o, es, ep, hidT_get e (free e d), d, r⟩
    have kinB : K.In (hidT s0.heap H) := by
      intro b o e
      refine hidT_get (kin b o e) ?_
      cases q : H b with
      | none => rfl
      | some u =>
        obtain rfl : b = a := isA b (by rw [q]; simp)
        rw [notK (by rw [q]; simp)] at e
        cases e
    have lim : (hidT s0.heap H).NoLimit := by
      obtain ⟨mc, l1, l2⟩ := nol
      exact ⟨mc, nsK l1, l2⟩
    have env : Env0 P w K mg (hidT s0.heap H) callerA [] s0 H :=
      ⟨rfl, ⟨kinB, nsK hns, ⟨mb, nsK hbn, hbb⟩, lim⟩, fun b o e => of_hidT e, Nat.le_of_eq (hidT_size _ _), trivial, fun b z => absurd z (List.not_mem_nil), hok, .of_eq gens⟩
    refine codeAny_mono ((F _ kinB (nsK hns)).go callerA [] s0 H ⟨[.ref a], []⟩ [.ref a] [.ref a] _ _ rfl room env (bnd s0 (.ref a)) (.cons rfl .nil) (want H only sq)) ?_
    intro r s' h
    match r, h with
    | .error e, h => exact (noX H e s' h).elim
    | .ok .next, h => exact False.elim h
    | .ok .brk, h => exact False.elim h
    | .ok .cont, h => exact False.elim h
    | .ok (.ret u), h =>
      obtain ⟨v, H', os, bare, un, hok', rv, (q : v = .bl true)⟩ := h
      subst q
      obtain rfl : u = Value.bool true := rv
      refine ⟨rfl, OldK.of_keep ?_, os, bare⟩
      intro b o e
      cases q : H b with
      | none => exact un.keep b o e q (fun z => absurd z List.not_mem_nil) (fun z => absurd z List.not_mem_nil)
      | some u =>
        rcases only b with z | ⟨ob, xs, z⟩
        · rw [q] at z
          cases z
        · obtain ⟨e1, _⟩ := hok b _ z
          obtain ⟨e2, _⟩ := hok' b _ (un.frzs b ob _ z)
          rw [e] at e1
          cases e1
          exact e2
  cases hk : K.lookup a with
  | some o =>
    have e := kin a o hk
    rw [ha] at e
    cases e
    refine core (fun _ => none) (fun _ => .inl rfl) ?_ (fun b u z => nomatch z) (fun b z => absurd rfl z) (fun z => absurd rfl z)
    exact .inr ⟨_, vs.toArray, _, hk, rfl, rfl, rfl, by rw [List.size_toArray, nlen]; exact few, by simpa using rel⟩
  | none =>
    have at_ : ∀ b : Addr, (if b = a then some (HO.frz { cls := .type "list", data := .seq vs.toArray } (.lst (ns.map V.int))) else none) ≠ none → b = a := fun b z => by
      by_cases hb : b = a
      · exact hb
      · rw [if_neg hb] at z
        exact absurd rfl z
    refine core (fun b => if b = a then some (.frz { cls := .type "list", data := .seq vs.toArray } (.lst (ns.map V.int))) else none) (fun b => ?_) (.inl (.inr ⟨_, if_pos rfl⟩)) (fun b u z => ?_) at_ (fun _ => hk)
    · by_cases hb : b = a
      · exact .inr ⟨_, _, if_pos hb⟩
      · exact .inl (if_neg hb)
    · dsimp only at z
      obtain rfl := at_ b (by rw [z]; simp)
      rw [if_pos rfl] at z
      obtain rfl := Option.some.inj z
      exact ⟨ha, by rw [List.length_map]; exact few, vs, _, rel, ha⟩
theorem walkG {l : PySem.W.OpenLaw} {n k : Nat} {q : Program} {loose : List Str} {XP : (Str → Option Value) → Heap → Prop} {YP : World → Heap → Prop} {d : DefRec} {K : Params → PySem.W.Frag} {C : World → CXT} {sp : World → Sp} {x : Str}
    (hn : l.most = some n) (hn2 : n ≤ sizeLine) (hdf : d.params.defaults = []) (room : Room k callerA) (hY : ∀ (w : World) (h : Heap), YP w h → (K w.params).In h)
    (F : ∀ (w : World) (mg : Str → Option Value) (fa : Addr) (h : Heap), (K w.params).In h → h.Ns mainGlobals mg → mg d.name = some (.ref fa) →
      ∃ fd : FuncData, (∀ (s : Shared) (u : Value), BindsTo s fd ⟨[u], []⟩ [(x, u)]) ∧ ∀ base : Heap, (K w.params).In base → base.Ns mainGlobals mg → FnG l.prog w (K w.params) mg base (C w) k fa fd [x] (sp w))
    (want : ∀ (w : World) (H : Hp) (a : Addr) (ns : List Int), ns.length ≤ n → Only H → SqL (K w.params) H a (ns.map V.int) → sp w [.ref a] H (fun v _ => v = .bl true) fun _ _ _ => False)
    (noX : ∀ (w : World) (H : Hp) (s : Shared) (e : Value) (s' : Shared), C w [] H s (fun _ _ _ => False) e s' → False) : PySem.W.WalkO q loose XP YP l.row.toRowW d [] (fun f vs => PySem.call f vs) := by
  refine Att.attach_call hn hdf ?_
  intro w s₀ s1 mg mb fa o pm cd doc a vs ns G Y ho hd hcd hmg hobj nums hlen gens
  obtain ⟨fd, bnd, ok⟩ := F w mg fa _ (hY w _ Y) G.T.g hmg
  exact lawG (hY w _ Y) G.T.g G.T.b G.T.builtins G.T.nolimit gens hobj nums (Nat.le_trans hlen hn2) room ok bnd (fun H h1 h2 => want w H a ns hlen h1 h2) (fun H e s' => noX w H s1 e s')
end
/-! Worths and the nine signs. -/
def W (a : Int) : Prop := -32768 ≤ a ∧ a ≤ 32767
def br (n : Int) : Int := (n + 32768) % 65536 - 32768
theorem br_W (n : Int) : W (br n) := by
  unfold W br
  omega
theorem br_id {a : Int} (h : W a) : br a = a := by
  unfold W at h
  unfold br
  omega
def sg (i : Nat) (a b : Int) : Int := match i with
  | 0 => a + b
  | 1 => a - b
  | 2 => a * b
  | 3 => if b = 0 then 0 else a.fdiv b
  | 4 => if b = 0 then 0 else a - b * a.fdiv b
  | 5 => if a < b then 1 else 0
  | 6 => if a = b then 1 else 0
  | 7 => Builtin.bitAnd a b
  | _ => Builtin.bitXor a b
def nm (i : Nat) : Str := match i with
  | 0 => "+"
  | 1 => "-"
  | 2 => "*"
  | 3 => "/"
  | 4 => "#"
  | 5 => "<"
  | 6 => "="
  | 7 => "&"
  | _ => "^"
theorem few_W {a : Int} (h : W a) : a.natAbs.log2 < 1920 := few (by unfold W at h; show _ < 1048576; omega)
theorem iteB0 {c : Bool} {A B : Prop} (h : c = false) (hB : B) : if c = true then A else B := by
  rw [h]
  exact iteF hB
theorem iteB1 {c : Bool} {A B : Prop} (h : c = true) (hA : A) : if c = true then A else B := by
  rw [h]
  exact iteT hA
/-! Expressions: worths, registers, signs; reckoned with a pile (the uppermost first). -/
inductive Im where
  | wo (a : Int)
  | re (k : Nat)
  | si (i : Nat)
def lt (k : Nat) : Str := ⟨#[97 + k]⟩
def Im.toV : Im → V
  | .wo a => .int a
  | .re k => .str (lt k)
  | .si i => .str (nm i)
def Im.ok : Im → Prop
  | .wo a => W a
  | .re k => k < 16
  | .si i => i < 9
def Im.sgn : Im → Bool
  | .si _ => true
  | _ => false
def step (ρ : Nat → Int) (rp : List Int) : Im → Option (List Int)
  | .wo a => some (a :: rp)
  | .re k => some (ρ k :: rp)
  | .si i => match rp with
    | y :: x :: r => some (br (sg i x y) :: r)
    | _ => none
def run (ρ : Nat → Int) : List Int → List Im → Option (List Int)
  | rp, [] => some rp
  | rp, m :: l => match step ρ rp m with
    | some rp' => run ρ rp' l
    | none => none
def ht : Nat → List Im → Option Nat
  | h, [] => some h
  | h, m :: l => if m.sgn = true then (if 2 ≤ h then ht (h - 1) l else none) else ht (h + 1) l
theorem ht_snoc : ∀ (l : List Im) (h : Nat) (m : Im), ht h (l ++ [m]) = match ht h l with
    | some g => ht g [m]
    | none => none
  | [], h, m => rfl
  | x :: l, h, m => by
    show (if x.sgn = true then (if 2 ≤ h then ht (h - 1) (l ++ [m]) else none) else ht (h + 1) (l ++ [m])) = match (if x.sgn = true then (if 2 ≤ h then ht (h - 1) l else none) else ht (h + 1) l) with
      | some g => ht g [m]
      | none => none
    rw [ht_snoc l (h - 1) m, ht_snoc l (h + 1) m]
    split
    · split <;> rfl
    · rfl
/-- what stands in the middle of one with another thing that is no sign there -/
theorem ht_other : ∀ (l r : List Im) (h : Nat) (m m' : Im), m.sgn = false → m'.sgn = false → ht h (l ++ m :: r) = ht h (l ++ m' :: r)
  | [], r, h, m, m', e, e' => by
    show (if m.sgn = true then _ else ht (h + 1) r) = (if m'.sgn = true then _ else ht (h + 1) r)
    rw [e, e']
  | x :: l, r, h, m, m', e, e' => by
    show (if x.sgn = true then (if 2 ≤ h then ht (h - 1) (l ++ m :: r) else none) else ht (h + 1) (l ++ m :: r)) = (if x.sgn = true then (if 2 ≤ h then ht (h - 1) (l ++ m' :: r) else none) else ht (h + 1) (l ++ m' :: r))
    rw [ht_other l r (h - 1) m m' e e', ht_other l r (h + 1) m m' e e']
theorem ht_run (ρ : Nat → Int) : ∀ (l : List Im) (h g : Nat) (rp : List Int), ht h l = some g → rp.length = h → ∃ rp', run ρ rp l = some rp' ∧ rp'.length = g
  | [], h, g, rp, e, el => ⟨rp, rfl, by rw [el]; exact Option.some.inj e⟩
  | .wo a :: l, h, g, rp, e, el => ht_run ρ l (h + 1) g (a :: rp) e (by rw [List.length_cons, el])
  | .re k :: l, h, g, rp, e, el => ht_run ρ l (h + 1) g (ρ k :: rp) e (by rw [List.length_cons, el])
  | .si i :: l, h, g, rp, e, el => by
    have e2 : (if 2 ≤ h then ht (h - 1) l else none) = some g := e
    by_cases hh : 2 ≤ h
    · rw [if_pos hh] at e2
      match rp, el with
      | y :: x :: r, el =>
        obtain ⟨rp', h1, h2⟩ := ht_run ρ l (h - 1) g (br (sg i x y) :: r) e2 (by
          rw [List.length_cons, List.length_cons] at el
          rw [List.length_cons]
          omega)
        exact ⟨rp', h1, h2⟩
      | [x], el =>
        rw [List.length_singleton] at el
        omega
      | [], el =>
        rw [List.length_nil] at el
        omega
    · rw [if_neg hh] at e2
      cases e2
/-- one that is right: so many on the pile at the end as one -/
structure Expr1 (l : List Im) : Prop where
  ok : ∀ m ∈ l, m.ok
  ht : ht 0 l = some 1
theorem Expr1.val {l : List Im} (h : Expr1 l) (ρ : Nat → Int) : ∃ y, run ρ [] l = some [y] := by
  obtain ⟨rp, h1, h2⟩ := ht_run ρ l 0 1 [] h.ht rfl
  match rp, h2 with
  | [y], _ => exact ⟨y, h1⟩
/-! Registers' worths, a dict. -/
def Gd (kvs : List (Key × V)) : Prop := ∀ p ∈ kvs, valV kvs p.1 = some p.2 ∧ ∃ a, p.2 = .int a ∧ W a
def rho (kvs : List (Key × V)) (k : Nat) : Int := match valV kvs (.inr (lt k)) with
  | some (.int a) => a
  | _ => 0
theorem valV_mem {kvs : List (Key × V)} {k : Key} {v : V} (h : valV kvs k = some v) : ∃ p ∈ kvs, p.2 = v := by
  unfold valV at h
  cases e : kvs.find? fun kv => decide (kv.1 = k) with
  | none =>
    rw [e] at h
    cases h
  | some p =>
    rw [e] at h
    exact ⟨p, List.mem_of_find?_eq_some e, Option.some.inj h⟩
theorem Gd.get {kvs : List (Key × V)} (h : Gd kvs) (k : Nat) : (valV kvs (.inr (lt k))).getD (.int 0) = .int (rho kvs k) ∧ W (rho kvs k) := by
  unfold rho
  cases e : valV kvs (.inr (lt k)) with
  | none => exact ⟨rfl, by unfold W; decide⟩
  | some v =>
    obtain ⟨p, hp, rfl⟩ := valV_mem e
    obtain ⟨_, a, ha, hW⟩ := h p hp
    rw [ha]
    exact ⟨rfl, hW⟩
theorem Gd.nil : Gd [] := fun p hp => by cases hp
theorem Gd.put {kvs : List (Key × V)} (h : Gd kvs) (k : Key) {a : Int} (ha : W a) : Gd (putK kvs k (.int a)) := by
  have key : ∀ p ∈ putK kvs k (.int a), (p.1 = k ∧ p.2 = .int a) ∨ (p.1 ≠ k ∧ p ∈ kvs) := by
    intro p hp
    unfold putK at hp
    by_cases e : (kvs.any fun kv => decide (kv.1 = k)) = true
    · rw [if_pos e] at hp
      obtain ⟨q, hq, eq⟩ := List.mem_map.mp hp
      by_cases g : q.1 = k
      · rw [if_pos g] at eq
        subst eq
        exact .inl ⟨g, rfl⟩
      · rw [if_neg g] at eq
        subst eq
        exact .inr ⟨g, hq⟩
    · rw [if_neg e] at hp
      rcases List.mem_append.mp hp with hp | hp
      · refine .inr ⟨fun g => e ?_, hp⟩
        rw [List.any_eq_true]
        exact ⟨p, hp, decide_eq_true g⟩
      · rw [List.mem_singleton] at hp
        subst hp
        exact .inl ⟨rfl, rfl⟩
  intro p hp
  rw [valV_put]
  rcases key p hp with ⟨h1, h2⟩ | ⟨h1, h2⟩
  · rw [if_pos h1, h2]
    exact ⟨rfl, a, rfl, ha⟩
  · rw [if_neg h1]
    exact h p h2
theorem Gd.ne {kvs : List (Key × V)} (h : Gd kvs) : ∀ p ∈ kvs, valV kvs p.1 = some p.2 ∧ flatB p.2 = true := fun p hp => by
  obtain ⟨h1, a, h2, _⟩ := h p hp
  refine ⟨h1, ?_⟩
  rw [h2]
  rfl
/-! Texts of one sign. -/
def letters : Str := "abcdefghijklmnop"
theorem lt_at : ∀ j, j < 16 → atI (letters.cps.toList) ((j : Nat) : Int) = some (97 + j) := by decide +kernel
theorem lt_no : ∀ k, k < 16 → lt k ∉ (["+", "-", "*", "/", "#", "<", "=", "&", "^"] : List Str) := by decide +kernel
def codes : List Nat := [43, 45, 42, 47, 35, 60, 61, 38, 94]
theorem nm_code : ∀ i, i < 9 → nm i = ⟨#[codes.getD i 0]⟩ := by decide +kernel
theorem sg_at : ∀ j, j < 9 → atI (("+-*/#<=&^" : Str).cps.toList) ((j : Nat) : Int) = some (codes.getD j 0) := by decide +kernel
theorem lt_in : ∀ k, k < 16 → decide (97 + k ∈ letters.cps.toList) = true := by decide +kernel
theorem sg_in : ∀ i, i < 9 → decide (codes.getD i 0 ∈ letters.cps.toList) = false := by decide +kernel
/-! Lists at their ends. -/
theorem rev_last (y : Int) (r : List Int) : ((y :: r).reverse.map V.int) = r.reverse.map V.int ++ [.int y] := by
  rw [List.reverse_cons, List.map_append]
  rfl
theorem last_get (xs : List V) (y : V) : (xs ++ [y])[(xs ++ [y]).length - 1]? = some y := by
  rw [List.length_append, List.length_singleton, Nat.add_sub_cancel, List.getElem?_append_right (Nat.le_refl _), Nat.sub_self]
  rfl
theorem atI_last2 (xs : List V) (x y : V) : atI (xs ++ [x] ++ [y]) (-2) = some x := by
  have hl : (xs ++ [x] ++ [y]).length = xs.length + 2 := by simp
  have e : ixN (xs ++ [x] ++ [y]).length (-2) = some xs.length := by
    unfold ixN
    rw [hl, if_neg (by decide), if_pos (by omega)]
    congr 1
    omega
  unfold atI
  rw [e]
  show (xs ++ [x] ++ [y])[xs.length]? = some x
  rw [List.append_assoc, List.getElem?_append_right (Nat.le_refl _), Nat.sub_self]
  rfl
theorem cut_last2 (xs : List V) (x y : V) : cutV (xs ++ [x] ++ [y]) none (some (-2)) = xs := by
  unfold cutV
  have hl : (xs ++ [x] ++ [y]).length = xs.length + 2 := by simp
  have e : HT.sIx (xs ++ [x] ++ [y]).length (xs ++ [x] ++ [y]).length (some (-2)) = xs.length := by
    have e0 : ∀ n d : Nat, HT.sIx n d (some (-2)) = ((-2 : Int) + (n : Int)).toNat := fun n d => by
      show (if (-2 : Int) < 0 then ((-2 : Int) + (n : Int)).toNat else min (-2 : Int).toNat n) = _
      rw [if_pos (by decide)]
    rw [e0, hl]
    omega
  rw [HT.sIx_none, e, List.drop_zero, Nat.sub_zero, List.append_assoc, List.take_left]
/-! Texts by their codes: whole numbers, worths, items. -/
abbrev cp (x : Str) : List Nat := x.cps.toList
def digL (l : List Nat) : Bool := !l.isEmpty && l.all (fun c => decide (48 ≤ c) && decide (c ≤ 57)) && decide (l.length ≤ 9)
def wholeL (l : List Nat) : Option Int := if digL l = true then (if l.head? = some 48 ∧ l ≠ [48] then none else some (NumText.digitsVal l : Nat)) else none
def keepW (o : Option Int) : Option Int := match o with
  | some a => if -32768 ≤ a ∧ a ≤ 32767 then some a else none
  | none => none
def worthL (l : List Nat) : Option Int := if l.head? = some 45 then (if l = [45, 48] then none else keepW ((wholeL (l.drop 1)).map (fun a => -a))) else keepW (wholeL l)
def ov : Option Int → V
  | none => .non
  | some a => .int a
theorem cp_len (x : Str) : x.length = (cp x).length := TL.len_tl x
theorem cp_ext {x y : Str} (h : cp x = cp y) : x = y := TL.ext_tl h
theorem digit_128 : ∀ c, c < 128 → Unicode.isDigit c = (decide (48 ≤ c) && decide (c ≤ 57)) := by decide +kernel
theorem all_codes (x : Str) (p : Nat → Bool) : x.cps.all p = (cp x).all p := by
  rw [Array.all_toList]
theorem asc_digits {l : List Nat} (h : l.all (fun c => decide (c < 128)) = true) : l.all Unicode.isDigit = l.all (fun c => decide (48 ≤ c) && decide (c ≤ 57)) := by
  induction l with
  | nil => rfl
  | cons c r ih =>
    rw [List.all_cons, Bool.and_eq_true] at h
    rw [List.all_cons, List.all_cons, ih h.2, digit_128 c (of_decide_eq_true h.1)]
theorem digits_asc {l : List Nat} (h : l.all (fun c => decide (48 ≤ c) && decide (c ≤ 57)) = true) : l.all (fun c => decide (c < 128)) = true := by
  rw [List.all_eq_true] at h ⊢
  intro c hc
  have := h c hc
  rw [Bool.and_eq_true] at this
  have h2 := of_decide_eq_true this.2
  exact decide_eq_true (by omega)
theorem isascii_cp (x : Str) : Txt.isascii x = (cp x).all (fun c => decide (c < 128)) := all_codes x _
theorem isdigit_cp (x : Str) : Txt.isdigit x = (decide (0 < (cp x).length) && (cp x).all Unicode.isDigit) := by
  unfold Txt.isdigit
  rw [all_codes, cp_len]
theorem dig_of {x : Str} (h1 : Txt.isascii x = true) (h2 : Txt.isdigit x = true) (h3 : x.length ≤ 9) : digL (cp x) = true := by
  rw [isascii_cp] at h1
  rw [isdigit_cp, asc_digits h1, Bool.and_eq_true] at h2
  unfold digL
  rw [h2.2, decide_eq_true (show (cp x).length ≤ 9 by rw [← cp_len]; exact h3)]
  have := of_decide_eq_true h2.1
  cases e : cp x with
  | nil =>
    rw [e] at this
    exact absurd this (by decide)
  | cons c r => rfl
theorem dig_to {x : Str} (h : digL (cp x) = true) : Txt.isascii x = true ∧ Txt.isdigit x = true ∧ x.length ≤ 9 := by
  unfold digL at h
  rw [Bool.and_eq_true, Bool.and_eq_true] at h
  obtain ⟨⟨h1, h2⟩, h3⟩ := h
  have ha := digits_asc h2
  refine ⟨by rw [isascii_cp]; exact ha, ?_, by rw [cp_len]; exact of_decide_eq_true h3⟩
  rw [isdigit_cp, asc_digits ha, h2, Bool.and_true]
  cases e : cp x with
  | nil =>
    rw [e] at h1
    cases h1
  | cons c r => rfl
theorem dig_int {x : Str} (h : digL (cp x) = true) : intText? x = some ((NumText.digitsVal (cp x) : Nat) : Int) := by
  have h0 := dig_to h
  unfold digL at h
  rw [Bool.and_eq_true, Bool.and_eq_true] at h
  obtain ⟨⟨h1, h2⟩, h3⟩ := h
  refine PySem.intText_digits (fun c hc => ?_) (fun z => ?_) (by omega)
  · have := List.all_eq_true.mp h2 c hc
    rw [Bool.and_eq_true] at this
    exact ⟨of_decide_eq_true this.1, of_decide_eq_true this.2⟩
  · rw [show cp x = [] from z] at h1
    cases h1
theorem starts_dash (x : Str) : Txt.startswith x "-" = decide ((cp x).head? = some 45) := by
  unfold Txt.startswith
  rw [PySem.StrLaws.subAt_eq]
  have e1 : ("-" : Str).length = 1 := by decide +kernel
  have e2 : ("-" : Str).cps.toList = [45] := by decide +kernel
  rw [e1, e2, cp_len]
  show (decide (0 + 1 ≤ (cp x).length) && (((cp x).drop 0).take 1 == [45])) = _
  cases cp x with
  | nil => rfl
  | cons c r =>
    show (decide (0 + 1 ≤ (c :: r).length) && ([c] == [45])) = decide (some c = some 45)
    rw [decide_eq_true (show 0 + 1 ≤ (c :: r).length by rw [List.length_cons]; omega), Bool.true_and]
    by_cases h : c = 45
    · subst h
      rfl
    · rw [decide_eq_false (fun z => h (Option.some.inj z))]
      simp [h]
theorem str_eq (x : Str) (s : Str) : decide (V.str x = V.str s) = decide (cp x = cp s) := by
  by_cases h : cp x = cp s
  · rw [decide_eq_true h, decide_eq_true (by rw [cp_ext h])]
  · rw [decide_eq_false h, decide_eq_false (fun z => h (by rw [V.str.inj z]))]
theorem cp_zero : cp ("0" : Str) = [48] := by decide +kernel
theorem cp_mzero : cp ("-0" : Str) = [45, 48] := by decide +kernel
theorem cp_blank : cp (" " : Str) = [32] := by decide +kernel
theorem cp_cut1 (x : Str) : cp (cutS x (some 1) none) = (cp x).drop 1 := by
  unfold cutS
  show ((x.cps.toList.drop (HT.sIx x.length 0 (some 1))).take (HT.sIx x.length x.length none - HT.sIx x.length 0 (some 1))) = _
  rw [show HT.sIx x.length 0 (some 1) = min 1 x.length from HT.sIx_nat x.length 0 1, HT.sIx_none, cp_len]
  show ((cp x).drop (min 1 (cp x).length)).take ((cp x).length - min 1 (cp x).length) = _
  cases cp x with
  | nil => rfl
  | cons c r =>
    rw [show min 1 (c :: r).length = 1 by rw [List.length_cons]; omega]
    show r.take (r.length + 1 - 1) = r
    rw [Nat.add_sub_cancel, List.take_length]
/-! Flat things: numbers and texts. -/
def sgKeys : List Str := ["+", "-", "*", "/", "#", "<", "=", "&", "^"]
def sgV : V → Bool
  | .str z => decide (z ∈ sgKeys)
  | _ => false
def ltV : V → Bool
  | .str z => decide (z.length = 1) && decide (∀ c ∈ cp z, 97 ≤ c ∧ c ≤ 112)
  | _ => false
def woV : V → Bool
  | .int a => decide (-32768 ≤ a ∧ a ≤ 32767)
  | _ => false
def htV : Nat → List V → Option Nat
  | h, [] => some h
  | h, m :: l => if sgV m = true then (if 2 ≤ h then htV (h - 1) l else none) else htV (h + 1) l
def exV (xs : List V) : Bool := decide (xs.length ≤ 15) && xs.all (fun x => woV x || ltV x || sgV x) && decide (htV 0 xs = some 1)
def Flat : V → Prop
  | .int a => a.natAbs.log2 < 1920
  | .str z => z.length ≤ 100000
  | _ => False
def shV : V → Str
  | .int a => Str.ofString (toString a)
  | .str z => z
  | _ => Str.empty
def itV (z : Str) : V := match worthL (cp z) with
  | some a => .int a
  | none => .str z
/-! Texts of worths. -/
theorem cp_nat (n : Nat) : cp (Str.ofString (toString ((n : Nat) : Int))) = TL.numL n := TL.tl_num n
theorem cp_neg (n : Nat) : cp (Str.ofString (toString (Int.negSucc n))) = 45 :: TL.numL (n + 1) := by
  have e : toString (Int.negSucc n) = "-" ++ toString (((n + 1 : Nat) : Nat) : Int) := rfl
  rw [e]
  show TL.tl _ = _
  rw [TL.tl_ofString, String.toList_append, List.map_append, ← TL.tl_ofString (toString (((n + 1 : Nat) : Nat) : Int)), TL.tl_num]
  rfl
theorem numL_lead : ∀ n : Nat, (TL.numL n).head? = some 48 → n = 0
  | n, h => by
    by_cases hn : n < 10
    · rw [TL.numL_lt hn] at h
      have := Option.some.inj h
      omega
    · rw [TL.numL_step (by omega)] at h
      have hne := TL.numL_ne (n / 10)
      have h2 : (TL.numL (n / 10)).head? = some 48 := by
        cases q : TL.numL (n / 10) with
        | nil => exact absurd q hne
        | cons c r =>
          rw [q] at h
          exact h
      have := numL_lead (n / 10) h2
      omega
  termination_by n => n
theorem wholeL_num {n : Nat} (h : n < 10 ^ 9) : wholeL (TL.numL n) = some (n : Int) := by
  have hl := TL.numL_len (show 0 < 9 by decide) h
  have hd := TL.numL_digits n
  have hne := TL.numL_ne n
  have e : digL (TL.numL n) = true := by
    unfold digL
    rw [Bool.and_eq_true, Bool.and_eq_true]
    refine ⟨⟨?_, ?_⟩, decide_eq_true hl⟩
    · cases q : TL.numL n with
      | nil => exact absurd q hne
      | cons c r => rfl
    · rw [List.all_eq_true]
      intro c hc
      rw [Bool.and_eq_true]
      exact ⟨decide_eq_true (hd c hc).1, decide_eq_true (hd c hc).2⟩
  unfold wholeL
  rw [if_pos e, if_neg, TL.numL_val]
  rintro ⟨h1, h2⟩
  have hz := numL_lead n h1
  subst hz
  exact h2 (TL.numL_lt (by decide))
theorem numL_head (n : Nat) : (TL.numL n).head? ≠ some 45 := by
  intro h
  have hm : 45 ∈ TL.numL n := List.mem_of_head? h
  exact TL.numL_free (.inl (by decide)) hm
theorem itV_int {a : Int} (h : W a) : itV (Str.ofString (toString a)) = .int a := by
  unfold itV
  have e : worthL (cp (Str.ofString (toString a))) = some a := by
    unfold W at h
    cases a with
    | ofNat n =>
      have h : -32768 ≤ ((n : Nat) : Int) ∧ ((n : Nat) : Int) ≤ 32767 := h
      rw [show (Int.ofNat n) = ((n : Nat) : Int) from rfl, cp_nat]
      unfold worthL
      rw [if_neg (numL_head n), wholeL_num (by omega)]
      show (if -32768 ≤ (n : Int) ∧ (n : Int) ≤ 32767 then some (n : Int) else none) = _
      rw [if_pos h]
    | negSucc n =>
      rw [cp_neg]
      unfold worthL
      rw [if_pos (show (45 :: TL.numL (n + 1)).head? = some 45 from rfl), if_neg, List.drop_succ_cons, List.drop_zero, wholeL_num (by omega)]
      · show (if -32768 ≤ -(((n + 1 : Nat) : Nat) : Int) ∧ -(((n + 1 : Nat) : Nat) : Int) ≤ 32767 then some (-(((n + 1 : Nat) : Nat) : Int)) else none) = _
        rw [if_pos (by omega)]
        rfl
      · intro z
        have z2 := (List.cons.inj z).2
        have := TL.numL_inj (m := n + 1) (n := 0) (by rw [z2]; rfl)
        omega
  rw [e]
theorem itV_lt : ∀ k, k < 16 → itV (lt k) = .str (lt k) := by decide +kernel
theorem itV_sg : ∀ i, i < 9 → itV (nm i) = .str (nm i) := by decide +kernel
theorem sg_nm : ∀ i, i < 9 → sgV (.str (nm i)) = true := by decide +kernel
theorem sg_lt : ∀ k, k < 16 → sgV (.str (lt k)) = false := by decide +kernel
theorem lt_lt : ∀ k, k < 16 → ltV (.str (lt k)) = true := by decide +kernel
theorem lt_nm : ∀ i, i < 9 → ltV (.str (nm i)) = false := by decide +kernel
theorem nm_mem {z : Str} (h : z ∈ sgKeys) : ∃ i, i < 9 ∧ z = nm i := by
  have h2 : ∀ y ∈ sgKeys, ∃ i, i < 9 ∧ y = nm i := by
    intro y hy
    simp only [sgKeys, List.mem_cons, List.not_mem_nil, or_false] at hy
    rcases hy with e | e | e | e | e | e | e | e | e
    · exact ⟨0, by decide, e⟩
    · exact ⟨1, by decide, e⟩
    · exact ⟨2, by decide, e⟩
    · exact ⟨3, by decide, e⟩
    · exact ⟨4, by decide, e⟩
    · exact ⟨5, by decide, e⟩
    · exact ⟨6, by decide, e⟩
    · exact ⟨7, by decide, e⟩
    · exact ⟨8, by decide, e⟩
  exact h2 z h
theorem cutTo (xs : List V) (k : Nat) : cutV xs none (some (k : Int)) = xs.take k := by
  unfold cutV
  rw [HT.sIx_none, HT.sIx_nat]
  show (xs.drop 0).take (min k xs.length - 0) = _
  rw [List.drop_zero, Nat.sub_zero]
  by_cases h : k ≤ xs.length
  · rw [Nat.min_eq_left h]
  · rw [Nat.min_eq_right (by omega), List.take_of_length_le (Nat.le_refl _), List.take_of_length_le (by omega)]
theorem cutFrom (xs : List V) {k : Nat} (h : k ≤ xs.length) : cutV xs (some (k : Int)) none = xs.drop k := by
  unfold cutV
  rw [HT.sIx_none, HT.sIx_nat, Nat.min_eq_left h]
  exact List.take_of_length_le (by rw [List.length_drop]; omega)
/-! A try whose exception is kept under another name, and looked at behind the try. -/
section
open PySem.Spec PyProof.Rows
variable {X : Cx}
/-- the context behind it: the exception is pinned -/
abbrev kpC (X : Cx) (q : Addr × Obj) : Cx := Cx.tr X (q :: X.pn) X.xe
theorem inv_kp {pins pn' : List (Addr × Obj)} {σ : L2.St} {H : Hp} {s : Shared} {a : Addr} {q : Addr × Obj} (I : L2.Inv (Cx.suite X a (q :: (X.pn ++ pins))) pn' σ H s) (ok : X.Ok) : L2.Inv (kpC X q) pins σ H s :=
  ⟨Cx.Ok.toTry ok _ _, I.os, I.bare, I.base, I.loc, I.cell, I.free, I.freeC, fun p hp => I.pin p (List.mem_append_left _ hp), I.hok, I.len⟩
theorem inv_unkp {pins : List (Addr × Obj)} {σ : L2.St} {H : Hp} {s : Shared} {q : Addr × Obj} (I : L2.Inv (kpC X q) pins σ H s) (ok : X.Ok) : L2.Inv X pins σ H s :=
  ⟨ok, I.os, I.bare, I.base, I.loc, I.cell, I.free, I.freeC, fun p hp => I.pin p (List.mem_cons_of_mem _ hp), I.hok, I.len⟩
def endsKp (i : Nat) (t1 : Addr → Value → Option Addr → TS) (D : Ends) (a : Addr) (cls : Value) (d : Option Addr) : Ends :=
  { nx := fun σ' H' => t1 a cls d D (σ'.set i none) H', rt := fun _ _ => False, bk := fun _ _ => False, ct := fun _ _ => False }
def wKeep (K : PySem.W.Frag) (c : Value) (i : Nat) (ts t1 : Addr → Value → Option Addr → TS) (Wout : WX) (D : Ends) : WX := fun cls d σ H =>
  ∃ b, PySem.W.exmOne K cls c = some b ∧ (b = true → ∀ a, H a = none → ts a cls d (endsKp i t1 D a cls d) (σ.set i (some (.ref a))) H) ∧ (b = false → Wout cls d σ H)
/-- what holds behind the try's statement -/
def postKp (X : Cx) (pins : List (Addr × Obj)) (t0 : TS) (t1 : Addr → Value → Option Addr → TS) (D : Ends) (fl : Flow) (s1 : Shared) : Prop :=
  match fl with
  | .next => (∃ σ' H', L2.Inv X pins σ' H' s1 ∧ t0 D σ' H') ∨ ∃ (a : Addr) (oe : Obj) (cls : Value) (d : Option Addr) (σ' : L2.St) (H' : Hp), Zc cls d oe ∧ (∃ vs, oe.data = .fields vs) ∧ L2.Inv (kpC X (a, oe)) pins σ' H' s1 ∧ t1 a cls d D σ' H'
  | fl => SP X pins D fl s1
variable {x nm0 : Str} {c : Value} {i : Nat} {body suite rest : List Stmt} {b0 : Stmt} {np pos pos' : Pos} {tb : WX → TS} {ts t1 : Addr → Value → Option Addr → TS} {t0 : TS} {Wout : WX}
theorem try_keep (stk : X.stack = X.env :: X.outer) (frm : X.env.frame = some X.env.locals) (nod : X.N.Nodup) (at_ : X.N[i]? = some nm0) (kin : X.env.kindOf nm0 = some .local) (nms : Names X x c) (tk : Takes X Wout)
    (hbody : ∀ (W : WX) (pn : List (Addr × Obj)) (xe : Value → Shared → Prop), Takes (Cx.tr X pn xe) W → PassesOwn (model X.prog X.w) X.A X.env xe → PSs (Cx.tr X pn xe) body (tb W))
    (hsuite : ∀ (a : Addr) (oe : Obj) (cls : Value) (d : Option Addr) (pn : List (Addr × Obj)), Zc cls d oe → (∃ vs, oe.data = .fields vs) → PSs (Cx.suite X a ((a, oe) :: pn)) (b0 :: suite) (ts a cls d))
    {pins : List (Addr × Obj)} {s : Shared} {σ : L2.St} {H : Hp} {D : Ends} (I : L2.Inv X pins σ H s) (h : tb (wKeep X.K c i ts t1 Wout D) { D with nx := t0 D } σ H) :
    wpAny (model X.prog X.w) X.A (exec (.Try body [.ExceptHandler (some (.Name x np)) (some nm0) (b0 :: suite) pos'] [] [] pos) X.env) (postKp X pins t0 t1 D) X.xe s := by
  have okX := I.ok
  have allF : X.A.frames = some (X.env :: X.outer) := by
    rw [okX.frames, stk]
  refine wpAny_Try_except ?_
  refine wpAny_mono ((hbody (wKeep X.K c i ts t1 Wout D) (X.pn ++ pins) (fun e s₁ => wpAny (model X.prog X.w) X.A (noteFrame e X.env) (fun _ s₂ => wpAny (model X.prog X.w) X.A (setFlight e none)
    (fun _ s₃ => wpAny (model X.prog X.w) X.A (handleBy e X.env [.ExceptHandler (some (.Name x np)) (some nm0) (b0 :: suite) pos']) (postKp X pins t0 t1 D) X.xe s₃) X.xe s₂) X.xe s₁) (fun u s' caught => ?_) PassesOwn.looking).run [] s σ H _ (I.toTry _) h) (fun fl s1 hsp => ?_) (fun e s1 he => he)
  · obtain ⟨a, B, sI, pins', σ', H', cls, d, rfl, J', nb, up, sky, na, os, ag, b, hb1, hyes, hno⟩ := caught
    have J : L2.Inv X pins σ' H' sI := J'.ofTry okX
    have sky2 : Sky B (X.env :: X.outer) a (Zc cls d) X.env.locals s'.heap := by
      rw [← stk]
      exact sky
    show wpAny (model X.prog X.w) X.A (noteFrame (.ref a) X.env) _ _ _
    refine Sky.land Zc.steady allF frm sky2 fun h3 fl3 up3 => ?_
    have J3 : L2.Inv X pins σ' H' { s' with heap := h3 } := J.landed nb fl3.1 (up.trans up3) os ag
    obtain ⟨oe3, vs3, he3, hz3, hd3⟩ := fl3.there
    have notIn : a ∉ frs (X.env :: X.outer) := fun hm => by
      obtain ⟨_, o', e', hnf⟩ := fl3.2.2.1.mem hm
      rw [he3] at e'
      cases e'
      exact hnf _ hd3
    have nL : a ≠ X.env.locals := fun z => notIn (List.mem_filterMap.mpr ⟨X.env, List.mem_cons_self, (by rw [frm, z])⟩)
    have nF : a ∉ X.fs := fun hm => by
      obtain ⟨e, hin, eq⟩ := List.mem_filterMap.mp hm
      exact notIn (List.mem_filterMap.mpr ⟨e, List.mem_cons_of_mem _ hin, eq⟩)
    have S3 := Inv.suite J3 he3 hd3 na nL nF
    refine wpAny_handleBy_cons (codeAny_handlers_test ?_) (by intro q; cases q)
    have itsType : PySem.W.Looks (model X.prog X.w) h3 (typeOf (.ref a)) cls := fun A Q E s k q => wpAny_typeOf_ref (k _ _ he3) (by rw [hz3.1]; exact q)
    have itMatches := PySem.W.exm_one (M := model X.prog X.w) (J3.kIn) itsType hb1
    have named : ∀ {Q : Value → Shared → Prop} {E : Value → Shared → Prop}, Q c { s' with heap := h3 } → wpAny (model X.prog X.w) (X.A.mark (some (.ref a))) (eval (.Name x np) X.env) Q E { s' with heap := h3 } := fun {Q E} q => by
      obtain ⟨gl, dbg, g | ⟨g, v, nn⟩⟩ := nms
      · exact ld_glob (X := Cx.suite X a ((a, oe3) :: (X.pn ++ pins))) S3 gl g q dbg
      · exact ld_blt (X := Cx.suite X a ((a, oe3) :: (X.pn ++ pins))) S3 gl g v q nn dbg
    refine named (itMatches.here ?_)
    cases b with
    | true =>
      refine codeAny_handlers_suite_as ?_
      refine HandSPX.lands_againZ fl3 fun h4 fl4 up4 => ?_
      have J4 : L2.Inv X pins σ' H' { s' with heap := h4 } := J.landed nb fl4.1 ((up.trans up3).trans up4) os ag
      obtain ⟨oe4, vs4, he4, hz4, hd4⟩ := fl4.there
      have S4 := Inv.suite J4 he4 hd4 na nL nF
      refine store_ok (X := Cx.suite X a ((a, oe4) :: (X.pn ++ pins))) (v := .ref a) S4 nod at_ (.inl kin) rfl (fun s5 S5 => ?_) (.inr kin)
      refine wpAny_mono ((hsuite a oe4 cls d (X.pn ++ pins) hz4 ⟨_, hd4⟩).run [] s5 _ H' _ S5 (hyes rfl a na)) (fun fl s6 hsp => ?_) (fun _ _ z => False.elim z)
      cases fl with
      | next =>
        obtain ⟨σ6, H6, S6, q6⟩ := hsp
        exact gone_ok (X := kpC X (a, oe4)) (inv_kp S6 okX) nod at_ kin fun s7 J7 => .inr ⟨a, oe4, cls, d, _, _, hz4, ⟨_, hd4⟩, J7, q6⟩
      | brk =>
        obtain ⟨_, _, _, bad⟩ := hsp
        exact False.elim bad
      | cont =>
        obtain ⟨_, _, _, bad⟩ := hsp
        exact False.elim bad
      | ret u =>
        obtain ⟨_, _, _, _, _, bad⟩ := hsp
        exact False.elim bad
    | false =>
      show wpAny _ X.A (handleBy (.ref a) X.env []) _ _ _
      refine wpAny_handleBy_nil ?_
      obtain ⟨k1, k2, k3, oe, vs, T, oT, ts', he, hz, hd, h1, hr⟩ := id fl3
      unfold PySem.passOn
      refine wpAny_bind (wpAny_field he hd h1 ?_)
      rw [if_neg (show ¬ ((Value.ref T == Value.none) = true) by simp)]
      have on : wpAny (model X.prog X.w) X.A (setFlight (.ref a) X.env.frame) (fun _ s4 => wpAny (model X.prog X.w) X.A (throw (.ref a) : Sem Flow) (postKp X pins t0 t1 D) X.xe s4) X.xe { s' with heap := h3 } := by
        rw [frm]
        refine HandSPX.setFlight_upZ fl3 fun h4 hh4 up4 => wpAny_throw (tk _ _ ?_)
        exact ⟨a, B, sI, pins, σ', H', cls, d, rfl, J, nb, (up.trans up3).trans up4, .inr (.inr (by rw [stk]; exact hh4)), na, os, ag, hno rfl⟩
      first
        | exact wpAny_bind (wpAny_pure (wpAny_bind on))
        | exact wpAny_bind on
  · cases fl with
    | next =>
      obtain ⟨σ', H', J', q⟩ := hsp
      exact wpAny_execs_nil (.inl ⟨σ', H', J'.ofTry okX, q⟩)
    | brk =>
      obtain ⟨σ', H', J', q⟩ := hsp
      exact ⟨σ', H', J'.ofTry okX, q⟩
    | cont =>
      obtain ⟨σ', H', J', q⟩ := hsp
      exact ⟨σ', H', J'.ofTry okX, q⟩
    | ret u =>
      obtain ⟨v, σ', H', J', r, q⟩ := hsp
      exact ⟨v, σ', H', J'.ofTry okX, r, q⟩
theorem pss_try_keep (stk : X.stack = X.env :: X.outer) (frm : X.env.frame = some X.env.locals) (nod : X.N.Nodup) (at_ : X.N[i]? = some nm0) (kin : X.env.kindOf nm0 = some .local) (nms : Names X x c) (tk : Takes X Wout)
    (hbody : ∀ (W : WX) (pn : List (Addr × Obj)) (xe : Value → Shared → Prop), Takes (Cx.tr X pn xe) W → PassesOwn (model X.prog X.w) X.A X.env xe → PSs (Cx.tr X pn xe) body (tb W))
    (hsuite : ∀ (a : Addr) (oe : Obj) (cls : Value) (d : Option Addr) (pn : List (Addr × Obj)), Zc cls d oe → (∃ vs, oe.data = .fields vs) → PSs (Cx.suite X a ((a, oe) :: pn)) (b0 :: suite) (ts a cls d))
    (h0 : PSs X rest t0) (h1 : ∀ (a : Addr) (oe : Obj) (cls : Value) (d : Option Addr), Zc cls d oe → (∃ vs, oe.data = .fields vs) → PSs (kpC X (a, oe)) rest (t1 a cls d)) :
    PSs X (.Try body [.ExceptHandler (some (.Name x np)) (some nm0) (b0 :: suite) pos'] [] [] pos :: rest) (fun D σ H => tb (wKeep X.K c i ts t1 Wout D) { D with nx := t0 D } σ H) := by
  constructor
  intro pins s σ H D I h
  refine wpAny_execs_cons (thn (try_keep (t1 := t1) stk frm nod at_ kin nms tk hbody hsuite I h) fun fl s1 q => ?_)
  cases fl with
  | next =>
    rcases q with ⟨σ', H', I', q⟩ | ⟨a, oe, cls, d, σ', H', hz, hf, I', q⟩
    · exact h0.run pins s1 σ' H' D I' q
    · refine thn ((h1 a oe cls d hz hf).run pins s1 σ' H' D I' q) fun fl s2 z => ?_
      cases fl with
      | next =>
        obtain ⟨σ2, H2, J, z⟩ := z
        exact ⟨σ2, H2, inv_unkp J I.ok, z⟩
      | brk =>
        obtain ⟨σ2, H2, J, z⟩ := z
        exact ⟨σ2, H2, inv_unkp J I.ok, z⟩
      | cont =>
        obtain ⟨σ2, H2, J, z⟩ := z
        exact ⟨σ2, H2, inv_unkp J I.ok, z⟩
      | ret u =>
        obtain ⟨v, σ2, H2, J, r, z⟩ := z
        exact ⟨v, σ2, H2, inv_unkp J I.ok, r, z⟩
  | ret v => exact q
  | brk => exact q
  | cont => exact q
/-- the kept exception's field -/
theorem pe_xfK {a C : Addr} {oe : Obj} {cls : Value} {d : Option Addr} {e : Expr} {te : TE} {pos : Pos} {f0 : Str} (T : XfC X.K C) (hno : PySem.W.findIn X.K (.ref C) f0 = some none) (hz : Zc cls d oe) (hf : ∃ vs, oe.data = .fields vs) (hin : (a, oe) ∈ X.pn)
    (he : PE X e te) (hb : attributeBase e f0 X.env (eval e X.env) = eval e X.env := by rfl) : PE X (.Attribute e f0 pos) (tXf a cls d C f0 te) := by
  constructor
  intro pins s σ H Q I h
  refine attr_of hb (thn (he.run pins s σ H _ I h) fun u s1 hh => ?_)
  obtain ⟨x, H1, I1, rx, rfl, rfl, dd, fs, v, rfl, ea, l, q⟩ := hh
  obtain rfl : u = Value.ref a := rx
  obtain ⟨there, _⟩ := I1.pin (a, oe) (List.mem_append_left _ hin)
  obtain ⟨vs, hd⟩ := hf
  obtain ⟨mA, hns, hr⟩ : ObjOk X.prog X.w H1 s1.heap dd (.xd fs) := I1.hok dd _ ea
  obtain ⟨od, ho, hl⟩ := lookIn_ns hns
  obtain ⟨u, hu, ru⟩ := RelO.some_of (v := v) (o := mA f0) (by rw [← l]; exact hr f0)
  have J : PySem.W.InstAt s1.heap a oe C (some od) := ⟨there, hz.1, (by unfold PySem.W.notCls; rw [hd] <;> rfl), (by rw [hz.2]; exact ho)⟩
  exact HandSPX.exc_get I1.kIn J T.ga T.gg T.exC (PySem.W.findObj_own T.hdC hno rfl (by rw [hl, hu])) (handed_of ru) ⟨v, H1, I1.tok _, ru, q⟩
end
section
open PySem.Spec PyProof.Rows
variable {X : Cx}
/-- isinstance of the kept exception: one class, or a tuple of two own ones -/
def rIsK (K : PySem.W.Frag) (cls : Value) (D a : Addr) (d : Option Addr) : List V → Hp → VK → Prop := fun xs H Q => ∃ (c : V) (b : Bool) (dd : Addr) (fs : List (Str × V)), xs = [.ref a, c] ∧ cls = .ref D ∧ d = some dd ∧ H dd = some (.xd fs) ∧
  ((∃ cv, (∀ u, L2.RelV c u → u = cv) ∧ PySem.W.kitOne K (.ref D) cv = some b) ∨ ∃ t d1 d2, c = .ref t ∧ SqT K H t [.ref d1, .ref d2] ∧ PySem.W.kitAny K (.ref D) [.ref d1, .ref d2] = some b) ∧ Q (.bl b) H
theorem call_isK {a D : Addr} {oe : Obj} {cls : Value} {d : Option Addr} (C : ExcC X.K D) (hcl : PySem.W.isClsIn X.K D = true) (hz : Zc cls d oe) (hf : ∃ vs, oe.data = .fields vs) (hin : (a, oe) ∈ X.pn) : CallR X (.builtin "isinstance") (rIsK X.K cls D a d) := by
  intro pins s σ H xs us Q I r h
  obtain ⟨c, b, dd, fs, rfl, rfl, rfl, ea, hc, q⟩ := h
  obtain ⟨u0, r0, rfl, h0, hr0⟩ : ∃ u0 r0, us = u0 :: r0 ∧ u0 = Value.ref a ∧ Vals [c] r0 := by
    cases r with
    | cons h1 h2 => exact ⟨_, _, rfl, h1, h2⟩
  subst h0
  obtain ⟨u1, rfl, hu1⟩ := vals1 hr0
  obtain ⟨there, _⟩ := I.pin (a, oe) (List.mem_append_left _ hin)
  obtain ⟨vs, hd⟩ := hf
  obtain ⟨mA, hns, _⟩ : ObjOk X.prog X.w H s.heap dd (.xd fs) := I.hok dd _ ea
  obtain ⟨od, ho, _⟩ := lookIn_ns hns
  have J : PySem.W.InstAt s.heap a oe D (some od) := ⟨there, hz.1, (by unfold PySem.W.notCls; rw [hd] <;> rfl), (by rw [hz.2]; exact ho)⟩
  have Z := PySem.W.kitx_exc (x := a) (ox := oe) (od := some od) hcl C.hg C.hk C.hs C.ha C.hn C.ht C.hm
  rcases hc with ⟨cv, hcv, e⟩ | ⟨t, d1, d2, rfl, ht, e⟩
  · obtain rfl := hcv _ hu1
    exact PySem.W.kia_one Z I.kIn J e (fun z => nomatch z) fun tk => ⟨.bl b, H, I.kept (t' := tk) fun _ _ z => z, rfl, q⟩
  · obtain rfl : u1 = Value.ref t := hu1
    obtain ⟨its, ri, ⟨⟨cls, dd2, data, sl⟩, ho2, hc2, n2, hd2⟩, _⟩ := I.tuple ht
    simp only at hc2 hd2
    subst hc2 hd2
    have ei : its = [.ref d1, .ref d2] := by
      cases ri with
      | cons h1 h2 =>
        cases h2 with
        | cons h3 h4 =>
          cases h4
          rw [show _ = Value.ref d1 from h1, show _ = Value.ref d2 from h3]
    subst ei
    exact PySem.W.kia_tup Z I.kIn J ho2 e (fun z => nomatch z) fun tk => ⟨.bl b, H, I.kept (t' := tk) fun _ _ z => z, rfl, q⟩
end
/-- an error of a class is what its own clause names -/
theorem exm_self {K : PySem.W.Frag} {S : Addr} (h1 : PySem.W.subIn K (.ref S) (.type "BaseException") = some true) (h2 : PySem.W.isClsIn K S = true) (h3 : PySem.W.typeIn K (.ref S) = some (.type "type")) (h4 : PySem.W.subIn K (.ref S) (.ref S) = some true) : PySem.W.exmOne K (.ref S) (.ref S) = some true := by
  have c1 : (PySem.W.subIn K (.ref S) (.type "BaseException") == some true) = true := by
    rw [h1]
    rfl
  have c2 : ((PySem.W.clsIn K S).isSome && PySem.W.typeIn K (.ref S) == some (.type "type")) = true := by
    rw [show (PySem.W.clsIn K S).isSome = true from h2, h3]
    rfl
  show (if (PySem.W.subIn K (.ref S) (.type "BaseException") == some true) = true then (if ((PySem.W.clsIn K S).isSome && PySem.W.typeIn K (.ref S) == some (.type "type")) = true then PySem.W.subIn K (.ref S) (.ref S) else none) else none) = _
  rw [if_pos c1, if_pos c2, h4]
/-! The promises. -/
def FlatN : V → Prop
  | .non => True
  | .bl _ => True
  | .int _ => True
  | .str z => z.length ≤ 100000
  | _ => False
def inV2 : V → Bool
  | .int _ => true
  | _ => false
def rStrV : List V → Hp → VK → Prop := fun xs H Q => ∃ x, xs = [x] ∧ Flat x ∧ Q (.str (shV x)) H
theorem call_strV {X : Cx} : CallR X (.type "str") rStrV := by
  intro pins s σ H xs us Q I r h
  obtain ⟨x, rfl, hf, q⟩ := h
  cases x with
  | int i => exact call_str_int pins s σ H _ us Q I r ⟨i, rfl, hf, q⟩
  | str z => exact SkE.call_str_str pins s σ H _ us Q I r ⟨z, rfl, q⟩
  | non => exact hf.elim
  | bl b => exact hf.elim
  | byt b => exact hf.elim
  | flt b => exact hf.elim
  | ref a => exact hf.elim
  | ty n => exact hf.elim
def sp_iswhole : Sp := fun vs H Q _ => ∃ x : V, vs = [x] ∧ FlatN x ∧ Q (.bl (inV2 x)) H
def sp_isworth : Sp := fun vs H Q _ => ∃ x : V, vs = [x] ∧ FlatN x ∧ Q (.bl (woV x)) H
def sp_isletter : Sp := fun vs H Q _ => ∃ x : V, vs = [x] ∧ FlatN x ∧ Q (.bl (ltV x)) H
def sp_issignV : Sp := fun vs H Q _ => ∃ x : V, vs = [x] ∧ FlatN x ∧ Q (.bl (sgV x)) H
def sp_wholeof : Sp := fun vs H Q _ => ∃ z : Str, vs = [.str z] ∧ z.length ≤ 100000 ∧ Q (ov (wholeL (cp z))) H
def sp_worthof : Sp := fun vs H Q _ => ∃ z : Str, vs = [.str z] ∧ z.length ≤ 100000 ∧ Q (ov (worthL (cp z))) H
def sp_itemof : Sp := fun vs H Q _ => ∃ z : Str, vs = [.str z] ∧ z.length ≤ 100000 ∧ Q (itV z) H
def sp_leavesone (K : PySem.W.Frag) : Sp := fun vs H Q _ => ∃ (t : Addr) (xs : List V), vs = [.ref t] ∧ SqT K H t xs ∧ (∀ x ∈ xs, FlatN x) ∧ Q (.bl (decide (htV 0 xs = some 1))) H
def sp_isexpression (K : PySem.W.Frag) : Sp := fun vs H Q _ => ∃ (t : Addr) (xs : List V), vs = [.ref t] ∧ H t = some (.tup xs) ∧ (∀ x ∈ xs, FlatN x) ∧ xs.length ≤ 50000 ∧ ∀ H', Same H H' → Q (.bl (exV xs)) H'
def sp_showexpression (K : PySem.W.Frag) : Sp := fun vs H Q _ => ∃ (t : Addr) (xs : List V), vs = [.ref t] ∧ SqT K H t xs ∧ (∀ x ∈ xs, Flat x) ∧ xs.length ≤ 1000 ∧ ((xs.map shV).map (·.length)).sum + xs.length ≤ 1000000 ∧
  ∀ H', Same H H' → Q (.str (Txt.join " " (xs.map shV))) H'
def sp_expressionof : Sp := fun vs H Q _ => ∃ z : Str, vs = [.str z] ∧ z.length ≤ 40000 ∧
  (∀ (H' : Hp) (t : Addr), exV ((Txt.split z " ").map itV) = true → Same H H' → H t = none → H' t = some (.tup ((Txt.split z " ").map itV)) → Q (.ref t) H') ∧
  (∀ H' : Hp, exV ((Txt.split z " ").map itV) = false → Same H H' → Q .non H')
def sp_readexpression : Sp := fun vs H Q _ => ∃ z : Str, vs = [.str z] ∧ z.length ≤ 40000 ∧ exV ((Txt.split z " ").map itV) = true ∧
  ∀ (H' : Hp) (t : Addr), Same H H' → H t = none → H' t = some (.tup ((Txt.split z " ").map itV)) → Q (.ref t) H'
theorem len_size {n : Nat} (h : n ≤ 100000) : n ≤ sizeLine := Nat.le_trans h (by decide)
theorem one_code {z : Str} (h : z.length = 1) : ∃ c, z = ⟨#[c]⟩ := by
  rw [cp_len] at h
  obtain ⟨c, hc⟩ := List.length_eq_one_iff.mp h
  exact ⟨c, cp_ext hc⟩
theorem letters_mem : ∀ c : Nat, decide (c ∈ letters.cps.toList) = decide (97 ≤ c ∧ c ≤ 112) := by
  intro c
  have e : letters.cps.toList = [97, 98, 99, 100, 101, 102, 103, 104, 105, 106, 107, 108, 109, 110, 111, 112] := by decide +kernel
  rw [e]
  by_cases h : 97 ≤ c ∧ c ≤ 112
  · rw [decide_eq_true h]
    refine decide_eq_true ?_
    simp only [List.mem_cons, List.not_mem_nil, or_false]
    omega
  · rw [decide_eq_false h]
    refine decide_eq_false ?_
    simp only [List.mem_cons, List.not_mem_nil, or_false]
    omega
theorem split_len (z : Str) : (Txt.split z " ").length ≤ z.length + 1 ∧ ∀ w ∈ Txt.split z " ", w.length ≤ z.length := by
  have h := TL.split_spl z " " (by rw [show TL.tl (" " : Str) = [32] from cp_blank]; simp) (TL.kind_ok (by decide +kernel))
  rw [show TL.tl (" " : Str) = [32] from cp_blank] at h
  have key : ∀ (l acc : List Nat), (TL.spl [32] 0 acc l).length ≤ l.length + 1 ∧ ∀ w ∈ TL.spl [32] 0 acc l, w.length ≤ acc.length + l.length := by
    intro l
    induction l with
    | nil =>
      intro acc
      rw [TL.spl_nil]
      refine ⟨Nat.le_refl _, fun w hw => ?_⟩
      rw [List.mem_singleton] at hw
      rw [hw]
      exact Nat.le_refl _
    | cons c r ih =>
      intro acc
      by_cases hc : TL.pre [32] (c :: r) = true
      · rw [TL.spl_hit hc]
        obtain ⟨h1, h2⟩ := ih []
        refine ⟨by rw [List.length_cons, List.length_cons]; exact Nat.succ_le_succ h1, fun w hw => ?_⟩
        rcases List.mem_cons.mp hw with rfl | hw
        · omega
        · have := h2 w hw
          rw [List.length_nil] at this
          rw [List.length_cons]
          omega
      · rw [TL.spl_miss (by simpa using hc)]
        obtain ⟨h1, h2⟩ := ih (acc ++ [c])
        refine ⟨by rw [List.length_cons]; omega, fun w hw => ?_⟩
        have := h2 w hw
        rw [List.length_append, List.length_singleton] at this
        rw [List.length_cons]
        omega
  obtain ⟨h1, h2⟩ := key (cp z) []
  have e1 : (Txt.split z " ").length = (TL.spl [32] 0 [] (cp z)).length := by
    rw [← h, List.length_map]
  refine ⟨by rw [e1, cp_len]; exact h1, fun w hw => ?_⟩
  have hm : TL.tl w ∈ TL.spl [32] 0 [] (cp z) := by
    rw [← h]
    exact List.mem_map_of_mem hw
  have := h2 _ hm
  rw [List.length_nil] at this
  rw [cp_len, cp_len]
  show (TL.tl w).length ≤ _
  omega
/-! Items as data, and shown. -/
def Im.toD : Im → PyData
  | .wo a => .int a
  | .re k => .str (lt k)
  | .si i => .str (nm i)
theorem dpIm {K : PySem.W.Frag} {H : Hp} : ∀ its : List Im, DpAll K H (its.map Im.toV) (its.map Im.toD)
  | [] => .nil
  | .wo a :: r => .cons (.int a) (dpIm r)
  | .re k :: r => .cons (.str _) (dpIm r)
  | .si i :: r => .cons (.str _) (dpIm r)
theorem im_shown {m : Im} (h : m.ok) : m.toD.shown.length ≤ 20 ∧ m.toD.showable = true ∧ m.toD.hasDict = false ∧ m.toD.depth = 0 := by
  cases m with
  | wo a =>
    have h2 : W a := h
    refine ⟨?_, decide_eq_true (few_W h2), rfl, rfl⟩
    show (Str.ofString (toString a)).length ≤ 20
    have := int_text_length_le10 (a := a) (k := 5) (by decide) (by unfold W at h2; omega)
    have e : (Str.ofString (toString a)).length = (toString a).length := by
      rw [cp_len, show cp (Str.ofString (toString a)) = (toString a).toList.map Char.toNat from TL.tl_ofString _, List.length_map]
      rfl
    rw [e]
    omega
  | re k =>
    have e : ∀ k, k < 16 → (reprText (lt k)).length ≤ 20 := by decide +kernel
    exact ⟨e k h, rfl, rfl, rfl⟩
  | si i =>
    have e : ∀ i, i < 9 → (reprText (nm i)).length ≤ 20 := by decide +kernel
    exact ⟨e i h, rfl, rfl, rfl⟩
theorem ims_shown : ∀ {its : List Im}, (∀ m ∈ its, m.ok) → (∀ t ∈ PyData.shownAll (its.map Im.toD), t.length ≤ 20) ∧ (PyData.shownAll (its.map Im.toD)).length = its.length ∧ PyData.showableAll (its.map Im.toD) = true ∧ PyData.hasDictAll (its.map Im.toD) = false ∧ PyData.depthAll (its.map Im.toD) = 0
  | [], _ => ⟨(fun t h => nomatch h), rfl, rfl, rfl, rfl⟩
  | m :: r, h => by
    obtain ⟨a1, a2, a3, a4⟩ := im_shown (h m List.mem_cons_self)
    obtain ⟨b1, b2, b3, b4, b5⟩ := ims_shown (its := r) (fun x hx => h x (List.mem_cons_of_mem _ hx))
    refine ⟨fun t ht => ?_, ?_, ?_, ?_, ?_⟩
    · rcases List.mem_cons.mp (show t ∈ m.toD.shown :: PyData.shownAll (r.map Im.toD) from ht) with rfl | ht
      · exact a1
      · exact b1 t ht
    · show (PyData.shownAll (r.map Im.toD)).length + 1 = r.length + 1
      rw [b2]
    · show (m.toD.showable && PyData.showableAll (r.map Im.toD)) = true
      rw [a2, b3]
      rfl
    · show (m.toD.hasDict || PyData.hasDictAll (r.map Im.toD)) = false
      rw [a3, b4]
      rfl
    · show max m.toD.depth (PyData.depthAll (r.map Im.toD)) = 0
      rw [a4, b5]
      rfl
theorem join_le : ∀ (n : Nat) (ts : List Str), (∀ t ∈ ts, t.length ≤ n) → (Str.join ", " ts).length ≤ (n + 2) * ts.length
  | n, [], _ => by
    show (Str.empty).length ≤ _
    rw [show (Str.empty).length = 0 from rfl]
    omega
  | n, [x], h => by
    show x.length ≤ (n + 2) * 1
    have := h x List.mem_cons_self
    omega
  | n, x :: y :: r, h => by
    have ih := join_le n (y :: r) (fun t ht => h t (List.mem_cons_of_mem _ ht))
    have hx := h x List.mem_cons_self
    show (x ++ ", " ++ Str.join ", " (y :: r)).length ≤ _
    have e : ∀ a b : Str, (a ++ b).length = a.length + b.length := fun a b => by
      rw [cp_len, show cp (a ++ b) = cp a ++ cp b from TL.tl_append a b, List.length_append, ← cp_len, ← cp_len]
    rw [e, e, show ((", " : Str)).length = 2 by decide +kernel]
    rw [List.length_cons] at ih ⊢
    rw [List.length_cons]
    rw [Nat.mul_succ] at ih ⊢
    rw [Nat.mul_succ]
    omega
theorem tup_show {its : List Im} (h : ∀ m ∈ its, m.ok) (hl : its.length ≤ 10000) : ShowOk (.tuple (its.map Im.toD)) := by
  obtain ⟨b1, b2, b3, b4, b5⟩ := ims_shown h
  refine ⟨b3, b4, ?_, ?_⟩
  · show PyData.depthAll (its.map Im.toD) + 1 ≤ 60
    rw [b5]
    decide
  · show (tupleText (PyData.shownAll (its.map Im.toD))).length ≤ sizeLine
    have hj := join_le 20 _ b1
    rw [b2] at hj
    have e : ∀ a b : Str, (a ++ b).length = a.length + b.length := fun a b => by
      rw [cp_len, show cp (a ++ b) = cp a ++ cp b from TL.tl_append a b, List.length_append, ← cp_len, ← cp_len]
    unfold tupleText
    rw [e, e]
    have h1 : (("(" : Str)).length = 1 := by decide +kernel
    have h2 : ((if (PyData.shownAll (its.map Im.toD)).length == 1 then ",)" else ")" : String) : Str).length ≤ 2 := by
      split <;> decide +kernel
    rw [h1]
    exact Nat.le_trans (show _ ≤ 1000000 by omega) (by decide)
/-! Items and things. -/
theorem im_flags {m : Im} (h : m.ok) : sgV m.toV = m.sgn ∧ (woV m.toV || ltV m.toV || sgV m.toV) = true ∧ itV (shV m.toV) = m.toV ∧ Flat m.toV ∧ FlatN m.toV ∧ 32 ∉ cp (shV m.toV) ∧ (shV m.toV).length ≤ 10 := by
  cases m with
  | wo a =>
    have h2 : W a := h
    refine ⟨rfl, ?_, itV_int h2, few_W h2, trivial, ?_, ?_⟩
    · have e : woV (.int a) = true := decide_eq_true h2
      show (woV (.int a) || _ || _) = true
      rw [e]
      rfl
    · show 32 ∉ cp (Str.ofString (toString a))
      cases a with
      | ofNat n =>
        rw [show (Int.ofNat n) = ((n : Nat) : Int) from rfl, cp_nat]
        exact TL.numL_free (.inl (by decide))
      | negSucc n =>
        rw [cp_neg]
        intro hm
        rcases List.mem_cons.mp hm with e | hm
        · exact absurd e (by decide)
        · exact TL.numL_free (.inl (by decide)) hm
    · show (Str.ofString (toString a)).length ≤ 10
      have := int_text_length_le10 (a := a) (k := 5) (by decide) (by unfold W at h2; omega)
      have e : (Str.ofString (toString a)).length = (toString a).length := by
        rw [cp_len, show cp (Str.ofString (toString a)) = (toString a).toList.map Char.toNat from TL.tl_ofString _, List.length_map]
        rfl
      rw [e]
      omega
  | re k =>
    have e1 : ∀ k, k < 16 → 32 ∉ cp (lt k) ∧ (lt k).length ≤ 10 := by decide +kernel
    have e2 : (ltV (.str (lt k))) = true := lt_lt k h
    refine ⟨sg_lt k h, ?_, itV_lt k h, ?_, ?_, (e1 k h).1, (e1 k h).2⟩
    · show (false || ltV (.str (lt k)) || _) = true
      rw [e2]
      rfl
    · show (lt k).length ≤ 100000
      have := (e1 k h).2
      omega
    · show (lt k).length ≤ 100000
      have := (e1 k h).2
      omega
  | si i =>
    have e1 : ∀ i, i < 9 → 32 ∉ cp (nm i) ∧ (nm i).length ≤ 10 := by decide +kernel
    refine ⟨sg_nm i h, ?_, itV_sg i h, ?_, ?_, (e1 i h).1, (e1 i h).2⟩
    · show (false || _ || sgV (.str (nm i))) = true
      rw [sg_nm i h, Bool.or_true]
    · show (nm i).length ≤ 100000
      have := (e1 i h).2
      omega
    · show (nm i).length ≤ 100000
      have := (e1 i h).2
      omega
theorem htV_map : ∀ (its : List Im) (h : Nat), (∀ m ∈ its, m.ok) → htV h (its.map Im.toV) = ht h its
  | [], _, _ => rfl
  | m :: r, h, hok => by
    show (if sgV m.toV = true then (if 2 ≤ h then htV (h - 1) (r.map Im.toV) else none) else htV (h + 1) (r.map Im.toV)) = (if m.sgn = true then (if 2 ≤ h then ht (h - 1) r else none) else ht (h + 1) r)
    have hr : ∀ x ∈ r, x.ok := fun x hx => hok x (List.mem_cons_of_mem _ hx)
    rw [(im_flags (hok m List.mem_cons_self)).1, htV_map r (h - 1) hr, htV_map r (h + 1) hr]
theorem exV_map {its : List Im} (hok : ∀ m ∈ its, m.ok) (hh : ht 0 its = some 1) : exV (its.map Im.toV) = decide (its.length ≤ 15) := by
  unfold exV
  have e : (its.map Im.toV).all (fun x => woV x || ltV x || sgV x) = true := by
    rw [List.all_eq_true]
    intro x hx
    obtain ⟨m, hm, rfl⟩ := List.mem_map.mp hx
    exact (im_flags (hok m hm)).2.1
  rw [e, htV_map its 0 hok, hh, List.length_map, decide_eq_true rfl, Bool.and_true, Bool.and_true]
/-! Texts of items. -/
def showI (its : List Im) : Str := Txt.join " " ((its.map Im.toV).map shV)
theorem show_back {its : List Im} (hok : ∀ m ∈ its, m.ok) (hne : its ≠ []) : (Txt.split (showI its) " ").map itV = its.map Im.toV := by
  unfold showI
  rw [TL.split_join (show TL.tl (" " : Str) = 32 :: [] from cp_blank) (by decide +kernel) (by simpa using hne), List.map_map, List.map_map]
  · refine List.map_congr_left fun m hm => ?_
    exact (im_flags (hok m hm)).2.2.1
  · intro p hp
    rw [List.map_map] at hp
    obtain ⟨m, hm, rfl⟩ := List.mem_map.mp hp
    exact (im_flags (hok m hm)).2.2.2.2.2.1
theorem joinL_app : ∀ (S : List Nat) (a b : List (List Nat)), a ≠ [] → b ≠ [] → TL.joinL S (a ++ b) = TL.joinL S a ++ (S ++ TL.joinL S b)
  | S, [], b, h, _ => absurd rfl h
  | S, [x], [], _, h => absurd rfl h
  | S, [x], y :: r, _, _ => rfl
  | S, x :: z :: r, b, _, h => by
    show x ++ (S ++ TL.joinL S ((z :: r) ++ b)) = (x ++ (S ++ TL.joinL S (z :: r))) ++ (S ++ TL.joinL S b)
    rw [joinL_app S (z :: r) b (by simp) h]
    simp only [List.append_assoc]
theorem cp_join (ws : List Str) : cp (Txt.join " " ws) = TL.joinL [32] (ws.map TL.tl) := by
  show TL.tl _ = _
  rw [TL.join_eq, TL.tl_join, show TL.tl (" " : Str) = [32] from cp_blank]
theorem show_app {a b : List Im} (ha : a ≠ []) (hb : b ≠ []) : showI (a ++ b) = showI a ++ " " ++ showI b := by
  apply cp_ext
  show TL.tl _ = TL.tl _
  rw [TL.tl_append, TL.tl_append]
  show cp (showI (a ++ b)) = cp (showI a) ++ cp (" " : Str) ++ cp (showI b)
  unfold showI
  rw [cp_join, cp_join, cp_join, cp_blank, List.map_append, List.map_append, List.map_append, joinL_app _ _ _ (by simpa using ha) (by simpa using hb), List.append_assoc]
theorem joinL_len : ∀ (ps : List (List Nat)), (∀ p ∈ ps, p.length ≤ 10) → (TL.joinL [32] ps).length ≤ 11 * ps.length
  | [], _ => Nat.zero_le _
  | [p], h => by
    show p.length ≤ 11 * 1
    have := h p List.mem_cons_self
    omega
  | p :: q :: r, h => by
    have ih := joinL_len (q :: r) (fun x hx => h x (List.mem_cons_of_mem _ hx))
    have := h p List.mem_cons_self
    show (p ++ ([32] ++ TL.joinL [32] (q :: r))).length ≤ _
    rw [List.length_append, List.length_append, List.length_singleton]
    rw [List.length_cons] at ih ⊢
    rw [List.length_cons]
    omega
theorem show_len {its : List Im} (hok : ∀ m ∈ its, m.ok) : (showI its).length ≤ 11 * its.length := by
  rw [cp_len]
  unfold showI
  rw [cp_join]
  refine Nat.le_trans (joinL_len _ fun p hp => ?_) (by rw [List.length_map, List.length_map, List.length_map]; exact Nat.le_refl _)
  rw [List.map_map, List.map_map] at hp
  obtain ⟨m, hm, rfl⟩ := List.mem_map.mp hp
  have := (im_flags (hok m hm)).2.2.2.2.2.2
  rw [cp_len] at this
  exact this
theorem sum_len {its : List Im} (hok : ∀ m ∈ its, m.ok) : (((its.map Im.toV).map shV).map (·.length)).sum ≤ 10 * its.length := by
  induction its with
  | nil => exact Nat.zero_le _
  | cons m r ih =>
    have := ih (fun x hx => hok x (List.mem_cons_of_mem _ hx))
    have h1 := (im_flags (hok m List.mem_cons_self)).2.2.2.2.2.2
    rw [List.map_cons, List.map_cons, List.map_cons, List.sum_cons, List.length_cons]
    omega
/-! Reckoning put together. -/
theorem run_append (ρ : Nat → Int) : ∀ (l r : List Im) (rp : List Int), run ρ rp (l ++ r) = match run ρ rp l with
    | some rp' => run ρ rp' r
    | none => none
  | [], r, rp => rfl
  | m :: l, r, rp => by
    show (match step ρ rp m with | some rp' => run ρ rp' (l ++ r) | none => none) = match (match step ρ rp m with | some rp' => run ρ rp' l | none => none) with
      | some rp' => run ρ rp' r
      | none => none
    cases step ρ rp m with
    | none => rfl
    | some rp' => exact run_append ρ l r rp'
theorem run_base (ρ : Nat → Int) (b : List Int) : ∀ (l : List Im) (rp rp' : List Int), run ρ rp l = some rp' → run ρ (rp ++ b) l = some (rp' ++ b)
  | [], rp, rp', h => by
    rw [show rp = rp' from Option.some.inj h]
    rfl
  | .wo a :: l, rp, rp', h => run_base ρ b l (a :: rp) rp' h
  | .re k :: l, rp, rp', h => run_base ρ b l (ρ k :: rp) rp' h
  | .si i :: l, y :: x :: r, rp', h => run_base ρ b l (br (sg i x y) :: r) rp' h
  | .si i :: l, [x], rp', h => by cases h
  | .si i :: l, [], rp', h => by cases h
theorem run_both {ρ : Nat → Int} {e f : List Im} {x y : Int} (he : run ρ [] e = some [x]) (hf : run ρ [] f = some [y]) (i : Nat) : run ρ [] (e ++ f ++ [.si i]) = some [br (sg i x y)] := by
  rw [run_append, run_append, he]
  show (match run ρ [x] f with | some rp' => run ρ rp' [.si i] | none => none) = _
  have := run_base ρ [x] f [] [y] hf
  rw [show ([] : List Int) ++ [x] = [x] from rfl] at this
  rw [this]
  rfl
theorem ht_app : ∀ (l r : List Im) (h : Nat), ht h (l ++ r) = match ht h l with
    | some g => ht g r
    | none => none
  | [], r, h => rfl
  | x :: l, r, h => by
    show (if x.sgn = true then (if 2 ≤ h then ht (h - 1) (l ++ r) else none) else ht (h + 1) (l ++ r)) = match (if x.sgn = true then (if 2 ≤ h then ht (h - 1) l else none) else ht (h + 1) l) with
      | some g => ht g r
      | none => none
    rw [ht_app l r (h - 1), ht_app l r (h + 1)]
    split
    · split <;> rfl
    · rfl
theorem ht_base : ∀ (l : List Im) (h g b : Nat), ht h l = some g → ht (h + b) l = some (g + b)
  | [], h, g, b, e => by
    rw [show h = g from Option.some.inj e]
    rfl
  | x :: l, h, g, b, e => by
    have e2 : (if x.sgn = true then (if 2 ≤ h then ht (h - 1) l else none) else ht (h + 1) l) = some g := e
    show (if x.sgn = true then (if 2 ≤ h + b then ht (h + b - 1) l else none) else ht (h + b + 1) l) = some (g + b)
    cases hx : x.sgn with
    | true =>
      rw [hx, if_pos rfl] at e2
      by_cases hh : 2 ≤ h
      · rw [if_pos hh] at e2
        rw [if_pos rfl, if_pos (by omega), show h + b - 1 = h - 1 + b by omega]
        exact ht_base l (h - 1) g b e2
      · rw [if_neg hh] at e2
        cases e2
    | false =>
      rw [hx, if_neg (by decide)] at e2
      rw [if_neg (by decide), show h + b + 1 = h + 1 + b by omega]
      exact ht_base l (h + 1) g b e2
theorem both_ok {e f : List Im} (he : Expr1 e) (hf : Expr1 f) {i : Nat} (hi : i < 9) : Expr1 (e ++ f ++ [.si i]) := by
  refine ⟨fun m hm => ?_, ?_⟩
  · rcases List.mem_append.mp hm with hm | hm
    · rcases List.mem_append.mp hm with hm | hm
      · exact he.ok m hm
      · exact hf.ok m hm
    · rw [List.mem_singleton] at hm
      rw [hm]
      exact hi
  · rw [ht_app, ht_app, he.ht]
    show (match ht 1 f with | some g => ht g [.si i] | none => none) = _
    have := ht_base f 0 1 1 hf.ht
    rw [show (0 : Nat) + 1 = 1 from rfl] at this
    rw [this]
    rfl
/-- the same values, item by item -/
def val (ρ : Nat → Int) : Im → Option Int
  | .wo a => some a
  | .re k => some (ρ k)
  | .si _ => none
theorem step_val {ρ ρ' : Nat → Int} {m m' : Im} (rp : List Int) (h : m = m' ∧ m.sgn = true ∨ (m.sgn = false ∧ m'.sgn = false ∧ val ρ m = val ρ' m')) : step ρ rp m = step ρ' rp m' := by
  rcases h with ⟨rfl, h⟩ | ⟨h1, h2, h3⟩
  · cases m with
    | wo a => cases h
    | re k => cases h
    | si i => rfl
  · cases m with
    | si i => cases h1
    | wo a =>
      cases m' with
      | si i => cases h2
      | wo b =>
        obtain rfl : a = b := Option.some.inj h3
        rfl
      | re k =>
        have : a = ρ' k := Option.some.inj h3
        show some (a :: rp) = some (ρ' k :: rp)
        rw [this]
    | re j =>
      cases m' with
      | si i => cases h2
      | wo b =>
        have : ρ j = b := Option.some.inj h3
        show some (ρ j :: rp) = some (b :: rp)
        rw [this]
      | re k =>
        have : ρ j = ρ' k := Option.some.inj h3
        show some (ρ j :: rp) = some (ρ' k :: rp)
        rw [this]
theorem run_same {ρ ρ' : Nat → Int} : ∀ (l : List Im) (rp : List Int), (∀ m ∈ l, m.sgn = true ∨ val ρ m = val ρ' m) → run ρ rp l = run ρ' rp l
  | [], rp, _ => rfl
  | m :: l, rp, h => by
    have e : step ρ rp m = step ρ' rp m := by
      apply step_val
      rcases h m List.mem_cons_self with g | g
      · exact .inl ⟨rfl, g⟩
      · cases hs : m.sgn with
        | true => exact .inl ⟨rfl, rfl⟩
        | false => exact .inr ⟨rfl, rfl, g⟩
    show (match step ρ rp m with | some rp' => run ρ rp' l | none => none) = (match step ρ' rp m with | some rp' => run ρ' rp' l | none => none)
    rw [e]
    cases step ρ' rp m with
    | none => rfl
    | some rp' => exact run_same l rp' (fun x hx => h x (List.mem_cons_of_mem _ hx))
theorem run_put {ρ ρ' : Nat → Int} {l r : List Im} {m m' : Im} (hl : ∀ x ∈ l, x.sgn = true ∨ val ρ x = val ρ' x) (hr : ∀ x ∈ r, x.sgn = true ∨ val ρ x = val ρ' x) (h1 : m.sgn = false) (h2 : m'.sgn = false) (hv : val ρ m = val ρ' m') :
    run ρ [] (l ++ m :: r) = run ρ' [] (l ++ m' :: r) := by
  rw [run_append, run_append, run_same l [] hl]
  cases run ρ' [] l with
  | none => rfl
  | some rp =>
    show (match step ρ rp m with | some rp' => run ρ rp' r | none => none) = (match step ρ' rp m' with | some rp' => run ρ' rp' r | none => none)
    rw [step_val rp (.inr ⟨h1, h2, hv⟩)]
    cases step ρ' rp m' with
    | none => rfl
    | some rp' => exact run_same r rp' hr
/-! Lists of letters as data. -/
theorem dpStrs {K : PySem.W.Frag} {H : Hp} : ∀ ks : List Nat, DpAll K H (ks.map (fun k => V.str (lt k))) (ks.map (fun k => PyData.str (lt k)))
  | [] => .nil
  | k :: r => .cons (.str _) (dpStrs r)
theorem lt_ok : ∀ k, k < 16 → PyData.strOk (lt k) = true := by decide +kernel
theorem shStrs : ∀ {ks : List Nat}, (∀ k ∈ ks, k < 16) → PyData.canLayAll0 (ks.map (fun k => PyData.str (lt k))) = true ∧ PyData.depthAll (ks.map (fun k => PyData.str (lt k))) = 0
  | [], _ => ⟨rfl, rfl⟩
  | k :: r, h => by
    obtain ⟨h1, h2⟩ := shStrs (ks := r) (fun x hx => h x (List.mem_cons_of_mem _ hx))
    refine ⟨?_, ?_⟩
    · show (PyData.strOk (lt k) && PyData.canLayAll0 (r.map (fun k => PyData.str (lt k)))) = true
      rw [lt_ok k (h k List.mem_cons_self), h1]
      rfl
    · show max 0 (PyData.depthAll (r.map (fun k => PyData.str (lt k)))) = 0
      rw [h2]
      rfl
theorem shapedStrs {ks : List Nat} (h : ∀ k ∈ ks, k < 16) : SeqAt.shaped (.list (ks.map (fun k => PyData.str (lt k)))) = true := by
  obtain ⟨h1, h2⟩ := shStrs h
  show (PyData.canLayAll0 (ks.map (fun k => PyData.str (lt k))) && decide (PyData.depthAll (ks.map (fun k => PyData.str (lt k))) + 1 ≤ 64)) = true
  rw [h1, h2]
  rfl
theorem lt_inj {j k : Nat} (h : lt j = lt k) : j = k := by
  have h2 : cp (lt j) = cp (lt k) := by rw [h]
  have h3 : [97 + j] = [97 + k] := h2
  have := (List.cons.inj h3).1
  omega
theorem rho_put (kvs : List (Key × V)) (k : Nat) (a : Int) (j : Nat) : rho (putK kvs (.inr (lt k)) (.int a)) j = if j = k then a else rho kvs j := by
  unfold rho
  rw [valV_put]
  by_cases h : j = k
  · subst h
    rw [if_pos rfl, if_pos rfl]
  · rw [if_neg (fun z => h (lt_inj (Sum.inr.inj z))), if_neg h]
theorem in_of {k : Nat} {its : List Im} (h : inV (.str (lt k)) (its.map Im.toV) = false) : ∀ m ∈ its, m ≠ .re k := by
  rintro m hm rfl
  have : inV (.str (lt k)) (its.map Im.toV) = true := by
    unfold inV
    rw [List.any_eq_true]
    exact ⟨_, List.mem_map_of_mem hm, by simp [Im.toV, eqV]⟩
  rw [h] at this
  cases this
theorem lt_a : ("a" : Str) = lt 0 := by decide +kernel
theorem flat_im {its : List Im} : (its.map Im.toV).all flatV = true := by
  rw [List.all_eq_true]
  intro x hx
  obtain ⟨m, hm, rfl⟩ := List.mem_map.mp hx
  cases m with
  | wo a => rfl
  | re k => rfl
  | si i => rfl
theorem len_app (a b : Str) : (a ++ b).length = a.length + b.length := by
  rw [cp_len, show cp (a ++ b) = cp a ++ cp b from TL.tl_append a b, List.length_append, ← cp_len, ← cp_len]
theorem put_val {kvs : List (Key × V)} {k : Nat} {a : Int} {its : List Im} (h : ∀ m ∈ its, m ≠ .re k) : ∀ m ∈ its, m.sgn = true ∨ val (rho kvs) m = val (rho (putK kvs (.inr (lt k)) (.int a))) m := by
  intro m hm
  cases m with
  | wo x => exact .inr rfl
  | si i => exact .inl rfl
  | re j =>
    refine .inr ?_
    have : j ≠ k := fun z => h _ hm (by rw [z])
    show some (rho kvs j) = some (rho (putK kvs (.inr (lt k)) (.int a)) j)
    rw [rho_put, if_neg this]
theorem letter_at : ∀ i, i < 16 → ("abcdefghijklmnop" : Str).cps[i]? = some (97 + i) := by decide +kernel
theorem letters_size : ("abcdefghijklmnop" : Str).cps.size = 16 := by decide +kernel
theorem a_no_sign : ∀ i, i < 9 → nm i ≠ ("a" : Str) := by decide +kernel
theorem show_mark (i : Nat) : showI [.si i] = nm i := by
  apply cp_ext
  unfold showI
  rw [cp_join]
  rfl
theorem nm_short : ∀ i, i < 9 → (nm i).length ≤ 1 := by decide +kernel
def sp_lfeed (K : PySem.W.Frag) : Sp := fun vs H Q _ => ∃ (a : Addr) (ns : List Int), vs = [.ref a] ∧ SqL K H a (ns.map V.int) ∧ ns.length ≤ 63 ∧
  ∀ H' p c, Pen H' p c ns 0 → Q (.ref p) H'
def sp_ldraw : Sp := fun vs H Q _ => ∃ (p c : Addr) (ns : List Int) (n m : Int), vs = [.ref p, .int m] ∧ Pen H p c ns n ∧ 0 < m ∧ m < 1073741824 ∧ n < 1000000 ∧
  ∀ (H' : Hp) (d n' : Int), Kp p H H' → Pen H' p c ns n' → 0 ≤ d → d < m → n ≤ n' → n' ≤ n + 1 → Q (.int d) H'
def sp_lworth : Sp := fun vs H Q _ => ∃ (p c : Addr) (ns : List Int) (n : Int), vs = [.ref p] ∧ Pen H p c ns n ∧ n < 900000 ∧
  ∀ (H' : Hp) (k n' : Int), Kp p H H' → Pen H' p c ns n' → n ≤ n' → n' ≤ n + 2 → W k → Q (.int k) H'
def sp_lregister : Sp := fun vs H Q _ => ∃ (p c : Addr) (ns : List Int) (n : Int), vs = [.ref p] ∧ Pen H p c ns n ∧ n < 900000 ∧
  ∀ (H' : Hp) (k : Nat) (n' : Int), Kp p H H' → Pen H' p c ns n' → n ≤ n' → n' ≤ n + 2 → k < 16 → Q (.str (lt k)) H'
def sp_litem : Sp := fun vs H Q _ => ∃ (p c : Addr) (ns : List Int) (n : Int), vs = [.ref p] ∧ Pen H p c ns n ∧ n < 890000 ∧
  ∀ (H' : Hp) (m : Im) (n' : Int), Kp p H H' → Pen H' p c ns n' → n ≤ n' → n' ≤ n + 5 → m.ok → m.sgn = false → Q m.toV H'
def sp_lexpression : Sp := fun vs H Q _ => ∃ (p c : Addr) (ns : List Int) (n : Int) (most : Nat), vs = [.ref p, .int (most : Int)] ∧ Pen H p c ns n ∧ n < 880000 ∧ most ≤ 20 ∧
  ∀ (H' : Hp) (t : Addr) (its : List Im) (n' : Int), Kp p H H' → Pen H' p c ns n' → n ≤ n' → n' ≤ n + 300 → H t = none → H' t = some (.tup (its.map Im.toV)) → Expr1 its → its.length ≤ 2 * most + 1 → its ≠ [] → Q (.ref t) H'
/-! Things of any kind. -/
def Kn (H : Hp) : V → Prop
  | .ref a => (∃ xs, H a = some (.tup xs)) ∨ (∃ xs, H a = some (.lst xs)) ∨ ∃ kvs, H a = some (.dK kvs)
  | .non => True
  | .bl _ => True
  | .int _ => True
  | .str z => z.length ≤ 100000
  | _ => False
theorem Kn.same {H H' : Hp} {x : V} (s : Same H H') (h : Kn H x) : Kn H' x := by
  cases x with
  | ref a =>
    rcases h with ⟨xs, e⟩ | ⟨xs, e⟩ | ⟨xs, e⟩
    · exact .inl ⟨xs, s _ _ e⟩
    · exact .inr (.inl ⟨xs, s _ _ e⟩)
    · exact .inr (.inr ⟨xs, s _ _ e⟩)
  | non => exact h
  | bl b => exact h
  | int i => exact h
  | str z => exact h
  | byt b => exact h
  | flt b => exact h
  | ty n => exact h
def exT (H : Hp) : V → Bool
  | .ref a => match H a with
    | some (.tup xs) => exV xs
    | _ => false
  | _ => false
theorem exT_tup {H : Hp} {t : Addr} {xs : List V} (h : H t = some (.tup xs)) : exT H (.ref t) = exV xs := by
  simp only [exT, h]
theorem exT_lst {H : Hp} {t : Addr} {xs : List V} (h : H t = some (.lst xs)) : exT H (.ref t) = false := by
  simp only [exT, h]
theorem exT_dK {H : Hp} {t : Addr} {xs : List (Key × V)} (h : H t = some (.dK xs)) : exT H (.ref t) = false := by
  simp only [exT, h]
def sp_isexpA : Sp := fun vs H Q _ => ∃ x : V, vs = [x] ∧ Kn H x ∧ (∀ t xs, x = .ref t → H t = some (.tup xs) → xs.length ≤ 50000 ∧ ∀ y ∈ xs, Kn H y) ∧ ∀ H', Same H H' → Q (.bl (exT H x)) H'
/-! Things that lie within one another, so deep and so long at most. -/
def Low (H : Hp) : V → Prop
  | .ref a => (∃ xs, H a = some (.lst xs)) ∨ ∃ kvs, H a = some (.dK kvs)
  | .non => True
  | .bl _ => True
  | .int _ => True
  | .str z => z.length ≤ 100000
  | _ => False
def Th (H : Hp) (L : Nat) : Nat → V → Prop
  | 0, x => Low H x
  | d + 1, x => Low H x ∨ ∃ t xs, x = .ref t ∧ H t = some (.tup xs) ∧ xs.length ≤ L ∧ ∀ y ∈ xs, Th H L d y
theorem Low.th {H : Hp} {L : Nat} {x : V} (h : Low H x) : ∀ d, Th H L d x
  | 0 => h
  | _ + 1 => .inl h
theorem Low.kp {H H' : Hp} {p c : Addr} {ns : List Int} {n : Int} {x : V} (k : Kp p H H') (P : Pen H' p c ns n) (h : Low H x) : Low H' x := by
  cases x with
  | ref a =>
    by_cases hp : a = p
    · subst hp
      obtain ⟨r, e, _⟩ := P
      exact .inl ⟨_, e⟩
    · rcases h with ⟨xs, e⟩ | ⟨xs, e⟩
      · exact .inl ⟨xs, k _ _ hp e⟩
      · exact .inr ⟨xs, k _ _ hp e⟩
  | non => exact h
  | bl b => exact h
  | int i => exact h
  | str z => exact h
  | byt b => exact h
  | flt b => exact h
  | ty n => exact h
theorem Th.kp {H H' : Hp} {p c : Addr} {ns ns0 : List Int} {n n0 : Int} {c0 : Addr} {L : Nat} (k : Kp p H H') (P0 : Pen H p c0 ns0 n0) (P : Pen H' p c ns n) : ∀ {d : Nat} {x : V}, Th H L d x → Th H' L d x
  | 0, _, h => Low.kp k P h
  | d + 1, _, .inl h => .inl (Low.kp k P h)
  | d + 1, _, .inr ⟨t, xs, e, ht, hl, hx⟩ => .inr ⟨t, xs, e, k _ _ (P0.nt ht (fun _ z => by cases z)) ht, hl, fun y hy => Th.kp k P0 P (hx y hy)⟩
theorem Low.same {H H' : Hp} {x : V} (s : Same H H') (h : Low H x) : Low H' x := by
  cases x with
  | ref a =>
    rcases h with ⟨xs, e⟩ | ⟨xs, e⟩
    · exact .inl ⟨xs, s _ _ e⟩
    · exact .inr ⟨xs, s _ _ e⟩
  | non => exact h
  | bl b => exact h
  | int i => exact h
  | str z => exact h
  | byt b => exact h
  | flt b => exact h
  | ty n => exact h
theorem Th.same {H H' : Hp} {L : Nat} (s : Same H H') : ∀ {d : Nat} {x : V}, Th H L d x → Th H' L d x
  | 0, _, h => Low.same s h
  | d + 1, _, .inl h => .inl (Low.same s h)
  | d + 1, _, .inr ⟨t, xs, e, ht, hl, hx⟩ => .inr ⟨t, xs, e, s _ _ ht, hl, fun y hy => Th.same s (hx y hy)⟩
theorem Th.mono {H : Hp} {L L' : Nat} (hL : L ≤ L') : ∀ {d d' : Nat} {x : V}, d ≤ d' → Th H L d x → Th H L' d' x
  | 0, d', _, _, h => Low.th h d'
  | d + 1, 0, _, hd, _ => absurd hd (by omega)
  | d + 1, d' + 1, _, _, .inl h => .inl h
  | d + 1, d' + 1, _, hd, .inr ⟨t, xs, e, ht, hl, hx⟩ => .inr ⟨t, xs, e, ht, Nat.le_trans hl hL, fun y hy => Th.mono hL (by omega) (hx y hy)⟩
theorem Low.kn {H : Hp} {x : V} (h : Low H x) : Kn H x := by
  cases x with
  | ref a =>
    rcases h with ⟨xs, e⟩ | ⟨xs, e⟩
    · exact .inr (.inl ⟨xs, e⟩)
    · exact .inr (.inr ⟨xs, e⟩)
  | non => exact h
  | bl b => exact h
  | int i => exact h
  | str z => exact h
  | byt b => exact h
  | flt b => exact h
  | ty n => exact h
theorem Th.kn {H : Hp} {L : Nat} : ∀ {d : Nat} {x : V}, Th H L d x → Kn H x
  | 0, _, h => Low.kn h
  | d + 1, _, .inl h => Low.kn h
  | d + 1, _, .inr ⟨t, xs, e, ht, _⟩ => by
    rw [e]
    exact .inl ⟨xs, ht⟩
theorem Low.no {H : Hp} {t : Addr} {xs : List V} (h : Low H (.ref t)) (ht : H t = some (.tup xs)) : False := by
  rcases h with ⟨ys, e⟩ | ⟨ys, e⟩
  · rw [ht] at e
    cases e
  · rw [ht] at e
    cases e
theorem Th.items {H : Hp} {L d : Nat} {x : V} (h : Th H L d x) : ∀ t xs, x = .ref t → H t = some (.tup xs) → xs.length ≤ L ∧ ∀ y ∈ xs, Kn H y := by
  intro t xs ex ht
  subst ex
  cases d with
  | zero => exact (Low.no h ht).elim
  | succ d =>
    rcases h with h | ⟨t', xs', e, ht', hl, hx⟩
    · exact (Low.no h ht).elim
    · obtain rfl := V.ref.inj e
      rw [ht] at ht'
      obtain rfl : xs = xs' := HO.tup.inj (Option.some.inj ht')
      exact ⟨hl, fun y hy => (hx y hy).kn⟩
/-! Slices and sums of tuples: a tuple of what is due, new or not. -/
theorem catAny {K : PySem.W.Frag} {H : Hp} {a b : Addr} {xs ys : List V} {Q : VK} (ha : H a = some (.tup xs)) (hb : H b = some (.tup ys)) (hl : xs.length + ys.length ≤ sizeLine)
    (q : ∀ r H', Same H H' → H' r = some (.tup (xs ++ ys)) → Q (.ref r) H') : rCatA K (.ref a) (.ref b) H Q := by
  refine ⟨a, b, xs, ys, rfl, rfl, SqT.of ha, SqT.of hb, hl, fun e => ?_, fun _ e => ?_, fun _ _ p hp => q p _ (Same.new hp) upd_same⟩
  · subst e
    exact q b H (Same.refl H) hb
  · subst e
    refine q a H (Same.refl H) ?_
    rw [List.append_nil]
    exact ha
theorem cutWhole {xs : List V} {lo hi : Option Int} (h : HT.sIx xs.length 0 lo = 0 ∧ HT.sIx xs.length xs.length hi = xs.length) : cutV xs lo hi = xs := by
  unfold cutV
  rw [h.1, h.2, List.drop_zero, Nat.sub_zero, List.take_length]
theorem slAny {K : PySem.W.Frag} {H : Hp} {a : Addr} {xs : List V} {lo hi : Option Int} {Q : VK} (ha : H a = some (.tup xs)) (q : ∀ r H', Same H H' → H' r = some (.tup (cutV xs lo hi)) → Q (.ref r) H') : rSlA K (.ref a) lo hi H Q := by
  refine ⟨a, xs, rfl, SqT.of ha, fun e => ?_, fun _ p hp => q p _ (Same.new hp) upd_same⟩
  refine q a H (Same.refl H) ?_
  rw [cutWhole e]
  exact ha
theorem slFrom {K : PySem.W.Frag} {H : Hp} {σ : St} {a : Addr} {xs : List V} {lo : Option Int} {Q : VK} (ha : H a = some (.tup xs)) (q : ∀ r H', Same H H' → H' r = some (.tup (cutV xs lo none)) → Q (.ref r) H') : tNoPart σ H fun u H3 => rSlA K (.ref a) lo u H3 Q :=
  show rSlA K (.ref a) lo none H Q from slAny ha q
/-! What the law finds of a thing. -/
def okV (x : V) : Bool := woV x || ltV x || sgV x
theorem lt_code (c : Nat) : ltV (.str ⟨#[c]⟩) = decide (97 ≤ c ∧ c ≤ 112) := by
  show (decide ((⟨#[c]⟩ : Str).length = 1) && decide (∀ d ∈ cp ⟨#[c]⟩, 97 ≤ d ∧ d ≤ 112)) = _
  rw [decide_eq_true (show (⟨#[c]⟩ : Str).length = 1 from rfl), Bool.true_and]
  by_cases h2 : 97 ≤ c ∧ c ≤ 112
  · rw [decide_eq_true h2, decide_eq_true]
    intro d hd
    rw [show d = c from List.mem_singleton.mp hd]
    exact h2
  · rw [decide_eq_false h2, decide_eq_false]
    exact fun g => h2 (g c (List.mem_singleton.mpr rfl))
theorem sg_code (c : Nat) : sgV (.str ⟨#[c]⟩) = decide (c ∈ codes) := by
  have e : sgKeys = codes.map fun c => ⟨#[c]⟩ := by decide +kernel
  show decide ((⟨#[c]⟩ : Str) ∈ sgKeys) = _
  rw [e]
  by_cases h : c ∈ codes
  · rw [decide_eq_true h, decide_eq_true (List.mem_map_of_mem h)]
  · rw [decide_eq_false h, decide_eq_false]
    intro g
    obtain ⟨d, hd, e2⟩ := List.mem_map.mp g
    have e3 : #[d] = #[c] := congrArg Str.cps e2
    have : d = c := by simpa using e3
    exact h (this ▸ hd)
theorem sg_len {z : Str} (h : z.length ≠ 1) : sgV (.str z) = false := by
  have e : ∀ k ∈ sgKeys, k.length = 1 := by decide +kernel
  exact decide_eq_false (fun g => h (e z g))
theorem lt_len {z : Str} (h : z.length ≠ 1) : ltV (.str z) = false := by
  show (decide (z.length = 1) && _) = _
  rw [decide_eq_false h]
  rfl
theorem all_mem (c : Nat) : decide (c ∈ ("abcdefghijklmnop+-*/#<=&^" : Str).cps.toList) = (ltV (.str ⟨#[c]⟩) || sgV (.str ⟨#[c]⟩)) := by
  have e : ("abcdefghijklmnop+-*/#<=&^" : Str).cps.toList = letters.cps.toList ++ codes := by decide +kernel
  rw [e, lt_code, sg_code, ← letters_mem]
  by_cases h1 : c ∈ letters.cps.toList
  · rw [decide_eq_true h1, decide_eq_true (List.mem_append_left _ h1)]
    rfl
  · by_cases h2 : c ∈ codes
    · rw [decide_eq_false h1, decide_eq_true h2, decide_eq_true (List.mem_append_right _ h2)]
      rfl
    · rw [decide_eq_false h1, decide_eq_false h2, decide_eq_false]
      · rfl
      · intro g
        rcases List.mem_append.mp g with g | g
        · exact h1 g
        · exact h2 g
theorem sign_mem (c : Nat) : decide (c ∈ ("+-*/#<=&^" : Str).cps.toList) = sgV (.str ⟨#[c]⟩) := by
  have e : ("+-*/#<=&^" : Str).cps.toList = codes := by decide +kernel
  rw [e, sg_code]
theorem exV_bad {xs : List V} {x : V} (hm : x ∈ xs) (h : okV x = false) : exV xs = false := by
  unfold exV
  have : xs.all (fun x => woV x || ltV x || sgV x) = false := by
    rw [List.all_eq_false]
    exact ⟨x, hm, by rw [show (woV x || ltV x || sgV x) = okV x from rfl, h]; decide⟩
  rw [this, Bool.and_false]
  rfl
theorem exV_ht {xs : List V} (h : htV 0 xs ≠ some 1) : exV xs = false := by
  unfold exV
  rw [decide_eq_false h, Bool.and_false]
theorem exV_all {xs : List V} (h : xs.all okV = true) (hl : xs.length ≤ 15) : exV xs = decide (htV 0 xs = some 1) := by
  unfold exV
  rw [show xs.all (fun x => woV x || ltV x || sgV x) = true from h, decide_eq_true hl]
  rfl
theorem pickAll {l : List V} {Pr : V → Prop} (h : ∀ x ∈ l, Pr x) {j : Nat} (hj : j < l.length) : ∃ x, atI l ((j : Nat) : Int) = some x ∧ Pr x :=
  ⟨l[j], atI_nat (List.getElem?_eq_getElem hj), h _ (List.getElem_mem hj)⟩
theorem thS {H : Hp} {L d : Nat} {z : Str} (h : z.length ≤ 100000) : Th H L d (.str z) := Low.th (x := .str z) h d
theorem thT {H : Hp} {L d : Nat} {t : Addr} {xs : List V} (h : H t = some (.tup xs)) (hl : xs.length ≤ L) (hx : ∀ y ∈ xs, Th H L d y) : Th H L (d + 1) (.ref t) := .inr ⟨t, xs, rfl, h, hl, hx⟩
theorem fm {Pr : V → Prop} {x : V} {l : List V} (h1 : Pr x) (h2 : ∀ y ∈ l, Pr y) : ∀ y ∈ x :: l, Pr y := List.forall_mem_cons.mpr ⟨h1, h2⟩
theorem fn {Pr : V → Prop} : ∀ y ∈ ([] : List V), Pr y := fun _ h => nomatch h
theorem Th.ex {H : Hp} {L d : Nat} {x : V} (h : Th H L d x) (hL : L ≤ 1000) : ∀ t xs, x = .ref t → H t = some (.tup xs) → xs.length ≤ 50000 ∧ ∀ y ∈ xs, Kn H y := fun t xs e ht =>
  ⟨Nat.le_trans (h.items t xs e ht).1 (by omega), (h.items t xs e ht).2⟩
theorem exT_same {H H' : Hp} {x : V} (s : Same H H') (h : Kn H x) : exT H' x = exT H x := by
  cases x with
  | ref a =>
    rcases h with ⟨xs, e⟩ | ⟨xs, e⟩ | ⟨xs, e⟩
    · rw [exT_tup e, exT_tup (s _ _ e)]
    · rw [exT_lst e, exT_lst (s _ _ e)]
    · rw [exT_dK e, exT_dK (s _ _ e)]
  | non => rfl
  | bl b => rfl
  | int i => rfl
  | str z => rfl
  | byt b => rfl
  | flt b => rfl
  | ty n => rfl
theorem bool_show (b : Bool) : ShowOk (.bool b) := ⟨rfl, rfl, Nat.zero_le _, by cases b <;> decide +kernel⟩
theorem th_ims {H : Hp} {t : Addr} {its : List Im} (h : H t = some (.tup (its.map Im.toV))) (hok : ∀ m ∈ its, m.ok) (hl : its.length ≤ 17) : Th H 20 1 (.ref t) := by
  refine thT h (by rw [List.length_map]; omega) fun y hy => ?_
  obtain ⟨m, hm, rfl⟩ := List.mem_map.mp hy
  have ho := hok m hm
  cases m with
  | wo a => exact trivial
  | re k =>
    have e : ∀ k, k < 16 → (lt k).length ≤ 100000 := by decide +kernel
    exact e k ho
  | si i =>
    have e : ∀ i, i < 9 → (nm i).length ≤ 100000 := by decide +kernel
    exact e i ho
/-! Numbers in words, as the law reads them. -/
def numR (l : List Nat) : Option Int := if l.head? = some 45 then (if l = [45, 48] then none else (wholeL (l.drop 1)).map (fun a => -a)) else wholeL l
theorem worth_num (l : List Nat) : worthL l = keepW (numR l) := by
  unfold worthL numR
  split
  · split
    · rfl
    · rfl
  · rfl
theorem back_num : ∀ (n : Nat) (l : List Nat), l.length = n → l ≠ [] → (∀ c ∈ l, 48 ≤ c ∧ c ≤ 57) → (l.head? = some 48 → l = [48]) → TL.numL (NumText.digitsVal l) = l
  | 0, l, hl, h, _, _ => absurd (List.length_eq_zero_iff.mp hl) h
  | n + 1, l, hl, h, hd, hz => by
    rcases List.eq_nil_or_concat l with e | ⟨r, c, e⟩
    · exact absurd e h
    have e' : l = r ++ [c] := by simpa using e
    subst e'
    have hc := hd c (List.mem_append_right _ List.mem_cons_self)
    have ev : NumText.digitsVal (r ++ [c]) = NumText.digitsVal r * 10 + (c - 48) := PySem.NumText.digitsVal_snoc r c
    rw [List.length_append, List.length_singleton] at hl
    rw [ev]
    cases r with
    | nil =>
      have e0 : NumText.digitsVal [] = 0 := rfl
      rw [e0, TL.numL_lt (by omega)]
      show [48 + (0 * 10 + (c - 48))] = [c]
      rw [show 48 + (0 * 10 + (c - 48)) = c by omega]
    | cons d r =>
      have hh : d ≠ 48 := fun z => by
        have := hz (by rw [z]; rfl)
        have h2 : (d :: r ++ [c]).length = 1 := by rw [this]; rfl
        rw [List.length_append, List.length_cons, List.length_singleton] at h2
        omega
      have hd1 := hd d (List.mem_append_left _ List.mem_cons_self)
      have hpos : 0 < NumText.digitsVal (d :: r) := PySem.NumText.digitsVal_pos (by omega)
      rw [TL.numL_step (by omega)]
      rw [show (NumText.digitsVal (d :: r) * 10 + (c - 48)) / 10 = NumText.digitsVal (d :: r) by omega, show (NumText.digitsVal (d :: r) * 10 + (c - 48)) % 10 = c - 48 by omega]
      rw [back_num n (d :: r) (by omega) (by simp) (fun x hx => hd x (List.mem_append_left _ hx)) (fun z => absurd (Option.some.inj z) hh), show 48 + (c - 48) = c by omega]
theorem dig_all {l : List Nat} (h : digL l = true) : l ≠ [] ∧ (∀ c ∈ l, 48 ≤ c ∧ c ≤ 57) ∧ l.length ≤ 9 := by
  unfold digL at h
  rw [Bool.and_eq_true, Bool.and_eq_true] at h
  obtain ⟨⟨h1, h2⟩, h3⟩ := h
  refine ⟨(fun z => by rw [z] at h1; cases h1), fun c hc => ?_, of_decide_eq_true h3⟩
  have := List.all_eq_true.mp h2 c hc
  rw [Bool.and_eq_true] at this
  exact ⟨of_decide_eq_true this.1, of_decide_eq_true this.2⟩
/-- a number of figures is written so just where there is no nought ahead -/
theorem num_same {l : List Nat} (h : digL l = true) : decide (TL.numL (NumText.digitsVal l) = l) = !decide (l.head? = some 48 ∧ l ≠ [48]) := by
  obtain ⟨h1, h2, h3⟩ := dig_all h
  by_cases hz : l.head? = some 48 ∧ l ≠ [48]
  · rw [decide_eq_true hz, decide_eq_false]
    · rfl
    · intro e
      have hl := numL_lead _ (by rw [e]; exact hz.1)
      rw [hl, TL.numL_lt (by decide)] at e
      exact hz.2 e.symm
  · rw [decide_eq_false hz, decide_eq_true]
    · rfl
    · refine back_num _ l rfl h1 h2 fun z => ?_
      exact Classical.byContradiction fun g => hz ⟨z, g⟩
def itL (z : Str) : V := if (okV (.str z)) = true then .str z else ov (numR (cp z))
theorem single_none : ∀ c ∈ letters.cps.toList ++ codes, numR [c] = none := by decide +kernel
theorem ok_one {z : Str} (h : okV (.str z) = true) : numR (cp z) = none := by
  have h2 : (ltV (.str z) || sgV (.str z)) = true := h
  by_cases g : z.length = 1
  · obtain ⟨c, rfl⟩ := one_code g
    refine single_none c ?_
    rw [← all_mem] at h2
    have e : ("abcdefghijklmnop+-*/#<=&^" : Str).cps.toList = letters.cps.toList ++ codes := by decide +kernel
    rw [e] at h2
    exact of_decide_eq_true h2
  · rw [lt_len g, sg_len g] at h2
    cases h2
theorem it_same (z : Str) : okV (itL z) = okV (itV z) ∧ (okV (itV z) = true → itL z = itV z) := by
  unfold itL itV
  rw [worth_num]
  by_cases h : okV (.str z) = true
  · rw [if_pos h, ok_one h]
    exact ⟨rfl, fun _ => rfl⟩
  · have hf : okV (.str z) = false := by simpa using h
    rw [if_neg h]
    cases e : numR (cp z) with
    | none => exact ⟨hf.symm, fun g => absurd g h⟩
    | some a =>
      show okV (.int a) = okV (match (if -32768 ≤ a ∧ a ≤ 32767 then some a else none) with | some a => V.int a | none => V.str z) ∧ (okV (match (if -32768 ≤ a ∧ a ≤ 32767 then some a else none) with | some a => V.int a | none => V.str z) = true → V.int a = match (if -32768 ≤ a ∧ a ≤ 32767 then some a else none) with | some a => V.int a | none => V.str z)
      by_cases g : -32768 ≤ a ∧ a ≤ 32767
      · rw [if_pos g]
        exact ⟨rfl, fun _ => rfl⟩
      · rw [if_neg g]
        refine ⟨?_, fun k => absurd k h⟩
        show okV (.int a) = okV (.str z)
        rw [hf]
        show (decide (-32768 ≤ a ∧ a ≤ 32767) || _ || _) = false
        rw [decide_eq_false g]
        rfl
theorem its_same : ∀ ws : List Str, (ws.map itL).all okV = (ws.map itV).all okV ∧ ((ws.map itV).all okV = true → ws.map itL = ws.map itV)
  | [] => ⟨rfl, fun _ => rfl⟩
  | z :: r => by
    obtain ⟨h1, h2⟩ := it_same z
    obtain ⟨h3, h4⟩ := its_same r
    refine ⟨?_, fun h => ?_⟩
    · rw [List.map_cons, List.map_cons, List.all_cons, List.all_cons, h1, h3]
    · rw [List.map_cons, List.all_cons, Bool.and_eq_true] at h
      rw [List.map_cons, List.map_cons, h2 h.1, h4 h.2]
theorem exV_same (ws : List Str) : exV (ws.map itL) = exV (ws.map itV) ∧ (exV (ws.map itV) = true → ws.map itL = ws.map itV) := by
  obtain ⟨h1, h2⟩ := its_same ws
  cases e : (ws.map itV).all okV with
  | true =>
    have := h2 e
    rw [this]
    exact ⟨rfl, fun _ => rfl⟩
  | false =>
    have key : ∀ xs : List V, xs.all okV = false → exV xs = false := fun xs h => by
      unfold exV
      rw [show xs.all (fun x => woV x || ltV x || sgV x) = false from h, Bool.and_false]
      rfl
    rw [key _ e, key _ (by rw [h1, e])]
    exact ⟨rfl, fun g => by cases g⟩
/-! != of data, any texts. -/
section
open PySem.Spec PyProof.Rows
def rNeP (K : PySem.W.Frag) : R2 := fun x y H Q => ∃ d e, Dp K H x d ∧ Dp K H y e ∧ d.plain = true ∧ e.plain = true ∧ d.depth ≤ 60 ∧ Q (.bl (!PyData.eqv d e)) H
theorem op_neP {X : Cx} (hu : X.A.units + 64 < cLine) : OpR X (compareOp .NotEq) (rNeP X.K) := by
  intro pins s σ H x y v u Q I rx ry h
  obtain ⟨d, e, hd, he, pd, pe, dp, q⟩ := h
  obtain ⟨as, r1⟩ := Dp.reads I d x v hd rx
  obtain ⟨bs, r2⟩ := Dp.reads I e y u he ry
  exact PySem.SeqAt.ne_plain r1 r2 pd pe (by omega) ⟨.bl _, H, I, rfl, q⟩
end
def chD (ks : List Nat) : List PyData := ks.map fun c => PyData.str ⟨#[c]⟩
def chV (ks : List Nat) : List V := ks.map fun c => V.str ⟨#[c]⟩
theorem dpCh {K : PySem.W.Frag} {H : Hp} : ∀ ks : List Nat, DpAll K H (chV ks) (chD ks)
  | [] => .nil
  | _ :: r => .cons (.str _) (dpCh r)
theorem chPlain : ∀ ks : List Nat, PyData.plainAll (chD ks) = true ∧ PyData.depthAll (chD ks) = 0
  | [] => ⟨rfl, rfl⟩
  | k :: r => by
    obtain ⟨h1, h2⟩ := chPlain r
    refine ⟨?_, ?_⟩
    · show (true && PyData.plainAll (chD r)) = true
      rw [h1]
      rfl
    · show max 0 (PyData.depthAll (chD r)) = 0
      rw [h2]
      rfl
theorem cp_cutTo1 (x : Str) : cp (cutS x none (some 1)) = (cp x).take 1 := by
  unfold cutS
  show ((x.cps.toList.drop (HT.sIx x.length 0 none)).take (HT.sIx x.length x.length (some 1) - HT.sIx x.length 0 none)) = _
  rw [HT.sIx_none, show HT.sIx x.length x.length (some 1) = min 1 x.length from HT.sIx_nat x.length x.length 1, cp_len]
  show ((cp x).drop 0).take (min 1 (cp x).length - 0) = _
  rw [List.drop_zero, Nat.sub_zero]
  cases cp x with
  | nil => rfl
  | cons c r => rw [show min 1 (c :: r).length = 1 by rw [List.length_cons]; omega]
theorem cp_dash : cp ("-" : Str) = [45] := by decide +kernel
theorem cp_none : cp ("" : Str) = [] := by decide +kernel
theorem fig_mem (c : Nat) : decide (c ∈ ("0123456789" : Str).cps.toList) = (decide (48 ≤ c) && decide (c ≤ 57)) := by
  have e : ("0123456789" : Str).cps.toList = [48, 49, 50, 51, 52, 53, 54, 55, 56, 57] := by decide +kernel
  rw [e]
  by_cases h : 48 ≤ c ∧ c ≤ 57
  · rw [decide_eq_true h.1, decide_eq_true h.2, decide_eq_true]
    · rfl
    · simp only [List.mem_cons, List.not_mem_nil, or_false]
      omega
  · have : (decide (48 ≤ c) && decide (c ≤ 57)) = false := by
      rw [← Bool.not_eq_true, Bool.and_eq_true, decide_eq_true_iff, decide_eq_true_iff]
      exact h
    rw [this, decide_eq_false]
    simp only [List.mem_cons, List.not_mem_nil, or_false]
    omega
def figs (l : List Nat) : List Nat := if l.head? = some 45 then l.drop 1 else l
theorem numR_bad {l : List Nat} (h : digL (figs l) = false) : numR l = none := by
  unfold numR
  unfold figs at h
  split
  · rename_i g
    rw [if_pos g] at h
    split
    · rfl
    · unfold wholeL
      rw [h]
      rfl
  · rename_i g
    rw [if_neg g] at h
    unfold wholeL
    rw [h]
    rfl
/-- what int tells of a word of figures, and whether it is written so -/
theorem numR_good {z : Str} (h : digL (figs (cp z)) = true) : ∃ a : Int, intText? z = some a ∧ a.natAbs < 10 ^ 9 ∧ numR (cp z) = if decide (cp (Str.ofString (toString a)) = cp z) = true then some a else none := by
  have bound : ∀ l : List Nat, digL l = true → NumText.digitsVal l < 10 ^ 9 := fun l hl => by
    obtain ⟨_, h2, h3⟩ := dig_all hl
    have key : ∀ (l : List Nat) (acc : Nat), (∀ c ∈ l, 48 ≤ c ∧ c ≤ 57) → l.foldl (fun acc c => acc * 10 + (c - 48)) acc < (acc + 1) * 10 ^ l.length := by
      intro l
      induction l with
      | nil =>
        intro acc _
        show acc < (acc + 1) * 1
        omega
      | cons c r ih =>
        intro acc hc
        have h1 := hc c List.mem_cons_self
        have h2 := ih (acc * 10 + (c - 48)) (fun x hx => hc x (List.mem_cons_of_mem _ hx))
        rw [List.foldl_cons, List.length_cons, Nat.pow_succ]
        refine Nat.lt_of_lt_of_le h2 ?_
        rw [show (acc + 1) * (10 ^ r.length * 10) = ((acc + 1) * 10) * 10 ^ r.length by rw [Nat.mul_comm (10 ^ r.length) 10, ← Nat.mul_assoc]]
        exact Nat.mul_le_mul_right _ (by omega)
    have h4 := key l 0 h2
    rw [Nat.zero_add, Nat.one_mul] at h4
    exact Nat.lt_of_lt_of_le h4 (Nat.pow_le_pow_right (by decide) h3)
  by_cases g : (cp z).head? = some 45
  · have ef : figs (cp z) = (cp z).drop 1 := if_pos g
    rw [ef] at h
    obtain ⟨cs, hcs⟩ : ∃ cs, cp z = 45 :: cs := by
      cases e : cp z with
      | nil =>
        rw [e] at g
        cases g
      | cons c r =>
        rw [e] at g
        rw [show c = 45 from Option.some.inj g]
        exact ⟨r, rfl⟩
    rw [hcs, List.drop_succ_cons, List.drop_zero] at h
    obtain ⟨d1, d2, d3⟩ := dig_all h
    have hlz : z.length ≤ 4300 := by
      rw [cp_len, hcs, List.length_cons]
      omega
    refine ⟨-((NumText.digitsVal cs : Nat) : Int), PySem.intText_neg hcs (fun c hc => d2 c hc) d1 hlz, ?_, ?_⟩
    · have := bound cs h
      omega
    · unfold numR
      rw [if_pos g, hcs, List.drop_succ_cons, List.drop_zero]
      have ns := num_same h
      cases hv : NumText.digitsVal cs with
      | zero =>
        rw [hv] at ns
        have e0 : cp (Str.ofString (toString (-((0 : Nat) : Int)))) = [48] := by decide +kernel
        rw [e0, decide_eq_false (fun z => by cases z)]
        show (if 45 :: cs = [45, 48] then none else (wholeL cs).map (fun a => -a)) = none
        by_cases h48 : cs = [48]
        · rw [if_pos (by rw [h48])]
        · rw [if_neg (fun z => h48 (List.cons.inj z).2)]
          unfold wholeL
          rw [if_pos h]
          have : cs.head? = some 48 ∧ cs ≠ [48] := by
            rw [TL.numL_lt (by decide), decide_eq_false (fun z => h48 z.symm)] at ns
            exact of_decide_eq_true (by simpa using ns.symm)
          rw [if_pos this]
          rfl
      | succ m =>
        rw [hv] at ns
        have ec : cp (Str.ofString (toString (-((m + 1 : Nat) : Int)))) = 45 :: TL.numL (m + 1) := cp_neg m
        rw [ec]
        have ed : decide (45 :: TL.numL (m + 1) = 45 :: cs) = decide (TL.numL (m + 1) = cs) := by
          by_cases q : TL.numL (m + 1) = cs
          · rw [decide_eq_true q, decide_eq_true (by rw [q])]
          · rw [decide_eq_false q, decide_eq_false (fun z => q (List.cons.inj z).2)]
        rw [ed, ns]
        have h48 : cs ≠ [48] := fun z => by
          rw [z] at hv
          cases hv
        rw [if_neg (fun z => h48 (List.cons.inj z).2)]
        unfold wholeL
        rw [if_pos h, hv]
        by_cases q : cs.head? = some 48 ∧ cs ≠ [48]
        · rw [if_pos q, decide_eq_true q]
          rfl
        · rw [if_neg q, decide_eq_false q]
          rfl
  · have ef : figs (cp z) = cp z := if_neg g
    rw [ef] at h
    obtain ⟨d1, d2, d3⟩ := dig_all h
    refine ⟨_, dig_int h, ?_, ?_⟩
    · have := bound _ h
      omega
    · unfold numR
      rw [if_neg g, cp_nat, num_same h]
      unfold wholeL
      rw [if_pos h]
      by_cases q : (cp z).head? = some 48 ∧ cp z ≠ [48]
      · rw [if_pos q, decide_eq_true q]
        rfl
      · rw [if_neg q, decide_eq_false q]
        rfl
section
variable {P : Program} {w : World} {K : PySem.W.Frag} {mg : Str → Option Value} {base : Heap} {f : Nat → Addr} {fd : Nat → FuncData} {ob : Nat → Addr}
theorem sign_in (T : Txt K w mg f fd ob) {i : Nat} (hi : i < 9) : ∃ u, PySem.W.nsIn K (ob 0) (nm i) = some (some u) := by
  match i, hi with
  | 0, _ => obtain ⟨_, _, u, _, _, h, _⟩ := T.t_SIGNS_0; exact ⟨u, h⟩
  | 1, _ => obtain ⟨_, _, u, _, _, h, _⟩ := T.t_SIGNS_1; exact ⟨u, h⟩
  | 2, _ => obtain ⟨_, _, u, _, _, h, _⟩ := T.t_SIGNS_2; exact ⟨u, h⟩
  | 3, _ => obtain ⟨_, _, u, _, _, h, _⟩ := T.t_SIGNS_3; exact ⟨u, h⟩
  | 4, _ => obtain ⟨_, _, u, _, _, h, _⟩ := T.t_SIGNS_4; exact ⟨u, h⟩
  | 5, _ => obtain ⟨_, _, u, _, _, h, _⟩ := T.t_SIGNS_5; exact ⟨u, h⟩
  | 6, _ => obtain ⟨_, _, u, _, _, h, _⟩ := T.t_SIGNS_6; exact ⟨u, h⟩
  | 7, _ => obtain ⟨_, _, u, _, _, h, _⟩ := T.t_SIGNS_7; exact ⟨u, h⟩
  | 8, _ => obtain ⟨_, _, u, _, _, h, _⟩ := T.t_SIGNS_8; exact ⟨u, h⟩
theorem ok_iswhole (T : Txt K w mg f fd ob) : FnOk P w K mg base CX0 1 (f 2) (fd 2) ["thing"] sp_iswhole := by
  refine T.F_iswhole.ok sc_iswhole (fun vs H Q E h => ?_) (fun cdv A outer s H vs Q E hr h => ?_)
  · obtain ⟨x, rfl, _⟩ := h
    rfl
  · obtain ⟨x, rfl, hx, q⟩ := h
    refine ⟨_, (pss_one (ps_ret (pe_and (pe_callB call_isi (by rfl) T.z_isinstance (by decide +kernel) (pa_cons (pv 0) (pa_cons (pe_bltn (v := .ty "int") (by rfl) T.z_int (by decide +kernel) rfl) pa_nil))) (pe_one (pe_not (pe_callB call_isi (by rfl) T.z_isinstance (by decide +kernel) (pa_cons (pv 0) (pa_cons (pe_bltn (v := .ty "bool") (by rfl) T.z_bool (by decide +kernel) rfl) pa_nil)))))))), ?_⟩
    cases x with
    | non => exact ⟨_, rfl, _, _, _, _, false, rfl, .ty _, .base .non, kit_ty (by decide +kernel), _, rfl, iteF q⟩
    | bl b => exact ⟨_, rfl, _, _, _, _, true, rfl, .ty _, .base (.bl _), kit_ty (by decide +kernel), _, rfl, iteT ⟨_, rfl, _, _, _, _, true, rfl, .ty _, .base (.bl _), kit_ty (by decide +kernel), _, rfl, q⟩⟩
    | int i => exact ⟨_, rfl, _, _, _, _, true, rfl, .ty _, .base (.int _), kit_ty (by decide +kernel), _, rfl, iteT ⟨_, rfl, _, _, _, _, false, rfl, .ty _, .base (.int _), kit_ty (by decide +kernel), _, rfl, q⟩⟩
    | str z => exact ⟨_, rfl, _, _, _, _, false, rfl, .ty _, .base (.str _), kit_ty (by decide +kernel), _, rfl, iteF q⟩
    | byt b => exact hx.elim
    | flt b => exact hx.elim
    | ref a => exact hx.elim
    | ty n => exact hx.elim
theorem ok_isworth (T : Txt K w mg f fd ob) : FnOk P w K mg base CX0 2 (f 4) (fd 4) ["thing"] sp_isworth := by
  have G_iswhole := ok_iswhole (P := P) (base := base) T
  refine T.F_isworth.ok sc_isworth (fun vs H Q E h => ?_) (fun cdv A outer s H vs Q E hr h => ?_)
  · obtain ⟨x, rfl, _⟩ := h
    rfl
  · obtain ⟨x, rfl, hx, q⟩ := h
    have hr_iswhole := hr
    refine ⟨_, (pss_one (ps_ret (pe_and (pe_call G_iswhole hr_iswhole (by rfl) T.m_iswhole T.F_iswhole.kp T.b_iswhole .nil pass0 (pa_cons (pv 0) pa_nil)) (pe_one (pe_chain op_le op_le (pe_un un_neg pe_int) (pv 0) pe_int))))), ?_⟩
    refine ⟨_, rfl, x, rfl, hx, _, rfl, ?_⟩
    cases x with
    | int i =>
      refine iteT ⟨_, rfl, _, rfl, _, _, rfl, rfl, _, rfl, ite2 (fun h1 => ⟨_, _, rfl, rfl, ?_⟩) (fun h1 => ?_)⟩
      · have h1' : -32768 ≤ i := of_decide_eq_true h1
        have e : woV (.int i) = decide (i ≤ 32767) := by
          show decide (-32768 ≤ i ∧ i ≤ 32767) = _
          by_cases h2 : i ≤ 32767
          · rw [decide_eq_true h2, decide_eq_true ⟨h1', h2⟩]
          · rw [decide_eq_false h2, decide_eq_false (fun z => h2 z.2)]
        rw [e] at q
        exact q
      · have e : woV (.int i) = false := decide_eq_false (fun z => h1 (decide_eq_true z.1))
        rw [e] at q
        exact q
    | non => exact iteF q
    | bl b => exact iteF q
    | str z => exact iteF q
    | byt b => exact hx.elim
    | flt b => exact hx.elim
    | ref a => exact hx.elim
    | ty n => exact hx.elim
theorem ok_isletter (T : Txt K w mg f fd ob) : FnOk P w K mg base CX0 1 (f 15) (fd 15) ["thing"] sp_isletter := by
  obtain ⟨tkL, h_LETTERS⟩ := T.c_LETTERS
  refine T.F_isletter.ok sc_isletter (fun vs H Q E h => ?_) (fun cdv A outer s H vs Q E hr h => ?_)
  · obtain ⟨x, rfl, _⟩ := h
    rfl
  · obtain ⟨x, rfl, hx, q⟩ := h
    refine ⟨_, (pss_one (ps_ret (pe_and (pe_callB call_isi (by rfl) T.z_isinstance (by decide +kernel) (pa_cons (pv 0) (pa_cons (pe_bltn (v := .ty "str") (by rfl) T.z_str (by decide +kernel) rfl) pa_nil))) (pe_and (pe_cmpR op_eq (pe_callB call_len_str (by rfl) T.z_len PySem.boot_len (pa_cons (pv 0) pa_nil)) pe_int (nomark _)) (pe_one (pe_cmpR op_in_sign (pv 0) (pe_glob (v := .str "abcdefghijklmnop") (by rfl) h_LETTERS ⟨_, rfl⟩) (by rfl))))))), ?_⟩
    cases x with
    | str z =>
      refine ⟨_, rfl, _, _, _, _, true, rfl, .ty _, .base (.str _), kit_ty (by decide +kernel), _, rfl, iteT ⟨_, rfl, z, rfl, len_size hx, rfl, _, rfl, ?_⟩⟩
      by_cases h1 : z.length = 1
      · obtain ⟨c, rfl⟩ := one_code h1
        refine iteB1 (decide_eq_true (by rw [h1]; rfl)) ⟨_, rfl, c, letters, rfl, rfl, ?_⟩
        rw [letters_mem]
        have e : ltV (.str ⟨#[c]⟩) = decide (97 ≤ c ∧ c ≤ 112) := by
          show (decide ((⟨#[c]⟩ : Str).length = 1) && decide (∀ d ∈ cp ⟨#[c]⟩, 97 ≤ d ∧ d ≤ 112)) = _
          rw [decide_eq_true h1, Bool.true_and]
          by_cases h2 : 97 ≤ c ∧ c ≤ 112
          · rw [decide_eq_true h2, decide_eq_true]
            intro d hd
            rw [show d = c from List.mem_singleton.mp hd]
            exact h2
          · rw [decide_eq_false h2, decide_eq_false]
            exact fun g => h2 (g c (List.mem_singleton.mpr rfl))
        rw [e] at q
        exact q
      · refine iteB0 (decide_eq_false (fun g => h1 (by have := V.int.inj g; omega))) ?_
        have e : ltV (.str z) = false := by
          show (decide (z.length = 1) && _) = _
          rw [decide_eq_false h1]
          rfl
        rw [e] at q
        exact q
    | non => exact ⟨_, rfl, _, _, _, _, false, rfl, .ty _, .base .non, kit_ty (by decide +kernel), _, rfl, iteF q⟩
    | bl b => exact ⟨_, rfl, _, _, _, _, false, rfl, .ty _, .base (.bl _), kit_ty (by decide +kernel), _, rfl, iteF q⟩
    | int i => exact ⟨_, rfl, _, _, _, _, false, rfl, .ty _, .base (.int _), kit_ty (by decide +kernel), _, rfl, iteF q⟩
    | byt b => exact hx.elim
    | flt b => exact hx.elim
    | ref a => exact hx.elim
    | ty n => exact hx.elim
theorem ok_issignV (T : Txt K w mg f fd ob) : FnOk P w K mg base CX0 1 (f 16) (fd 16) ["thing"] sp_issignV := by
  obtain ⟨es, nn, D_SIGNS⟩ := T.d_SIGNS
  refine T.F_issign.ok sc_issign (fun vs H Q E h => ?_) (fun cdv A outer s H vs Q E hr h => ?_)
  · obtain ⟨m, rfl, _⟩ := h
    rfl
  · obtain ⟨x, rfl, hx, q⟩ := h
    refine ⟨_, (pss_one (ps_ret (pe_and (pe_callB call_isi (by rfl) T.z_isinstance (by decide +kernel) (pa_cons (pv 0) (pa_cons (pe_bltn (v := .ty "str") (by rfl) T.z_str (by decide +kernel) rfl) pa_nil))) (pe_one (pe_cmpR (op_in_kd D_SIGNS) (pv 0) (pe_glob (v := .ref (ob 0)) (by rfl) T.m_SIGNS rfl) (by rfl)))))), ?_⟩
    cases x with
    | str z =>
      refine ⟨_, rfl, _, _, _, _, true, rfl, .ty _, .base (.str _), kit_ty (by decide +kernel), _, rfl, iteT ⟨_, rfl, z, ?_⟩⟩
      by_cases h1 : z ∈ sgKeys
      · obtain ⟨i, hi, rfl⟩ := nm_mem h1
        obtain ⟨u, hu⟩ := sign_in T hi
        refine ⟨_, rfl, rfl, hu, ?_⟩
        rw [sg_nm i hi] at q
        exact q
      · refine ⟨_, rfl, rfl, T.n_SIGNS _ h1, ?_⟩
        have e : sgV (.str z) = false := decide_eq_false h1
        rw [e] at q
        exact q
    | non => exact ⟨_, rfl, _, _, _, _, false, rfl, .ty _, .base .non, kit_ty (by decide +kernel), _, rfl, iteF q⟩
    | bl b => exact ⟨_, rfl, _, _, _, _, false, rfl, .ty _, .base (.bl _), kit_ty (by decide +kernel), _, rfl, iteF q⟩
    | int i => exact ⟨_, rfl, _, _, _, _, false, rfl, .ty _, .base (.int _), kit_ty (by decide +kernel), _, rfl, iteF q⟩
    | byt b => exact hx.elim
    | flt b => exact hx.elim
    | ref a => exact hx.elim
    | ty n => exact hx.elim
theorem ok_wholeof (T : Txt K w mg f fd ob) : FnOk P w K mg base CX0 1 (f 3) (fd 3) ["text"] sp_wholeof := by
  refine T.F_wholeof.ok sc_wholeof (fun vs H Q E h => ?_) (fun cdv A outer s H vs Q E hr h => ?_)
  · obtain ⟨z, rfl, _⟩ := h
    rfl
  · obtain ⟨z, rfl, hz, q⟩ := h
    refine ⟨_, (pss_cons (ps_if (pt_M (pt_not (PW.pt (pw_and (pt_val (pe_m0 PySem.F.slot_str_isascii PySem.F.type_str_isascii mt_isascii (pv 0))) (pw_and (pt_val (pe_m0 PySem.F.slot_str_isdigit PySem.F.type_str_isdigit mt_isdigit (pv 0))) (pw_and1 (pt_cmpR op_le (pe_callB call_len_str (by rfl) T.z_len PySem.boot_len (pa_cons (pv 0) pa_nil)) pe_int (nomark _)))))))) (pss_one (ps_ret pe_non)) pss_nil)
      (C8.pss_cut (ps_if (PW.pt (pw_and (pt_cmpR op_eq (pe_ix ix_str (pv 0) pe_int (fun _ _ => rfl)) pe_str (nomark _)) (pw_and1 (pt_cmpR op_ne (pv 0) pe_str (nomark _))))) (pss_one (ps_ret pe_non)) pss_nil)
      (pss_one (ps_ret (pe_callTy call_int_str (by rfl) T.z_int (by decide +kernel) (pa_cons (pv 0) pa_nil)))))), ?_⟩
    refine ⟨fun b H' => H = H' ∧ b = !digL (cp z), ?_, ?_⟩
    · refine ⟨_, rfl, ⟨_, rfl⟩, z, rfl, rfl, trivial, _, rfl, ?_⟩
      by_cases h1 : Txt.isascii z = true
      · refine iteB1 h1 ⟨_, rfl, ⟨_, rfl⟩, z, rfl, rfl, trivial, _, rfl, ?_⟩
        by_cases h2 : Txt.isdigit z = true
        · refine iteB1 h2 ⟨_, rfl, z, rfl, len_size hz, _, _, rfl, rfl, _, rfl, ?_⟩
          by_cases h3 : z.length ≤ 9
          · refine ⟨rfl, ?_⟩
            rw [dig_of h1 h2 h3, decide_eq_true (show ((z.length : Nat) : Int) ≤ 9 by omega)]
          · refine ⟨rfl, ?_⟩
            have e : digL (cp z) = false := by
              cases e : digL (cp z) with
              | false => rfl
              | true => exact absurd (dig_to e).2.2 h3
            rw [e, decide_eq_false (show ¬ ((z.length : Nat) : Int) ≤ 9 by omega)]
        · refine iteB0 (by simpa using h2) ⟨rfl, ?_⟩
          have e : digL (cp z) = false := by
            cases e : digL (cp z) with
            | false => rfl
            | true => exact absurd (dig_to e).2.1 h2
          rw [e]
      · refine iteB0 (by simpa using h1) ⟨rfl, ?_⟩
        have e : digL (cp z) = false := by
          cases e : digL (cp z) with
          | false => rfl
          | true => exact absurd (dig_to e).1 h1
        rw [e]
    · rintro b _ ⟨rfl, rfl⟩
      cases e : digL (cp z) with
      | false =>
        refine iteT ?_
        unfold wholeL at q
        rw [e] at q
        exact q
      | true =>
        refine iteF ?_
        obtain ⟨c, r, hc⟩ : ∃ c r, cp z = c :: r := by
          cases g : cp z with
          | nil =>
            rw [g] at e
            cases e
          | cons c r => exact ⟨c, r, rfl⟩
        have ha : atI z.cps.toList 0 = some c := atI_nat (j := 0) (by rw [show z.cps.toList = c :: r from hc]; rfl)
        have ezero : decide (V.str ⟨#[c]⟩ = V.str "0") = decide (c = 48) := by
          rw [str_eq, cp_zero]
          by_cases h : c = 48
          · subst h
            rfl
          · rw [decide_eq_false h, decide_eq_false (fun g => h (List.cons.inj g).1)]
        have e2 : decide (V.str z = V.str "0") = decide (cp z = [48]) := by
          rw [str_eq, cp_zero]
        refine ⟨fun σ' H' => σ' = [some (.str z)] ∧ H = H' ∧ ¬ ((cp z).head? = some 48 ∧ cp z ≠ [48]), ?_, ?_⟩
        · refine ⟨_, rfl, _, _, c, rfl, rfl, len_size hz, ha, rfl, _, rfl, ?_⟩
          by_cases h1 : c = 48
          · refine iteB1 (by rw [ezero]; exact decide_eq_true h1) ⟨_, rfl, rfl, _, rfl, ?_⟩
            by_cases h2 : cp z = [48]
            · refine iteB0 (by rw [e2, decide_eq_true h2]; rfl) ⟨rfl, rfl, fun g => g.2 h2⟩
            · refine iteB1 (by rw [e2, decide_eq_false h2]; rfl) ?_
              unfold wholeL at q
              rw [if_pos e, if_pos ⟨by rw [hc, h1]; rfl, h2⟩] at q
              exact q
          · refine iteB0 (by rw [ezero]; exact decide_eq_false h1) (iteF ⟨rfl, rfl, fun g => ?_⟩)
            rw [hc] at g
            exact h1 (Option.some.inj g.1)
        · rintro _ _ ⟨rfl, rfl, h3⟩
          unfold wholeL at q
          rw [if_pos e, if_neg h3] at q
          exact ⟨_, rfl, z, _, rfl, dig_int e, (by have := (dig_to e).2.2; omega), q⟩
theorem ok_worthof (T : Txt K w mg f fd ob) : FnOk P w K mg base CX0 3 (f 5) (fd 5) ["text"] sp_worthof := by
  have G_wholeof := ok_wholeof (P := P) (base := base) T
  have G_isworth := ok_isworth (P := P) (base := base) T
  refine T.F_worthof.ok sc_worthof (fun vs H Q E h => ?_) (fun cdv A outer s H vs Q E hr h => ?_)
  · obtain ⟨z, rfl, _⟩ := h
    rfl
  · obtain ⟨z, rfl, hz, q⟩ := h
    have hr_isworth := hr
    have hr_wholeof : Room 1 _ := hr.mono (by decide)
    refine ⟨_, (C8.pss_cut (ps_if (pt_not (pt_val (pe_m1 PySem.F.slot_str_startswith PySem.F.type_str_startswith mt_startswith (pv 0) pe_str))) (pss_one (ps_set (i := 1) sc_worthof.nd rfl (Or.inl rfl) (pe_call G_wholeof hr_wholeof (by rfl) T.m_wholeof T.F_wholeof.kp T.b_wholeof .nil pass0 (pa_cons (pv 0) pa_nil)))) (pss_one (ps_if (pt_cmpR op_eq (pv 0) pe_str (nomark _)) (pss_one (ps_set (i := 1) sc_worthof.nd rfl (Or.inl rfl) pe_non)) (pss_cons (ps_set (i := 2) sc_worthof.nd rfl (Or.inl rfl) (pe_call G_wholeof hr_wholeof (by rfl) T.m_wholeof T.F_wholeof.kp T.b_wholeof .nil pass0 (pa_cons (pe_slice sl_str (pv 0) (po_some pe_int) po_none) pa_nil)))
      (pss_one (ps_set (i := 1) sc_worthof.nd rfl (Or.inl rfl) (pe_ifExp (pt_cmpR op_isN (pv 2) pe_non (nomark _)) pe_non (pe_un un_neg (pv 2)))))))))
      (pss_one (ps_ret (pe_ifExp (pt_val (pe_call G_isworth hr_isworth (by rfl) T.m_isworth T.F_isworth.kp T.b_isworth .nil pass0 (pa_cons (pv 1) pa_nil))) (pv 1) pe_non)))), ?_⟩
    refine ⟨fun σ' H' => ∃ (o : Option Int) (y : Option V), σ' = [some (.str z), some (ov o), y] ∧ H = H' ∧ keepW o = worthL (cp z), ?_, ?_⟩
    · refine ⟨_, rfl, ⟨_, rfl⟩, z, _, rfl, rfl, _, rfl, ?_⟩
      rw [starts_dash]
      by_cases h1 : (cp z).head? = some 45
      · rw [decide_eq_true h1]
        refine iteF ⟨_, rfl, rfl, _, rfl, ?_⟩
        rw [str_eq, cp_mzero]
        by_cases h2 : cp z = [45, 48]
        · refine iteB1 (decide_eq_true h2) ⟨none, none, rfl, rfl, ?_⟩
          unfold worthL
          rw [if_pos h1, if_pos h2]
          rfl
        · refine iteB0 (decide_eq_false h2) ⟨_, rfl, 1, rfl, z, rfl, len_size hz, cutS z (some 1) none, rfl, Nat.le_trans (cutS_length _ _ _) hz, ?_⟩
          rw [cp_cut1]
          cases e : wholeL ((cp z).drop 1) with
          | none =>
            refine ⟨_, rfl, rfl, _, rfl, iteT ⟨none, _, rfl, rfl, ?_⟩⟩
            unfold worthL
            rw [if_pos h1, if_neg h2, e]
            rfl
          | some a =>
            refine ⟨_, rfl, rfl, _, rfl, iteF ⟨_, rfl, a, rfl, some (-a), _, rfl, rfl, ?_⟩⟩
            unfold worthL
            rw [if_pos h1, if_neg h2, e]
            rfl
      · rw [decide_eq_false h1]
        refine iteT ⟨_, rfl, z, rfl, hz, wholeL (cp z), none, rfl, rfl, ?_⟩
        unfold worthL
        rw [if_neg h1]
    · rintro _ _ ⟨o, y, rfl, rfl, ho⟩
      rw [← ho] at q
      cases o with
      | none => exact ⟨_, rfl, .non, rfl, trivial, _, rfl, iteF q⟩
      | some a =>
        refine ⟨_, rfl, .int a, rfl, trivial, _, rfl, ite2 (fun h => ⟨_, rfl, ?_⟩) (fun h => ?_)⟩
        · have e : keepW (some a) = some a := if_pos (of_decide_eq_true h)
          rw [e] at q
          exact q
        · have e : keepW (some a) = none := if_neg (fun g => h (decide_eq_true g))
          rw [e] at q
          exact q
theorem ok_itemof (T : Txt K w mg f fd ob) : FnOk P w K mg base CX0 4 (f 20) (fd 20) ["word"] sp_itemof := by
  have G_worthof := ok_worthof (P := P) (base := base) T
  refine T.F_itemof.ok sc_itemof (fun vs H Q E h => ?_) (fun cdv A outer s H vs Q E hr h => ?_)
  · obtain ⟨z, rfl, _⟩ := h
    rfl
  · obtain ⟨z, rfl, hz, q⟩ := h
    have hr_worthof := hr
    refine ⟨_, (pss_cons (ps_set (i := 1) sc_itemof.nd rfl (Or.inl rfl) (pe_call G_worthof hr_worthof (by rfl) T.m_worthof T.F_worthof.kp T.b_worthof .nil pass0 (pa_cons (pv 0) pa_nil)))
      (pss_one (ps_ret (pe_ifExp (pt_cmpR op_isN (pv 1) pe_non (nomark _)) (pv 0) (pv 1))))), ?_⟩
    refine ⟨_, rfl, z, rfl, hz, ?_⟩
    unfold itV at q
    cases e : worthL (cp z) with
    | none =>
      rw [e] at q
      exact ⟨_, rfl, rfl, _, rfl, iteT ⟨_, rfl, q⟩⟩
    | some a =>
      rw [e] at q
      exact ⟨_, rfl, rfl, _, rfl, iteF ⟨_, rfl, q⟩⟩
theorem ok_leavesone (T : Txt K w mg f fd ob) : FnOk P w K mg base CX0 2 (f 17) (fd 17) ["items"] (sp_leavesone K) := by
  have G_issign := ok_issignV (P := P) (base := base) T
  refine T.F_leavesone.ok sc_leavesone (fun vs H Q E h => ?_) (fun cdv A outer s H vs Q E hr h => ?_)
  · obtain ⟨t, xs, rfl, _⟩ := h
    rfl
  · obtain ⟨t, xs, rfl, hS, hx, q⟩ := h
    have hr_issign := hr
    refine ⟨_, (pss_cons (ps_set (i := 1) sc_leavesone.nd rfl (Or.inl rfl) pe_int)
      (pss_cons (ps_for PassesOwn.never rfl (pi_tup (pv 0)) (pg_name (i := 2) sc_leavesone.nd rfl (Or.inl rfl)) (pss_one (ps_if (pt_val (pe_call G_issign hr_issign (by rfl) T.m_issign T.F_issign.kp T.b_issign .nil pass0 (pa_cons (pv 2) pa_nil))) (pss_cons (ps_if (pt_cmpR op_lt (pv 1) pe_int (nomark _)) (pss_one (ps_ret pe_bl)) pss_nil)
      (pss_one (ps_aug (i := 1) sc_leavesone.nd rfl (Or.inl rfl) pe_int ip_sub))) (pss_one (ps_aug (i := 1) sc_leavesone.nd rfl (Or.inl rfl) pe_int ip_add)))))
      (pss_one (ps_ret (pe_cmpR op_eq (pv 1) pe_int (nomark _)))))), ?_⟩
    refine ⟨_, rfl, t, rfl, ⟨_, hS⟩, for_tup (xs := xs) (fun i σ' H' => ∃ (h : Nat) (y : Option V), σ' = [some (.ref t), some (.int (h : Int)), y] ∧ H = H' ∧ htV 0 xs = htV h (xs.drop i))
      ⟨0, none, rfl, rfl, rfl⟩ (fun i σ' H' _ ⟨_, _, _, e, _⟩ => by rw [← e]; exact hS) ?_ ?_⟩
    · rintro i x _ _ hi ⟨h, y, rfl, rfl, hh⟩
      have hl : i < xs.length := (List.getElem?_eq_some_iff.mp hi).1
      have ed : xs.drop i = x :: xs.drop (i + 1) := by
        rw [List.drop_eq_getElem_cons hl]
        congr 1
        exact (List.getElem?_eq_some_iff.mp hi).2
      rw [ed] at hh
      refine ⟨_, rfl, x, rfl, hx x (List.mem_of_getElem? hi), _, rfl, ?_⟩
      cases es : sgV x with
      | true =>
        have hh2 : htV 0 xs = if 2 ≤ h then htV (h - 1) (xs.drop (i + 1)) else none := by
          rw [hh]
          show (if sgV x = true then (if 2 ≤ h then htV (h - 1) (xs.drop (i + 1)) else none) else _) = _
          rw [es]
          rfl
        refine iteT ⟨_, rfl, _, _, rfl, rfl, _, rfl, ite2 (fun h1 => ?_) (fun h1 => ?_)⟩
        · have h1' : (h : Int) < 2 := of_decide_eq_true h1
          rw [hh2, if_neg (by omega)] at q
          exact q
        · have h1' : ¬ (h : Int) < 2 := fun g => h1 (decide_eq_true g)
          refine ⟨_, rfl, _, _, rfl, rfl, h - 1, some x, ?_, rfl, by rw [hh2, if_pos (by omega)]⟩
          show [some (V.ref t), some (V.int ((h : Int) - 1)), some x] = _
          rw [show (h : Int) - 1 = ((h - 1 : Nat) : Int) by omega]
      | false =>
        refine iteF ⟨_, rfl, _, _, rfl, rfl, h + 1, _, rfl, rfl, ?_⟩
        rw [hh]
        show (if sgV x = true then _ else htV (h + 1) (xs.drop (i + 1))) = _
        rw [es]
        rfl
    · rintro _ _ ⟨h, y, rfl, rfl, hh⟩
      rw [List.drop_length] at hh
      have e : decide (htV 0 xs = some 1) = decide (V.int (h : Int) = V.int 1) := by
        rw [hh]
        show decide (some h = some 1) = _
        by_cases g : h = 1
        · subst g
          rfl
        · rw [decide_eq_false (fun z => g (Option.some.inj z)), decide_eq_false (fun z => g (by have := V.int.inj z; omega))]
      rw [e] at q
      exact ⟨_, rfl, rfl, q⟩
theorem ok_isexpression (T : Txt K w mg f fd ob) : FnOk P w K mg base CX0 3 (f 18) (fd 18) ["thing"] (sp_isexpression K) := by
  obtain ⟨tkM, h_MOST_ITEMS⟩ := T.c_MOST_ITEMS
  have G_isworth := ok_isworth (P := P) (base := base) T
  have G_isletter := ok_isletter (P := P) (base := base) T
  have G_issign := ok_issignV (P := P) (base := base) T
  have G_leavesone := ok_leavesone (P := P) (base := base) T
  refine T.F_isexpression.ok sc_isexpression (fun vs H Q E h => ?_) (fun cdv A outer s H vs Q E hr h => ?_)
  · obtain ⟨t, xs, rfl, _⟩ := h
    rfl
  · obtain ⟨t, xs, rfl, ht, hx, hlen, q⟩ := h
    have hr_isworth := hr
    have hr_leavesone := hr
    have hr_isletter : Room 1 _ := hr.mono (by decide)
    have hr_issign : Room 1 _ := hr.mono (by decide)
    refine ⟨_, (pss_cons (ps_if (PW.pt (pw_or (pt_not (pt_val (pe_callB call_isi (by rfl) T.z_isinstance (by decide +kernel) (pa_cons (pv 0) (pa_cons (pe_bltn (v := .ty "tuple") (by rfl) T.z_tuple (by decide +kernel) rfl) pa_nil))))) (pw_or1 (pt_cmpR op_gt (pe_callB call_len_seq (by rfl) T.z_len PySem.boot_len (pa_cons (pv 0) pa_nil)) (pe_glob (v := .int 15) (by rfl) h_MOST_ITEMS ⟨_, rfl⟩) (nomark _))))) (pss_one (ps_ret pe_bl)) pss_nil)
      (pss_cons (ps_if (pt_not (pt_val (pe_callB (cr_all rfl) (by rfl) T.z_all (by decide +kernel) (pa_cons (pe_lc (own := [("item", 1)]) (g := (gName 1)) (tt := tYes) (te := (tOrV (tCall sp_isworth [] E0 (tCons (tVar 1) tNil)) (tOrV (tCall sp_isletter [] E0 (tCons (tVar 1) tNil)) (tCall sp_issignV [] E0 (tCons (tVar 1) tNil))))) (by rfl) sc_isexpression.nd (pi_tup (pv 0)) (blkOk_by (own := [("item", 1)]) (N := N_isexpression) (sc := defScope s_isexpression) (by decide +kernel)) (fun _ _ _ _ _ => (pg_name (i := 1) sc_isexpression.nd rfl (Or.inl rfl))) (fun _ _ _ _ _ => pts_nil) (fun _ _ _ _ _ => (pe_or (pe_call G_isworth hr_isworth (by rfl) T.m_isworth T.F_isworth.kp T.b_isworth .nil pass0 (pa_cons (pv 1) pa_nil)) (pe_or (pe_call G_isletter hr_isletter (by rfl) T.m_isletter T.F_isletter.kp T.b_isletter .nil pass0 (pa_cons (pv 1) pa_nil)) (pe_one (pe_call G_issign hr_issign (by rfl) T.m_issign T.F_issign.kp T.b_issign .nil pass0 (pa_cons (pv 1) pa_nil))))))) pa_nil)))) (pss_one (ps_ret pe_bl)) pss_nil)
      (pss_one (ps_ret (pe_call G_leavesone hr_leavesone (by rfl) T.m_leavesone T.F_leavesone.kp T.b_leavesone .nil pass0 (pa_cons (pv 0) pa_nil)))))), ?_⟩
    refine ⟨_, rfl, _, _, _, _, true, rfl, .ty _, .base (.tup ht), kit_ty (by decide +kernel), _, rfl, iteF ?_⟩
    refine ⟨_, rfl, _, _, rfl, .inr (SqT.of ht), _, _, rfl, rfl, _, rfl, ite2 (fun h1 => ?_) (fun h1 => ?_)⟩
    · have h1' : (15 : Int) < ((xs.length : Nat) : Int) := of_decide_eq_true h1
      have e : exV xs = false := by
        unfold exV
        rw [decide_eq_false (show ¬ xs.length ≤ 15 by omega)]
        rfl
      have q2 := q H (Same.refl H)
      rw [e] at q2
      exact q2
    · have h1' : ¬ (15 : Int) < ((xs.length : Nat) : Int) := fun g => h1 (decide_eq_true g)
      refine ⟨_, rfl, t, rfl, ⟨_, SqT.of ht⟩, fun D nD => ?_⟩
      refine lc_tup (K := K) (a := t) (xs := xs) (fun i H' => Same H H' ∧ H' D = some (.lst (((xs.take i).map (fun x => woV x || ltV x || sgV x)).map V.bl))) ⟨Same.new nD, upd_same⟩ (fun i H' _ h => SqT.of (h.1 _ _ ht)) ?_ ?_
      · rintro i x H1 hi ⟨s1, hD⟩
        have hl : i < xs.length := (List.getElem?_eq_some_iff.mp hi).1
        have hf := hx x (List.mem_of_getElem? hi)
        have et : xs.take (i + 1) = xs.take i ++ [x] := by
          rw [List.take_add_one, hi]
          rfl
        have key : ∃ acc, H1 D = some (.lst acc) ∧ acc.length < sizeLine ∧ Same H (upd H1 D (.lst (acc ++ [V.bl (woV x || ltV x || sgV x)]))) ∧ (upd H1 D (.lst (acc ++ [V.bl (woV x || ltV x || sgV x)]))) D = some (.lst (((xs.take (i + 1)).map (fun x => woV x || ltV x || sgV x)).map V.bl)) := by
          refine ⟨_, hD, ?_, Same.mut s1 nD, ?_⟩
          · rw [List.length_map, List.length_map, List.length_take]
            exact small1000 (by omega)
          · rw [upd_same, et, List.map_append, List.map_append]
            rfl
        refine ⟨rfl, _, rfl, x, rfl, hf, _, rfl, ?_⟩
        cases e1 : woV x with
        | true =>
          rw [e1] at key
          exact iteT key
        | false =>
          refine iteF ⟨_, rfl, x, rfl, hf, _, rfl, ?_⟩
          cases e2 : ltV x with
          | true =>
            rw [e1, e2] at key
            exact iteT key
          | false =>
            refine iteF ⟨_, rfl, x, rfl, hf, ?_⟩
            rw [e1, e2] at key
            exact key
      · rintro H1 ⟨s1, hD⟩
        rw [List.take_length] at hD
        refine ⟨D, _, rfl, SqL.of hD, _, rfl, ?_⟩
        have ea : (xs.map (fun x => woV x || ltV x || sgV x)).all id = xs.all (fun x => woV x || ltV x || sgV x) := by
          rw [List.all_map]
          rfl
        rw [ea]
        cases e1 : xs.all (fun x => woV x || ltV x || sgV x) with
        | false =>
          refine iteT ?_
          have e : exV xs = false := by
            unfold exV
            rw [e1, Bool.and_false]
            rfl
          have q2 := q H1 s1
          rw [e] at q2
          exact q2
        | true =>
          refine iteF ⟨_, rfl, t, xs, rfl, SqT.of (s1 _ _ ht), hx, ?_⟩
          have e : exV xs = decide (htV 0 xs = some 1) := by
            unfold exV
            rw [e1, decide_eq_true (show xs.length ≤ 15 by omega)]
            rfl
          have q2 := q H1 s1
          rw [e] at q2
          exact q2
theorem ok_showexpression (T : Txt K w mg f fd ob) : FnOk P w K mg base CX0 1 (f 19) (fd 19) ["e"] (sp_showexpression K) := by
  refine T.F_showexpression.ok sc_showexpression (fun vs H Q E h => ?_) (fun cdv A outer s H vs Q E hr h => ?_)
  · obtain ⟨t, xs, rfl, _⟩ := h
    rfl
  · obtain ⟨t, xs, rfl, ht, hx, hlen, hsz, q⟩ := h
    refine ⟨_, (pss_one (ps_ret (pe_join pe_str (pe_lc (own := [("item", 1)]) (g := (gName 1)) (tt := tYes) (te := (tCB rStrV (tCons (tVar 1) tNil))) (by rfl) sc_showexpression.nd (pi_tup (pv 0)) (blkOk_by (own := [("item", 1)]) (N := N_showexpression) (sc := defScope s_showexpression) (by decide +kernel)) (fun _ _ _ _ _ => (pg_name (i := 1) sc_showexpression.nd rfl (Or.inl rfl))) (fun _ _ _ _ _ => pts_nil) (fun _ _ _ _ _ => (pe_callTy call_strV (by rfl) T.z_str (by decide +kernel) (pa_cons (pv 1) pa_nil))))))), ?_⟩
    refine ⟨⟨_, rfl⟩, _, rfl, t, rfl, ⟨_, ht⟩, fun D nD => ?_⟩
    refine lc_tup (K := K) (a := t) (xs := xs) (fun i H' => Same H H' ∧ H' D = some (.lst (((xs.take i).map shV).map V.str))) ⟨Same.new nD, upd_same⟩ (fun i H' _ h => ex_t h.1 ht) ?_ ?_
    · rintro i x H1 hi ⟨s1, hD⟩
      have hl : i < xs.length := (List.getElem?_eq_some_iff.mp hi).1
      have et : xs.take (i + 1) = xs.take i ++ [x] := by
        rw [List.take_add_one, hi]
        rfl
      refine ⟨rfl, _, rfl, x, rfl, hx x (List.mem_of_getElem? hi), _, hD, ?_, Same.mut s1 nD, ?_⟩
      · rw [List.length_map, List.length_map, List.length_take]
        exact small1000 (by omega)
      · rw [upd_same, et, List.map_append, List.map_append]
        rfl
    · rintro H1 ⟨s1, hD⟩
      rw [List.take_length] at hD
      refine ⟨_, D, xs.map shV, rfl, rfl, .inl (SqL.of hD), ?_, q _ s1⟩
      rw [show ((" " : Str)).length = 1 by decide +kernel, Nat.mul_one, List.length_map]
      omega
theorem flat_it {z : Str} (h : z.length ≤ 100000) : FlatN (itV z) := by
  unfold itV
  cases worthL (cp z) with
  | none => exact h
  | some a => exact trivial
theorem ok_expressionof (T : Txt K w mg f fd ob) : FnOk P w K mg base CX0 5 (f 21) (fd 21) ["text"] sp_expressionof := by
  have G_itemof := ok_itemof (P := P) (base := base) T
  have G_isexpression := ok_isexpression (P := P) (base := base) T
  refine T.F_expressionof.ok sc_expressionof (fun vs H Q E h => ?_) (fun cdv A outer s H vs Q E hr h => ?_)
  · obtain ⟨z, rfl, _⟩ := h
    rfl
  · obtain ⟨z, rfl, hz, q1, q2⟩ := h
    have hr_itemof := hr
    have hr_isexpression : Room 3 _ := hr.mono (by decide)
    obtain ⟨hl1, hl2⟩ := split_len z
    refine ⟨_, (pss_cons (ps_set (i := 1) sc_expressionof.nd rfl (Or.inl rfl) (pe_callTy call_tuple_of (by rfl) T.z_tuple (by decide +kernel) (pa_cons (pe_lc (own := [("word", 2)]) (g := (gName 2)) (tt := tYes) (te := (tCall sp_itemof [] E0 (tCons (tVar 2) tNil))) (by rfl) sc_expressionof.nd (pi_list (pe_split (pv 0) pe_str)) (blkOk_by (own := [("word", 2)]) (N := N_expressionof) (sc := defScope s_expressionof) (by decide +kernel)) (fun _ _ _ _ _ => (pg_name (i := 2) sc_expressionof.nd rfl (Or.inl rfl))) (fun _ _ _ _ _ => pts_nil) (fun _ _ _ _ _ => (pe_call G_itemof hr_itemof (by rfl) T.m_itemof T.F_itemof.kp T.b_itemof .nil pass0 (pa_cons (pv 2) pa_nil)))) pa_nil)))
      (pss_one (ps_ret (pe_ifExp (pt_val (pe_call G_isexpression hr_isexpression (by rfl) T.m_isexpression T.F_isexpression.kp T.b_isexpression .nil pass0 (pa_cons (pv 1) pa_nil))) (pv 1) pe_non)))), ?_⟩
    refine ⟨_, rfl, ⟨_, rfl⟩, z, _, rfl, rfl, by decide +kernel, Nat.le_trans (show z.length + 2 ≤ 100000 by omega) (by decide), fun l hl => ?_⟩
    have hL : (upd H l (.lst ((Txt.split z " ").map V.str))) l = some (.lst ((Txt.split z " ").map V.str)) := upd_same
    have s0 : Same H (upd H l (.lst ((Txt.split z " ").map V.str))) := Same.new hl
    refine ⟨l, rfl, ⟨_, SqL.of hL⟩, fun D nD => ?_⟩
    generalize upd H l (.lst ((Txt.split z " ").map V.str)) = H0 at hL s0 nD ⊢
    refine lc_list (K := K) (a := l) (xs := (Txt.split z " ").map V.str) (fun i H' => Same H0 H' ∧ H' D = some (.lst (((Txt.split z " ").take i).map itV))) ⟨Same.new nD, upd_same⟩ (fun i H' _ h => SqL.of (h.1 _ _ hL)) ?_ ?_
    · rintro i x H1 hi ⟨s1, hD⟩
      rw [List.getElem?_map] at hi
      cases ew : (Txt.split z " ")[i]? with
      | none =>
        rw [ew] at hi
        cases hi
      | some ww =>
        rw [ew] at hi
        obtain rfl : V.str ww = x := Option.some.inj hi
        have hli : i < (Txt.split z " ").length := (List.getElem?_eq_some_iff.mp ew).1
        have et : (Txt.split z " ").take (i + 1) = (Txt.split z " ").take i ++ [ww] := by
          rw [List.take_add_one, ew]
          rfl
        have hwl := hl2 ww (List.mem_of_getElem? ew)
        refine ⟨rfl, _, rfl, ww, rfl, by omega, _, hD, ?_, Same.mut s1 nD, ?_⟩
        · rw [List.length_map, List.length_take]
          exact Nat.lt_of_lt_of_le (show _ < 100000 by omega) (by decide)
        · rw [upd_same, et, List.map_append]
          rfl
    · rintro H1 ⟨s1, hD⟩
      rw [List.length_map, List.take_length] at hD
      refine ⟨D, _, rfl, .inl ⟨SqL.of hD, fun t ht => ?_⟩⟩
      have s2 : Same H (upd H1 t (.tup ((Txt.split z " ").map itV))) := (s0.trans s1).trans (Same.new ht)
      have htn : H t = none := (s0.trans s1).free ht
      refine ⟨_, rfl, t, _, rfl, upd_same, fun x hx => ?_, by rw [List.length_map]; omega, fun H2 s3 => ⟨_, rfl, ?_⟩⟩
      · obtain ⟨ww, hw, rfl⟩ := List.mem_map.mp hx
        exact flat_it (by have := hl2 ww hw; omega)
      · cases e : exV ((Txt.split z " ").map itV) with
        | true => exact iteT ⟨_, rfl, q1 _ t e (s2.trans s3) htn (s3 _ _ upd_same)⟩
        | false => exact iteF (q2 _ e (s2.trans s3))
def sp_iNoText (K : PySem.W.Frag) : Sp := fun vs H Q _ => ∃ (a C : Addr) (v : V), vs = [.ref a, v] ∧ OexC K C ∧ PySem.W.findIn K (.ref C) "nth" = some none ∧ H a = some (exo a C none) ∧
  ∀ dx, H dx = none → dx ≠ a → Q .non (upd (upd H dx (exd dx [("nth", v)])) a (exo a C (some dx)))
def sp_readX (C : Addr) : Sp := fun vs H Q E => ∃ z : Str, vs = [.str z] ∧ z.length ≤ 40000 ∧
  (exV ((Txt.split z " ").map itV) = true → ∀ (H' : Hp) (t : Addr), Same H H' → H t = none → H' t = some (.tup ((Txt.split z " ").map itV)) → Q (.ref t) H') ∧
  (exV ((Txt.split z " ").map itV) = false → ∀ (H' : Hp) (d : Addr), Same H H' → H' d = some (.xd [("nth", .int 0)]) → E (.ref C) (some d) H')
theorem ok_iNoText (T : Txt K w mg f fd ob) : FnOk P w K mg base CX0 1 (f 0) (fd 0) ["self", "nth"] (sp_iNoText K) := by
  refine T.F_iNoText.ok sc_iNoText (fun vs H Q E h => ?_) (fun cdv A outer s H vs Q E hr h => ?_)
  · obtain ⟨a, C, v, rfl, _⟩ := h
    rfl
  · obtain ⟨a, C, v, rfl, hC, hn, ha, q⟩ := h
    refine ⟨_, (pss_one (ps_ost (pv 0) (pv 1))), ?_⟩
    exact ⟨_, rfl, _, rfl, a, C, rfl, hC, hn, .inl ⟨ha, fun dx h1 h2 => q dx h1 h2⟩⟩
theorem ok_readX (T : Txt K w mg f fd ob) : FnOk P w K mg base (L2.CX P w) 6 (f 22) (fd 22) ["text"] (sp_readX (ob 1)) := by
  have G_expressionof := ok_expressionof (P := P) (base := base) T
  have G_iNoText := ok_iNoText (P := P) (base := base) T
  refine T.F_readexpression.okX sc_readexpression (fun vs H Q E h => ?_) (fun cdv A outer s H vs Q E hr h => ?_)
  · obtain ⟨z, rfl, _⟩ := h
    rfl
  · obtain ⟨z, rfl, hz, q1, q2⟩ := h
    have hr_expressionof := hr
    have hr_iNoText : Room 2 _ := hr.mono (by decide)
    refine ⟨_, (pss_cons (ps_set (i := 1) sc_readexpression.nd rfl (Or.inl rfl) (pe_call G_expressionof hr_expressionof (by rfl) T.m_expressionof T.F_expressionof.kp T.b_expressionof .nil pass0 (pa_cons (pv 0) pa_nil)))
      (pss_cons (ps_if (pt_cmpR op_isN (pv 1) pe_non (nomark _)) (pss_one (ps_raise rfl (takes_of rfl rfl rfl rfl) (pmk_oex T.X_NoText T.XI_NoText T.XT_NoText G_iNoText hr_iNoText T.b_iNoText .nil pass0 (by rfl) T.m_NoText (pa_cons pe_int pa_nil)))) pss_nil)
      (pss_one (ps_ret (pv 1))))), ?_⟩
    refine ⟨_, rfl, z, rfl, hz, fun H1 t he s1 ht h1 => ?_, fun H1 he s1 => ?_⟩
    · exact ⟨_, rfl, rfl, _, rfl, iteF ⟨_, rfl, q1 he _ t s1 ht h1⟩⟩
    · refine ⟨_, rfl, rfl, _, rfl, iteT ⟨(show 1 ≤ 1000 by decide), fun a ha => ⟨a, ob 1, _, rfl, T.X_NoText, T.XN_NoText_nth, upd_same, fun dx hdx hne => ⟨rfl, dx, _, upd_same, ?_, ?_, q2 he _ dx ?_ upd_same⟩⟩⟩⟩
      · rw [upd_ne hne, upd_same]
      · rw [upd_ne hne] at hdx
        exact hdx
      · intro b o hb
        have hb1 := s1 b o hb
        have hba : b ≠ a := ne_of_none hb1 ha
        have hbd : b ≠ dx := by
          rw [upd_ne hne] at hdx
          exact ne_of_none hb1 hdx
        rw [upd_ne hbd, del_ne hba, upd_ne hba, upd_ne hbd, upd_ne hba]
        exact hb1
theorem ok_lfeed (T : Txt K w mg f fd ob) : FnOk P w K mg base CX0 1 (f 24) (fd 24) ["_law_script"] (sp_lfeed K) := by
  refine T.F_lfeed.ok sc_lfeed (fun vs H Q E h => ?_) (fun cdv A outer s H vs Q E hr h => ?_)
  · obtain ⟨a, ns, rfl, _⟩ := h
    rfl
  · obtain ⟨a, ns, rfl, hS, hlen, q⟩ := h
    refine ⟨_, (pss_one (ps_ret (pe_lst (pa_cons (pe_callTy call_list_of (by rfl) T.z_list (by decide +kernel) (pa_cons (pe_slice sl_list (pv 0) po_none (po_some pe_int)) pa_nil)) (pa_cons pe_int (pa_cons pe_int pa_nil)))))), ?_⟩
    refine ⟨_, rfl, _, rfl, a, _, rfl, hS, fun c1 n1 => ⟨_, _, rfl, .inl (SqL.of upd_same), fun c n2 => ⟨(show 3 ≤ sizeLine by decide), fun p n3 => ?_⟩⟩⟩
    refine q _ p c ⟨0, upd_same, ?_, by decide, by decide⟩
    rw [upd_ne (ne_of_none upd_same n3), upd_same, cut63 (by rw [List.length_map]; exact hlen)]
theorem ok_ldraw (T : Txt K w mg f fd ob) : FnOk P w K mg base CX0 1 (f 25) (fd 25) ["_law_feed_here", "_law_many"] sp_ldraw := by
  refine T.F_ldraw.ok sc_ldraw (fun vs H Q E h => ?_) (fun cdv A outer s H vs Q E hr h => ?_)
  · obtain ⟨p, c, ns, n, m, rfl, _⟩ := h
    rfl
  · obtain ⟨p, c, ns, n, m, rfl, hP, hm0, hm1, hn1, q⟩ := h
    have hne : c ≠ p := hP.ne
    obtain ⟨r, hp, hc, hn0, hr0⟩ := hP
    refine ⟨_, (pss_cons (ps_if (pt_cmpR op_gt (pe_ix ix_list (pv 0) pe_int (fun _ _ => rfl)) pe_int (nomark _)) (pss_cons (ps_set (i := 2) sc_ldraw.nd rfl (Or.inl rfl) (pe_op op_mod (pe_ix ix_list (pv 0) pe_int (fun _ _ => rfl)) (pv 1)))
      (pss_cons (ps_asg (pe_op op_fdiv (pe_ix ix_list (pv 0) pe_int (fun _ _ => rfl)) (pv 1)) (pg_sub (pv 0) pe_int set_list))
      (pss_one (ps_ret (pv 2))))) pss_nil)
      (pss_cons (ps_set (i := 3) sc_ldraw.nd rfl (Or.inl rfl) (pe_ix ix_list (pv 0) pe_int (fun _ _ => rfl)))
      (pss_cons (ps_asg (pe_op op_add (pv 3) pe_int) (pg_sub (pv 0) pe_int set_list))
      (pss_cons (ps_set (i := 4) sc_ldraw.nd rfl (Or.inl rfl) (pv 3))
      (C8.pss_cut (ps_if (pt_cmpR op_gt (pe_callB call_len_seq (by rfl) T.z_len PySem.boot_len (pa_cons (pe_ix ix_list (pv 0) pe_int (fun _ _ => rfl)) pa_nil)) pe_int (nomark _)) (pss_one (ps_set (i := 4) sc_ldraw.nd rfl (Or.inl rfl) (pe_ix ix_list (pe_ix ix_list (pv 0) pe_int (fun _ _ => rfl)) (pe_op op_mod (pv 3) (pe_callB call_len_seq (by rfl) T.z_len PySem.boot_len (pa_cons (pe_ix ix_list (pv 0) pe_int (fun _ _ => rfl)) pa_nil))) (fun _ _ => rfl)))) pss_nil)
      (C8.pss_cut (ps_if (PW.pt (pw_and (pt_cmpR op_ge (pv 4) (pe_op op_pow pe_int pe_int) (nomark _)) (pw_and1 (pt_cmpR op_lt (pv 3) (pe_callB call_len_seq (by rfl) T.z_len PySem.boot_len (pa_cons (pe_ix ix_list (pv 0) pe_int (fun _ _ => rfl)) pa_nil)) (nomark _))))) (pss_cons (ps_asg (pe_op op_fdiv (pv 4) (pv 1)) (pg_sub (pv 0) pe_int set_list))
      (pss_one (ps_ret (pe_op op_mod (pv 4) (pv 1))))) pss_nil)
      (pss_cons (ps_set (i := 5) sc_ldraw.nd rfl (Or.inl rfl) (pe_op op_mod (pe_op op_mul (pe_op op_add (pe_op op_add (pe_op op_mod (pv 4) pe_int) (pe_op op_mul (pe_op op_mul pe_int (pv 3)) (pv 3))) pe_int) pe_int) pe_int))
      (pss_cons (ps_set (i := 5) sc_ldraw.nd rfl (Or.inl rfl) (pe_op op_mod (pe_op op_add (pe_op op_mul (pv 5) (pv 5)) (pe_op op_mul pe_int (pv 3))) pe_int))
      (pss_one (ps_ret (pe_op op_mod (pe_op op_fdiv (pe_op op_mod (pe_op op_mul (pv 5) (pe_op op_add (pe_op op_mod (pv 5) pe_int) pe_int)) pe_int) pe_int) (pv 1)))))))))))), ?_⟩
    -- if feed[2] > 0
    refine ⟨_, rfl, _, _, _, _, rfl, rfl, SqL.of hp, rfl, _, _, rfl, rfl, _, rfl, ite2 (fun h1 => ?_) (fun h1 => ?_)⟩
    · refine ⟨_, rfl, _, _, _, _, rfl, rfl, SqL.of hp, rfl, _, rfl, _, _, rfl, rfl, hm0, ?_⟩
      refine ⟨_, rfl, _, _, _, _, rfl, rfl, SqL.of hp, rfl, _, rfl, _, _, rfl, rfl, ⟨hm0, hm1⟩, _, rfl, _, _, _, _, rfl, rfl, hp, rfl, ?_⟩
      exact ⟨_, rfl, q _ _ _ (Kp.upd _) ⟨_, upd_same, (upd_ne hne).trans hc, hn0, Int.ediv_nonneg hr0 (by omega)⟩ (Int.emod_nonneg _ (by omega)) (Int.emod_lt_of_pos _ hm0) (by omega) (by omega)⟩
    · -- at = feed[1]; feed[1] = at + 1; cell = at
      refine ⟨_, rfl, _, _, _, _, rfl, rfl, SqL.of hp, rfl, ?_⟩
      refine ⟨_, rfl, _, _, rfl, rfl, _, rfl, _, _, _, _, rfl, rfl, hp, rfl, ?_⟩
      have hp1 : (upd H p (.lst [.ref c, .int (n + 1), .int r])) p = some (.lst [.ref c, .int (n + 1), .int r]) := upd_same
      have hc1 : (upd H p (.lst [.ref c, .int (n + 1), .int r])) c = some (.lst (ns.map V.int)) := (upd_ne hne).trans hc
      refine ⟨_, rfl, ?_⟩
      -- if len(feed[0]) > 0
      refine ⟨fun σ' H' => ∃ v : Int, σ' = [some (.ref p), some (.int m), none, some (.int n), some (.int v), none] ∧ H' = upd H p (.lst [.ref c, .int (n + 1), .int r]), ?_, ?_⟩
      · refine ⟨_, rfl, _, _, _, _, rfl, rfl, SqL.of hp1, rfl, _, _, rfl, .inl (SqL.of hc1), _, _, rfl, rfl, _, rfl, ite2 (fun h2 => ?_) (fun h2 => ⟨_, rfl, rfl⟩)⟩
        have hl : 0 < ((ns.map V.int).length : Int) := of_decide_eq_true h2
        obtain ⟨v, hv⟩ := atI_in (ns := ns) (Int.emod_nonneg n (by omega)) (Int.emod_lt_of_pos n hl)
        exact ⟨_, rfl, _, _, _, _, rfl, rfl, SqL.of hp1, rfl, _, rfl, _, rfl, _, _, _, _, rfl, rfl, SqL.of hp1, rfl, _, _, rfl, .inl (SqL.of hc1), _, _, rfl, rfl, hl, _, _, _, _, rfl, rfl, SqL.of hc1, hv, v, rfl, rfl⟩
      · rintro _ _ ⟨v, rfl, rfl⟩
        -- if cell >= 10 ** 18 and at < len(feed[0])
        refine ⟨fun σ' H' => σ' = [some (.ref p), some (.int m), none, some (.int n), some (.int v), none] ∧ H' = upd H p (.lst [.ref c, .int (n + 1), .int r]), ?_, ?_⟩
        · refine ⟨_, rfl, _, _, rfl, rfl, ⟨by decide, by decide, by decide⟩, _, _, rfl, rfl, _, rfl, ite2 (fun h3 => ?_) (fun h3 => iteF ⟨rfl, rfl⟩)⟩
          refine ⟨_, rfl, _, rfl, _, _, _, _, rfl, rfl, SqL.of hp1, rfl, _, _, rfl, .inl (SqL.of hc1), _, _, rfl, rfl, _, rfl, ite2 (fun h4 => ?_) (fun h4 => ⟨rfl, rfl⟩)⟩
          have hv : (10 : Int) ^ (18 : Int).toNat ≤ v := of_decide_eq_true h3
          have hv0 : 0 ≤ v := Int.le_trans (by decide) hv
          refine ⟨_, rfl, _, rfl, _, _, rfl, rfl, ⟨hm0, hm1⟩, _, rfl, _, _, _, _, rfl, rfl, hp1, rfl, ?_⟩
          refine ⟨_, rfl, _, rfl, _, _, rfl, rfl, hm0, ?_⟩
          rw [upd_upd]
          exact q _ _ (n + 1) (Kp.upd _) ⟨_, upd_same, (upd_ne hne).trans hc, by omega, Int.ediv_nonneg hv0 (by omega)⟩ (Int.emod_nonneg _ (by omega)) (Int.emod_lt_of_pos _ hm0) (by omega) (by omega)
        · rintro _ _ ⟨rfl, rfl⟩
          refine ⟨_, rfl, _, _, rfl, rfl, (by show (0 : Int) < 2147483647; decide), _, rfl, _, _, rfl, rfl, .inl ⟨by decide, by decide⟩, _, rfl, _, _, rfl, rfl, .inr ⟨by omega, by omega⟩, _, _, rfl, rfl, _, _, rfl, rfl, _, _, rfl, rfl, .inr ⟨by decide, by decide⟩, _, _, rfl, rfl, (by show (0 : Int) < 2147483647; decide), ?_⟩
          generalize hx : ((v % 2147483647 + 7919 * n * n + 104729) * 48271 % 2147483647 : Int) = x
          have hx0 : 0 ≤ x := by
            rw [← hx]
            exact Int.emod_nonneg _ (by decide)
          have hx1 : x < 2147483647 := by
            rw [← hx]
            exact Int.emod_lt_of_pos _ (by decide)
          refine ⟨_, rfl, _, rfl, _, _, rfl, rfl, .inl ⟨by omega, by omega⟩, _, rfl, _, _, rfl, rfl, .inl ⟨by decide, by decide⟩, _, _, rfl, rfl, _, _, rfl, rfl, (by show (0 : Int) < 2147483629; decide), ?_⟩
          generalize hy : ((x * x + 69621 * n) % 2147483629 : Int) = y
          have hy0 : 0 ≤ y := by
            rw [← hy]
            exact Int.emod_nonneg _ (by decide)
          have hy1 : y < 2147483629 := by
            rw [← hy]
            exact Int.emod_lt_of_pos _ (by decide)
          refine ⟨_, rfl, _, rfl, _, _, rfl, rfl, (by show (0 : Int) < 65521; decide), _, _, rfl, rfl, _, _, rfl, rfl, .inl ⟨by omega, by omega⟩, _, _, rfl, rfl, (by show (0 : Int) < 2147483587; decide), _, _, rfl, rfl, ⟨by decide, by decide⟩, _, rfl, _, _, rfl, rfl, hm0, ?_⟩
          exact q _ _ (n + 1) (Kp.upd _) ⟨_, upd_same, hc1, by omega, hr0⟩ (Int.emod_nonneg _ (by omega)) (Int.emod_lt_of_pos _ hm0) (by omega) (by omega)
theorem worth_at {i : Int} (h0 : 0 ≤ i) (h1 : i < 12) : ∃ v : Int, atI [V.int (-32768), V.int (-32767), V.int (-1), V.int 0, V.int 1, V.int 32766, V.int 32767, V.int 255, V.int 256, V.int (-256), V.int 181, V.int 182] i = some (.int v) ∧ W v := by
  have h : i = 0 ∨ i = 1 ∨ i = 2 ∨ i = 3 ∨ i = 4 ∨ i = 5 ∨ i = 6 ∨ i = 7 ∨ i = 8 ∨ i = 9 ∨ i = 10 ∨ i = 11 := by omega
  unfold W
  rcases h with rfl | rfl | rfl | rfl | rfl | rfl | rfl | rfl | rfl | rfl | rfl | rfl
  all_goals exact ⟨_, rfl, by decide, by decide⟩
theorem ok_lworth (T : Txt K w mg f fd ob) : FnOk P w K mg base CX0 2 (f 26) (fd 26) ["_law_feed_here"] sp_lworth := by
  have G_ldraw := ok_ldraw (P := P) (base := base) T
  refine T.F_lworth.ok sc_lworth (fun vs H Q E h => ?_) (fun cdv A outer s H vs Q E hr h => ?_)
  · obtain ⟨p, c, ns, n, rfl, _⟩ := h
    rfl
  · obtain ⟨p, c, ns, n, rfl, hP, hn, q⟩ := h
    have hr_ldraw := hr
    refine ⟨_, (pss_cons (ps_set (i := 1) sc_lworth.nd rfl (Or.inl rfl) (pe_call G_ldraw hr_ldraw (by rfl) T.m_ldraw T.F_ldraw.kp T.b_ldraw .nil pass0 (pa_cons (pv 0) (pa_cons pe_int pa_nil))))
      (pss_cons (ps_if (pt_cmpR op_lt (pv 1) pe_int (nomark _)) (pss_one (ps_ret (pe_op op_sub (pe_call G_ldraw hr_ldraw (by rfl) T.m_ldraw T.F_ldraw.kp T.b_ldraw .nil pass0 (pa_cons (pv 0) (pa_cons pe_int pa_nil))) pe_int))) pss_nil)
      (pss_cons (ps_if (pt_cmpR op_lt (pv 1) pe_int (nomark _)) (pss_one (ps_ret (pe_op op_sub (pe_call G_ldraw hr_ldraw (by rfl) T.m_ldraw T.F_ldraw.kp T.b_ldraw .nil pass0 (pa_cons (pv 0) (pa_cons pe_int pa_nil))) pe_int))) pss_nil)
      (pss_one (ps_ret (pe_ix ix_list (pe_lst (pa_cons (pe_un un_neg pe_int) (pa_cons (pe_un un_neg pe_int) (pa_cons (pe_un un_neg pe_int) (pa_cons pe_int (pa_cons pe_int (pa_cons pe_int (pa_cons pe_int (pa_cons pe_int (pa_cons pe_int (pa_cons (pe_un un_neg pe_int) (pa_cons pe_int (pa_cons pe_int pa_nil))))))))))))) (pe_call G_ldraw hr_ldraw (by rfl) T.m_ldraw T.F_ldraw.kp T.b_ldraw .nil pass0 (pa_cons (pv 0) (pa_cons pe_int pa_nil))) (fun _ _ => rfl))))))), ?_⟩
    refine ⟨_, rfl, p, c, ns, n, 5, rfl, hP, by decide, by decide, by omega, fun H1 d1 n1 k1 P1 d1a d1b n1a n1b => ?_⟩
    refine ⟨_, rfl, _, _, rfl, rfl, _, rfl, ite2 (fun h1 => ?_) (fun h1 => ?_)⟩
    · refine ⟨_, rfl, p, c, ns, n1, 13, rfl, P1, by decide, by decide, by omega, fun H2 d2 n2 k2 P2 d2a d2b n2a n2b => ?_⟩
      exact ⟨_, _, rfl, rfl, q _ _ _ (k1.trans k2) P2 (by omega) (by omega) ⟨by omega, by omega⟩⟩
    · refine ⟨_, rfl, _, _, rfl, rfl, _, rfl, ite2 (fun h2 => ?_) (fun h2 => ?_)⟩
      · refine ⟨_, rfl, p, c, ns, n1, 65536, rfl, P1, by decide, by decide, by omega, fun H2 d2 n2 k2 P2 d2a d2b n2a n2b => ?_⟩
        exact ⟨_, _, rfl, rfl, q _ _ _ (k1.trans k2) P2 (by omega) (by omega) ⟨by omega, by omega⟩⟩
      · refine ⟨_, rfl, _, rfl, _, rfl, _, rfl, (show 12 ≤ sizeLine by decide), fun l hl => ?_⟩
        refine ⟨_, rfl, p, c, ns, n1, 12, rfl, P1.new hl, by decide, by decide, by omega, fun H2 d2 n2 k2 P2 d2a d2b n2a n2b => ?_⟩
        obtain ⟨v, hv, hW⟩ := worth_at d2a d2b
        have e2 : H2 l = some (.lst [V.int (-32768), V.int (-32767), V.int (-1), V.int 0, V.int 1, V.int 32766, V.int 32767, V.int 255, V.int 256, V.int (-256), V.int 181, V.int 182]) := k2 _ _ (P1.ni hl) upd_same
        exact ⟨_, _, _, _, rfl, rfl, SqL.of e2, hv, q _ _ _ (k1.trans ((Kp.new hl).trans k2)) P2 (by omega) (by omega) hW⟩
theorem ok_lregister (T : Txt K w mg f fd ob) : FnOk P w K mg base CX0 2 (f 27) (fd 27) ["_law_feed_here"] sp_lregister := by
  have G_ldraw := ok_ldraw (P := P) (base := base) T
  refine T.F_lregister.ok sc_lregister (fun vs H Q E h => ?_) (fun cdv A outer s H vs Q E hr h => ?_)
  · obtain ⟨p, c, ns, n, rfl, _⟩ := h
    rfl
  · obtain ⟨p, c, ns, n, rfl, hP, hn, q⟩ := h
    have hr_ldraw := hr
    refine ⟨_, (pss_one (ps_ret (pe_ix ix_str pe_str (pe_call G_ldraw hr_ldraw (by rfl) T.m_ldraw T.F_ldraw.kp T.b_ldraw .nil pass0 (pa_cons (pv 0) (pa_cons (pe_ix ix_list (pe_lst (pa_cons pe_int (pa_cons pe_int pa_nil))) (pe_op op_fdiv (pe_call G_ldraw hr_ldraw (by rfl) T.m_ldraw T.F_ldraw.kp T.b_ldraw .nil pass0 (pa_cons (pv 0) (pa_cons pe_int pa_nil))) pe_int) (fun _ _ => rfl)) pa_nil))) (fun _ _ => rfl)))), ?_⟩
    refine ⟨_, rfl, (show 2 ≤ sizeLine by decide), fun l hl => ?_⟩
    refine ⟨_, rfl, p, c, ns, n, 3, rfl, hP.new hl, by decide, by decide, by omega, fun H1 d1 n1 k1 P1 d1a d1b n1a n1b => ?_⟩
    have e1 : H1 l = some (.lst [V.int 3, V.int 16]) := k1 _ _ (hP.ni hl) upd_same
    obtain ⟨v, hv, hv0, hv1⟩ : ∃ v : Int, atI [V.int 3, V.int 16] (d1 / 2) = some (.int v) ∧ 0 < v ∧ v ≤ 16 := by
      have h : d1 / 2 = 0 ∨ d1 / 2 = 1 := by omega
      rcases h with e | e
      · rw [e]
        exact ⟨_, rfl, by decide, by decide⟩
      · rw [e]
        exact ⟨_, rfl, by decide, by decide⟩
    refine ⟨_, _, rfl, rfl, ⟨by decide, by decide⟩, _, _, _, _, rfl, rfl, SqL.of e1, hv, p, c, ns, n1, v, rfl, P1, by omega, by omega, by omega, fun H2 d2 n2 k2 P2 d2a d2b n2a n2b => ?_⟩
    obtain ⟨j, rfl⟩ := Int.eq_ofNat_of_zero_le d2a
    have hj : j < 16 := by omega
    exact ⟨_, _, _, rfl, rfl, (by decide +kernel), lt_at j hj, q _ j n2 ((Kp.new hl).trans (k1.trans k2)) P2 (by omega) (by omega) hj⟩
theorem ok_litem (T : Txt K w mg f fd ob) : FnOk P w K mg base CX0 3 (f 28) (fd 28) ["_law_feed_here"] sp_litem := by
  have G_ldraw := ok_ldraw (P := P) (base := base) T
  have G_lworth := ok_lworth (P := P) (base := base) T
  have G_lregister := ok_lregister (P := P) (base := base) T
  refine T.F_litem.ok sc_litem (fun vs H Q E h => ?_) (fun cdv A outer s H vs Q E hr h => ?_)
  · obtain ⟨p, c, ns, n, rfl, _⟩ := h
    rfl
  · obtain ⟨p, c, ns, n, rfl, hP, hn, q⟩ := h
    have hr_lworth := hr
    have hr_lregister := hr
    have hr_ldraw : Room 1 _ := hr.mono (by decide)
    refine ⟨_, (pss_one (ps_ret (pe_ix ix_list (pe_lst (pa_cons (pe_call G_lworth hr_lworth (by rfl) T.m_lworth T.F_lworth.kp T.b_lworth .nil pass0 (pa_cons (pv 0) pa_nil)) (pa_cons (pe_call G_lregister hr_lregister (by rfl) T.m_lregister T.F_lregister.kp T.b_lregister .nil pass0 (pa_cons (pv 0) pa_nil)) pa_nil))) (pe_call G_ldraw hr_ldraw (by rfl) T.m_ldraw T.F_ldraw.kp T.b_ldraw .nil pass0 (pa_cons (pv 0) (pa_cons pe_int pa_nil))) (fun _ _ => rfl)))), ?_⟩
    refine ⟨_, rfl, p, c, ns, n, rfl, hP, by omega, fun H1 a n1 k1 P1 n1a n1b hW => ?_⟩
    refine ⟨_, rfl, p, c, ns, n1, rfl, P1, by omega, fun H2 k n2 k2 P2 n2a n2b hk => ?_⟩
    refine ⟨(show 2 ≤ sizeLine by decide), fun l hl => ?_⟩
    refine ⟨_, rfl, p, c, ns, n2, 2, rfl, P2.new hl, by decide, by decide, by omega, fun H3 d n3 k3 P3 d3a d3b n3a n3b => ?_⟩
    have e3 : H3 l = some (.lst [V.int a, V.str (lt k)]) := k3 _ _ (P2.ni hl) upd_same
    have kk := (k1.trans k2).trans ((Kp.new hl).trans k3)
    have h : d = 0 ∨ d = 1 := by omega
    rcases h with rfl | rfl
    · exact ⟨_, _, _, _, rfl, rfl, SqL.of e3, rfl, q _ (.wo a) n3 kk P3 (by omega) (by omega) hW rfl⟩
    · exact ⟨_, _, _, _, rfl, rfl, SqL.of e3, rfl, q _ (.re k) n3 kk P3 (by omega) (by omega) hk rfl⟩
theorem ok_lexpression (T : Txt K w mg f fd ob) : FnOk P w K mg base CX0 4 (f 29) (fd 29) ["_law_feed_here", "_law_most"] sp_lexpression := by
  have G_ldraw := ok_ldraw (P := P) (base := base) T
  have G_litem := ok_litem (P := P) (base := base) T
  refine T.F_lexpression.ok sc_lexpression (fun vs H Q E h => ?_) (fun cdv A outer s H vs Q E hr h => ?_)
  · obtain ⟨p, c, ns, n, most, rfl, _⟩ := h
    rfl
  · obtain ⟨p, c, ns, n, most, rfl, hP, hn, hmost, q⟩ := h
    have hr_litem := hr
    have hr_ldraw : Room 1 _ := hr.mono (by decide)
    refine ⟨_, (pss_cons (ps_set (i := 2) sc_lexpression.nd rfl (Or.inl rfl) (pe_call G_ldraw hr_ldraw (by rfl) T.m_ldraw T.F_ldraw.kp T.b_ldraw .nil pass0 (pa_cons (pv 0) (pa_cons (pe_op op_add (pv 1) pe_int) pa_nil))))
      (pss_cons (ps_par3 (i := 3) (j := 4) (l := 5) (by rfl) sc_lexpression.nd rfl rfl rfl (by decide) (by decide) (by decide) rfl rfl rfl (pa_cons (pe_lst pa_nil) (pa_cons pe_int (pa_cons (pe_op op_add (pv 2) pe_int) pa_nil))) (by rfl))
      (pss_cons (ps_for PassesOwn.never rfl (pi_range1 (by rfl) T.z_range (pa_cons (pe_op op_add (pe_op op_mul pe_int (pv 2)) pe_int) pa_nil)) (pg_name (i := 6) sc_lexpression.nd rfl (Or.inl rfl)) (pss_one (ps_if (pt_M (PW.pt (pw_or (pt_cmpR op_lt (pv 4) pe_int (nomark _)) (pw_or1 (PW.pt (pw_and (pt_cmpR op_gt (pv 5) pe_int (nomark _)) (pw_and1 (pt_cmpR op_eq (pe_call G_ldraw hr_ldraw (by rfl) T.m_ldraw T.F_ldraw.kp T.b_ldraw .nil pass0 (pa_cons (pv 0) (pa_cons pe_int pa_nil))) pe_int (nomark _))))))))) (pss_cons (ps_expr (pe_bm PySem.F.plainAttrs_list PySem.F.slot_list_append PySem.F.type_list_append mt_append (pv 3) (pa_cons (pe_call G_litem hr_litem (by rfl) T.m_litem T.F_litem.kp T.b_litem .nil pass0 (pa_cons (pv 0) pa_nil)) pa_nil)))
      (pss_one (ps_par (i := 4) (j := 5) (by rfl) sc_lexpression.nd rfl rfl (by decide) rfl rfl (pa_cons (pe_op op_add (pv 4) pe_int) (pa_cons (pe_op op_sub (pv 5) pe_int) pa_nil)) (by rfl)))) (pss_cons (ps_expr (pe_bm PySem.F.plainAttrs_list PySem.F.slot_list_append PySem.F.type_list_append mt_append (pv 3) (pa_cons (pe_ix ix_str pe_str (pe_call G_ldraw hr_ldraw (by rfl) T.m_ldraw T.F_ldraw.kp T.b_ldraw .nil pass0 (pa_cons (pv 0) (pa_cons pe_int pa_nil))) (fun _ _ => rfl)) pa_nil)))
      (pss_one (ps_set (i := 4) sc_lexpression.nd rfl (Or.inl rfl) (pe_op op_sub (pv 4) pe_int)))))))
      (pss_one (ps_ret (pe_callTy call_tuple_of (by rfl) T.z_tuple (by decide +kernel) (pa_cons (pv 3) pa_nil))))))), ?_⟩
    refine ⟨_, rfl, _, rfl, _, _, rfl, rfl, p, c, ns, n, (most : Int) + 1, rfl, hP, by omega, by omega, by omega, fun H1 d1 n1 k1 P1 d1a d1b n1a n1b => ?_⟩
    obtain ⟨sn, rfl⟩ := Int.eq_ofNat_of_zero_le d1a
    refine ⟨Nat.zero_le _, fun l hl => ⟨_, rfl, _, _, rfl, rfl, _, _, _, rfl, ?_⟩⟩
    have hHl : H l = none := k1.free (P1.ni hl) hl
    refine ⟨_, rfl, _, _, rfl, rfl, .inl ⟨by decide, by decide⟩, _, _, rfl, rfl, 2 * (sn : Int) + 1, rfl, by omega, by omega, for_range (lo := 0) (n := (2 * (sn : Int) + 1).toNat) (fun j σ' H' => ∃ (its : List Im) (h pu : Nat) (y : Option V) (n' : Int),
        σ' = [some (.ref p), some (.int most), some (.int sn), some (.ref l), some (.int (h : Int)), some (.int ((sn : Int) + 1 - pu)), y] ∧ Kp p H H' ∧ Pen H' p c ns n' ∧ n ≤ n' ∧ n' ≤ n + 1 + 6 * j ∧ H' l = some (.lst (its.map Im.toV)) ∧
        (∀ m ∈ its, m.ok) ∧ its.length = j ∧ ht 0 its = some h ∧ (h : Int) = 2 * pu - j ∧ pu ≤ sn + 1 ∧ (j = 0 ∨ 1 ≤ h))
      ⟨[], 0, 0, none, n1, rfl, k1.trans (Kp.new hl), P1.new hl, by omega, by omega, upd_same, (fun m hm => (List.not_mem_nil hm).elim), rfl, rfl, rfl, by omega, Or.inl rfl⟩ ?_ ?_⟩
    · rintro j _ H2 hj ⟨its, h, pu, y, n2, rfl, k2, P2, n2a, n2b, hl2, hok, hlen, hht, hh, hpu, hj1⟩
      have nlp : l ≠ p := P1.ni hl
      have hsz : (its.map Im.toV).length < sizeLine := by
        rw [List.length_map]
        exact small1000 (by omega)
      -- the test, with a word
      refine ⟨fun b H' => ∃ n' : Int, Kp p H2 H' ∧ Pen H' p c ns n' ∧ n2 ≤ n' ∧ n' ≤ n2 + 1 ∧ (b = true → pu < sn + 1) ∧ (b = false → 2 ≤ h), ?_, ?_⟩
      · refine ⟨_, rfl, _, _, rfl, rfl, _, rfl, ite2 (fun h1 => ?_) (fun h1 => ?_)⟩
        · have h1' : (h : Int) < 2 := of_decide_eq_true h1
          exact ⟨n2, Kp.refl _ _, P2, by omega, by omega, (fun _ => by omega), (fun z => nomatch z)⟩
        · have h1' : ¬ (h : Int) < 2 := fun z => h1 (decide_eq_true z)
          refine ⟨_, rfl, _, _, rfl, rfl, _, rfl, ite2 (fun h2 => ?_) (fun h2 => ⟨n2, Kp.refl _ _, P2, by omega, by omega, (fun z => nomatch z), (fun _ => by omega)⟩)⟩
          have h2' : 0 < (sn : Int) + 1 - pu := of_decide_eq_true h2
          refine ⟨_, rfl, p, c, ns, n2, 2, rfl, P2, by decide, by decide, by omega, fun H3 d3 n3 k3 P3 d3a d3b n3a n3b => ?_⟩
          exact ⟨rfl, _, rfl, n3, k3, P3, by omega, by omega, (fun _ => by omega), (fun _ => by omega)⟩
      · rintro b H3 ⟨n3, k3, P3, n3a, n3b, hb1, hb2⟩
        have hl3 := k3 _ _ nlp hl2
        cases b with
        | true =>
          have hpu' := hb1 rfl
          refine iteT ⟨_, rfl, .inl ⟨rfl, _, SqL.of hl3⟩, _, rfl, p, c, ns, n3, rfl, P3, by omega, fun H4 m n4 k4 P4 n4a n4b hm hs => ?_⟩
          have hl4 := k4 _ _ nlp hl3
          refine ⟨l, _, _, rfl, rfl, hl4, hsz, ?_⟩
          refine ⟨_, rfl, _, _, rfl, rfl, _, rfl, _, _, rfl, rfl, _, _, rfl, ?_⟩
          refine ⟨its ++ [m], h + 1, pu + 1, some (.int (0 + (j : Int))), n4, ?_, ?_, ?_, by omega, by omega, ?_, ?_, ?_, ?_, by omega, by omega, .inr (by omega)⟩
          · have e1 : (sn : Int) + 1 - pu - 1 = (sn : Int) + 1 - ((pu + 1 : Nat) : Int) := by omega
            show [some (V.ref p), some (V.int most), some (V.int sn), some (V.ref l), some (V.int ((h : Int) + 1)), some (V.int ((sn : Int) + 1 - pu - 1)), some (V.int (0 + (j : Int)))] = _
            rw [e1]
            rfl
          · exact Kp.mut ((k2.trans k3).trans k4) hHl
          · obtain ⟨r, g1, g2, g3, g4⟩ := P4
            have nlc : c ≠ l := fun z => by
              rw [z] at g2
              have hc0 := hP.same (Same.refl H)
              obtain ⟨r0, _, c2, _⟩ := hP
              rw [z, hHl] at c2
              cases c2
            exact ⟨r, (upd_ne nlp.symm).trans g1, (upd_ne nlc).trans g2, g3, g4⟩
          · rw [upd_same, List.map_append]
            rfl
          · intro x hx
            rcases List.mem_append.mp hx with hx | hx
            · exact hok x hx
            · rw [List.mem_singleton] at hx
              rw [hx]
              exact hm
          · rw [List.length_append, hlen]
            rfl
          · rw [ht_snoc, hht]
            show (if m.sgn = true then _ else some (h + 1)) = _
            rw [hs]
            rfl
        | false =>
          have hh2 := hb2 rfl
          refine iteF ⟨_, rfl, .inl ⟨rfl, _, SqL.of hl3⟩, _, rfl, p, c, ns, n3, 9, rfl, P3, by decide, by decide, by omega, fun H4 d4 n4 k4 P4 d4a d4b n4a n4b => ?_⟩
          obtain ⟨i, rfl⟩ := Int.eq_ofNat_of_zero_le d4a
          have hi9 : i < 9 := by omega
          have hl4 := k4 _ _ nlp hl3
          refine ⟨_, _, _, rfl, rfl, (by decide +kernel), sg_at i hi9, l, _, _, rfl, rfl, hl4, hsz, ?_⟩
          refine ⟨_, rfl, _, _, rfl, rfl, ?_⟩
          refine ⟨its ++ [.si i], h - 1, pu, some (.int (0 + (j : Int))), n4, ?_, ?_, ?_, by omega, by omega, ?_, ?_, ?_, ?_, by omega, by omega, .inr (by omega)⟩
          · have e1 : (h : Int) - 1 = ((h - 1 : Nat) : Int) := by omega
            show [some (V.ref p), some (V.int most), some (V.int sn), some (V.ref l), some (V.int ((h : Int) - 1)), some (V.int ((sn : Int) + 1 - pu)), some (V.int (0 + (j : Int)))] = _
            rw [e1]
          · exact Kp.mut ((k2.trans k3).trans k4) hHl
          · obtain ⟨r, g1, g2, g3, g4⟩ := P4
            have nlc : c ≠ l := fun z => by
              obtain ⟨r0, _, c2, _⟩ := hP
              rw [z, hHl] at c2
              cases c2
            exact ⟨r, (upd_ne nlp.symm).trans g1, (upd_ne nlc).trans g2, g3, g4⟩
          · rw [upd_same, List.map_append, List.map_singleton]
            show some (HO.lst (its.map Im.toV ++ [V.str ⟨#[codes.getD i 0]⟩])) = some (HO.lst (its.map Im.toV ++ [V.str (nm i)]))
            rw [nm_code i hi9]
          · intro x hx
            rcases List.mem_append.mp hx with hx | hx
            · exact hok x hx
            · rw [List.mem_singleton] at hx
              rw [hx]
              exact hi9
          · rw [List.length_append, hlen]
            rfl
          · rw [ht_snoc, hht]
            show (if 2 ≤ h then some (h - 1) else none) = _
            rw [if_pos hh2]
    · rintro _ H2 ⟨its, h, pu, y, n2, rfl, k2, P2, n2a, n2b, hl2, hok, hlen, hht, hh, hpu, hj1⟩
      have e1 : h = 1 := by omega
      subst e1
      refine ⟨_, rfl, _, _, rfl, .inl ⟨SqL.of hl2, fun t ht' => ?_⟩⟩
      refine q _ t its n2 (k2.trans (Kp.new ht')) (P2.new ht') (by omega) (by omega) (k2.free (P2.ni ht') ht') upd_same ⟨hok, hht⟩ (by omega) (fun z => ?_)
      rw [z] at hlen
      rw [List.length_nil] at hlen
      omega
theorem ok_lisexp (T : Txt K w mg f fd ob) : FnOk P w K mg base CX0 1 (f 30) (fd 30) ["_law_thing"] sp_isexpA := by
  refine T.F_lisexp.ok sc_lisexp (fun vs H Q E h => ?_) (fun cdv A outer s H vs Q E hr h => ?_)
  · obtain ⟨x, rfl, _⟩ := h
    rfl
  · obtain ⟨x, rfl, hx0, hx1, q⟩ := h
    refine ⟨_, (pss_cons (ps_if (PW.pt (pw_or (pt_not (pt_val (pe_callB call_isi (by rfl) T.z_isinstance (by decide +kernel) (pa_cons (pv 0) (pa_cons (pe_bltn (v := .ty "tuple") (by rfl) T.z_tuple (by decide +kernel) rfl) pa_nil))))) (pw_or1 (pt_not (pt_chain op_le op_le pe_int (pe_callB call_len_seq (by rfl) T.z_len PySem.boot_len (pa_cons (pv 0) pa_nil)) pe_int))))) (pss_one (ps_ret pe_bl)) pss_nil)
      (pss_cons (ps_set (i := 1) sc_lisexp.nd rfl (Or.inl rfl) pe_int)
      (pss_cons (ps_for PassesOwn.never rfl (pi_tup (pv 0)) (pg_name (i := 2) sc_lisexp.nd rfl (Or.inl rfl)) (pss_cons (ps_if (pt_val (pe_callB call_isi (by rfl) T.z_isinstance (by decide +kernel) (pa_cons (pv 2) (pa_cons (pe_bltn (v := .ty "str") (by rfl) T.z_str (by decide +kernel) rfl) pa_nil)))) (pss_cons (ps_if (PW.pt (pw_or (pt_cmpR op_ne (pe_callB call_len_str (by rfl) T.z_len PySem.boot_len (pa_cons (pv 2) pa_nil)) pe_int (nomark _)) (pw_or1 (pt_cmpR op_notIn_sign (pv 2) pe_str (by rfl))))) (pss_one (ps_ret pe_bl)) pss_nil)
      (pss_one (ps_set (i := 1) sc_lisexp.nd rfl (Or.inl rfl) (pe_op op_add (pv 1) (pe_ix ix_list (pe_lst (pa_cons pe_int (pa_cons (pe_un un_neg pe_int) pa_nil))) (pe_callTy call_int1 (by rfl) T.z_int (by decide +kernel) (pa_cons (pe_cmpR op_in_sign (pv 2) pe_str (by rfl)) pa_nil)) (fun _ _ => rfl)))))) (pss_one (ps_if (PW.pt (pw_or (pt_val (pe_callB call_isi (by rfl) T.z_isinstance (by decide +kernel) (pa_cons (pv 2) (pa_cons (pe_bltn (v := .ty "bool") (by rfl) T.z_bool (by decide +kernel) rfl) pa_nil)))) (pw_or (pt_not (pt_val (pe_callB call_isi (by rfl) T.z_isinstance (by decide +kernel) (pa_cons (pv 2) (pa_cons (pe_bltn (v := .ty "int") (by rfl) T.z_int (by decide +kernel) rfl) pa_nil))))) (pw_or1 (pt_not (pt_chain op_le op_le (pe_un un_neg pe_int) (pv 2) pe_int)))))) (pss_one (ps_ret pe_bl)) (pss_one (ps_set (i := 1) sc_lisexp.nd rfl (Or.inl rfl) (pe_op op_add (pv 1) pe_int))))))
      (pss_one (ps_if (pt_cmpR op_lt (pv 1) pe_int (nomark _)) (pss_one (ps_ret pe_bl)) pss_nil))))
      (pss_one (ps_ret (pe_cmpR op_eq (pv 1) pe_int (nomark _))))))), ?_⟩
    have no : exT H x = false → Q (.bl false) H := fun e => by
      have q2 := q H (Same.refl H)
      rw [e] at q2
      exact q2
    cases x with
    | non => exact ⟨_, rfl, _, _, _, _, false, rfl, .ty _, .base .non, kit_ty (by decide +kernel), _, rfl, iteT (no rfl)⟩
    | bl b => exact ⟨_, rfl, _, _, _, _, false, rfl, .ty _, .base (.bl _), kit_ty (by decide +kernel), _, rfl, iteT (no rfl)⟩
    | int i => exact ⟨_, rfl, _, _, _, _, false, rfl, .ty _, .base (.int _), kit_ty (by decide +kernel), _, rfl, iteT (no rfl)⟩
    | str z => exact ⟨_, rfl, _, _, _, _, false, rfl, .ty _, .base (.str _), kit_ty (by decide +kernel), _, rfl, iteT (no rfl)⟩
    | byt b => exact hx0.elim
    | flt b => exact hx0.elim
    | ty n => exact hx0.elim
    | ref t =>
      rcases hx0 with ⟨xs, ht⟩ | ⟨xs, ht⟩ | ⟨xs, ht⟩
      rotate_left
      · exact ⟨_, rfl, _, _, _, _, false, rfl, .ty _, .base (.lst ht), kit_ty (by decide +kernel), _, rfl, iteT (no (exT_lst ht))⟩
      · exact ⟨_, rfl, _, _, _, _, false, rfl, .ty _, .base (.dK ht), kit_ty (by decide +kernel), _, rfl, iteT (no (exT_dK ht))⟩
      · obtain ⟨hlen, hx⟩ := hx1 t xs rfl ht
        rw [exT_tup ht] at q
        have no : ∀ H', Same H H' → exV xs = false → Q (.bl false) H' := fun H' s' e => by
          have q2 := q H' s'
          rw [e] at q2
          exact q2
        refine ⟨_, rfl, _, _, _, _, true, rfl, .ty _, .base (.tup ht), kit_ty (by decide +kernel), _, rfl, iteF ?_⟩
        refine ⟨_, rfl, _, _, rfl, .inr (SqT.of ht), _, _, rfl, rfl, _, rfl, ?_⟩
        by_cases h1 : 1 ≤ xs.length
        rotate_left
        · refine iteB0 (decide_eq_false (by omega)) ⟨_, rfl, iteT (no H (Same.refl H) (exV_ht ?_))⟩
          have e : xs = [] := List.length_eq_zero_iff.mp (by omega)
          rw [e]
          decide
        refine iteB1 (decide_eq_true (by omega)) ⟨_, _, rfl, rfl, _, rfl, ?_⟩
        by_cases h2 : xs.length ≤ 15
        rotate_left
        · refine iteB1 (by rw [decide_eq_false (by omega)]; rfl) (no H (Same.refl H) ?_)
          unfold exV
          rw [decide_eq_false h2]
          rfl
        refine iteB0 (by rw [decide_eq_true (by omega)]; rfl) ?_
        refine ⟨_, rfl, t, rfl, ⟨_, SqT.of ht⟩, for_tup (xs := xs) (fun i σ' H' => ∃ (h : Nat) (y : Option V), σ' = [some (.ref t), some (.int (h : Int)), y] ∧ Same H H' ∧ (xs.take i).all okV = true ∧ htV 0 xs = htV h (xs.drop i))
          ⟨0, none, rfl, Same.refl H, rfl, rfl⟩ (fun i σ' H' _ ⟨_, _, _, s, _⟩ => SqT.of (s _ _ ht)) ?_ ?_⟩
        · rintro i x _ H1 hi ⟨h, y, rfl, s1, hall, hh⟩
          have hl : i < xs.length := (List.getElem?_eq_some_iff.mp hi).1
          have hm : x ∈ xs := List.mem_of_getElem? hi
          have hk : Kn H1 x := (hx x hm).same s1
          have ed : xs.drop i = x :: xs.drop (i + 1) := by
            rw [List.drop_eq_getElem_cons hl]
            congr 1
            exact (List.getElem?_eq_some_iff.mp hi).2
          rw [ed] at hh
          have et : okV x = true → (xs.take (i + 1)).all okV = true := fun e => by
            rw [List.take_add_one, hi, List.all_append, hall]
            show (true && (okV x && true)) = true
            rw [e]
            rfl
          have ns : sgV x = false → htV 0 xs = htV (h + 1) (xs.drop (i + 1)) := fun e => by
            rw [hh]
            show (if sgV x = true then _ else htV (h + 1) (xs.drop (i + 1))) = _
            rw [e]
            rfl
          have bad := fun (e : okV x = false) => exV_bad hm e
          cases x with
          | non => exact ⟨_, rfl, _, _, _, _, false, rfl, .ty _, .base .non, kit_ty (by decide +kernel), _, rfl, iteF ⟨_, rfl, _, _, _, _, false, rfl, .ty _, .base .non, kit_ty (by decide +kernel), _, rfl, iteF ⟨_, rfl, _, _, _, _, false, rfl, .ty _, .base .non, kit_ty (by decide +kernel), _, rfl, iteT (no _ s1 (bad rfl))⟩⟩⟩
          | bl b => exact ⟨_, rfl, _, _, _, _, false, rfl, .ty _, .base (.bl _), kit_ty (by decide +kernel), _, rfl, iteF ⟨_, rfl, _, _, _, _, true, rfl, .ty _, .base (.bl _), kit_ty (by decide +kernel), _, rfl, iteT (no _ s1 (bad rfl))⟩⟩
          | byt b => exact hk.elim
          | flt b => exact hk.elim
          | ty n => exact hk.elim
          | ref a =>
            rcases hk with ⟨ys, e⟩ | ⟨ys, e⟩ | ⟨ys, e⟩
            · exact ⟨_, rfl, _, _, _, _, false, rfl, .ty _, .base (.tup e), kit_ty (by decide +kernel), _, rfl, iteF ⟨_, rfl, _, _, _, _, false, rfl, .ty _, .base (.tup e), kit_ty (by decide +kernel), _, rfl, iteF ⟨_, rfl, _, _, _, _, false, rfl, .ty _, .base (.tup e), kit_ty (by decide +kernel), _, rfl, iteT (no _ s1 (bad rfl))⟩⟩⟩
            · exact ⟨_, rfl, _, _, _, _, false, rfl, .ty _, .base (.lst e), kit_ty (by decide +kernel), _, rfl, iteF ⟨_, rfl, _, _, _, _, false, rfl, .ty _, .base (.lst e), kit_ty (by decide +kernel), _, rfl, iteF ⟨_, rfl, _, _, _, _, false, rfl, .ty _, .base (.lst e), kit_ty (by decide +kernel), _, rfl, iteT (no _ s1 (bad rfl))⟩⟩⟩
            · exact ⟨_, rfl, _, _, _, _, false, rfl, .ty _, .base (.dK e), kit_ty (by decide +kernel), _, rfl, iteF ⟨_, rfl, _, _, _, _, false, rfl, .ty _, .base (.dK e), kit_ty (by decide +kernel), _, rfl, iteF ⟨_, rfl, _, _, _, _, false, rfl, .ty _, .base (.dK e), kit_ty (by decide +kernel), _, rfl, iteT (no _ s1 (bad rfl))⟩⟩⟩
          | int k =>
            refine ⟨_, rfl, _, _, _, _, false, rfl, .ty _, .base (.int _), kit_ty (by decide +kernel), _, rfl, iteF ⟨_, rfl, _, _, _, _, false, rfl, .ty _, .base (.int _), kit_ty (by decide +kernel), _, rfl, iteF ⟨_, rfl, _, _, _, _, true, rfl, .ty _, .base (.int _), kit_ty (by decide +kernel), _, rfl, iteF ?_⟩⟩⟩
            refine ⟨_, rfl, _, rfl, _, _, rfl, rfl, _, rfl, ?_⟩
            by_cases g1 : -32768 ≤ k
            rotate_left
            · refine iteB0 (decide_eq_false g1) ⟨_, rfl, iteT (no _ s1 (bad ?_))⟩
              show (decide (-32768 ≤ k ∧ k ≤ 32767) || _ || _) = false
              rw [decide_eq_false (fun z => g1 z.1)]
              rfl
            refine iteB1 (decide_eq_true g1) ⟨_, _, rfl, rfl, _, rfl, ?_⟩
            by_cases g2 : k ≤ 32767
            rotate_left
            · refine iteB1 (by rw [decide_eq_false g2]; rfl) (no _ s1 (bad ?_))
              show (decide (-32768 ≤ k ∧ k ≤ 32767) || _ || _) = false
              rw [decide_eq_false (fun z => g2 z.2)]
              rfl
            refine iteB0 (by rw [decide_eq_true g2]; rfl) ⟨_, rfl, _, _, rfl, rfl, _, rfl, _, _, rfl, rfl, _, rfl, iteB0 (decide_eq_false (by omega)) ?_⟩
            refine ⟨h + 1, _, rfl, s1, et ?_, ns rfl⟩
            show (decide (-32768 ≤ k ∧ k ≤ 32767) || _ || _) = true
            rw [decide_eq_true ⟨g1, g2⟩]
            rfl
          | str z =>
            refine ⟨_, rfl, _, _, _, _, true, rfl, .ty _, .base (.str _), kit_ty (by decide +kernel), _, rfl, iteT ?_⟩
            refine ⟨_, rfl, z, rfl, len_size hk, rfl, _, rfl, ?_⟩
            by_cases g1 : z.length = 1
            rotate_left
            · refine iteB1 (by rw [decide_eq_false (fun e => g1 (by have := V.int.inj e; omega))]; rfl) (no _ s1 (bad ?_))
              show (false || ltV (.str z) || sgV (.str z)) = false
              rw [lt_len g1, sg_len g1]
              rfl
            obtain ⟨cc, rfl⟩ := one_code g1
            refine iteNS (by rw [g1]; rfl) ⟨_, rfl, cc, _, rfl, rfl, _, rfl, ?_⟩
            rw [all_mem]
            cases eo : (ltV (.str ⟨#[cc]⟩) || sgV (.str ⟨#[cc]⟩)) with
            | false =>
              refine iteT (no _ s1 (bad ?_))
              show (false || ltV (.str ⟨#[cc]⟩) || sgV (.str ⟨#[cc]⟩)) = false
              rw [Bool.false_or, eo]
            | true =>
              have eok : okV (.str ⟨#[cc]⟩) = true := by
                show (false || ltV (.str ⟨#[cc]⟩) || sgV (.str ⟨#[cc]⟩)) = true
                rw [Bool.false_or, eo]
              refine iteF ⟨_, rfl, _, rfl, (show 2 ≤ sizeLine by decide), fun l hl => ?_⟩
              refine ⟨_, rfl, cc, _, rfl, rfl, .inr ⟨_, rfl, ?_⟩⟩
              cases es : sgV (.str ⟨#[cc]⟩) with
              | false =>
                refine ⟨_, _, _, _, rfl, rfl, SqL.of upd_same, (show _ = some (V.int 1) by rw [sign_mem, es]; rfl), _, _, rfl, rfl, _, rfl, _, _, rfl, rfl, _, rfl, iteB0 (decide_eq_false (by omega)) ?_⟩
                exact ⟨h + 1, _, rfl, s1.trans (Same.new hl), et eok, ns es⟩
              | true =>
                have hs : htV 0 xs = if 2 ≤ h then htV (h - 1) (xs.drop (i + 1)) else none := by
                  rw [hh]
                  show (if sgV (.str ⟨#[cc]⟩) = true then (if 2 ≤ h then htV (h - 1) (xs.drop (i + 1)) else none) else _) = _
                  rw [es]
                  rfl
                refine ⟨_, _, _, _, rfl, rfl, SqL.of upd_same, (show _ = some (V.int (-1)) by rw [sign_mem, es]; rfl), _, _, rfl, rfl, _, rfl, _, _, rfl, rfl, _, rfl, ?_⟩
                by_cases g2 : 2 ≤ h
                · rw [if_pos g2] at hs
                  refine iteB0 (decide_eq_false (by omega)) ⟨h - 1, some (V.str ⟨#[cc]⟩), ?_, s1.trans (Same.new hl), et eok, hs⟩
                  show [some (V.ref t), some (V.int ((h : Int) + -1)), some (V.str ⟨#[cc]⟩)] = _
                  rw [show (h : Int) + -1 = ((h - 1 : Nat) : Int) by omega]
                · rw [if_neg g2] at hs
                  exact iteB1 (decide_eq_true (by omega)) (no _ (s1.trans (Same.new hl)) (exV_ht (by rw [hs]; exact fun e => by cases e)))
        · rintro _ H1 ⟨h, y, rfl, s1, hall, hh⟩
          rw [List.take_length] at hall
          rw [List.drop_length] at hh
          have q2 := q H1 s1
          rw [exV_all hall h2, hh] at q2
          have e : decide (htV h [] = some 1) = decide (V.int (h : Int) = V.int 1) := by
            show decide (some h = some 1) = _
            by_cases g : h = 1
            · subst g
              rfl
            · rw [decide_eq_false (fun z => g (Option.some.inj z)), decide_eq_false (fun z => g (by have := V.int.inj z; omega))]
          rw [e] at q2
          exact ⟨_, rfl, rfl, q2⟩
--SPLIT
def sp_lread : Sp := fun vs H Q _ => ∃ z : Str, vs = [.str z] ∧ z.length ≤ 40000 ∧
  (exV ((Txt.split z " ").map itV) = true → ∀ (H' : Hp) (t : Addr), Same H H' → H' t = some (.tup ((Txt.split z " ").map itV)) → Q (.ref t) H') ∧
  (exV ((Txt.split z " ").map itV) = false → ∀ H' : Hp, Same H H' → Q (.str "none") H')
abbrev t1r (K : PySem.W.Frag) (C N1 N2 : Addr) : Addr → Value → Option Addr → TS := fun a cls d =>
  tSeq (tIfS (tTest (tOp (fun x y H Q => y = .non ∧ Q (.bl (decide (x = .non))) H) (tVar 1) (tC .non))) (tRet (tVar 2)) tNext)
    (tSeq (tIfS (tOr (tTest (tOp rNe (tXf a cls d C "nth" (tVar 1)) (tC (.int 0)))) (tOr (tB (tCB (rIsK K cls C a d) (tCons (tVar 1) (tCons (tTup (tCons (tC (.ref N1)) (tCons (tC (.ref N2)) tNil))) tNil)))) (tNot (tB (tCB (rIsK K cls C a d) (tCons (tVar 1) (tCons (tC (.ty "ValueError")) tNil))))))) (tRet (tC (.str "other"))) tNext)
      (tRet (tC (.str "none"))))
theorem xc_NoText (T : Txt K w mg f fd ob) : ExcC K (ob 1) := ⟨T.XF_NoText.ga, T.XF_NoText.gg, T.XF_NoText.exC, T.XF_NoText.hdC, T.q_cls, T.q_get, T.q_tks, T.q_mro⟩
theorem ok_lread (T : Txt K w mg f fd ob) : FnOk P w K mg base CX0 7 (f 23) (fd 23) ["_law_text"] sp_lread := by
  have G_readX := ok_readX (P := P) (base := base) T
  have xc := xc_NoText T
  refine T.F_lread.ok sc_lread (fun vs H Q E h => ?_) (fun cdv A outer s H vs Q E hr h => ?_)
  · obtain ⟨z, rfl, _⟩ := h
    rfl
  · obtain ⟨z, rfl, hz, q1, q2⟩ := h
    refine ⟨_, (pss_cons (ps_set (i := 1) sc_lread.nd rfl (Or.inl rfl) pe_non) (pss_cons (ps_set (i := 2) sc_lread.nd rfl (Or.inl rfl) pe_non)
      (pss_try_keep (i := 3) (tb := fun W => tAsg (tCallS (sp_readX (ob 1)) (WE W) (tCons (tVar 0) tNil)) (gName 2)) (ts := fun a cls d => tAsg (tVar 3) (gName 1)) (t1 := t1r K (ob 1) (ob 2) (ob 3)) (Wout := fun _ _ _ _ => False) rfl rfl sc_lread.nd rfl rfl ⟨rfl, by decide, Or.inl T.m_NoText⟩ takes0
        (fun W pn xe tk _ => pss_one (ps_set (i := 2) sc_lread.nd rfl (Or.inl rfl) (by exact (pe_callS G_readX hr rfl T.m_readexpression T.F_readexpression.kp T.b_readexpression (fun σ => passAt tk σ) (by exact (pa_cons (pv 0) pa_nil))))))
        (fun a oe cls d pn hz hf => pss_one (ps_set (i := 1) sc_lread.nd rfl (Or.inl rfl) (pv 3)))
        (pss_cons (ps_if (pt_cmpR op_isN (pv 1) pe_non (nomark _)) (pss_one (ps_ret (pv 2))) pss_nil) pss_never)
        (fun a oe cls d hz hf => pss_cons (ps_if (pt_cmpR op_isN (pv 1) pe_non (nomark _)) (pss_one (ps_ret (pv 2))) pss_nil)
          (pss_cons (ps_if (PW.pt (pw_or (pt_cmpR op_ne (pe_xfK T.XF_NoText T.XN_NoText_nth hz hf List.mem_cons_self (pv 1)) pe_int (nomark _))
              (pw_or (pt_val (pe_callB (id := "isinstance") (r := rIsK K cls (ob 1) a d) (by exact call_isK xc T.XC_NoText hz hf List.mem_cons_self) (by rfl) T.z_isinstance (by decide +kernel) (pa_cons (pv 1) (pa_cons (pe_tup (pa_cons (pe_glob (v := .ref (ob 2)) (by rfl) T.m_NoRow rfl) (pa_cons (pe_glob (v := .ref (ob 3)) (by rfl) T.m_NotAhead rfl) pa_nil))) pa_nil))))
                (pw_or1 (pt_not (pt_val (pe_callB (id := "isinstance") (r := rIsK K cls (ob 1) a d) (by exact call_isK xc T.XC_NoText hz hf List.mem_cons_self) (by rfl) T.z_isinstance (by decide +kernel) (pa_cons (pv 1) (pa_cons (pe_bltn (v := .ty "ValueError") (by rfl) T.z_ValueError (by decide +kernel) rfl) pa_nil))))))))) (pss_one (ps_ret pe_str)) pss_nil)
            (pss_one (ps_ret pe_str))))))), ?_⟩
    refine ⟨_, rfl, z, rfl, hz, fun he H1 t s1 _ h1 => ?_, fun he H1 d s1 h1 => ?_⟩
    · exact ⟨_, rfl, rfl, _, rfl, iteT ⟨_, rfl, q1 he _ t s1 h1⟩⟩
    · refine ⟨true, T.XE_NoText, fun _ a na => ?_, fun e => by cases e⟩
      refine ⟨_, rfl, ?_⟩
      refine ⟨_, rfl, rfl, _, rfl, iteF ?_⟩
      refine ⟨_, rfl, rfl, rfl, d, _, _, rfl, h1, rfl, rfl, _, rfl, iteF ?_⟩
      refine ⟨_, rfl, (show 2 ≤ sizeLine by decide), fun t2 ht2 => ?_⟩
      have s2 : Same H1 (upd H1 t2 (.tup [V.ref (ob 2), V.ref (ob 3)])) := Same.new ht2
      refine ⟨_, false, d, _, rfl, rfl, rfl, s2 _ _ h1, .inr ⟨t2, ob 2, ob 3, rfl, SqT.of upd_same, T.q_itw⟩, _, rfl, iteF ?_⟩
      refine ⟨_, rfl, _, true, d, _, rfl, rfl, rfl, s2 _ _ h1, .inl ⟨.type "ValueError", fun u hu => hu, T.q_ive⟩, _, rfl, iteF ?_⟩
      exact q2 he _ (s1.trans s2)
def sp_lnumin : Sp := fun vs H Q _ => ∃ z : Str, vs = [.str z, .int (-1)] ∧ z.length ≤ 100000 ∧ ∀ H' : Hp, Same H H' → Q (ov (numR (cp z))) H'
theorem ok_lnumin (T : Txt K w mg f fd ob) : FnOk P w K mg base CX0 1 (f 32) (fd 32) ["_law_word", "_law_least"] sp_lnumin := by
  refine T.F_lnumin.ok sc_lnumin (fun vs H Q E h => ?_) (fun cdv A outer s H vs Q E hr h => ?_)
  · obtain ⟨z, rfl, _⟩ := h
    rfl
  · obtain ⟨z, rfl, hz, q⟩ := h
    refine ⟨_, (pss_cons (ps_set (i := 2) sc_lnumin.nd rfl (Or.inl rfl) (pv 0))
      (C8.pss_cut (ps_if (PW.pt (pw_and (pt_cmpR op_lt (pv 1) pe_int (nomark _)) (pw_and1 (pt_cmpR op_eq (pe_slice sl_str (pv 0) po_none (po_some pe_int)) pe_str (nomark _))))) (pss_one (ps_set (i := 2) sc_lnumin.nd rfl (Or.inl rfl) (pe_slice sl_str (pv 0) (po_some pe_int) po_none))) pss_nil)
      (C8.pss_cut (ps_if (PW.pt (pw_or (pt_cmpR op_eq (pv 2) pe_str (nomark _)) (pw_or (pt_cmpR op_gt (pe_callB call_len_str (by rfl) T.z_len PySem.boot_len (pa_cons (pv 2) pa_nil)) pe_int (nomark _)) (pw_or1 (pt_cmpR (op_neP hr.units) (pe_lc (own := [("_law_one", 3)]) (g := (gName 3)) (tt := (tTest (tOp (fun x y H Q => ∃ (c : Nat) (z : Str), x = .str ⟨#[c]⟩ ∧ y = .str z ∧ Q (.bl (!decide (c ∈ z.cps.toList))) H) (tVar 3) (tC (.str "0123456789"))))) (te := (tVar 3)) (by rfl) sc_lnumin.nd (pi_str (pv 2)) (blkOk_by (own := [("_law_one", 3)]) (N := N_lnumin) (sc := defScope s_lnumin) (by decide +kernel)) (fun _ _ _ _ _ => (pg_name (i := 3) sc_lnumin.nd rfl (Or.inl rfl))) (fun _ _ _ _ _ => (pts_one (pt_cmpR op_notIn_sign (pv 3) pe_str (by rfl)))) (fun _ _ _ _ _ => (pv 3))) (pe_lst pa_nil) (nomark _)))))) (pss_one (ps_ret pe_non)) pss_nil)
      (pss_cons (ps_set (i := 4) sc_lnumin.nd rfl (Or.inl rfl) (pe_callTy call_int_str (by rfl) T.z_int (by decide +kernel) (pa_cons (pv 0) pa_nil)))
      (pss_one (ps_ret (pe_ix ix_list (pe_lst (pa_cons pe_non (pa_cons (pv 4) pa_nil))) (pe_callTy call_int1 (by rfl) T.z_int (by decide +kernel) (pa_cons (pe_cmpR op_eq (pe_callTy call_str_int (by rfl) T.z_str (by decide +kernel) (pa_cons (pv 4) pa_nil)) (pv 0) (nomark _)) pa_nil)) (fun _ _ => rfl)))))))), ?_⟩
    refine ⟨_, rfl, ?_⟩
    refine ⟨fun σ' H' => ∃ fz : Str, σ' = [some (.str z), some (.int (-1)), some (.str fz), none, none] ∧ H = H' ∧ cp fz = figs (cp z) ∧ fz.length ≤ 100000, ?_, ?_⟩
    · refine ⟨_, rfl, _, _, rfl, rfl, _, rfl, iteT ⟨_, rfl, 1, rfl, z, rfl, len_size hz, rfl, _, rfl, ?_⟩⟩
      rw [str_eq, cp_cutTo1, cp_dash]
      by_cases g : (cp z).head? = some 45
      · have e : (cp z).take 1 = [45] := by
          cases e : cp z with
          | nil =>
            rw [e] at g
            cases g
          | cons c r =>
            rw [e] at g
            rw [show c = 45 from Option.some.inj g]
            rfl
        refine iteB1 (decide_eq_true e) ⟨_, rfl, 1, rfl, z, rfl, len_size hz, cutS z (some 1) none, rfl, rfl, ?_, Nat.le_trans (cutS_length _ _ _) hz⟩
        rw [cp_cut1]
        exact (if_pos g).symm
      · refine iteB0 (decide_eq_false fun e => g ?_) ⟨z, rfl, rfl, (if_neg g).symm, hz⟩
        cases ez : cp z with
        | nil =>
          rw [ez] at e
          cases e
        | cons c r =>
          rw [ez] at e
          rw [show c = 45 from (List.cons.inj e).1]
          rfl
    rintro _ _ ⟨fz, rfl, rfl, hfz, hfl⟩
    have none_ : digL (cp fz) = false → ∀ H' : Hp, Same H H' → Q .non H' := fun e H' s' => by
      have q2 := q H' s'
      rw [numR_bad (by rw [← hfz]; exact e)] at q2
      exact q2
    refine ⟨fun σ' H' => ∃ y3 : Option V, σ' = [some (.str z), some (.int (-1)), some (.str fz), y3, none] ∧ Same H H' ∧ digL (cp fz) = true, ?_, ?_⟩
    · refine ⟨_, rfl, rfl, _, rfl, ?_⟩
      rw [str_eq, cp_none]
      by_cases g1 : cp fz = []
      · refine iteB1 (decide_eq_true g1) (none_ ?_ H (Same.refl H))
        rw [g1]
        rfl
      refine iteB0 (decide_eq_false g1) ⟨_, rfl, fz, rfl, len_size hfl, _, _, rfl, rfl, _, rfl, ?_⟩
      by_cases g2 : 9 < fz.length
      · refine iteB1 (decide_eq_true (by omega)) (none_ ?_ H (Same.refl H))
        unfold digL
        rw [decide_eq_false (show ¬ (cp fz).length ≤ 9 by rw [← cp_len]; omega), Bool.and_false]
      refine iteB0 (decide_eq_false (by omega)) ⟨_, rfl, fz, rfl, fun D nD => ?_⟩
      refine lc_it walk_str (fun i H' => ∃ ks : List Nat, Same H H' ∧ H' D = some (.lst (chV ks)) ∧ (decide (ks = []) = ((cp fz).take i).all (fun c => decide (48 ≤ c) && decide (c ≤ 57))) ∧ ks.length ≤ i)
        ⟨[], Same.new nD, upd_same, rfl, Nat.le_refl _⟩ (fun _ _ _ _ => trivial) ?_ ?_
      · rintro i x H1 _ hi ⟨ks, s1, hD, hks, hkl⟩ ⟨rfl, c, hc, rfl⟩
        have hc2 : (cp fz)[i]? = some c := by
          rw [Array.getElem?_toList]
          exact hc
        have et : (cp fz).take (i + 1) = (cp fz).take i ++ [c] := by
          rw [List.take_add_one, hc2]
          rfl
        have hi9 : i < 10 := by
          have : i < (cp fz).length := (List.getElem?_eq_some_iff.mp hc2).1
          rw [← cp_len] at this
          omega
        refine ⟨rfl, _, rfl, c, _, rfl, rfl, _, rfl, ?_⟩
        rw [fig_mem]
        cases e : (decide (48 ≤ c) && decide (c ≤ 57)) with
        | true =>
          refine iteF ⟨ks, s1, hD, ?_, by omega⟩
          rw [et, List.all_append, ← hks]
          show _ = (_ && ((decide (48 ≤ c) && decide (c ≤ 57)) && true))
          rw [e]
          simp
        | false =>
          refine iteT ⟨_, rfl, _, hD, ?_, ks ++ [c], Same.mut s1 nD, ?_, ?_, ?_⟩
          · show (ks.map _).length < sizeLine
            rw [List.length_map]
            exact small1000 (by omega)
          · rw [upd_same]
            show some (HO.lst (chV ks ++ [V.str ⟨#[c]⟩])) = some (HO.lst (List.map _ (ks ++ [c])))
            rw [List.map_append]
            rfl
          · rw [et, List.all_append]
            show _ = (_ && ((decide (48 ≤ c) && decide (c ≤ 57)) && true))
            rw [e]
            simp
          · rw [List.length_append, List.length_singleton]
            omega
      · rintro H1 ⟨ks, s1, hD, hks, hkl⟩
        have hks2 : decide (ks = []) = (cp fz).all (fun c => decide (48 ≤ c) && decide (c ≤ 57)) := by
          rw [hks]
          congr 1
          exact List.take_length
        refine ⟨Nat.zero_le _, fun l0 hl0 => ?_⟩
        obtain ⟨p1, p2⟩ := chPlain ks
        refine ⟨.list (chD ks), .list [], .lst (SqL.of (Same.new hl0 _ _ hD)) (dpCh ks), .lst (SqL.of upd_same) .nil, p1, rfl, (show PyData.depthAll (chD ks) + 1 ≤ 60 by rw [p2]; decide), _, rfl, ?_⟩
        cases ks with
        | nil =>
          refine iteF ⟨_, rfl, s1.trans (Same.new hl0), ?_⟩
          unfold digL
          rw [← hks2, decide_eq_true (show (cp fz).length ≤ 9 by rw [← cp_len]; omega)]
          cases e : cp fz with
          | nil => exact absurd e g1
          | cons c r => rfl
        | cons k r =>
          refine iteT (none_ ?_ _ (s1.trans (Same.new hl0)))
          unfold digL
          rw [← hks2, decide_eq_false (by simp), Bool.and_false]
          rfl
    rintro _ H1 ⟨y3, rfl, s1, hdig⟩
    rw [hfz] at hdig
    obtain ⟨a, ha1, ha2, ha3⟩ := numR_good hdig
    have hl640 : z.length ≤ 640 := by
      obtain ⟨_, _, d3⟩ := dig_all hdig
      rw [cp_len]
      unfold figs at d3
      split at d3
      · rw [List.length_drop] at d3
        omega
      · omega
    refine ⟨_, rfl, z, a, rfl, ha1, hl640, ?_⟩
    refine ⟨_, rfl, (show 2 ≤ sizeLine by decide), fun l hl => ?_⟩
    refine ⟨_, rfl, a, rfl, (Nat.lt_of_lt_of_le (PySem.Flt.log2_lt_of (by decide) (Nat.lt_of_lt_of_le ha2 (show 10 ^ 9 ≤ 2 ^ 30 by decide))) (by decide)), _, rfl, rfl, .inr ⟨_, rfl, ?_⟩⟩
    have q2 := q _ (s1.trans (Same.new (o := .lst [V.non, V.int a]) hl))
    rw [ha3] at q2
    rw [str_eq]
    cases e : decide (cp (Str.ofString (toString a)) = cp z) with
    | true =>
      rw [e] at q2
      exact ⟨_, _, _, _, rfl, rfl, SqL.of upd_same, (show atI [V.non, V.int a] ((1 : Nat) : Int) = some (V.int a) from atI_nat rfl), q2⟩
    | false =>
      rw [e] at q2
      exact ⟨_, _, _, _, rfl, rfl, SqL.of upd_same, (show atI [V.non, V.int a] ((0 : Nat) : Int) = some V.non from atI_nat rfl), q2⟩
theorem kn_itL {H : Hp} {z : Str} (h : z.length ≤ 100000) : Kn H (itL z) := by
  unfold itL
  split
  · exact h
  · cases numR (cp z) with
    | none => exact trivial
    | some a => exact trivial
def sp_lexprin : Sp := fun vs H Q _ => ∃ z : Str, vs = [.str z] ∧ z.length ≤ 40000 ∧
  (exV ((Txt.split z " ").map itV) = true → ∀ (H' : Hp) (t : Addr), Same H H' → H' t = some (.tup ((Txt.split z " ").map itV)) → Q (.ref t) H') ∧
  (exV ((Txt.split z " ").map itV) = false → ∀ H' : Hp, Same H H' → Q .non H')
theorem ok_lexprin (T : Txt K w mg f fd ob) : FnOk P w K mg base CX0 2 (f 34) (fd 34) ["_law_text"] sp_lexprin := by
  have G_lisexp := ok_lisexp (P := P) (base := base) T
  have G_lnumin := ok_lnumin (P := P) (base := base) T
  refine T.F_lexprin.ok sc_lexprin (fun vs H Q E h => ?_) (fun cdv A outer s H vs Q E hr h => ?_)
  · obtain ⟨z, rfl, _⟩ := h
    rfl
  · obtain ⟨z, rfl, hz, q1, q2⟩ := h
    have hr_lnumin := hr
    have hr_lisexp := hr
    obtain ⟨hq1, hq2⟩ := split_len z
    refine ⟨_, (pss_cons (ps_set (i := 1) sc_lexprin.nd rfl (Or.inl rfl) (pe_lst pa_nil))
      (pss_cons (ps_for PassesOwn.never rfl (pi_list (pe_split (pv 0) pe_str)) (pg_name (i := 2) sc_lexprin.nd rfl (Or.inl rfl)) (pss_one (ps_if (PW.pt (pw_and (pt_cmpR op_eq (pe_callB call_len_str (by rfl) T.z_len PySem.boot_len (pa_cons (pv 2) pa_nil)) pe_int (nomark _)) (pw_and1 (pt_cmpR op_in_sign (pv 2) pe_str (by rfl))))) (pss_one (ps_expr (pe_bm PySem.F.plainAttrs_list PySem.F.slot_list_append PySem.F.type_list_append mt_append (pv 1) (pa_cons (pv 2) pa_nil)))) (pss_one (ps_expr (pe_bm PySem.F.plainAttrs_list PySem.F.slot_list_append PySem.F.type_list_append mt_append (pv 1) (pa_cons (pe_call G_lnumin hr_lnumin (by rfl) T.m_lnumin T.F_lnumin.kp T.b_lnumin .nil pass0 (pa_cons (pv 2) (pa_cons (pe_un un_neg pe_int) pa_nil))) pa_nil)))))))
      (pss_one (ps_ret (pe_ix ix_list (pe_lst (pa_cons pe_non (pa_cons (pe_callTy call_tuple_of (by rfl) T.z_tuple (by decide +kernel) (pa_cons (pv 1) pa_nil)) pa_nil))) (pe_callTy call_int1 (by rfl) T.z_int (by decide +kernel) (pa_cons (pe_call G_lisexp hr_lisexp (by rfl) T.m_lisexp T.F_lisexp.kp T.b_lisexp .nil pass0 (pa_cons (pe_callTy call_tuple_of (by rfl) T.z_tuple (by decide +kernel) (pa_cons (pv 1) pa_nil)) pa_nil)) pa_nil)) (fun _ _ => rfl)))))), ?_⟩
    refine ⟨Nat.zero_le _, fun L nL => ?_⟩
    refine ⟨_, rfl, ⟨_, rfl⟩, z, _, rfl, rfl, by decide +kernel, Nat.le_trans (show z.length + 2 ≤ 100000 by omega) (by decide), fun l hl => ?_⟩
    have nlL : l ≠ L := fun e => by
      rw [e, upd_same] at hl
      cases hl
    have hlH : H l = none := by
      rw [upd_ne nlL] at hl
      exact hl
    refine ⟨l, rfl, ⟨_, SqL.of upd_same⟩, for_list (K := K) (a := l) (xs := (Txt.split z " ").map V.str) (fun i σ' H' => ∃ y : Option V, σ' = [some (.str z), some (.ref L), y] ∧ Same H H' ∧ H' l = some (.lst ((Txt.split z " ").map V.str)) ∧ H' L = some (.lst (((Txt.split z " ").take i).map itL)))
      ⟨none, rfl, (Same.new nL).trans (Same.new hl), upd_same, Same.new hl _ _ upd_same⟩ (fun i σ' H' _ ⟨_, _, _, h, _⟩ => SqL.of h) ?_ ?_⟩
    · rintro i x _ H1 hi ⟨y, rfl, s1, h1, hL⟩
      rw [List.getElem?_map] at hi
      cases ew : (Txt.split z " ")[i]? with
      | none =>
        rw [ew] at hi
        cases hi
      | some ww =>
        rw [ew] at hi
        obtain rfl : V.str ww = x := Option.some.inj hi
        have hli : i < (Txt.split z " ").length := (List.getElem?_eq_some_iff.mp ew).1
        have et : (Txt.split z " ").take (i + 1) = (Txt.split z " ").take i ++ [ww] := by
          rw [List.take_add_one, ew]
          rfl
        have hwl : ww.length ≤ 100000 := by
          have := hq2 ww (List.mem_of_getElem? ew)
          omega
        have hsz : (((Txt.split z " ").take i).map itL).length < sizeLine := by
          rw [List.length_map, List.length_take]
          exact Nat.lt_of_lt_of_le (show _ < 100000 by omega) (by decide)
        have fin : ∀ (H2 : Hp) (v : V), Same H1 H2 → v = itL ww → ∃ y : Option V, [some (V.str z), some (V.ref L), some (V.str ww)] = [some (.str z), some (.ref L), y] ∧ Same H (upd H2 L (.lst (((Txt.split z " ").take i).map itL ++ [v]))) ∧ (upd H2 L (.lst (((Txt.split z " ").take i).map itL ++ [v]))) l = some (.lst ((Txt.split z " ").map V.str)) ∧
            (upd H2 L (.lst (((Txt.split z " ").take i).map itL ++ [v]))) L = some (.lst (((Txt.split z " ").take (i + 1)).map itL)) := fun H2 v s2 hv => by
          refine ⟨_, rfl, Same.mut (s1.trans s2) nL, (upd_ne nlL).trans (s2 _ _ h1), ?_⟩
          rw [upd_same, et, List.map_append, hv]
          rfl
        have num : okV (.str ww) = false → itL ww = ov (numR (cp ww)) := fun e => by
          unfold itL
          rw [e]
          rfl
        refine ⟨_, rfl, ww, rfl, len_size hwl, rfl, _, rfl, ?_⟩
        by_cases g : ww.length = 1
        · obtain ⟨c, rfl⟩ := one_code g
          refine iteB1 (decide_eq_true (by rw [g]; rfl)) ⟨_, rfl, c, _, rfl, rfl, _, rfl, ?_⟩
          rw [all_mem]
          cases e : (ltV (.str ⟨#[c]⟩) || sgV (.str ⟨#[c]⟩)) with
          | true =>
            refine iteT ⟨_, rfl, .inl ⟨rfl, _, SqL.of hL⟩, _, rfl, L, _, _, rfl, rfl, hL, hsz, fin H1 _ (Same.refl _) ?_⟩
            unfold itL
            rw [if_pos (show okV (.str ⟨#[c]⟩) = true from e)]
          | false =>
            refine iteF ⟨_, rfl, .inl ⟨rfl, _, SqL.of hL⟩, _, rfl, _, rfl, _, rfl, hwl, fun H2 s2 => ⟨L, _, _, rfl, rfl, s2 _ _ hL, hsz, fin H2 _ s2 (num e).symm⟩⟩
        · refine iteB0 (decide_eq_false (fun e => g (by have := V.int.inj e; omega))) (iteF ?_)
          have e : okV (.str ww) = false := by
            show (false || ltV (.str ww) || sgV (.str ww)) = false
            rw [lt_len g, sg_len g]
            rfl
          exact ⟨_, rfl, .inl ⟨rfl, _, SqL.of hL⟩, _, rfl, _, rfl, _, rfl, hwl, fun H2 s2 => ⟨L, _, _, rfl, rfl, s2 _ _ hL, hsz, fin H2 _ s2 (num e).symm⟩⟩
    · rintro _ H1 ⟨y, rfl, s1, h1, hL⟩
      rw [List.length_map, List.take_length] at hL
      obtain ⟨x1, x2⟩ := exV_same (Txt.split z " ")
      refine ⟨_, rfl, L, _, rfl, .inl ⟨SqL.of hL, fun t ht => ⟨(show 2 ≤ sizeLine by decide), fun l2 hl2 => ?_⟩⟩⟩
      have s2 := (Same.new (o := .tup ((Txt.split z " ").map itL)) ht).trans (Same.new (o := .lst [V.non, V.ref t]) hl2)
      refine ⟨_, rfl, L, _, rfl, .inl ⟨SqL.of (s2 _ _ hL), fun t2 ht2 => ?_⟩⟩
      have s3 := Same.new (o := .tup ((Txt.split z " ").map itL)) ht2
      refine ⟨.ref t2, rfl, .inl ⟨_, upd_same⟩, fun t3 xs et hx => ?_, fun H3 s4 => .inr ⟨_, rfl, ?_⟩⟩
      · obtain rfl := V.ref.inj et
        rw [upd_same] at hx
        obtain rfl := HO.tup.inj (Option.some.inj hx)
        refine ⟨by rw [List.length_map]; omega, fun v hv => ?_⟩
        obtain ⟨ww, hw, rfl⟩ := List.mem_map.mp hv
        exact kn_itL (by have := hq2 ww hw; omega)
      · rw [exT_tup upd_same, x1]
        have hl2' : H3 l2 = some (.lst [V.non, V.ref t]) := s4 _ _ (s3 _ _ upd_same)
        have ht' : H3 t = some (.tup ((Txt.split z " ").map itL)) := s4 _ _ (s3 _ _ (Same.new hl2 _ _ upd_same))
        have s5 := ((s1.trans s2).trans s3).trans s4
        cases e : exV ((Txt.split z " ").map itV) with
        | true =>
          refine ⟨_, _, _, _, rfl, rfl, SqL.of hl2', (show atI [V.non, V.ref t] ((1 : Nat) : Int) = some (V.ref t) from atI_nat rfl), q1 e _ t s5 ?_⟩
          rw [← x2 e]
          exact ht'
        | false => exact ⟨_, _, _, _, rfl, rfl, SqL.of hl2', (show atI [V.non, V.ref t] ((0 : Nat) : Int) = some V.non from atI_nat rfl), q2 e _ s5⟩
theorem ok_lextext (T : Txt K w mg f fd ob) : FnOk P w K mg base CX0 1 (f 31) (fd 31) ["_law_e"] (sp_showexpression K) := by
  refine T.F_lextext.ok sc_lextext (fun vs H Q E h => ?_) (fun cdv A outer s H vs Q E hr h => ?_)
  · obtain ⟨t, xs, rfl, _⟩ := h
    rfl
  · obtain ⟨t, xs, rfl, ht, hx, hlen, hsz, q⟩ := h
    refine ⟨_, (pss_one (ps_ret (pe_join pe_str (pe_lc (own := [("_law_item_here", 1)]) (g := (gName 1)) (tt := tYes) (te := (tCB rStrV (tCons (tVar 1) tNil))) (by rfl) sc_lextext.nd (pi_tup (pv 0)) (blkOk_by (own := [("_law_item_here", 1)]) (N := N_lextext) (sc := defScope s_lextext) (by decide +kernel)) (fun _ _ _ _ _ => (pg_name (i := 1) sc_lextext.nd rfl (Or.inl rfl))) (fun _ _ _ _ _ => pts_nil) (fun _ _ _ _ _ => (pe_callTy call_strV (by rfl) T.z_str (by decide +kernel) (pa_cons (pv 1) pa_nil))))))), ?_⟩
    refine ⟨⟨_, rfl⟩, _, rfl, t, rfl, ⟨_, ht⟩, fun D nD => ?_⟩
    refine lc_tup (K := K) (a := t) (xs := xs) (fun i H' => Same H H' ∧ H' D = some (.lst (((xs.take i).map shV).map V.str))) ⟨Same.new nD, upd_same⟩ (fun i H' _ h => ex_t h.1 ht) ?_ ?_
    · rintro i x H1 hi ⟨s1, hD⟩
      have hl : i < xs.length := (List.getElem?_eq_some_iff.mp hi).1
      have et : xs.take (i + 1) = xs.take i ++ [x] := by
        rw [List.take_add_one, hi]
        rfl
      refine ⟨rfl, _, rfl, x, rfl, hx x (List.mem_of_getElem? hi), _, hD, ?_, Same.mut s1 nD, ?_⟩
      · rw [List.length_map, List.length_map, List.length_take]
        exact small1000 (by omega)
      · rw [upd_same, et, List.map_append, List.map_append]
        rfl
    · rintro H1 ⟨s1, hD⟩
      rw [List.take_length] at hD
      refine ⟨_, D, xs.map shV, rfl, rfl, .inl (SqL.of hD), ?_, q _ s1⟩
      rw [show ((" " : Str)).length = 1 by decide +kernel, Nat.mul_one, List.length_map]
      omega
/-! Words and their room. -/
def wz (ws : List Str) : Nat := (ws.map (·.length)).sum + ws.length
theorem wz_app (a b : List Str) : wz (a ++ b) = wz a + wz b := by
  unfold wz
  rw [List.map_append, List.sum_append, List.length_append]
  omega
theorem wz_cut (ws : List Str) (i : Nat) : wz (ws.take i) + wz (ws.drop i) = wz ws := by
  rw [← wz_app, List.take_append_drop]
theorem wz_one {w : Str} {ws : List Str} (h : w ∈ ws) : w.length + 1 ≤ wz ws := by
  induction ws with
  | nil => cases h
  | cons x r ih =>
    have e : wz (x :: r) = x.length + 1 + wz r := by
      unfold wz
      rw [List.map_cons, List.sum_cons, List.length_cons]
      omega
    rw [e]
    rcases List.mem_cons.mp h with rfl | h
    · omega
    · have := ih h
      omega
theorem wz_single (w : Str) : wz [w] = w.length + 1 := by
  show w.length + 0 + 1 = _
  omega
theorem wz_drop1 (ws : List Str) (i : Nat) : wz (ws.drop (i + 1)) ≤ wz (ws.drop i) := by
  have e : ws.drop (i + 1) = (ws.drop i).drop 1 := by rw [List.drop_drop]
  rw [e]
  have := wz_cut (ws.drop i) 1
  omega
theorem wz_set {ws : List Str} {i : Nat} (v : Str) (h : i < ws.length) : wz (ws.set i v) ≤ wz ws + v.length + 1 := by
  have e : ws.set i v = ws.take i ++ [v] ++ ws.drop (i + 1) := by
    rw [List.set_eq_take_append_cons_drop, if_pos h, List.append_assoc]
    rfl
  rw [e, wz_app, wz_app, wz_single]
  have h1 := wz_cut ws i
  have h2 := wz_drop1 ws i
  omega
theorem wz_split (z : Str) : wz (Txt.split z " ") ≤ z.length + 1 := by
  have h := TL.split_spl z " " (by rw [show TL.tl (" " : Str) = [32] from cp_blank]; simp) (TL.kind_ok (by decide +kernel))
  rw [show TL.tl (" " : Str) = [32] from cp_blank] at h
  have key : ∀ (l acc : List Nat), ((TL.spl [32] 0 acc l).map List.length).sum + (TL.spl [32] 0 acc l).length ≤ acc.length + l.length + 1 := by
    intro l
    induction l with
    | nil =>
      intro acc
      rw [TL.spl_nil]
      show acc.length + 0 + 1 ≤ acc.length + 0 + 1
      omega
    | cons c r ih =>
      intro acc
      by_cases hc : TL.pre [32] (c :: r) = true
      · rw [show TL.spl [32] 0 acc (c :: r) = acc :: TL.spl [32] 0 [] r from TL.spl_hit hc]
        have := ih []
        simp only [List.map_cons, List.sum_cons, List.length_cons]
        rw [List.length_nil] at this
        omega
      · rw [TL.spl_miss (by simpa using hc)]
        have := ih (acc ++ [c])
        rw [List.length_append, List.length_singleton] at this
        rw [List.length_cons]
        omega
  have k := key (cp z) []
  rw [show TL.spl [32] 0 [] (cp z) = (Txt.split z " ").map TL.tl from h.symm, List.map_map, List.length_map, List.length_nil] at k
  unfold wz
  rw [cp_len]
  have e : (Txt.split z " ").map (·.length) = (Txt.split z " ").map (List.length ∘ TL.tl) := List.map_congr_left fun w _ => TL.len_tl w
  rw [e]
  omega
theorem join_wz (ws : List Str) : (Txt.join " " ws).length ≤ wz ws := by
  have key : ∀ ps : List (List Nat), (TL.joinL [32] ps).length ≤ (ps.map List.length).sum + ps.length := by
    intro ps
    induction ps with
    | nil => exact Nat.zero_le _
    | cons p r ih =>
      cases r with
      | nil =>
        show p.length ≤ p.length + 0 + 1
        omega
      | cons q r =>
        show (p ++ ([32] ++ TL.joinL [32] (q :: r))).length ≤ _
        rw [List.length_append, List.length_append, List.length_singleton, List.map_cons, List.sum_cons, List.length_cons]
        omega
  rw [cp_len, cp_join]
  have k := key (ws.map TL.tl)
  rw [List.map_map, List.length_map] at k
  unfold wz
  have e : ws.map (·.length) = ws.map (List.length ∘ TL.tl) := List.map_congr_left fun w _ => TL.len_tl w
  rw [e]
  exact k
theorem sign_any : ∀ j, j < 95 → ∃ c, atI ((" !\"#$&'()*+,-./0123456789:;<=>?@ABCDEFGHIJKLMNOPQRSTUVWXYZ[\\]^_`abcdefghijklmnopqrstuvwxyz{|}~\n" : Str).cps.toList) ((j : Nat) : Int) = some c := by
  intro j hj
  have e : (" !\"#$&'()*+,-./0123456789:;<=>?@ABCDEFGHIJKLMNOPQRSTUVWXYZ[\\]^_`abcdefghijklmnopqrstuvwxyz{|}~\n" : Str).cps.toList.length = 95 := by decide +kernel
  exact ⟨_, atI_nat (List.getElem?_eq_getElem (by rw [e]; exact hj))⟩
def sp_lspoilt : Sp := fun vs H Q _ => ∃ (p c : Addr) (ns : List Int) (n : Int) (z : Str), vs = [.ref p, .str z] ∧ Pen H p c ns n ∧ n < 800000 ∧ z.length ≤ 9000 ∧
  ∀ (H' : Hp) (z' : Str) (n' : Int), Kp p H H' → Pen H' p c ns n' → n ≤ n' → n' ≤ n + 10 → z'.length ≤ 3 * z.length + 5 → Q (.str z') H'
theorem ok_lspoilt (T : Txt K w mg f fd ob) : FnOk P w K mg base CX0 2 (f 33) (fd 33) ["_law_feed_here", "_law_text"] sp_lspoilt := by
  have G_ldraw := ok_ldraw (P := P) (base := base) T
  refine T.F_lspoilt.ok sc_lspoilt (fun vs H Q E h => ?_) (fun cdv A outer s H vs Q E hr h => ?_)
  · obtain ⟨p, c, ns, n, z, rfl, _⟩ := h
    rfl
  · obtain ⟨p, c, ns, n, z, rfl, hP, hn, hz, q⟩ := h
    have hn0 := hP.nn
    have hr_ldraw := hr
    have big : ∀ {k : Nat}, k ≤ 100000 → k ≤ sizeLine := fun h => Nat.le_trans h (by decide)
    refine ⟨_, (pss_cons (ps_set (i := 2) sc_lspoilt.nd rfl (Or.inl rfl) pe_str)
      (C8.pss_cut (ps_par (i := 3) (j := 4) (by rfl) sc_lspoilt.nd rfl rfl (by decide) rfl rfl (pa_cons (pe_call G_ldraw hr_ldraw (by rfl) T.m_ldraw T.F_ldraw.kp T.b_ldraw .nil pass0 (pa_cons (pv 0) (pa_cons (pe_op op_add (pe_callB call_len_str (by rfl) T.z_len PySem.boot_len (pa_cons (pv 1) pa_nil)) pe_int) pa_nil))) (pa_cons (pe_ix ix_str (pv 2) (pe_call G_ldraw hr_ldraw (by rfl) T.m_ldraw T.F_ldraw.kp T.b_ldraw .nil pass0 (pa_cons (pv 0) (pa_cons pe_int pa_nil))) (fun _ _ => rfl)) pa_nil)) (by rfl))
      (C8.pss_cut (ps_par (i := 5) (j := 6) (by rfl) sc_lspoilt.nd rfl rfl (by decide) rfl rfl (pa_cons (pe_split (pv 1) pe_str) (pa_cons (pe_call G_ldraw hr_ldraw (by rfl) T.m_ldraw T.F_ldraw.kp T.b_ldraw .nil pass0 (pa_cons (pv 0) (pa_cons pe_int pa_nil))) pa_nil)) (by rfl))
      (pss_cons (ps_if (pt_cmpR op_lt (pv 6) pe_int (nomark _)) (pss_one (ps_ret (pe_ix ix_list (pe_lst (pa_cons (pe_op op_add_str (pe_op op_add_str (pe_slice sl_str (pv 1) po_none (po_some (pv 3))) (pv 4)) (pe_slice sl_str (pv 1) (po_some (pv 3)) po_none)) (pa_cons (pe_op op_add_str (pe_op op_add_str (pe_slice sl_str (pv 1) po_none (po_some (pv 3))) (pv 4)) (pe_slice sl_str (pv 1) (po_some (pe_op op_add (pv 3) pe_int)) po_none)) (pa_cons (pe_op op_add_str (pe_slice sl_str (pv 1) po_none (po_some (pv 3))) (pe_slice sl_str (pv 1) (po_some (pe_op op_add (pv 3) pe_int)) po_none)) (pa_cons (pe_op op_add_str (pe_op op_add_str (pe_slice sl_str (pv 1) po_none (po_some (pv 3))) (pe_slice sl_str (pv 1) (po_some (pv 3)) (po_some (pe_op op_add (pv 3) pe_int)))) (pe_slice sl_str (pv 1) (po_some (pv 3)) po_none)) pa_nil))))) (pv 6) (fun _ _ => rfl)))) pss_nil)
      (C8.pss_cut (ps_par (i := 7) (j := 8) (by rfl) sc_lspoilt.nd rfl rfl (by decide) rfl rfl (pa_cons (pe_call G_ldraw hr_ldraw (by rfl) T.m_ldraw T.F_ldraw.kp T.b_ldraw .nil pass0 (pa_cons (pv 0) (pa_cons (pe_callB call_len_seq (by rfl) T.z_len PySem.boot_len (pa_cons (pv 5) pa_nil)) pa_nil))) (pa_cons (pe_call G_ldraw hr_ldraw (by rfl) T.m_ldraw T.F_ldraw.kp T.b_ldraw .nil pass0 (pa_cons (pv 0) (pa_cons (pe_callB call_len_seq (by rfl) T.z_len PySem.boot_len (pa_cons (pv 5) pa_nil)) pa_nil))) pa_nil)) (by rfl))
      (pss_cons (ps_if (pt_cmpR op_eq (pv 6) pe_int (nomark _)) (pss_one (ps_ret (pe_join pe_str (pe_op op_cat (pe_slice sl_list (pv 5) po_none (po_some (pv 7))) (pe_slice sl_list (pv 5) (po_some (pe_op op_add (pv 7) pe_int)) po_none))))) pss_nil)
      (pss_cons (ps_if (pt_cmpR op_eq (pv 6) pe_int (nomark _)) (pss_one (ps_ret (pe_join pe_str (pe_op op_cat (pe_op op_cat (pe_slice sl_list (pv 5) po_none (po_some (pv 7))) (pe_lst (pa_cons (pe_ix ix_list (pv 5) (pv 8) (fun _ _ => rfl)) pa_nil))) (pe_slice sl_list (pv 5) (po_some (pv 7)) po_none))))) pss_nil)
      (C8.pss_cut (ps_asg (pe_ix ix_list (pe_lst (pa_cons (pe_ix ix_list (pv 5) (pv 8) (fun _ _ => rfl)) (pa_cons (pe_op op_add_str pe_str (pe_ix ix_list (pv 5) (pv 7) (fun _ _ => rfl))) (pa_cons (pe_op op_add_str pe_str (pe_ix ix_list (pv 5) (pv 7) (fun _ _ => rfl))) pa_nil)))) (pe_op op_sub (pv 6) pe_int) (fun _ _ => rfl)) (pg_sub (pv 5) (pv 7) set_list))
      (pss_one (ps_ret (pe_join pe_str (pv 5)))))))))))), ?_⟩
    refine ⟨fun σ' H' => ∃ (i : Nat) (sc : Nat) (n' : Int), σ' = [some (.ref p), some (.str z), some (.str " !\"#$&'()*+,-./0123456789:;<=>?@ABCDEFGHIJKLMNOPQRSTUVWXYZ[\\]^_`abcdefghijklmnopqrstuvwxyz{|}~\n"), some (.int (i : Int)), some (.str ⟨#[sc]⟩), none, none, none, none] ∧ Kp p H H' ∧ Pen H' p c ns n' ∧ n ≤ n' ∧ n' ≤ n + 2, ?_, ?_⟩
    · refine ⟨_, rfl, _, rfl, z, rfl, len_size (by omega), _, _, rfl, rfl, p, c, ns, n, ((z.length : Nat) : Int) + 1, rfl, hP, by omega, by omega, by omega, fun H1 a n1 k1 P1 a1 a2 n1a n1b => ?_⟩
      obtain ⟨i, rfl⟩ := Int.eq_ofNat_of_zero_le a1
      refine ⟨_, rfl, _, rfl, p, c, ns, n1, 95, rfl, P1, by decide, by decide, by omega, fun H2 b n2 k2 P2 b1 b2 n2a n2b => ?_⟩
      obtain ⟨j, rfl⟩ := Int.eq_ofNat_of_zero_le b1
      obtain ⟨sc, hsc⟩ := sign_any j (by omega)
      exact ⟨_, _, sc, rfl, rfl, (by decide +kernel), hsc, _, _, rfl, i, sc, n2, rfl, k1.trans k2, P2, by omega, by omega⟩
    rintro _ H1 ⟨i, sc, n1, rfl, k1, P1, n1a, n1b⟩
    have l1 : (⟨#[sc]⟩ : Str).length = 1 := rfl
    refine ⟨fun σ' H' => ∃ (ww : Addr) (w6 n' : Int), σ' = [some (.ref p), some (.str z), some (.str " !\"#$&'()*+,-./0123456789:;<=>?@ABCDEFGHIJKLMNOPQRSTUVWXYZ[\\]^_`abcdefghijklmnopqrstuvwxyz{|}~\n"), some (.int (i : Int)), some (.str ⟨#[sc]⟩), some (.ref ww), some (.int w6), none, none] ∧ Kp p H H' ∧ Pen H' p c ns n' ∧ n ≤ n' ∧ n' ≤ n + 3 ∧ 0 ≤ w6 ∧ w6 < 9 ∧ H' ww = some (.lst ((Txt.split z " ").map V.str)) ∧ ww ≠ p ∧ H ww = none, ?_, ?_⟩
    · refine ⟨_, rfl, ⟨_, rfl⟩, z, _, rfl, rfl, by decide +kernel, big (by omega), fun ww hww => ?_⟩
      refine ⟨_, rfl, p, c, ns, n1, 9, rfl, P1.new hww, by decide, by decide, by omega, fun H2 w6 n2 k2 P2 b1 b2 n2a n2b => ⟨_, _, rfl, ?_⟩⟩
      have ne := P1.ni hww
      exact ⟨ww, w6, n2, rfl, (k1.trans (Kp.new hww)).trans k2, P2, by omega, by omega, b1, b2, k2 _ _ ne upd_same, ne, k1.free ne hww⟩
    rintro _ H2 ⟨ww, w6, n2, rfl, k2, P2, n2a, n2b, w6a, w6b, hw, nep, hwH⟩
    have c1 := cutS_length z none (some (i : Int))
    have c2 := cutS_length z (some (i : Int)) none
    have c3 := cutS_length z (some ((i : Int) + 1)) none
    have c4 := cutS_length z (some (i : Int)) (some ((i : Int) + 1))
    have qs : ∀ (H' : Hp) (z' : Str) (n' : Int), Kp p H2 H' → Pen H' p c ns n' → n2 ≤ n' → n' ≤ n2 + 5 → z'.length ≤ 3 * z.length + 5 → Q (.str z') H' := fun H' z' n' k P a b l => q H' z' n' (k2.trans k) P (by omega) (by omega) l
    refine ⟨_, rfl, _, _, rfl, rfl, _, rfl, ite2 (fun h4 => ?_) (fun h4 => ?_)⟩
    · have h4' : w6 < 4 := of_decide_eq_true h4
      have cat : ∀ {a b : Str} {m : Nat}, a.length + b.length ≤ m → (a ++ b).length ≤ m := fun h => by
        rw [len_app]
        exact h
      refine ⟨_, rfl, _, rfl, _, rfl, z, rfl, len_size (by omega), _, rfl, _, _, rfl, rfl, big (by omega), ?_⟩
      refine ⟨_, rfl, _, rfl, _, rfl, z, rfl, len_size (by omega), _, _, rfl, rfl, big (by rw [len_app]; omega), ?_⟩
      refine ⟨_, rfl, _, rfl, _, rfl, z, rfl, len_size (by omega), _, rfl, _, _, rfl, rfl, big (by omega), ?_⟩
      refine ⟨_, rfl, _, rfl, _, _, rfl, rfl, _, rfl, z, rfl, len_size (by omega), _, _, rfl, rfl, big (by rw [len_app]; omega), ?_⟩
      refine ⟨_, rfl, _, rfl, _, rfl, z, rfl, len_size (by omega), ?_⟩
      refine ⟨_, rfl, _, rfl, _, _, rfl, rfl, _, rfl, z, rfl, len_size (by omega), _, _, rfl, rfl, big (by omega), ?_⟩
      refine ⟨_, rfl, _, rfl, _, rfl, z, rfl, len_size (by omega), ?_⟩
      refine ⟨_, rfl, _, rfl, _, rfl, _, rfl, _, _, rfl, rfl, _, rfl, z, rfl, len_size (by omega), _, _, rfl, rfl, big (by omega), ?_⟩
      refine ⟨_, rfl, _, rfl, _, rfl, z, rfl, len_size (by omega), _, _, rfl, rfl, big (by rw [len_app]; omega), ?_⟩
      refine ⟨(show 4 ≤ sizeLine by decide), fun l hl => ⟨_, rfl, ?_⟩⟩
      suffices key : ∀ xs : List V, (upd H2 l (.lst xs)) l = some (.lst xs) → (∀ y ∈ xs, ∃ s : Str, y = .str s ∧ s.length ≤ 3 * z.length + 5) → xs.length = 4 → rIxL K (.ref l) (.int w6) (upd H2 l (.lst xs)) Q by
        refine key _ upd_same (fm ⟨_, rfl, ?_⟩ (fm ⟨_, rfl, ?_⟩ (fm ⟨_, rfl, ?_⟩ (fm ⟨_, rfl, ?_⟩ fn)))) rfl
        · rw [len_app, len_app]
          omega
        · rw [len_app, len_app]
          omega
        · rw [len_app]
          omega
        · rw [len_app, len_app]
          omega
      intro xs hxs hall hxl
      obtain ⟨j, rfl⟩ := Int.eq_ofNat_of_zero_le w6a
      obtain ⟨y, hy, s, rfl, hs⟩ := pickAll hall (show j < xs.length by omega)
      exact ⟨_, _, _, _, rfl, rfl, SqL.of hxs, hy, qs _ s n2 (Kp.new hl) (P2.new hl) (by omega) (by omega) hs⟩
    have hws := wz_split z
    have wl : (Txt.split z " ").length ≤ wz (Txt.split z " ") := Nat.le_add_left _ _
    have wpos : 0 < (Txt.split z " ").length := by
      have h := TL.split_spl z " " (by rw [show TL.tl (" " : Str) = [32] from cp_blank]; simp) (TL.kind_ok (by decide +kernel))
      have e := congrArg List.length h
      rw [List.length_map] at e
      rw [e]
      have key : ∀ (l acc : List Nat), 0 < (TL.spl [32] 0 acc l).length := by
        intro l
        induction l with
        | nil =>
          intro acc
          rw [TL.spl_nil]
          exact Nat.zero_lt_one
        | cons c r ih =>
          intro acc
          by_cases hc : TL.pre [32] (c :: r) = true
          · rw [TL.spl_hit hc, List.length_cons]
            omega
          · rw [TL.spl_miss (by simpa using hc)]
            exact ih _
      rw [show TL.tl (" " : Str) = [32] from cp_blank]
      exact key _ _
    generalize Txt.split z " " = ws at hws hw wl wpos
    refine ⟨fun σ' H' => ∃ (i1 i2 : Nat) (n' : Int), σ' = [some (.ref p), some (.str z), some (.str " !\"#$&'()*+,-./0123456789:;<=>?@ABCDEFGHIJKLMNOPQRSTUVWXYZ[\\]^_`abcdefghijklmnopqrstuvwxyz{|}~\n"), some (.int (i : Int)), some (.str ⟨#[sc]⟩), some (.ref ww), some (.int w6), some (.int (i1 : Int)), some (.int (i2 : Int))] ∧ Kp p H2 H' ∧ Pen H' p c ns n' ∧ n2 ≤ n' ∧ n' ≤ n2 + 2 ∧ i1 < ws.length ∧ i2 < ws.length ∧ H' ww = some (.lst (ws.map V.str)), ?_, ?_⟩
    · refine ⟨_, rfl, _, rfl, _, _, rfl, .inl (SqL.of hw), p, c, ns, n2, (((ws.map V.str).length : Nat) : Int), rfl, P2, by rw [List.length_map]; omega, by rw [List.length_map]; omega, by omega, fun H3 a n3 k3 P3 a1 a2 n3a n3b => ?_⟩
      have hw3 := k3 _ _ nep hw
      refine ⟨_, rfl, _, rfl, _, _, rfl, .inl (SqL.of hw3), p, c, ns, n3, (((ws.map V.str).length : Nat) : Int), rfl, P3, by rw [List.length_map]; omega, by rw [List.length_map]; omega, by omega, fun H4 b n4 k4 P4 b1 b2 n4a n4b => ⟨_, _, rfl, ?_⟩⟩
      obtain ⟨i1, rfl⟩ := Int.eq_ofNat_of_zero_le a1
      obtain ⟨i2, rfl⟩ := Int.eq_ofNat_of_zero_le b1
      rw [List.length_map] at a2 b2
      exact ⟨i1, i2, n4, rfl, k3.trans k4, P4, by omega, by omega, by omega, by omega, k4 _ _ nep hw3⟩
    rintro _ H3 ⟨i1, i2, n3, rfl, k3, P3, n3a, n3b, hi1, hi2, hw3⟩
    have lb : ((" " : Str)).length = 1 := by decide +kernel
    have join : ∀ (H' : Hp) (a : Addr) (ys : List Str), H' a = some (.lst (ys.map V.str)) → Kp p H3 H' → Pen H' p c ns n3 → wz ys ≤ 2 * z.length + 5 → (SqL K H' a (ys.map V.str) ∨ SqT K H' a (ys.map V.str)) ∧ (ys.map (fun x => x.length)).sum + ys.length * ((" " : Str)).length ≤ 16777216 ∧ Q (.str (Txt.join " " ys)) H' := fun H' a ys ha k P hle => by
      have hj := join_wz ys
      refine ⟨.inl (SqL.of ha), ?_, qs H' _ n3 (k3.trans k) P (by omega) (by omega) (by omega)⟩
      have : (ys.map (fun x => x.length)).sum + ys.length = wz ys := rfl
      rw [lb, Nat.mul_one]
      omega
    have e1 : cutV (ws.map V.str) none (some ((i1 : Nat) : Int)) = (ws.take i1).map V.str := by
      rw [cutTo, List.map_take]
    have e2 : cutV (ws.map V.str) (some (((i1 : Nat) : Int) + 1)) none = (ws.drop (i1 + 1)).map V.str := by
      have := cutFrom (k := i1 + 1) (ws.map V.str) (by rw [List.length_map]; omega)
      rw [List.map_drop]
      exact this
    have e3 : cutV (ws.map V.str) (some ((i1 : Nat) : Int)) none = (ws.drop i1).map V.str := by
      rw [cutFrom _ (by rw [List.length_map]; omega), List.map_drop]
    have w1 := wz_cut ws i1
    have w2 := wz_drop1 ws i1
    have v1 : ws[i1]? = some ws[i1] := List.getElem?_eq_getElem hi1
    have v2 : ws[i2]? = some ws[i2] := List.getElem?_eq_getElem hi2
    have m1 := wz_one (List.getElem_mem hi1)
    have m2 := wz_one (List.getElem_mem hi2)
    generalize ws[i1] = x1 at v1 m1
    generalize ws[i2] = x2 at v2 m2
    have at1 : atI (ws.map V.str) ((i1 : Nat) : Int) = some (V.str x1) := atI_nat (by rw [List.getElem?_map, v1]; rfl)
    have at2 : atI (ws.map V.str) ((i2 : Nat) : Int) = some (V.str x2) := atI_nat (by rw [List.getElem?_map, v2]; rfl)
    have lt1 : (ws.take i1).length ≤ ws.length := by
      rw [List.length_take]
      omega
    have ld1 : (ws.drop (i1 + 1)).length ≤ ws.length := by
      rw [List.length_drop]
      omega
    have ld0 : (ws.drop i1).length ≤ ws.length := by
      rw [List.length_drop]
      omega
    refine ⟨_, rfl, rfl, _, rfl, ite2 (fun _ => ?_) (fun h5 => ?_)⟩
    · refine ⟨⟨_, rfl⟩, _, rfl, _, rfl, _, rfl, ww, _, rfl, SqL.of hw3, fun s1 hs1 => ?_⟩
      refine ⟨_, rfl, _, rfl, _, _, rfl, rfl, _, rfl, ww, _, rfl, SqL.of (Same.new hs1 _ _ hw3), fun s2 hs2 => ?_⟩
      rw [e1] at hs2 ⊢
      rw [e2]
      refine ⟨s1, s2, _, _, rfl, rfl, Same.new hs2 _ _ upd_same, upd_same, big (by rw [List.length_map, List.length_map]; omega), fun s3 hs3 => ?_⟩
      rw [← List.map_append]
      obtain ⟨j1, j2, j3⟩ := join _ s3 (ws.take i1 ++ ws.drop (i1 + 1)) upd_same (((Kp.new hs1).trans (Kp.new hs2)).trans (Kp.new hs3)) (((P3.new hs1).new hs2).new hs3) (by rw [wz_app]; omega)
      exact ⟨_, _, _, rfl, rfl, j1, j2, j3⟩
    refine ⟨_, rfl, rfl, _, rfl, ite2 (fun _ => ?_) (fun h6 => ?_)⟩
    · refine ⟨⟨_, rfl⟩, _, rfl, _, rfl, _, rfl, ww, _, rfl, SqL.of hw3, fun s1 hs1 => ?_⟩
      have q1 : Same H3 (upd H3 s1 (.lst (cutV (ws.map V.str) none (some ((i1 : Nat) : Int))))) := Same.new hs1
      refine ⟨_, rfl, _, rfl, _, _, _, _, rfl, rfl, SqL.of (q1 _ _ hw3), at2, (show 1 ≤ sizeLine by decide), fun s2 hs2 => ?_⟩
      rw [e1] at hs2 q1 ⊢
      refine ⟨s1, s2, _, _, rfl, rfl, Same.new hs2 _ _ upd_same, upd_same, big (by rw [List.length_map]; show _ + 1 ≤ _; omega), fun s3 hs3 => ?_⟩
      have q3 := (q1.trans (Same.new (o := .lst [V.str x2]) hs2)).trans (Same.new (o := .lst ((ws.take i1).map V.str ++ [V.str x2])) hs3)
      refine ⟨_, rfl, _, rfl, _, rfl, ww, _, rfl, SqL.of (q3 _ _ hw3), fun s4 hs4 => ?_⟩
      rw [e3]
      refine ⟨s3, s4, _, _, rfl, rfl, Same.new hs4 _ _ upd_same, upd_same, big (by rw [List.length_append, List.length_map, List.length_map]; show _ + 1 + _ ≤ _; omega), fun s5 hs5 => ?_⟩
      have el : (ws.take i1).map V.str ++ [V.str x2] ++ (ws.drop i1).map V.str = (ws.take i1 ++ [x2] ++ ws.drop i1).map V.str := by
        rw [List.map_append, List.map_append]
        rfl
      rw [el]
      have q5 := (q3.trans (Same.new (o := .lst ((ws.drop i1).map V.str)) hs4)).trans (Same.new (o := .lst ((ws.take i1 ++ [x2] ++ ws.drop i1).map V.str)) hs5)
      obtain ⟨j1, j2, j3⟩ := join _ s5 (ws.take i1 ++ [x2] ++ ws.drop i1) upd_same (Same.kp q5) (P3.same q5) (by rw [wz_app, wz_app, wz_single]; omega)
      exact ⟨_, _, _, rfl, rfl, j1, j2, j3⟩
    have hw6 : w6 = 6 ∨ w6 = 7 ∨ w6 = 8 := by
      have a1 : ¬ w6 < 4 := fun z => h4 (decide_eq_true z)
      have a2 : w6 ≠ 4 := fun z => h5 (decide_eq_true (by rw [z]))
      have a3 : w6 ≠ 5 := fun z => h6 (decide_eq_true (by rw [z]))
      omega
    refine ⟨fun σ' H' => ∃ v : Str, σ' = [some (.ref p), some (.str z), some (.str " !\"#$&'()*+,-./0123456789:;<=>?@ABCDEFGHIJKLMNOPQRSTUVWXYZ[\\]^_`abcdefghijklmnopqrstuvwxyz{|}~\n"), some (.int (i : Int)), some (.str ⟨#[sc]⟩), some (.ref ww), some (.int w6), some (.int (i1 : Int)), some (.int (i2 : Int))] ∧ Kp p H H' ∧ Pen H' p c ns n3 ∧ H' ww = some (.lst ((ws.set i1 v).map V.str)) ∧ v.length ≤ z.length + 1, ?_, ?_⟩
    · have z0 : ("0" : Str).length = 1 := by decide +kernel
      have zm : ("-" : Str).length = 1 := by decide +kernel
      refine ⟨_, rfl, _, rfl, _, _, _, _, rfl, rfl, SqL.of hw3, at2, ?_⟩
      refine ⟨_, rfl, _, rfl, _, _, _, _, rfl, rfl, SqL.of hw3, at1, _, _, rfl, rfl, big (by omega), ?_⟩
      refine ⟨_, rfl, _, rfl, _, _, _, _, rfl, rfl, SqL.of hw3, at1, _, _, rfl, rfl, big (by omega), (show 3 ≤ sizeLine by decide), fun l hl => ?_⟩
      have ix : ixN (ws.map V.str).length ((i1 : Nat) : Int) = some i1 := by
        unfold ixN
        rw [List.length_map, if_pos (by omega), if_pos (by omega)]
        rfl
      have kk : Kp p H (upd H3 l (.lst [V.str x2, V.str ("0" ++ x1), V.str ("-" ++ x1)])) := (k2.trans k3).trans (Kp.new hl)
      have hwl := Same.new (o := .lst [V.str x2, V.str ("0" ++ x1), V.str ("-" ++ x1)]) hl _ _ hw3
      have nc : c ≠ ww := fun e => by
        obtain ⟨_, _, h2, _⟩ := hP
        rw [e, hwH] at h2
        cases h2
      have done : ∀ v : Str, v.length ≤ z.length + 1 → ∃ v' : Str, ([some (.ref p), some (.str z), some (.str " !\"#$&'()*+,-./0123456789:;<=>?@ABCDEFGHIJKLMNOPQRSTUVWXYZ[\\]^_`abcdefghijklmnopqrstuvwxyz{|}~\n"), some (.int (i : Int)), some (.str ⟨#[sc]⟩), some (.ref ww), some (.int w6), some (.int (i1 : Int)), some (.int (i2 : Int))] : L2.St) = [some (.ref p), some (.str z), some (.str " !\"#$&'()*+,-./0123456789:;<=>?@ABCDEFGHIJKLMNOPQRSTUVWXYZ[\\]^_`abcdefghijklmnopqrstuvwxyz{|}~\n"), some (.int (i : Int)), some (.str ⟨#[sc]⟩), some (.ref ww), some (.int w6), some (.int (i1 : Int)), some (.int (i2 : Int))] ∧
          Kp p H (upd (upd H3 l (.lst [V.str x2, V.str ("0" ++ x1), V.str ("-" ++ x1)])) ww (.lst ((ws.map V.str).set i1 (V.str v)))) ∧ Pen (upd (upd H3 l (.lst [V.str x2, V.str ("0" ++ x1), V.str ("-" ++ x1)])) ww (.lst ((ws.map V.str).set i1 (V.str v)))) p c ns n3 ∧
          (upd (upd H3 l (.lst [V.str x2, V.str ("0" ++ x1), V.str ("-" ++ x1)])) ww (.lst ((ws.map V.str).set i1 (V.str v)))) ww = some (.lst ((ws.set i1 v').map V.str)) ∧ v'.length ≤ z.length + 1 := fun v hv => by
        refine ⟨v, rfl, Kp.mut kk hwH, ?_, ?_, hv⟩
        · obtain ⟨r, g1, g2, g3, g4⟩ := P3.new (o := .lst [V.str x2, V.str ("0" ++ x1), V.str ("-" ++ x1)]) hl
          exact ⟨r, (upd_ne nep.symm).trans g1, (upd_ne nc).trans g2, g3, g4⟩
        · rw [upd_same, List.map_set]
      rcases hw6 with rfl | rfl | rfl
      · exact ⟨_, rfl, _, _, rfl, rfl, _, _, _, _, rfl, rfl, SqL.of upd_same, (show atI [V.str x2, V.str ("0" ++ x1), V.str ("-" ++ x1)] ((0 : Nat) : Int) = some (V.str x2) from atI_nat rfl), _, rfl, _, rfl, ww, _, _, i1, rfl, rfl, hwl, ix, done x2 (by omega)⟩
      · exact ⟨_, rfl, _, _, rfl, rfl, _, _, _, _, rfl, rfl, SqL.of upd_same, (show atI [V.str x2, V.str ("0" ++ x1), V.str ("-" ++ x1)] ((1 : Nat) : Int) = some (V.str ("0" ++ x1)) from atI_nat rfl), _, rfl, _, rfl, ww, _, _, i1, rfl, rfl, hwl, ix, done ("0" ++ x1) (by rw [len_app]; omega)⟩
      · exact ⟨_, rfl, _, _, rfl, rfl, _, _, _, _, rfl, rfl, SqL.of upd_same, (show atI [V.str x2, V.str ("0" ++ x1), V.str ("-" ++ x1)] ((2 : Nat) : Int) = some (V.str ("-" ++ x1)) from atI_nat rfl), _, rfl, _, rfl, ww, _, _, i1, rfl, rfl, hwl, ix, done ("-" ++ x1) (by rw [len_app]; omega)⟩
    · rintro _ H4 ⟨v, rfl, k4, P4, hw4, hv⟩
      have hj := join_wz (ws.set i1 v)
      have hs := wz_set v hi1
      refine ⟨⟨_, rfl⟩, _, rfl, _, _, ws.set i1 v, rfl, rfl, .inl (SqL.of hw4), ?_, q _ _ n3 k4 P4 (by omega) (by omega) (by omega)⟩
      have : ((ws.set i1 v).map (fun x => x.length)).sum + (ws.set i1 v).length = wz (ws.set i1 v) := rfl
      rw [lb, Nat.mul_one]
      omega
theorem joinL_mem : ∀ (ps : List (List Nat)) (c : Nat), c ∈ TL.joinL [32] ps → c = 32 ∨ ∃ p ∈ ps, c ∈ p
  | [], c, h => by cases h
  | [p], c, h => .inr ⟨p, List.mem_cons_self, h⟩
  | p :: q :: r, c, h => by
    have h2 : c ∈ p ++ ([32] ++ TL.joinL [32] (q :: r)) := h
    rcases List.mem_append.mp h2 with h3 | h3
    · exact .inr ⟨p, List.mem_cons_self, h3⟩
    · rcases List.mem_append.mp h3 with h4 | h4
      · exact .inl (List.mem_singleton.mp h4)
      · rcases joinL_mem (q :: r) c h4 with h5 | ⟨p', hp, hc⟩
        · exact .inl h5
        · exact .inr ⟨p', List.mem_cons_of_mem _ hp, hc⟩
theorem im_codes {m : Im} (h : m.ok) : ∀ c ∈ cp (shV m.toV), c < 200 := by
  cases m with
  | wo a =>
    intro c hc
    have hc2 : c ∈ cp (Str.ofString (toString a)) := hc
    cases a with
    | ofNat n =>
      rw [show (Int.ofNat n) = ((n : Nat) : Int) from rfl, cp_nat] at hc2
      have := TL.numL_digits n c hc2
      omega
    | negSucc n =>
      rw [cp_neg] at hc2
      rcases List.mem_cons.mp hc2 with e | hc3
      · omega
      · have := TL.numL_digits (n + 1) c hc3
        omega
  | re k =>
    have e : ∀ k, k < 16 → ∀ c ∈ cp (lt k), c < 200 := by decide +kernel
    exact e k h
  | si i =>
    have e : ∀ i, i < 9 → ∀ c ∈ cp (nm i), c < 200 := by decide +kernel
    exact e i h
theorem show_codes {its : List Im} (hok : ∀ m ∈ its, m.ok) : ∀ c ∈ cp (showI its), c < 200 := by
  intro c hc
  unfold showI at hc
  rw [cp_join] at hc
  rcases joinL_mem _ c hc with e | ⟨p, hp, hc2⟩
  · omega
  · rw [List.map_map, List.map_map] at hp
    obtain ⟨m, hm, rfl⟩ := List.mem_map.mp hp
    exact im_codes (hok m hm) c hc2
theorem str_show {z : Str} (h : ∀ c ∈ cp z, c < 200) (hl : z.length ≤ 10000) : ShowOk (.str z) := by
  refine ⟨rfl, rfl, Nat.zero_le _, ?_⟩
  have := PySem.StrLaws.reprText_len z (fun c hc => Nat.lt_of_lt_of_le (h c hc) (by decide))
  show (reprText z).length ≤ sizeLine
  exact Nat.le_trans (show _ ≤ 200000 by omega) (by decide)
theorem none_show : ShowOk (.str "none") := ⟨rfl, rfl, Nat.zero_le _, by decide +kernel⟩
theorem ok_item {x : V} (h : okV x = true) : ∃ m : Im, x = m.toV ∧ m.ok := by
  cases x with
  | int a =>
    have h2 : (decide (-32768 ≤ a ∧ a ≤ 32767) || false || false) = true := h
    rw [Bool.or_false, Bool.or_false] at h2
    have h3 : -32768 ≤ a ∧ a ≤ 32767 := of_decide_eq_true h2
    exact ⟨.wo a, rfl, (show W a from h3)⟩
  | str z =>
    have h2 : (ltV (.str z) || sgV (.str z)) = true := h
    by_cases g : z.length = 1
    · obtain ⟨c, rfl⟩ := one_code g
      rw [Bool.or_eq_true] at h2
      rcases h2 with h2 | h2
      · rw [lt_code] at h2
        have h3 := of_decide_eq_true h2
        refine ⟨.re (c - 97), ?_, (show c - 97 < 16 by omega)⟩
        show V.str ⟨#[c]⟩ = V.str ⟨#[97 + (c - 97)]⟩
        rw [show 97 + (c - 97) = c by omega]
      · obtain ⟨i, hi, e⟩ := nm_mem (of_decide_eq_true h2)
        exact ⟨.si i, congrArg V.str e, hi⟩
    · rw [lt_len g, sg_len g] at h2
      cases h2
  | non => cases h
  | bl b => cases h
  | byt b => cases h
  | flt b => cases h
  | ref a => cases h
  | ty n => cases h
theorem ok_items : ∀ {xs : List V}, xs.all okV = true → ∃ its : List Im, xs = its.map Im.toV ∧ ∀ m ∈ its, m.ok
  | [], _ => ⟨[], rfl, fun m h => nomatch h⟩
  | x :: r, h => by
    rw [List.all_cons, Bool.and_eq_true] at h
    obtain ⟨m, e, hm⟩ := ok_item h.1
    obtain ⟨its, e2, hok⟩ := ok_items h.2
    refine ⟨m :: its, by rw [List.map_cons, e, e2], fun k hk => ?_⟩
    rcases List.mem_cons.mp hk with rfl | hk
    · exact hm
    · exact hok k hk
theorem ex_items {xs : List V} (h : exV xs = true) : ∃ its : List Im, xs = its.map Im.toV ∧ (∀ m ∈ its, m.ok) ∧ its.length ≤ 15 := by
  unfold exV at h
  rw [Bool.and_eq_true, Bool.and_eq_true] at h
  obtain ⟨its, e, hok⟩ := ok_items (show xs.all okV = true from h.1.2)
  refine ⟨its, e, hok, ?_⟩
  have := of_decide_eq_true h.1.1
  rw [e, List.length_map] at this
  exact this
def sp_law (K : PySem.W.Frag) : Sp := fun vs H Q _ => ∃ (a : Addr) (ns : List Int), vs = [.ref a] ∧ SqL K H a (ns.map V.int) ∧ ns.length ≤ 63 ∧ ∀ H', Q (.bl true) H'
theorem ok_law (T : Txt K w mg f fd ob) : FnG P w K mg base CX0 8 (f 1) (fd 1) ["_law_script"] (sp_law K) := by
  have G_showexpression := ok_showexpression (P := P) (base := base) T
  have G_lread := ok_lread (P := P) (base := base) T
  have G_lextext := ok_lextext (P := P) (base := base) T
  have G_lexprin := ok_lexprin (P := P) (base := base) T
  have G_lspoilt := ok_lspoilt (P := P) (base := base) T
  have G_lfeed := ok_lfeed (P := P) (base := base) T
  have G_ldraw := ok_ldraw (P := P) (base := base) T
  have G_lexpression := ok_lexpression (P := P) (base := base) T
  refine Fun.okG T.F_law sc_law (fun vs H Q E h => ?_) (fun cdv A outer s H vs Q E hg hr h => ?_)
  · obtain ⟨a, ns, rfl, _⟩ := h
    rfl
  · obtain ⟨a, ns, rfl, hsq, hlen, q⟩ := h
    have hr_lread := hr
    have hr_lexpression : Room 4 _ := hr.mono (by decide)
    have hr_lexprin : Room 2 _ := hr.mono (by decide)
    have hr_lspoilt : Room 2 _ := hr.mono (by decide)
    have hr_showexpression : Room 1 _ := hr.mono (by decide)
    have hr_lextext : Room 1 _ := hr.mono (by decide)
    have hr_lfeed : Room 1 _ := hr.mono (by decide)
    have hr_ldraw : Room 1 _ := hr.mono (by decide)
    have hu64 := hr.units
    refine ⟨_, (pss_cons (ps_set (i := 1) sc_law.nd rfl (Or.inl rfl) (pe_call G_lfeed hr_lfeed (by rfl) T.m_lfeed T.F_lfeed.kp T.b_lfeed .nil pass0 (pa_cons (pv 0) pa_nil)))
      (pss_cons (ps_for PassesOwn.never rfl (pi_range1 (by rfl) T.z_range (pa_cons pe_int pa_nil)) (pg_name (i := 2) sc_law.nd rfl (Or.inl rfl)) (C8.pss_cut (ps_set (i := 3) sc_law.nd rfl (Or.inl rfl) (pe_call G_lexpression hr_lexpression (by rfl) T.m_lexpression T.F_lexpression.kp T.b_lexpression .nil pass0 (pa_cons (pv 1) (pa_cons (pe_ix ix_list (pe_lst (pa_cons pe_int (pa_cons pe_int (pa_cons pe_int pa_nil)))) (pe_call G_ldraw hr_ldraw (by rfl) T.m_ldraw T.F_ldraw.kp T.b_ldraw .nil pass0 (pa_cons (pv 1) (pa_cons pe_int pa_nil))) (fun _ _ => rfl)) pa_nil))))
      (C8.pss_cut (ps_set (i := 4) sc_law.nd rfl (Or.inl rfl) (pe_call G_lextext hr_lextext (by rfl) T.m_lextext T.F_lextext.kp T.b_lextext .nil pass0 (pa_cons (pv 3) pa_nil)))
      (pss_cons (ps_if (PW.pt (pw_or (pt_cmpR op_ne (pe_callB (call_reprD hg hu64) (by rfl) T.z_repr (by decide +kernel) (pa_cons (pe_call G_showexpression hr_showexpression (by rfl) T.m_showexpression T.F_showexpression.kp T.b_showexpression .nil pass0 (pa_cons (pv 3) pa_nil)) pa_nil)) (pe_callB (call_reprD hg hu64) (by rfl) T.z_repr (by decide +kernel) (pa_cons (pv 4) pa_nil)) (nomark _)) (pw_or1 (pt_cmpR op_ne (pe_callB (call_reprD hg hu64) (by rfl) T.z_repr (by decide +kernel) (pa_cons (pe_call G_lread hr_lread (by rfl) T.m_lread T.F_lread.kp T.b_lread .nil pass0 (pa_cons (pv 4) pa_nil)) pa_nil)) (pe_callB (call_reprD hg hu64) (by rfl) T.z_repr (by decide +kernel) (pa_cons (pv 3) pa_nil)) (nomark _))))) (pss_one (ps_ret pe_bl)) pss_nil)
      (pss_one (ps_for PassesOwn.never rfl (pi_range1 (by rfl) T.z_range (pa_cons pe_int pa_nil)) (pg_name (i := 5) sc_law.nd rfl (Or.inl rfl)) (C8.pss_cut (ps_set (i := 4) sc_law.nd rfl (Or.inl rfl) (pe_call G_lspoilt hr_lspoilt (by rfl) T.m_lspoilt T.F_lspoilt.kp T.b_lspoilt .nil pass0 (pa_cons (pv 1) (pa_cons (pv 4) pa_nil))))
      (pss_cons (ps_set (i := 6) sc_law.nd rfl (Or.inl rfl) (pe_call G_lexprin hr_lexprin (by rfl) T.m_lexprin T.F_lexprin.kp T.b_lexprin .nil pass0 (pa_cons (pv 4) pa_nil)))
      (pss_one (ps_if (pt_cmpR op_ne (pe_callB (call_reprD hg hu64) (by rfl) T.z_repr (by decide +kernel) (pa_cons (pe_call G_lread hr_lread (by rfl) T.m_lread T.F_lread.kp T.b_lread .nil pass0 (pa_cons (pv 4) pa_nil)) pa_nil)) (pe_callB (call_reprD hg hu64) (by rfl) T.z_repr (by decide +kernel) (pa_cons (pe_ix ix_list (pe_lst (pa_cons (pv 6) (pa_cons pe_str pa_nil))) (pe_callTy call_int1 (by rfl) T.z_int (by decide +kernel) (pa_cons (pe_cmpR op_isN (pv 6) pe_non (nomark _)) pa_nil)) (fun _ _ => rfl)) pa_nil)) (nomark _)) (pss_one (ps_ret pe_bl)) pss_nil))))))))))
      (pss_one (ps_ret pe_bl)))), ?_⟩
    refine ⟨_, rfl, a, ns, rfl, hsq, hlen, fun H1 p c P1 => ?_⟩
    refine ⟨24, rfl, by decide, by decide, for_range (lo := 0) (n := 24) (fun i σ' H' => ∃ (y2 y3 y4 y5 y6 : Option V) (n : Int), σ' = [some (.ref a), some (.ref p), y2, y3, y4, y5, y6] ∧ Pen H' p c ns n ∧ n ≤ 1000 * i)
      ⟨none, none, none, none, none, 0, rfl, P1, by omega⟩ ?_ ?_⟩
    · rintro i _ H2 hi ⟨y2, y3, y4, y5, y6, n, rfl, P2, hn⟩
      have hn0 := P2.nn
      refine ⟨fun σ' H' => ∃ (t : Addr) (its : List Im) (n' : Int), σ' = [some (.ref a), some (.ref p), some (.int (0 + (i : Int))), some (.ref t), y4, y5, y6] ∧ Pen H' p c ns n' ∧ n ≤ n' ∧ n' ≤ n + 301 ∧ H' t = some (.tup (its.map Im.toV)) ∧ Expr1 its ∧ its.length ≤ 15 ∧ its ≠ [], ?_, ?_⟩
      · refine ⟨_, rfl, (show 3 ≤ sizeLine by decide), fun l hl => ?_⟩
        refine ⟨_, rfl, p, c, ns, n, 3, rfl, P2.new hl, by decide, by decide, by omega, fun H3 d3 n3 k3 P3 d3a d3b n3a n3b => ?_⟩
        have e3 : H3 l = some (.lst [V.int 1, V.int 3, V.int 7]) := k3 _ _ (P2.ni hl) upd_same
        obtain ⟨v, hv, hv1⟩ : ∃ v : Nat, atI [V.int 1, V.int 3, V.int 7] d3 = some (.int (v : Int)) ∧ v ≤ 7 := by
          have h : d3 = 0 ∨ d3 = 1 ∨ d3 = 2 := by omega
          rcases h with rfl | rfl | rfl
          · exact ⟨1, rfl, by decide⟩
          · exact ⟨3, rfl, by decide⟩
          · exact ⟨7, rfl, by decide⟩
        refine ⟨_, _, _, _, rfl, rfl, SqL.of e3, hv, p, c, ns, n3, v, rfl, P3, by omega, by omega, fun H4 t its n4 k4 P4 n4a n4b _ ht hE hle hne => ?_⟩
        exact ⟨t, its, n4, rfl, P4, by omega, by omega, ht, hE, by omega, hne⟩
      rintro _ H3 ⟨t, its, n3, rfl, P3, n3a, n3b, ht3, hE, hle, hne⟩
      have flat : ∀ v ∈ its.map Im.toV, Flat v := fun v hv => by
        obtain ⟨m, hm, rfl⟩ := List.mem_map.mp hv
        exact (im_flags (hE.ok m hm)).2.2.2.1
      have q1 := sum_len hE.ok
      have l1 := show_len hE.ok
      have so := str_show (show_codes hE.ok) (show (showI its).length ≤ 10000 by omega)
      have hso := tup_show hE.ok (by omega)
      have hbk := show_back hE.ok hne
      refine ⟨fun σ' H' => σ' = [some (.ref a), some (.ref p), some (.int (0 + (i : Int))), some (.ref t), some (.str (showI its)), y5, y6] ∧ Same H3 H', ?_, ?_⟩
      · exact ⟨_, rfl, t, _, rfl, SqT.of ht3, flat, by rw [List.length_map]; omega, by rw [List.length_map]; omega, fun H4 s4 => ⟨rfl, s4⟩⟩
      rintro _ H4 ⟨rfl, s4⟩
      have ht4 := s4 _ _ ht3
      refine ⟨_, rfl, t, _, rfl, SqT.of ht4, flat, by rw [List.length_map]; omega, by rw [List.length_map]; omega, fun H5 s5 => ?_⟩
      refine ⟨_, .str (showI its), rfl, .str _, so, _, rfl, _, .str (showI its), rfl, .str _, so, rfl, _, rfl, iteNS rfl ?_⟩
      have hex : exV ((Txt.split (showI its) " ").map itV) = true := by
        rw [hbk, exV_map hE.ok hE.ht]
        exact decide_eq_true hle
      refine ⟨_, rfl, showI its, rfl, by omega, fun _ H6 r s6 hr6 => ?_, fun e => by rw [hex] at e; cases e⟩
      rw [hbk] at hr6
      refine ⟨_, _, rfl, .tup (SqT.of hr6) (dpIm its), hso, _, rfl, _, _, rfl, .tup (SqT.of (s6 _ _ (s5 _ _ ht4))) (dpIm its), hso, rfl, _, rfl, iteNS rfl ?_⟩
      have P6 := ((P3.same s4).same s5).same s6
      refine ⟨3, rfl, by decide, by decide, for_range (lo := 0) (n := 3) (fun j σ' H' => ∃ (z : Str) (z5 z6 : Option V) (n' : Int), σ' = [some (.ref a), some (.ref p), some (.int (0 + (i : Int))), some (.ref t), some (.str z), z5, z6] ∧ Pen H' p c ns n' ∧ n ≤ n' ∧ n' ≤ n + 301 + 10 * j ∧ z.length + 3 ≤ 168 * 3 ^ j)
        ⟨showI its, y5, y6, n3, rfl, P6, by omega, by omega, by show _ + 3 ≤ 168 * 1; omega⟩ ?_ ?_⟩
      · rintro j _ H7 hj ⟨z, z5, z6, n7, rfl, P7, n7a, n7b, hz⟩
        have hz2 : z.length + 3 ≤ 1512 := Nat.le_trans hz (show 168 * 3 ^ j ≤ 168 * 3 ^ 2 from Nat.mul_le_mul_left _ (Nat.pow_le_pow_right (by decide) (by omega)))
        refine ⟨fun σ' H' => ∃ (z' : Str) (n' : Int), σ' = [some (.ref a), some (.ref p), some (.int (0 + (i : Int))), some (.ref t), some (.str z'), some (.int (0 + (j : Int))), z6] ∧ Pen H' p c ns n' ∧ n7 ≤ n' ∧ n' ≤ n7 + 10 ∧ z'.length ≤ 3 * z.length + 5, ?_, ?_⟩
        · exact ⟨_, rfl, _, rfl, p, c, ns, n7, z, rfl, P7, by omega, by omega, fun H8 z' n8 k8 P8 n8a n8b hl => ⟨z', n8, rfl, P8, by omega, by omega, hl⟩⟩
        rintro _ H8 ⟨z', n8, rfl, P8, n8a, n8b, hl⟩
        have nxt : ∀ (H' : Hp) (v : V), Same H8 H' → ∃ (z : Str) (z5 z6 : Option V) (n' : Int), ([some (.ref a), some (.ref p), some (.int (0 + (i : Int))), some (.ref t), some (.str z'), some (.int (0 + (j : Int))), some v] : L2.St) = [some (.ref a), some (.ref p), some (.int (0 + (i : Int))), some (.ref t), some (.str z), z5, z6] ∧ Pen H' p c ns n' ∧ n ≤ n' ∧ n' ≤ n + 301 + 10 * ((j + 1 : Nat) : Int) ∧ z.length + 3 ≤ 168 * 3 ^ (j + 1) := fun H' v s' => by
          refine ⟨z', _, _, n8, rfl, P8.same s', by omega, by omega, ?_⟩
          rw [Nat.pow_succ]
          omega
        refine ⟨_, rfl, z', rfl, by omega, fun he H9 t9 s9 ht9 => ?_, fun he H9 s9 => ?_⟩
        · obtain ⟨fts, ef, hok, hfl⟩ := ex_items he
          have hsf := tup_show hok (by omega)
          refine ⟨_, rfl, z', rfl, by omega, fun _ H10 r s10 hr => ?_, fun e => by rw [he] at e; cases e⟩
          rw [ef] at hr ht9
          refine ⟨_, _, rfl, .tup (SqT.of hr) (dpIm fts), hsf, _, rfl, (show 2 ≤ sizeLine by decide), fun l hl => ⟨_, rfl, rfl, .inr ⟨_, rfl, ?_⟩⟩⟩
          refine ⟨_, _, _, _, rfl, rfl, SqL.of upd_same, (show atI [V.ref t9, V.str "none"] ((0 : Nat) : Int) = some (V.ref t9) from atI_nat rfl), ?_⟩
          exact ⟨_, _, rfl, .tup (SqT.of (Same.new hl _ _ (s10 _ _ ht9))) (dpIm fts), hsf, rfl, _, rfl, iteNS rfl (nxt _ _ ((s9.trans s10).trans (Same.new hl)))⟩
        · refine ⟨_, rfl, z', rfl, by omega, (fun e => by rw [he] at e; cases e), fun _ H10 s10 => ?_⟩
          refine ⟨_, .str "none", rfl, .str _, none_show, _, rfl, (show 2 ≤ sizeLine by decide), fun l hl => ⟨_, rfl, rfl, .inr ⟨_, rfl, ?_⟩⟩⟩
          refine ⟨_, _, _, _, rfl, rfl, SqL.of upd_same, (show atI [V.non, V.str "none"] ((1 : Nat) : Int) = some (V.str "none") from atI_nat rfl), ?_⟩
          exact ⟨_, .str "none", rfl, .str _, none_show, rfl, _, rfl, iteNS rfl (nxt _ _ ((s9.trans s10).trans (Same.new hl)))⟩
      · rintro _ H7 ⟨z, z5, z6, n7, rfl, P7, n7a, n7b, hz⟩
        exact ⟨_, _, _, _, _, n7, rfl, P7, by omega⟩
    · rintro _ H2 ⟨y2, y3, y4, y5, y6, n, rfl, P2, hn⟩
      exact q _
end
--END
set_option maxHeartbeats 4000000 in
theorem all_mk {l : PySem.W.OpenLaw} {w : World} {K : PySem.W.Frag} {h : Heap} {mg : Str → Option Value} {fa : Addr} (X : K.In h) (G : h.Ns mainGlobals mg) (hfa : mg "law" = some (.ref fa))
    {od0 an0 od1 an1 od2 an2 od3 an3 od4 an4 od5 an5 od6 an6 od7 an7 od8 an8 od9 an9 od10 an10 od11 an11 od12 an12 od13 an13 od14 an14 od15 an15 od16 an16 od17 an17 od18 an18 od19 an19 od20 an20 od21 an21 od22 an22 od23 an23 od24 an24 od25 an25 od26 an26 od27 an27 od28 an28 od29 an29 od30 an30 od31 an31 od32 an32 od33 an33 od34 an34 : Option Addr} {sl0 sl1 sl2 sl3 sl4 sl5 sl6 sl7 sl8 sl9 sl10 sl11 sl12 sl13 sl14 sl15 sl16 sl17 sl18 sl19 sl20 sl21 sl22 sl23 sl24 sl25 sl26 sl27 sl28 sl29 sl30 sl31 sl32 sl33 sl34 : Array (Option Value)} {oc0 kV0 dc0 pm0 cd0 ct0 oc1 kV1 dc1 pm1 cd1 ct1 oc2 kV2 dc2 pm2 cd2 ct2 oc3 kV3 dc3 pm3 cd3 ct3 oc4 kV4 dc4 pm4 cd4 ct4 oc5 kV5 dc5 pm5 cd5 ct5 oc6 kV6 dc6 pm6 cd6 ct6 oc7 kV7 dc7 pm7 cd7 ct7 oc8 kV8 dc8 pm8 cd8 ct8 oc9 kV9 dc9 pm9 cd9 ct9 oc10 kV10 dc10 pm10 cd10 ct10 oc11 kV11 dc11 pm11 cd11 ct11 oc12 kV12 dc12 pm12 cd12 ct12 oc13 kV13 dc13 pm13 cd13 ct13 oc14 kV14 dc14 pm14 cd14 ct14 oc15 kV15 dc15 pm15 cd15 ct15 oc16 kV16 dc16 pm16 cd16 ct16 oc17 kV17 dc17 pm17 cd17 ct17 oc18 kV18 dc18 pm18 cd18 ct18 oc19 kV19 dc19 pm19 cd19 ct19 oc20 kV20 dc20 pm20 cd20 ct20 oc21 kV21 dc21 pm21 cd21 ct21 oc22 kV22 dc22 pm22 cd22 ct22 oc23 kV23 dc23 pm23 cd23 ct23 oc24 kV24 dc24 pm24 cd24 ct24 oc25 kV25 dc25 pm25 cd25 ct25 oc26 kV26 dc26 pm26 cd26 ct26 oc27 kV27 dc27 pm27 cd27 ct27 oc28 kV28 dc28 pm28 cd28 ct28 oc29 kV29 dc29 pm29 cd29 ct29 oc30 kV30 dc30 pm30 cd30 ct30 oc31 kV31 dc31 pm31 cd31 ct31 oc32 kV32 dc32 pm32 cd32 ct32 oc33 kV33 dc33 pm33 cd33 ct33 oc34 kV34 dc34 pm34 cd34 ct34 : Value} {a0 a1 a2 a3 a4 a5 a6 a7 a8 a9 a10 a11 a12 a13 a14 a15 a16 a17 a18 a19 a20 a21 a22 a23 a24 a25 a26 a27 a28 a29 a30 a31 a32 a33 a34 : Addr} {nm_NoText q_NoText : Str} {N_NoText C_NoText : Addr} {bs_NoText : List Value} {sn_NoText : List Str} {sub_NoText : List Value} {ab_NoText : Bool} {col_NoText : Option Bool} {dd_NoText : Option Addr} {m0_NoText m1_NoText m2_NoText m3_NoText m5_NoText : Option Value} {es_SIGNS : Array DictEntry} {nn_SIGNS : Nat} {o_SIGNS : Addr} {C_NoRow : Addr} {C_NotAhead : Addr} {tk_LETTERS : Tok} {tk_MOST_ITEMS : Tok}
    (eC_NoText : PySem.W.nsIn K mainGlobals "NoText" = some (some (.ref C_NoText)))
    (xL_NoText : K.lookup C_NoText = some (excClassObj nm_NoText q_NoText C_NoText N_NoText bs_NoText [.type "ValueError", .type "Exception", .type "BaseException", .type "object"] true sn_NoText sub_NoText ab_NoText col_NoText dd_NoText m0_NoText m1_NoText m2_NoText m3_NoText m5_NoText "ValueError.__new__"))
    (sa_NoText : PySem.W.findIn K (.ref C_NoText) "__setattr__" = some (some (.builtin "object.__setattr__")))
    (ga_NoText : PySem.W.findIn K (.ref C_NoText) "__getattribute__" = some (some (.builtin "BaseException.__getattribute__")))
    (gg_NoText : PySem.W.findIn K (.ref C_NoText) "__getattr__" = some none)
    (kC_NoText : PySem.W.keepIn K (.ref C_NoText) = true)
    (xC_NoText : PySem.W.subIn K (.ref C_NoText) (.type "BaseException") = some true)
    (tC_NoText : PySem.W.typeIn K (.ref C_NoText) = some (.type "type"))
    (hC_NoText : PySem.W.hasDictIn K C_NoText = true)
    (iC_NoText : PySem.W.isClsIn K C_NoText = true)
    (sC_NoText : PySem.W.subIn K (.ref C_NoText) (.ref C_NoText) = some true)
    (fI_NoText : PySem.W.findIn K (.ref C_NoText) "__init__" = some (some (.ref a0)))
    (tI_NoText : PySem.W.typeIn K (.ref a0) = some (.type "function"))
    (nf_nth_NoText : PySem.W.findIn K (.ref C_NoText) "nth" = some none)
    (l0 : K.lookup a0 = some ⟨oc0, od0, .func (PySem.W.fnOf "__init__" "NoText.__init__" (defArgs s_iNoText) (defBody s_iNoText) (defScope s_iNoText) .none kV0 dc0 pm0 an0 cd0 ct0), sl0⟩)
    (c0 : PySem.W.codeIn K cd0 "NoText.__init__" = true) (k0 : PySem.W.keepIn K (.ref a0) = true)
    (e1 : PySem.W.nsIn K mainGlobals "law" = some (some (.ref a1)))
    (l1 : K.lookup a1 = some ⟨oc1, od1, .func (PySem.W.fnOf "law" "law" (defArgs s_law) (defBody s_law) (defScope s_law) .none kV1 dc1 pm1 an1 cd1 ct1), sl1⟩)
    (c1 : PySem.W.codeIn K cd1 "law" = true) (k1 : PySem.W.keepIn K (.ref a1) = true)
    (e2 : PySem.W.nsIn K mainGlobals "is_whole" = some (some (.ref a2)))
    (l2 : K.lookup a2 = some ⟨oc2, od2, .func (PySem.W.fnOf "is_whole" "is_whole" (defArgs s_iswhole) (defBody s_iswhole) (defScope s_iswhole) .none kV2 dc2 pm2 an2 cd2 ct2), sl2⟩)
    (c2 : PySem.W.codeIn K cd2 "is_whole" = true) (k2 : PySem.W.keepIn K (.ref a2) = true)
    (e3 : PySem.W.nsIn K mainGlobals "whole_of" = some (some (.ref a3)))
    (l3 : K.lookup a3 = some ⟨oc3, od3, .func (PySem.W.fnOf "whole_of" "whole_of" (defArgs s_wholeof) (defBody s_wholeof) (defScope s_wholeof) .none kV3 dc3 pm3 an3 cd3 ct3), sl3⟩)
    (c3 : PySem.W.codeIn K cd3 "whole_of" = true) (k3 : PySem.W.keepIn K (.ref a3) = true)
    (e4 : PySem.W.nsIn K mainGlobals "is_worth" = some (some (.ref a4)))
    (l4 : K.lookup a4 = some ⟨oc4, od4, .func (PySem.W.fnOf "is_worth" "is_worth" (defArgs s_isworth) (defBody s_isworth) (defScope s_isworth) .none kV4 dc4 pm4 an4 cd4 ct4), sl4⟩)
    (c4 : PySem.W.codeIn K cd4 "is_worth" = true) (k4 : PySem.W.keepIn K (.ref a4) = true)
    (e5 : PySem.W.nsIn K mainGlobals "worth_of" = some (some (.ref a5)))
    (l5 : K.lookup a5 = some ⟨oc5, od5, .func (PySem.W.fnOf "worth_of" "worth_of" (defArgs s_worthof) (defBody s_worthof) (defScope s_worthof) .none kV5 dc5 pm5 an5 cd5 ct5), sl5⟩)
    (c5 : PySem.W.codeIn K cd5 "worth_of" = true) (k5 : PySem.W.keepIn K (.ref a5) = true)
    (e6 : PySem.W.nsIn K mainGlobals "plus" = some (some (.ref a6)))
    (l6 : K.lookup a6 = some ⟨oc6, od6, .func (PySem.W.fnOf "plus" "plus" (defArgs s_plus) (defBody s_plus) (defScope s_plus) .none kV6 dc6 pm6 an6 cd6 ct6), sl6⟩)
    (c6 : PySem.W.codeIn K cd6 "plus" = true) (k6 : PySem.W.keepIn K (.ref a6) = true)
    (e7 : PySem.W.nsIn K mainGlobals "minus" = some (some (.ref a7)))
    (l7 : K.lookup a7 = some ⟨oc7, od7, .func (PySem.W.fnOf "minus" "minus" (defArgs s_minus) (defBody s_minus) (defScope s_minus) .none kV7 dc7 pm7 an7 cd7 ct7), sl7⟩)
    (c7 : PySem.W.codeIn K cd7 "minus" = true) (k7 : PySem.W.keepIn K (.ref a7) = true)
    (e8 : PySem.W.nsIn K mainGlobals "times" = some (some (.ref a8)))
    (l8 : K.lookup a8 = some ⟨oc8, od8, .func (PySem.W.fnOf "times" "times" (defArgs s_times) (defBody s_times) (defScope s_times) .none kV8 dc8 pm8 an8 cd8 ct8), sl8⟩)
    (c8 : PySem.W.codeIn K cd8 "times" = true) (k8 : PySem.W.keepIn K (.ref a8) = true)
    (e9 : PySem.W.nsIn K mainGlobals "quotient" = some (some (.ref a9)))
    (l9 : K.lookup a9 = some ⟨oc9, od9, .func (PySem.W.fnOf "quotient" "quotient" (defArgs s_quotient) (defBody s_quotient) (defScope s_quotient) .none kV9 dc9 pm9 an9 cd9 ct9), sl9⟩)
    (c9 : PySem.W.codeIn K cd9 "quotient" = true) (k9 : PySem.W.keepIn K (.ref a9) = true)
    (e10 : PySem.W.nsIn K mainGlobals "rest" = some (some (.ref a10)))
    (l10 : K.lookup a10 = some ⟨oc10, od10, .func (PySem.W.fnOf "rest" "rest" (defArgs s_rest) (defBody s_rest) (defScope s_rest) .none kV10 dc10 pm10 an10 cd10 ct10), sl10⟩)
    (c10 : PySem.W.codeIn K cd10 "rest" = true) (k10 : PySem.W.keepIn K (.ref a10) = true)
    (e11 : PySem.W.nsIn K mainGlobals "is_less" = some (some (.ref a11)))
    (l11 : K.lookup a11 = some ⟨oc11, od11, .func (PySem.W.fnOf "is_less" "is_less" (defArgs s_isless) (defBody s_isless) (defScope s_isless) .none kV11 dc11 pm11 an11 cd11 ct11), sl11⟩)
    (c11 : PySem.W.codeIn K cd11 "is_less" = true) (k11 : PySem.W.keepIn K (.ref a11) = true)
    (e12 : PySem.W.nsIn K mainGlobals "is_same" = some (some (.ref a12)))
    (l12 : K.lookup a12 = some ⟨oc12, od12, .func (PySem.W.fnOf "is_same" "is_same" (defArgs s_issame) (defBody s_issame) (defScope s_issame) .none kV12 dc12 pm12 an12 cd12 ct12), sl12⟩)
    (c12 : PySem.W.codeIn K cd12 "is_same" = true) (k12 : PySem.W.keepIn K (.ref a12) = true)
    (e13 : PySem.W.nsIn K mainGlobals "bits_of_both" = some (some (.ref a13)))
    (l13 : K.lookup a13 = some ⟨oc13, od13, .func (PySem.W.fnOf "bits_of_both" "bits_of_both" (defArgs s_bitsofboth) (defBody s_bitsofboth) (defScope s_bitsofboth) .none kV13 dc13 pm13 an13 cd13 ct13), sl13⟩)
    (c13 : PySem.W.codeIn K cd13 "bits_of_both" = true) (k13 : PySem.W.keepIn K (.ref a13) = true)
    (e14 : PySem.W.nsIn K mainGlobals "bits_of_one" = some (some (.ref a14)))
    (l14 : K.lookup a14 = some ⟨oc14, od14, .func (PySem.W.fnOf "bits_of_one" "bits_of_one" (defArgs s_bitsofone) (defBody s_bitsofone) (defScope s_bitsofone) .none kV14 dc14 pm14 an14 cd14 ct14), sl14⟩)
    (c14 : PySem.W.codeIn K cd14 "bits_of_one" = true) (k14 : PySem.W.keepIn K (.ref a14) = true)
    (e15 : PySem.W.nsIn K mainGlobals "is_letter" = some (some (.ref a15)))
    (l15 : K.lookup a15 = some ⟨oc15, od15, .func (PySem.W.fnOf "is_letter" "is_letter" (defArgs s_isletter) (defBody s_isletter) (defScope s_isletter) .none kV15 dc15 pm15 an15 cd15 ct15), sl15⟩)
    (c15 : PySem.W.codeIn K cd15 "is_letter" = true) (k15 : PySem.W.keepIn K (.ref a15) = true)
    (e16 : PySem.W.nsIn K mainGlobals "is_sign" = some (some (.ref a16)))
    (l16 : K.lookup a16 = some ⟨oc16, od16, .func (PySem.W.fnOf "is_sign" "is_sign" (defArgs s_issign) (defBody s_issign) (defScope s_issign) .none kV16 dc16 pm16 an16 cd16 ct16), sl16⟩)
    (c16 : PySem.W.codeIn K cd16 "is_sign" = true) (k16 : PySem.W.keepIn K (.ref a16) = true)
    (e17 : PySem.W.nsIn K mainGlobals "leaves_one" = some (some (.ref a17)))
    (l17 : K.lookup a17 = some ⟨oc17, od17, .func (PySem.W.fnOf "leaves_one" "leaves_one" (defArgs s_leavesone) (defBody s_leavesone) (defScope s_leavesone) .none kV17 dc17 pm17 an17 cd17 ct17), sl17⟩)
    (c17 : PySem.W.codeIn K cd17 "leaves_one" = true) (k17 : PySem.W.keepIn K (.ref a17) = true)
    (e18 : PySem.W.nsIn K mainGlobals "is_expression" = some (some (.ref a18)))
    (l18 : K.lookup a18 = some ⟨oc18, od18, .func (PySem.W.fnOf "is_expression" "is_expression" (defArgs s_isexpression) (defBody s_isexpression) (defScope s_isexpression) .none kV18 dc18 pm18 an18 cd18 ct18), sl18⟩)
    (c18 : PySem.W.codeIn K cd18 "is_expression" = true) (k18 : PySem.W.keepIn K (.ref a18) = true)
    (e19 : PySem.W.nsIn K mainGlobals "show_expression" = some (some (.ref a19)))
    (l19 : K.lookup a19 = some ⟨oc19, od19, .func (PySem.W.fnOf "show_expression" "show_expression" (defArgs s_showexpression) (defBody s_showexpression) (defScope s_showexpression) .none kV19 dc19 pm19 an19 cd19 ct19), sl19⟩)
    (c19 : PySem.W.codeIn K cd19 "show_expression" = true) (k19 : PySem.W.keepIn K (.ref a19) = true)
    (e20 : PySem.W.nsIn K mainGlobals "item_of" = some (some (.ref a20)))
    (l20 : K.lookup a20 = some ⟨oc20, od20, .func (PySem.W.fnOf "item_of" "item_of" (defArgs s_itemof) (defBody s_itemof) (defScope s_itemof) .none kV20 dc20 pm20 an20 cd20 ct20), sl20⟩)
    (c20 : PySem.W.codeIn K cd20 "item_of" = true) (k20 : PySem.W.keepIn K (.ref a20) = true)
    (e21 : PySem.W.nsIn K mainGlobals "expression_of" = some (some (.ref a21)))
    (l21 : K.lookup a21 = some ⟨oc21, od21, .func (PySem.W.fnOf "expression_of" "expression_of" (defArgs s_expressionof) (defBody s_expressionof) (defScope s_expressionof) .none kV21 dc21 pm21 an21 cd21 ct21), sl21⟩)
    (c21 : PySem.W.codeIn K cd21 "expression_of" = true) (k21 : PySem.W.keepIn K (.ref a21) = true)
    (e22 : PySem.W.nsIn K mainGlobals "read_expression" = some (some (.ref a22)))
    (l22 : K.lookup a22 = some ⟨oc22, od22, .func (PySem.W.fnOf "read_expression" "read_expression" (defArgs s_readexpression) (defBody s_readexpression) (defScope s_readexpression) .none kV22 dc22 pm22 an22 cd22 ct22), sl22⟩)
    (c22 : PySem.W.codeIn K cd22 "read_expression" = true) (k22 : PySem.W.keepIn K (.ref a22) = true)
    (e23 : PySem.W.nsIn K mainGlobals "_law_read" = some (some (.ref a23)))
    (l23 : K.lookup a23 = some ⟨oc23, od23, .func (PySem.W.fnOf "_law_read" "_law_read" (defArgs s_lread) (defBody s_lread) (defScope s_lread) .none kV23 dc23 pm23 an23 cd23 ct23), sl23⟩)
    (c23 : PySem.W.codeIn K cd23 "_law_read" = true) (k23 : PySem.W.keepIn K (.ref a23) = true)
    (e24 : PySem.W.nsIn K mainGlobals "_law_feed" = some (some (.ref a24)))
    (l24 : K.lookup a24 = some ⟨oc24, od24, .func (PySem.W.fnOf "_law_feed" "_law_feed" (defArgs s_lfeed) (defBody s_lfeed) (defScope s_lfeed) .none kV24 dc24 pm24 an24 cd24 ct24), sl24⟩)
    (c24 : PySem.W.codeIn K cd24 "_law_feed" = true) (k24 : PySem.W.keepIn K (.ref a24) = true)
    (e25 : PySem.W.nsIn K mainGlobals "_law_draw" = some (some (.ref a25)))
    (l25 : K.lookup a25 = some ⟨oc25, od25, .func (PySem.W.fnOf "_law_draw" "_law_draw" (defArgs s_ldraw) (defBody s_ldraw) (defScope s_ldraw) .none kV25 dc25 pm25 an25 cd25 ct25), sl25⟩)
    (c25 : PySem.W.codeIn K cd25 "_law_draw" = true) (k25 : PySem.W.keepIn K (.ref a25) = true)
    (e26 : PySem.W.nsIn K mainGlobals "_law_worth" = some (some (.ref a26)))
    (l26 : K.lookup a26 = some ⟨oc26, od26, .func (PySem.W.fnOf "_law_worth" "_law_worth" (defArgs s_lworth) (defBody s_lworth) (defScope s_lworth) .none kV26 dc26 pm26 an26 cd26 ct26), sl26⟩)
    (c26 : PySem.W.codeIn K cd26 "_law_worth" = true) (k26 : PySem.W.keepIn K (.ref a26) = true)
    (e27 : PySem.W.nsIn K mainGlobals "_law_register" = some (some (.ref a27)))
    (l27 : K.lookup a27 = some ⟨oc27, od27, .func (PySem.W.fnOf "_law_register" "_law_register" (defArgs s_lregister) (defBody s_lregister) (defScope s_lregister) .none kV27 dc27 pm27 an27 cd27 ct27), sl27⟩)
    (c27 : PySem.W.codeIn K cd27 "_law_register" = true) (k27 : PySem.W.keepIn K (.ref a27) = true)
    (e28 : PySem.W.nsIn K mainGlobals "_law_item" = some (some (.ref a28)))
    (l28 : K.lookup a28 = some ⟨oc28, od28, .func (PySem.W.fnOf "_law_item" "_law_item" (defArgs s_litem) (defBody s_litem) (defScope s_litem) .none kV28 dc28 pm28 an28 cd28 ct28), sl28⟩)
    (c28 : PySem.W.codeIn K cd28 "_law_item" = true) (k28 : PySem.W.keepIn K (.ref a28) = true)
    (e29 : PySem.W.nsIn K mainGlobals "_law_expression" = some (some (.ref a29)))
    (l29 : K.lookup a29 = some ⟨oc29, od29, .func (PySem.W.fnOf "_law_expression" "_law_expression" (defArgs s_lexpression) (defBody s_lexpression) (defScope s_lexpression) .none kV29 dc29 pm29 an29 cd29 ct29), sl29⟩)
    (c29 : PySem.W.codeIn K cd29 "_law_expression" = true) (k29 : PySem.W.keepIn K (.ref a29) = true)
    (e30 : PySem.W.nsIn K mainGlobals "_law_is_expression" = some (some (.ref a30)))
    (l30 : K.lookup a30 = some ⟨oc30, od30, .func (PySem.W.fnOf "_law_is_expression" "_law_is_expression" (defArgs s_lisexp) (defBody s_lisexp) (defScope s_lisexp) .none kV30 dc30 pm30 an30 cd30 ct30), sl30⟩)
    (c30 : PySem.W.codeIn K cd30 "_law_is_expression" = true) (k30 : PySem.W.keepIn K (.ref a30) = true)
    (e31 : PySem.W.nsIn K mainGlobals "_law_expression_text" = some (some (.ref a31)))
    (l31 : K.lookup a31 = some ⟨oc31, od31, .func (PySem.W.fnOf "_law_expression_text" "_law_expression_text" (defArgs s_lextext) (defBody s_lextext) (defScope s_lextext) .none kV31 dc31 pm31 an31 cd31 ct31), sl31⟩)
    (c31 : PySem.W.codeIn K cd31 "_law_expression_text" = true) (k31 : PySem.W.keepIn K (.ref a31) = true)
    (e32 : PySem.W.nsIn K mainGlobals "_law_number_in" = some (some (.ref a32)))
    (l32 : K.lookup a32 = some ⟨oc32, od32, .func (PySem.W.fnOf "_law_number_in" "_law_number_in" (defArgs s_lnumin) (defBody s_lnumin) (defScope s_lnumin) .none kV32 dc32 pm32 an32 cd32 ct32), sl32⟩)
    (c32 : PySem.W.codeIn K cd32 "_law_number_in" = true) (k32 : PySem.W.keepIn K (.ref a32) = true)
    (e33 : PySem.W.nsIn K mainGlobals "_law_spoilt" = some (some (.ref a33)))
    (l33 : K.lookup a33 = some ⟨oc33, od33, .func (PySem.W.fnOf "_law_spoilt" "_law_spoilt" (defArgs s_lspoilt) (defBody s_lspoilt) (defScope s_lspoilt) .none kV33 dc33 pm33 an33 cd33 ct33), sl33⟩)
    (c33 : PySem.W.codeIn K cd33 "_law_spoilt" = true) (k33 : PySem.W.keepIn K (.ref a33) = true)
    (e34 : PySem.W.nsIn K mainGlobals "_law_expression_in" = some (some (.ref a34)))
    (l34 : K.lookup a34 = some ⟨oc34, od34, .func (PySem.W.fnOf "_law_expression_in" "_law_expression_in" (defArgs s_lexprin) (defBody s_lexprin) (defScope s_lexprin) .none kV34 dc34 pm34 an34 cd34 ct34), sl34⟩)
    (c34 : PySem.W.codeIn K cd34 "_law_expression_in" = true) (k34 : PySem.W.keepIn K (.ref a34) = true)
    (e_SIGNS : PySem.W.nsIn K mainGlobals "SIGNS" = some (some (.ref o_SIGNS)))
    (l_SIGNS : K.lookup o_SIGNS = some ⟨.type "dict", none, .dict es_SIGNS nn_SIGNS, #[]⟩)
    (k_SIGNS : PySem.W.KeysLit w.params es_SIGNS.toList)
    (v_SIGNS_0 : PySem.W.nsIn K o_SIGNS "+" = some (some (.ref a6)))
    (v_SIGNS_1 : PySem.W.nsIn K o_SIGNS "-" = some (some (.ref a7)))
    (v_SIGNS_2 : PySem.W.nsIn K o_SIGNS "*" = some (some (.ref a8)))
    (v_SIGNS_3 : PySem.W.nsIn K o_SIGNS "/" = some (some (.ref a9)))
    (v_SIGNS_4 : PySem.W.nsIn K o_SIGNS "#" = some (some (.ref a10)))
    (v_SIGNS_5 : PySem.W.nsIn K o_SIGNS "<" = some (some (.ref a11)))
    (v_SIGNS_6 : PySem.W.nsIn K o_SIGNS "=" = some (some (.ref a12)))
    (v_SIGNS_7 : PySem.W.nsIn K o_SIGNS "&" = some (some (.ref a13)))
    (v_SIGNS_8 : PySem.W.nsIn K o_SIGNS "^" = some (some (.ref a14)))
    (low_SIGNS : (o_SIGNS == sysModules) = false)
    (kd_SIGNS : Keyed es_SIGNS.toList ["+", "-", "*", "/", "#", "<", "=", "&", "^"])
    (eN_NoRow : PySem.W.nsIn K mainGlobals "NoRow" = some (some (.ref C_NoRow)))
    (eN_NotAhead : PySem.W.nsIn K mainGlobals "NotAhead" = some (some (.ref C_NotAhead)))
    (q_cls : PySem.W.findIn K (.ref C_NoText) "__class__" = some (some (.builtin "object.__class__")))
    (q_get : PySem.W.specialIn K (.builtin "object.__class__") "__get__" = some (some (.builtin "getset_descriptor.__get__")))
    (q_tks : PySem.W.takesIn K (.builtin "object.__class__") = some true)
    (q_mro : PySem.W.mroIn K C_NoText (.type "object") = some true)
    (q_ive : PySem.W.kitOne K (.ref C_NoText) (.type "ValueError") = some true)
    (q_itw : PySem.W.kitAny K (.ref C_NoText) [.ref C_NoRow, .ref C_NotAhead] = some false)
    (c_LETTERS : PySem.W.nsIn K mainGlobals "LETTERS" = some (some (.str "abcdefghijklmnop" tk_LETTERS)))
    (c_MOST_ITEMS : PySem.W.nsIn K mainGlobals "MOST_ITEMS" = some (some (.int 15 tk_MOST_ITEMS)))
    (z_ValueError : PySem.W.nsIn K mainGlobals "ValueError" = some none)
    (z_all : PySem.W.nsIn K mainGlobals "all" = some none)
    (z_bool : PySem.W.nsIn K mainGlobals "bool" = some none)
    (z_int : PySem.W.nsIn K mainGlobals "int" = some none)
    (z_isinstance : PySem.W.nsIn K mainGlobals "isinstance" = some none)
    (z_len : PySem.W.nsIn K mainGlobals "len" = some none)
    (z_list : PySem.W.nsIn K mainGlobals "list" = some none)
    (z_range : PySem.W.nsIn K mainGlobals "range" = some none)
    (z_repr : PySem.W.nsIn K mainGlobals "repr" = some none)
    (z_str : PySem.W.nsIn K mainGlobals "str" = some none)
    (z_tuple : PySem.W.nsIn K mainGlobals "tuple" = some none)
    : ∃ fd : FuncData, (∀ (s : Shared) (v : Value), BindsTo s fd ⟨[v], []⟩ [("_law_script", v)]) ∧ ∀ base : Heap, K.In base → base.Ns mainGlobals mg → FnG l.prog w K mg base CX0 8 fa fd ["_law_script"] (sp_law K) := by
  have e := hfa.symm.trans (PySem.W.mg_of X G e1)
  cases e
  have F0 := fun_mk (st := s_iNoText) l0 c0 k0
  have b0 := F0.binds (ps := ["self", "nth"]) fun _ _ _ _ _ _ us hl => match us, hl with | [_, _], _ => rfl
  have F1 := fun_mk (st := s_law) l1 c1 k1
  have b1 := F1.binds (ps := ["_law_script"]) fun _ _ _ _ _ _ us hl => match us, hl with | [_], _ => rfl
  have F2 := fun_mk (st := s_iswhole) l2 c2 k2
  have b2 := F2.binds (ps := ["thing"]) fun _ _ _ _ _ _ us hl => match us, hl with | [_], _ => rfl
  have F3 := fun_mk (st := s_wholeof) l3 c3 k3
  have b3 := F3.binds (ps := ["text"]) fun _ _ _ _ _ _ us hl => match us, hl with | [_], _ => rfl
  have F4 := fun_mk (st := s_isworth) l4 c4 k4
  have b4 := F4.binds (ps := ["thing"]) fun _ _ _ _ _ _ us hl => match us, hl with | [_], _ => rfl
  have F5 := fun_mk (st := s_worthof) l5 c5 k5
  have b5 := F5.binds (ps := ["text"]) fun _ _ _ _ _ _ us hl => match us, hl with | [_], _ => rfl
  have F6 := fun_mk (st := s_plus) l6 c6 k6
  have b6 := F6.binds (ps := ["one", "other"]) fun _ _ _ _ _ _ us hl => match us, hl with | [_, _], _ => rfl
  have F7 := fun_mk (st := s_minus) l7 c7 k7
  have b7 := F7.binds (ps := ["one", "other"]) fun _ _ _ _ _ _ us hl => match us, hl with | [_, _], _ => rfl
  have F8 := fun_mk (st := s_times) l8 c8 k8
  have b8 := F8.binds (ps := ["one", "other"]) fun _ _ _ _ _ _ us hl => match us, hl with | [_, _], _ => rfl
  have F9 := fun_mk (st := s_quotient) l9 c9 k9
  have b9 := F9.binds (ps := ["one", "other"]) fun _ _ _ _ _ _ us hl => match us, hl with | [_, _], _ => rfl
  have F10 := fun_mk (st := s_rest) l10 c10 k10
  have b10 := F10.binds (ps := ["one", "other"]) fun _ _ _ _ _ _ us hl => match us, hl with | [_, _], _ => rfl
  have F11 := fun_mk (st := s_isless) l11 c11 k11
  have b11 := F11.binds (ps := ["one", "other"]) fun _ _ _ _ _ _ us hl => match us, hl with | [_, _], _ => rfl
  have F12 := fun_mk (st := s_issame) l12 c12 k12
  have b12 := F12.binds (ps := ["one", "other"]) fun _ _ _ _ _ _ us hl => match us, hl with | [_, _], _ => rfl
  have F13 := fun_mk (st := s_bitsofboth) l13 c13 k13
  have b13 := F13.binds (ps := ["one", "other"]) fun _ _ _ _ _ _ us hl => match us, hl with | [_, _], _ => rfl
  have F14 := fun_mk (st := s_bitsofone) l14 c14 k14
  have b14 := F14.binds (ps := ["one", "other"]) fun _ _ _ _ _ _ us hl => match us, hl with | [_, _], _ => rfl
  have F15 := fun_mk (st := s_isletter) l15 c15 k15
  have b15 := F15.binds (ps := ["thing"]) fun _ _ _ _ _ _ us hl => match us, hl with | [_], _ => rfl
  have F16 := fun_mk (st := s_issign) l16 c16 k16
  have b16 := F16.binds (ps := ["thing"]) fun _ _ _ _ _ _ us hl => match us, hl with | [_], _ => rfl
  have F17 := fun_mk (st := s_leavesone) l17 c17 k17
  have b17 := F17.binds (ps := ["items"]) fun _ _ _ _ _ _ us hl => match us, hl with | [_], _ => rfl
  have F18 := fun_mk (st := s_isexpression) l18 c18 k18
  have b18 := F18.binds (ps := ["thing"]) fun _ _ _ _ _ _ us hl => match us, hl with | [_], _ => rfl
  have F19 := fun_mk (st := s_showexpression) l19 c19 k19
  have b19 := F19.binds (ps := ["e"]) fun _ _ _ _ _ _ us hl => match us, hl with | [_], _ => rfl
  have F20 := fun_mk (st := s_itemof) l20 c20 k20
  have b20 := F20.binds (ps := ["word"]) fun _ _ _ _ _ _ us hl => match us, hl with | [_], _ => rfl
  have F21 := fun_mk (st := s_expressionof) l21 c21 k21
  have b21 := F21.binds (ps := ["text"]) fun _ _ _ _ _ _ us hl => match us, hl with | [_], _ => rfl
  have F22 := fun_mk (st := s_readexpression) l22 c22 k22
  have b22 := F22.binds (ps := ["text"]) fun _ _ _ _ _ _ us hl => match us, hl with | [_], _ => rfl
  have F23 := fun_mk (st := s_lread) l23 c23 k23
  have b23 := F23.binds (ps := ["_law_text"]) fun _ _ _ _ _ _ us hl => match us, hl with | [_], _ => rfl
  have F24 := fun_mk (st := s_lfeed) l24 c24 k24
  have b24 := F24.binds (ps := ["_law_script"]) fun _ _ _ _ _ _ us hl => match us, hl with | [_], _ => rfl
  have F25 := fun_mk (st := s_ldraw) l25 c25 k25
  have b25 := F25.binds (ps := ["_law_feed_here", "_law_many"]) fun _ _ _ _ _ _ us hl => match us, hl with | [_, _], _ => rfl
  have F26 := fun_mk (st := s_lworth) l26 c26 k26
  have b26 := F26.binds (ps := ["_law_feed_here"]) fun _ _ _ _ _ _ us hl => match us, hl with | [_], _ => rfl
  have F27 := fun_mk (st := s_lregister) l27 c27 k27
  have b27 := F27.binds (ps := ["_law_feed_here"]) fun _ _ _ _ _ _ us hl => match us, hl with | [_], _ => rfl
  have F28 := fun_mk (st := s_litem) l28 c28 k28
  have b28 := F28.binds (ps := ["_law_feed_here"]) fun _ _ _ _ _ _ us hl => match us, hl with | [_], _ => rfl
  have F29 := fun_mk (st := s_lexpression) l29 c29 k29
  have b29 := F29.binds (ps := ["_law_feed_here", "_law_most"]) fun _ _ _ _ _ _ us hl => match us, hl with | [_, _], _ => rfl
  have F30 := fun_mk (st := s_lisexp) l30 c30 k30
  have b30 := F30.binds (ps := ["_law_thing"]) fun _ _ _ _ _ _ us hl => match us, hl with | [_], _ => rfl
  have F31 := fun_mk (st := s_lextext) l31 c31 k31
  have b31 := F31.binds (ps := ["_law_e"]) fun _ _ _ _ _ _ us hl => match us, hl with | [_], _ => rfl
  have F32 := fun_mk (st := s_lnumin) l32 c32 k32
  have b32 := F32.binds (ps := ["_law_word", "_law_least"]) fun _ _ _ _ _ _ us hl => match us, hl with | [_, _], _ => rfl
  have F33 := fun_mk (st := s_lspoilt) l33 c33 k33
  have b33 := F33.binds (ps := ["_law_feed_here", "_law_text"]) fun _ _ _ _ _ _ us hl => match us, hl with | [_, _], _ => rfl
  have F34 := fun_mk (st := s_lexprin) l34 c34 k34
  have b34 := F34.binds (ps := ["_law_text"]) fun _ _ _ _ _ _ us hl => match us, hl with | [_], _ => rfl
  let f : Nat → Addr := fun i => match i with | 0 => a0 | 1 => fa | 2 => a2 | 3 => a3 | 4 => a4 | 5 => a5 | 6 => a6 | 7 => a7 | 8 => a8 | 9 => a9 | 10 => a10 | 11 => a11 | 12 => a12 | 13 => a13 | 14 => a14 | 15 => a15 | 16 => a16 | 17 => a17 | 18 => a18 | 19 => a19 | 20 => a20 | 21 => a21 | 22 => a22 | 23 => a23 | 24 => a24 | 25 => a25 | 26 => a26 | 27 => a27 | 28 => a28 | 29 => a29 | 30 => a30 | 31 => a31 | 32 => a32 | 33 => a33 | 34 => a34 | _ => a0
  let fd : Nat → FuncData := fun i => match i with | 0 => PySem.W.fnOf "__init__" "NoText.__init__" (defArgs s_iNoText) (defBody s_iNoText) (defScope s_iNoText) .none kV0 dc0 pm0 an0 cd0 ct0 | 1 => PySem.W.fnOf "law" "law" (defArgs s_law) (defBody s_law) (defScope s_law) .none kV1 dc1 pm1 an1 cd1 ct1 | 2 => PySem.W.fnOf "is_whole" "is_whole" (defArgs s_iswhole) (defBody s_iswhole) (defScope s_iswhole) .none kV2 dc2 pm2 an2 cd2 ct2 | 3 => PySem.W.fnOf "whole_of" "whole_of" (defArgs s_wholeof) (defBody s_wholeof) (defScope s_wholeof) .none kV3 dc3 pm3 an3 cd3 ct3 | 4 => PySem.W.fnOf "is_worth" "is_worth" (defArgs s_isworth) (defBody s_isworth) (defScope s_isworth) .none kV4 dc4 pm4 an4 cd4 ct4 | 5 => PySem.W.fnOf "worth_of" "worth_of" (defArgs s_worthof) (defBody s_worthof) (defScope s_worthof) .none kV5 dc5 pm5 an5 cd5 ct5 | 6 => PySem.W.fnOf "plus" "plus" (defArgs s_plus) (defBody s_plus) (defScope s_plus) .none kV6 dc6 pm6 an6 cd6 ct6 | 7 => PySem.W.fnOf "minus" "minus" (defArgs s_minus) (defBody s_minus) (defScope s_minus) .none kV7 dc7 pm7 an7 cd7 ct7 | 8 => PySem.W.fnOf "times" "times" (defArgs s_times) (defBody s_times) (defScope s_times) .none kV8 dc8 pm8 an8 cd8 ct8 | 9 => PySem.W.fnOf "quotient" "quotient" (defArgs s_quotient) (defBody s_quotient) (defScope s_quotient) .none kV9 dc9 pm9 an9 cd9 ct9 | 10 => PySem.W.fnOf "rest" "rest" (defArgs s_rest) (defBody s_rest) (defScope s_rest) .none kV10 dc10 pm10 an10 cd10 ct10 | 11 => PySem.W.fnOf "is_less" "is_less" (defArgs s_isless) (defBody s_isless) (defScope s_isless) .none kV11 dc11 pm11 an11 cd11 ct11 | 12 => PySem.W.fnOf "is_same" "is_same" (defArgs s_issame) (defBody s_issame) (defScope s_issame) .none kV12 dc12 pm12 an12 cd12 ct12 | 13 => PySem.W.fnOf "bits_of_both" "bits_of_both" (defArgs s_bitsofboth) (defBody s_bitsofboth) (defScope s_bitsofboth) .none kV13 dc13 pm13 an13 cd13 ct13 | 14 => PySem.W.fnOf "bits_of_one" "bits_of_one" (defArgs s_bitsofone) (defBody s_bitsofone) (defScope s_bitsofone) .none kV14 dc14 pm14 an14 cd14 ct14 | 15 => PySem.W.fnOf "is_letter" "is_letter" (defArgs s_isletter) (defBody s_isletter) (defScope s_isletter) .none kV15 dc15 pm15 an15 cd15 ct15 | 16 => PySem.W.fnOf "is_sign" "is_sign" (defArgs s_issign) (defBody s_issign) (defScope s_issign) .none kV16 dc16 pm16 an16 cd16 ct16 | 17 => PySem.W.fnOf "leaves_one" "leaves_one" (defArgs s_leavesone) (defBody s_leavesone) (defScope s_leavesone) .none kV17 dc17 pm17 an17 cd17 ct17 | 18 => PySem.W.fnOf "is_expression" "is_expression" (defArgs s_isexpression) (defBody s_isexpression) (defScope s_isexpression) .none kV18 dc18 pm18 an18 cd18 ct18 | 19 => PySem.W.fnOf "show_expression" "show_expression" (defArgs s_showexpression) (defBody s_showexpression) (defScope s_showexpression) .none kV19 dc19 pm19 an19 cd19 ct19 | 20 => PySem.W.fnOf "item_of" "item_of" (defArgs s_itemof) (defBody s_itemof) (defScope s_itemof) .none kV20 dc20 pm20 an20 cd20 ct20 | 21 => PySem.W.fnOf "expression_of" "expression_of" (defArgs s_expressionof) (defBody s_expressionof) (defScope s_expressionof) .none kV21 dc21 pm21 an21 cd21 ct21 | 22 => PySem.W.fnOf "read_expression" "read_expression" (defArgs s_readexpression) (defBody s_readexpression) (defScope s_readexpression) .none kV22 dc22 pm22 an22 cd22 ct22 | 23 => PySem.W.fnOf "_law_read" "_law_read" (defArgs s_lread) (defBody s_lread) (defScope s_lread) .none kV23 dc23 pm23 an23 cd23 ct23 | 24 => PySem.W.fnOf "_law_feed" "_law_feed" (defArgs s_lfeed) (defBody s_lfeed) (defScope s_lfeed) .none kV24 dc24 pm24 an24 cd24 ct24 | 25 => PySem.W.fnOf "_law_draw" "_law_draw" (defArgs s_ldraw) (defBody s_ldraw) (defScope s_ldraw) .none kV25 dc25 pm25 an25 cd25 ct25 | 26 => PySem.W.fnOf "_law_worth" "_law_worth" (defArgs s_lworth) (defBody s_lworth) (defScope s_lworth) .none kV26 dc26 pm26 an26 cd26 ct26 | 27 => PySem.W.fnOf "_law_register" "_law_register" (defArgs s_lregister) (defBody s_lregister) (defScope s_lregister) .none kV27 dc27 pm27 an27 cd27 ct27 | 28 => PySem.W.fnOf "_law_item" "_law_item" (defArgs s_litem) (defBody s_litem) (defScope s_litem) .none kV28 dc28 pm28 an28 cd28 ct28 | 29 => PySem.W.fnOf "_law_expression" "_law_expression" (defArgs s_lexpression) (defBody s_lexpression) (defScope s_lexpression) .none kV29 dc29 pm29 an29 cd29 ct29 | 30 => PySem.W.fnOf "_law_is_expression" "_law_is_expression" (defArgs s_lisexp) (defBody s_lisexp) (defScope s_lisexp) .none kV30 dc30 pm30 an30 cd30 ct30 | 31 => PySem.W.fnOf "_law_expression_text" "_law_expression_text" (defArgs s_lextext) (defBody s_lextext) (defScope s_lextext) .none kV31 dc31 pm31 an31 cd31 ct31 | 32 => PySem.W.fnOf "_law_number_in" "_law_number_in" (defArgs s_lnumin) (defBody s_lnumin) (defScope s_lnumin) .none kV32 dc32 pm32 an32 cd32 ct32 | 33 => PySem.W.fnOf "_law_spoilt" "_law_spoilt" (defArgs s_lspoilt) (defBody s_lspoilt) (defScope s_lspoilt) .none kV33 dc33 pm33 an33 cd33 ct33 | 34 => PySem.W.fnOf "_law_expression_in" "_law_expression_in" (defArgs s_lexprin) (defBody s_lexprin) (defScope s_lexprin) .none kV34 dc34 pm34 an34 cd34 ct34 | _ => PySem.W.fnOf "NoText.__init__" "NoText.__init__" (defArgs s_iNoText) (defBody s_iNoText) (defScope s_iNoText) .none kV0 dc0 pm0 an0 cd0 ct0
  let ob : Nat → Addr := fun i => match i with | 0 => o_SIGNS | 1 => C_NoText | 2 => C_NoRow | 3 => C_NotAhead | _ => o_SIGNS
  have T : Txt K w mg f fd ob := ⟨F0, PySem.W.mg_of X G eC_NoText, ⟨⟨nm_NoText, q_NoText, N_NoText, bs_NoText, _, sn_NoText, sub_NoText, ab_NoText, col_NoText, dd_NoText, m0_NoText, m1_NoText, m2_NoText, m3_NoText, m5_NoText, xL_NoText, by decide +kernel⟩, sa_NoText, xC_NoText, tC_NoText, kC_NoText⟩, fI_NoText, tI_NoText, ⟨ga_NoText, gg_NoText, xC_NoText, hC_NoText⟩, iC_NoText, exm_self xC_NoText iC_NoText tC_NoText sC_NoText, nf_nth_NoText, b0, F1, PySem.W.mg_of X G e1, b1, F2, PySem.W.mg_of X G e2, b2, F3, PySem.W.mg_of X G e3, b3, F4, PySem.W.mg_of X G e4, b4, F5, PySem.W.mg_of X G e5, b5, F6, PySem.W.mg_of X G e6, b6, F7, PySem.W.mg_of X G e7, b7, F8, PySem.W.mg_of X G e8, b8, F9, PySem.W.mg_of X G e9, b9, F10, PySem.W.mg_of X G e10, b10, F11, PySem.W.mg_of X G e11, b11, F12, PySem.W.mg_of X G e12, b12, F13, PySem.W.mg_of X G e13, b13, F14, PySem.W.mg_of X G e14, b14, F15, PySem.W.mg_of X G e15, b15, F16, PySem.W.mg_of X G e16, b16, F17, PySem.W.mg_of X G e17, b17, F18, PySem.W.mg_of X G e18, b18, F19, PySem.W.mg_of X G e19, b19, F20, PySem.W.mg_of X G e20, b20, F21, PySem.W.mg_of X G e21, b21, F22, PySem.W.mg_of X G e22, b22, F23, PySem.W.mg_of X G e23, b23, F24, PySem.W.mg_of X G e24, b24, F25, PySem.W.mg_of X G e25, b25, F26, PySem.W.mg_of X G e26, b26, F27, PySem.W.mg_of X G e27, b27, F28, PySem.W.mg_of X G e28, b28, F29, PySem.W.mg_of X G e29, b29, F30, PySem.W.mg_of X G e30, b30, F31, PySem.W.mg_of X G e31, b31, F32, PySem.W.mg_of X G e32, b32, F33, PySem.W.mg_of X G e33, b33, F34, PySem.W.mg_of X G e34, b34, PySem.W.mg_of X G e_SIGNS, ⟨_, _, _, l_SIGNS, k_SIGNS, v_SIGNS_0, rfl⟩, ⟨_, _, _, l_SIGNS, k_SIGNS, v_SIGNS_1, rfl⟩, ⟨_, _, _, l_SIGNS, k_SIGNS, v_SIGNS_2, rfl⟩, ⟨_, _, _, l_SIGNS, k_SIGNS, v_SIGNS_3, rfl⟩, ⟨_, _, _, l_SIGNS, k_SIGNS, v_SIGNS_4, rfl⟩, ⟨_, _, _, l_SIGNS, k_SIGNS, v_SIGNS_5, rfl⟩, ⟨_, _, _, l_SIGNS, k_SIGNS, v_SIGNS_6, rfl⟩, ⟨_, _, _, l_SIGNS, k_SIGNS, v_SIGNS_7, rfl⟩, ⟨_, _, _, l_SIGNS, k_SIGNS, v_SIGNS_8, rfl⟩, ⟨_, _, ⟨l_SIGNS, k_SIGNS, low_SIGNS⟩⟩, fun z hz => keyed_none l_SIGNS kd_SIGNS hz, PySem.W.mg_of X G eN_NoRow, PySem.W.mg_of X G eN_NotAhead, q_cls, q_get, q_tks, q_mro, q_ive, q_itw, ⟨_, PySem.W.mg_of X G c_LETTERS⟩, ⟨_, PySem.W.mg_of X G c_MOST_ITEMS⟩, PySem.W.mg_none_of X G z_ValueError, PySem.W.mg_none_of X G z_all, PySem.W.mg_none_of X G z_bool, PySem.W.mg_none_of X G z_int, PySem.W.mg_none_of X G z_isinstance, PySem.W.mg_none_of X G z_len, PySem.W.mg_none_of X G z_list, PySem.W.mg_none_of X G z_range, PySem.W.mg_none_of X G z_repr, PySem.W.mg_none_of X G z_str, PySem.W.mg_none_of X G z_tuple⟩
  exact ⟨fd 1, fun s v => .of_eq rfl, fun base _ _ => ok_law T⟩
end Kw
open PySem PySem.W PyProof.Rows
set_option maxRecDepth 100000 in
set_option maxHeartbeats 0 in
theorem PySem.Challenge.cw_replaytravel_k06_expressions_written_and_holds : PySem.Challenge.rw_replaytravel_k06_expressions_written_and.Holds := by
  w_on; o_law; k_head; (case hw => w_witness2)
  k_fill
  refine Kw.walkG (l := PySem.Challenge.rw_replaytravel_k06_expressions_written_and) (n := 63) (k := 8) (x := "_law_script") (C := fun _ => L2.CX0) (sp := fun w => Kw.sp_law _) rfl (by decide) rfl ⟨rfl, by decide, by decide⟩ (fun w h Y => PySem.W.kIn_of Y) ?F (fun _ _ a ns hl _ hS => ⟨a, ns, rfl, hS, hl, fun _ => rfl⟩) (fun _ _ _ _ _ h => h)
  case F =>
    intro w mg fa h KX G hmg
    refine' Kw.all_mk KX G hmg ?eC_NoText ?xL_NoText ?sa_NoText ?ga_NoText ?gg_NoText ?kC_NoText ?xC_NoText ?tC_NoText ?hC_NoText ?iC_NoText ?sC_NoText ?fI_NoText ?tI_NoText ?nf_nth_NoText ?l0 ?c0 ?k0 ?e1 ?l1 ?c1 ?k1 ?e2 ?l2 ?c2 ?k2 ?e3 ?l3 ?c3 ?k3 ?e4 ?l4 ?c4 ?k4 ?e5 ?l5 ?c5 ?k5 ?e6 ?l6 ?c6 ?k6 ?e7 ?l7 ?c7 ?k7 ?e8 ?l8 ?c8 ?k8 ?e9 ?l9 ?c9 ?k9 ?e10 ?l10 ?c10 ?k10 ?e11 ?l11 ?c11 ?k11 ?e12 ?l12 ?c12 ?k12 ?e13 ?l13 ?c13 ?k13 ?e14 ?l14 ?c14 ?k14 ?e15 ?l15 ?c15 ?k15 ?e16 ?l16 ?c16 ?k16 ?e17 ?l17 ?c17 ?k17 ?e18 ?l18 ?c18 ?k18 ?e19 ?l19 ?c19 ?k19 ?e20 ?l20 ?c20 ?k20 ?e21 ?l21 ?c21 ?k21 ?e22 ?l22 ?c22 ?k22 ?e23 ?l23 ?c23 ?k23 ?e24 ?l24 ?c24 ?k24 ?e25 ?l25 ?c25 ?k25 ?e26 ?l26 ?c26 ?k26 ?e27 ?l27 ?c27 ?k27 ?e28 ?l28 ?c28 ?k28 ?e29 ?l29 ?c29 ?k29 ?e30 ?l30 ?c30 ?k30 ?e31 ?l31 ?c31 ?k31 ?e32 ?l32 ?c32 ?k32 ?e33 ?l33 ?c33 ?k33 ?e34 ?l34 ?c34 ?k34 ?e_SIGNS ?l_SIGNS ?k_SIGNS ?v_SIGNS_0 ?v_SIGNS_1 ?v_SIGNS_2 ?v_SIGNS_3 ?v_SIGNS_4 ?v_SIGNS_5 ?v_SIGNS_6 ?v_SIGNS_7 ?v_SIGNS_8 ?low_SIGNS ?kd_SIGNS ?eN_NoRow ?eN_NotAhead ?q_cls ?q_get ?q_tks ?q_mro ?q_ive ?q_itw ?c_LETTERS ?c_MOST_ITEMS ?z_ValueError ?z_all ?z_bool ?z_int ?z_isinstance ?z_len ?z_list ?z_range ?z_repr ?z_str ?z_tuple
    (case eC_NoText => k_is)
    (case xL_NoText => k_is)
    (case sa_NoText => k_is)
    (case ga_NoText => k_is)
    (case gg_NoText => k_is)
    (case kC_NoText => k_is)
    (case xC_NoText => k_is)
    (case tC_NoText => k_is)
    (case hC_NoText => k_is)
    (case iC_NoText => k_is)
    (case sC_NoText => first | rfl | k_is)
    (case fI_NoText => k_is)
    (case tI_NoText => k_is)
    (case nf_nth_NoText => k_is)
    (case l0 => k_is)
    (case c0 => k_is)
    (case k0 => k_is)
    (case e1 => k_is)
    (case l1 => k_is)
    (case c1 => k_is)
    (case k1 => k_is)
    (case e2 => k_is)
    (case l2 => k_is)
    (case c2 => k_is)
    (case k2 => k_is)
    (case e3 => k_is)
    (case l3 => k_is)
    (case c3 => k_is)
    (case k3 => k_is)
    (case e4 => k_is)
    (case l4 => k_is)
    (case c4 => k_is)
    (case k4 => k_is)
    (case e5 => k_is)
    (case l5 => k_is)
    (case c5 => k_is)
    (case k5 => k_is)
    (case e6 => k_is)
    (case l6 => k_is)
    (case c6 => k_is)
    (case k6 => k_is)
    (case e7 => k_is)
    (case l7 => k_is)
    (case c7 => k_is)
    (case k7 => k_is)
    (case e8 => k_is)
    (case l8 => k_is)
    (case c8 => k_is)
    (case k8 => k_is)
    (case e9 => k_is)
    (case l9 => k_is)
    (case c9 => k_is)
    (case k9 => k_is)
    (case e10 => k_is)
    (case l10 => k_is)
    (case c10 => k_is)
    (case k10 => k_is)
    (case e11 => k_is)
    (case l11 => k_is)
    (case c11 => k_is)
    (case k11 => k_is)
    (case e12 => k_is)
    (case l12 => k_is)
    (case c12 => k_is)
    (case k12 => k_is)
    (case e13 => k_is)
    (case l13 => k_is)
    (case c13 => k_is)
    (case k13 => k_is)
    (case e14 => k_is)
    (case l14 => k_is)
    (case c14 => k_is)
    (case k14 => k_is)
    (case e15 => k_is)
    (case l15 => k_is)
    (case c15 => k_is)
    (case k15 => k_is)
    (case e16 => k_is)
    (case l16 => k_is)
    (case c16 => k_is)
    (case k16 => k_is)
    (case e17 => k_is)
    (case l17 => k_is)
    (case c17 => k_is)
    (case k17 => k_is)
    (case e18 => k_is)
    (case l18 => k_is)
    (case c18 => k_is)
    (case k18 => k_is)
    (case e19 => k_is)
    (case l19 => k_is)
    (case c19 => k_is)
    (case k19 => k_is)
    (case e20 => k_is)
    (case l20 => k_is)
    (case c20 => k_is)
    (case k20 => k_is)
    (case e21 => k_is)
    (case l21 => k_is)
    (case c21 => k_is)
    (case k21 => k_is)
    (case e22 => k_is)
    (case l22 => k_is)
    (case c22 => k_is)
    (case k22 => k_is)
    (case e23 => k_is)
    (case l23 => k_is)
    (case c23 => k_is)
    (case k23 => k_is)
    (case e24 => k_is)
    (case l24 => k_is)
    (case c24 => k_is)
    (case k24 => k_is)
    (case e25 => k_is)
    (case l25 => k_is)
    (case c25 => k_is)
    (case k25 => k_is)
    (case e26 => k_is)
    (case l26 => k_is)
    (case c26 => k_is)
    (case k26 => k_is)
    (case e27 => k_is)
    (case l27 => k_is)
    (case c27 => k_is)
    (case k27 => k_is)
    (case e28 => k_is)
    (case l28 => k_is)
    (case c28 => k_is)
    (case k28 => k_is)
    (case e29 => k_is)
    (case l29 => k_is)
    (case c29 => k_is)
    (case k29 => k_is)
    (case e30 => k_is)
    (case l30 => k_is)
    (case c30 => k_is)
    (case k30 => k_is)
    (case e31 => k_is)
    (case l31 => k_is)
    (case c31 => k_is)
    (case k31 => k_is)
    (case e32 => k_is)
    (case l32 => k_is)
    (case c32 => k_is)
    (case k32 => k_is)
    (case e33 => k_is)
    (case l33 => k_is)
    (case c33 => k_is)
    (case k33 => k_is)
    (case e34 => k_is)
    (case l34 => k_is)
    (case c34 => k_is)
    (case k34 => k_is)
    (case e_SIGNS => k_is)
    (case l_SIGNS => k_is)
    (case k_SIGNS => repeat' (first | exact trivial | refine ⟨⟨_, _, rfl, rfl⟩, ?_⟩))
    (case v_SIGNS_0 => k_is)
    (case v_SIGNS_1 => k_is)
    (case v_SIGNS_2 => k_is)
    (case v_SIGNS_3 => k_is)
    (case v_SIGNS_4 => k_is)
    (case v_SIGNS_5 => k_is)
    (case v_SIGNS_6 => k_is)
    (case v_SIGNS_7 => k_is)
    (case v_SIGNS_8 => k_is)
    (case low_SIGNS => first | k_is | decide | rfl)
    (case kd_SIGNS => repeat' (first | exact trivial | refine ⟨⟨_, rfl⟩, ?_⟩))
    (case eN_NoRow => k_is)
    (case eN_NotAhead => k_is)
    (case q_cls => first | k_is | rfl | decide +kernel)
    (case q_get => first | k_is | rfl | decide +kernel)
    (case q_tks => first | k_is | rfl | decide +kernel)
    (case q_mro => first | k_is | rfl | decide +kernel)
    (case q_ive => first | k_is | rfl | decide +kernel)
    (case q_itw => first | k_is | rfl | decide +kernel)
    (case c_LETTERS => k_is)
    (case c_MOST_ITEMS => k_is)
    (case z_ValueError => k_is)
    (case z_all => k_is)
    (case z_bool => k_is)
    (case z_int => k_is)
    (case z_isinstance => k_is)
    (case z_len => k_is)
    (case z_list => k_is)
    (case z_range => k_is)
    (case z_repr => k_is)
    (case z_str => k_is)
    (case z_tuple => k_is)
