import PyProof.Rows.All
import Wide.All
import OpenK.AllK
import Wide.FinOn
import HandS.ForMost
import HandS.RaiseMore
import HandS.Defaults
import HandS.Wide
import HandS.Codes
import HandS.More
import HandS.Style
import HandS.CallLocal
import HandS.DictComp
import HandS.TupAny
import HandS.TupMul
import HandS.Star
import HandS.Deep
import HandS.IsInst
import HandS.StrMore
import HandS.Walk
import HandS.Flow
import PyProof.ReprRoads
import PyProof.StrLaws
import PyProof.FitsInt
import KE.KBits
import KE.BitLaws
import KE.IntTextLaws
import PyProof.NeKinds
import KE.GoesMore
import KE.GoesEnum
import HandS.Exc
import HandS.ExcInit
import HandS.ExcField
import HandS.ExcIs
import HandS.WordsExc
import KE.KExcIs
import KE.KIsAll
import KE.IntTextText
import KE.DataEq
import PyProof.StrLawsRepr
import PyProof.Rows.StrLawsPart
import PyProof.StrLawsChain
import PyProof.Rows.RegStrFacts
import PySem.Challenge.RW_replaytravel_k11_greatest_programs
set_option Elab.async false
set_option maxRecDepth 8000000
set_option maxHeartbeats 4000000
namespace Kw
open PySem L2
def top (i : Nat) : Stmt := PySem.Challenge.pw_replaytravel_k11_greatest_programs.main.body.getD i (.Pass ⟨0, 0, 0, 0⟩)
def cls0 : Stmt → Stmt
  | .ClassDef (body := b) .. => b.getD 0 (.Pass ⟨0, 0, 0, 0⟩)
  | s => s
abbrev s_brought : Stmt := top 7
abbrev N_brought : List Str := ["n"]
theorem sc_brought : FnScope N_brought ["n"] (defScope s_brought) := ⟨rfl, rfl, rfl, by decide +kernel, rfl, by decide +kernel, by decide +kernel⟩
abbrev s_quotient : Stmt := top 13
abbrev N_quotient : List Str := ["one", "other"]
theorem sc_quotient : FnScope N_quotient ["one", "other"] (defScope s_quotient) := ⟨rfl, rfl, rfl, by decide +kernel, rfl, by decide +kernel, by decide +kernel⟩
abbrev s_rest : Stmt := top 14
abbrev N_rest : List Str := ["one", "other"]
theorem sc_rest : FnScope N_rest ["one", "other"] (defScope s_rest) := ⟨rfl, rfl, rfl, by decide +kernel, rfl, by decide +kernel, by decide +kernel⟩
abbrev s_iNoText : Stmt := cls0 (top 1)
abbrev N_iNoText : List Str := ["self", "nth"]
theorem sc_iNoText : FnScope N_iNoText ["self", "nth"] (defScope s_iNoText) := ⟨rfl, rfl, rfl, by decide +kernel, rfl, by decide +kernel, by decide +kernel⟩
abbrev s_iswhole : Stmt := top 3
abbrev N_iswhole : List Str := ["thing"]
theorem sc_iswhole : FnScope N_iswhole ["thing"] (defScope s_iswhole) := ⟨rfl, rfl, rfl, by decide +kernel, rfl, by decide +kernel, by decide +kernel⟩
abbrev s_isbelow : Stmt := top 4
abbrev N_isbelow : List Str := ["thing", "many"]
theorem sc_isbelow : FnScope N_isbelow ["thing", "many"] (defScope s_isbelow) := ⟨rfl, rfl, rfl, by decide +kernel, rfl, by decide +kernel, by decide +kernel⟩
abbrev s_wholeof : Stmt := top 5
abbrev N_wholeof : List Str := ["text"]
theorem sc_wholeof : FnScope N_wholeof ["text"] (defScope s_wholeof) := ⟨rfl, rfl, rfl, by decide +kernel, rfl, by decide +kernel, by decide +kernel⟩
abbrev s_isworth : Stmt := top 8
abbrev N_isworth : List Str := ["thing"]
theorem sc_isworth : FnScope N_isworth ["thing"] (defScope s_isworth) := ⟨rfl, rfl, rfl, by decide +kernel, rfl, by decide +kernel, by decide +kernel⟩
abbrev s_worthof : Stmt := top 9
abbrev N_worthof : List Str := ["text", "number", "size"]
theorem sc_worthof : FnScope N_worthof ["text"] (defScope s_worthof) := ⟨rfl, rfl, rfl, by decide +kernel, rfl, by decide +kernel, by decide +kernel⟩
abbrev s_isletter : Stmt := top 24
abbrev N_isletter : List Str := ["thing"]
theorem sc_isletter : FnScope N_isletter ["thing"] (defScope s_isletter) := ⟨rfl, rfl, rfl, by decide +kernel, rfl, by decide +kernel, by decide +kernel⟩
abbrev s_issign : Stmt := top 25
abbrev N_issign : List Str := ["thing"]
theorem sc_issign : FnScope N_issign ["thing"] (defScope s_issign) := ⟨rfl, rfl, rfl, by decide +kernel, rfl, by decide +kernel, by decide +kernel⟩
abbrev s_leavesone : Stmt := top 26
abbrev N_leavesone : List Str := ["items", "height", "item"]
theorem sc_leavesone : FnScope N_leavesone ["items"] (defScope s_leavesone) := ⟨rfl, rfl, rfl, by decide +kernel, rfl, by decide +kernel, by decide +kernel⟩
abbrev s_isexpression : Stmt := top 27
abbrev N_isexpression : List Str := ["thing", "item"]
theorem sc_isexpression : FnScope N_isexpression ["thing"] (defScope s_isexpression) := ⟨rfl, rfl, rfl, by decide +kernel, rfl, by decide +kernel, by decide +kernel⟩
abbrev s_showexpression : Stmt := top 29
abbrev N_showexpression : List Str := ["e", "item"]
theorem sc_showexpression : FnScope N_showexpression ["e"] (defScope s_showexpression) := ⟨rfl, rfl, rfl, by decide +kernel, rfl, by decide +kernel, by decide +kernel⟩
abbrev s_itemof : Stmt := top 30
abbrev N_itemof : List Str := ["word", "worth"]
theorem sc_itemof : FnScope N_itemof ["word"] (defScope s_itemof) := ⟨rfl, rfl, rfl, by decide +kernel, rfl, by decide +kernel, by decide +kernel⟩
abbrev s_expressionof : Stmt := top 31
abbrev N_expressionof : List Str := ["text", "e", "word"]
theorem sc_expressionof : FnScope N_expressionof ["text"] (defScope s_expressionof) := ⟨rfl, rfl, rfl, by decide +kernel, rfl, by decide +kernel, by decide +kernel⟩
abbrev s_fits : Stmt := top 36
abbrev N_fits : List Str := ["kind", "thing", "many"]
theorem sc_fits : FnScope N_fits ["kind", "thing", "many"] (defScope s_fits) := ⟨rfl, rfl, rfl, by decide +kernel, rfl, by decide +kernel, by decide +kernel⟩
abbrev s_isrow : Stmt := top 37
abbrev N_isrow : List Str := ["thing", "many", "shape", "kind", "part"]
theorem sc_isrow : FnScope N_isrow ["thing", "many"] (defScope s_isrow) := ⟨rfl, rfl, rfl, by decide +kernel, rfl, by decide +kernel, by decide +kernel⟩
abbrev s_isthread : Stmt := top 38
abbrev N_isthread : List Str := ["thing", "part"]
theorem sc_isthread : FnScope N_isthread ["thing"] (defScope s_isthread) := ⟨rfl, rfl, rfl, by decide +kernel, rfl, by decide +kernel, by decide +kernel⟩
abbrev s_isprogram : Stmt := top 39
abbrev N_isprogram : List Str := ["thing", "part"]
theorem sc_isprogram : FnScope N_isprogram ["thing"] (defScope s_isprogram) := ⟨rfl, rfl, rfl, by decide +kernel, rfl, by decide +kernel, by decide +kernel⟩
abbrev s_showthing : Stmt := top 42
abbrev N_showthing : List Str := ["kind", "thing"]
theorem sc_showthing : FnScope N_showthing ["kind", "thing"] (defScope s_showthing) := ⟨rfl, rfl, rfl, by decide +kernel, rfl, by decide +kernel, by decide +kernel⟩
abbrev s_showrow : Stmt := top 43
abbrev N_showrow : List Str := ["row", "things", "kind", "thing"]
theorem sc_showrow : FnScope N_showrow ["row"] (defScope s_showrow) := ⟨rfl, rfl, rfl, by decide +kernel, rfl, by decide +kernel, by decide +kernel⟩
abbrev s_showprogram : Stmt := top 44
abbrev N_showprogram : List Str := ["program", "rows", "thread", "row"]
theorem sc_showprogram : FnScope N_showprogram ["program"] (defScope s_showprogram) := ⟨rfl, rfl, rfl, by decide +kernel, rfl, by decide +kernel, by decide +kernel⟩
abbrev s_thingof : Stmt := top 45
abbrev N_thingof : List Str := ["kind", "text"]
theorem sc_thingof : FnScope N_thingof ["kind", "text"] (defScope s_thingof) := ⟨rfl, rfl, rfl, by decide +kernel, rfl, by decide +kernel, by decide +kernel⟩
abbrev s_rowof : Stmt := top 46
abbrev N_rowof : List Str := ["text", "word", "blank", "behind", "shape", "texts", "things", "kind", "part"]
theorem sc_rowof : FnScope N_rowof ["text"] (defScope s_rowof) := ⟨rfl, rfl, rfl, by decide +kernel, rfl, by decide +kernel, by decide +kernel⟩
abbrev s_goeswithin : Stmt := top 47
abbrev N_goeswithin : List Str := ["row", "many"]
theorem sc_goeswithin : FnScope N_goeswithin ["row", "many"] (defScope s_goeswithin) := ⟨rfl, rfl, rfl, by decide +kernel, rfl, by decide +kernel, by decide +kernel⟩
abbrev s_rowsbehind : Stmt := top 48
abbrev N_rowsbehind : List Str := ["texts", "nth", "many"]
theorem sc_rowsbehind : FnScope N_rowsbehind ["texts", "nth"] (defScope s_rowsbehind) := ⟨rfl, rfl, rfl, by decide +kernel, rfl, by decide +kernel, by decide +kernel⟩
abbrev s_readprogram : Stmt := top 49
abbrev N_readprogram : List Str := ["text", "texts", "threads", "many", "nth", "part", "row", "rows"]
theorem sc_readprogram : FnScope N_readprogram ["text"] (defScope s_readprogram) := ⟨rfl, rfl, rfl, by decide +kernel, rfl, by decide +kernel, by decide +kernel⟩
abbrev s_lfeed : Stmt := top 51
abbrev N_lfeed : List Str := ["_law_script"]
theorem sc_lfeed : FnScope N_lfeed ["_law_script"] (defScope s_lfeed) := ⟨rfl, rfl, rfl, by decide +kernel, rfl, by decide +kernel, by decide +kernel⟩
abbrev s_ldraw : Stmt := top 52
abbrev N_ldraw : List Str := ["_law_feed_here", "_law_many", "_law_got", "_law_at", "_law_cell", "_law_number"]
theorem sc_ldraw : FnScope N_ldraw ["_law_feed_here", "_law_many"] (defScope s_ldraw) := ⟨rfl, rfl, rfl, by decide +kernel, rfl, by decide +kernel, by decide +kernel⟩
abbrev s_lworth : Stmt := top 53
abbrev N_lworth : List Str := ["_law_feed_here", "_law_way"]
theorem sc_lworth : FnScope N_lworth ["_law_feed_here"] (defScope s_lworth) := ⟨rfl, rfl, rfl, by decide +kernel, rfl, by decide +kernel, by decide +kernel⟩
abbrev s_lregister : Stmt := top 54
abbrev N_lregister : List Str := ["_law_feed_here"]
theorem sc_lregister : FnScope N_lregister ["_law_feed_here"] (defScope s_lregister) := ⟨rfl, rfl, rfl, by decide +kernel, rfl, by decide +kernel, by decide +kernel⟩
abbrev s_litem : Stmt := top 55
abbrev N_litem : List Str := ["_law_feed_here"]
theorem sc_litem : FnScope N_litem ["_law_feed_here"] (defScope s_litem) := ⟨rfl, rfl, rfl, by decide +kernel, rfl, by decide +kernel, by decide +kernel⟩
abbrev s_toldby : Stmt := top 20
abbrev N_toldby : List Str := ["sign", "one", "other", "action"]
theorem sc_toldby : FnScope N_toldby ["sign", "one", "other"] (defScope s_toldby) := ⟨rfl, rfl, rfl, by decide +kernel, rfl, by decide +kernel, by decide +kernel⟩
abbrev s_reckoned : Stmt := top 28
abbrev N_reckoned : List Str := ["e", "registers", "pile", "item", "other", "one"]
theorem sc_reckoned : FnScope N_reckoned ["e", "registers"] (defScope s_reckoned) := ⟨rfl, rfl, rfl, by decide +kernel, rfl, by decide +kernel, by decide +kernel⟩
abbrev s_ltells : Stmt := top 56
abbrev N_ltells : List Str := ["_law_mark", "_law_a", "_law_b", "_law_quotient", "_law_rest", "_law_found", "_law_place", "_law_k", "_law_c", "_law_d"]
theorem sc_ltells : FnScope N_ltells ["_law_mark", "_law_a", "_law_b"] (defScope s_ltells) := ⟨rfl, rfl, rfl, by decide +kernel, rfl, by decide +kernel, by decide +kernel⟩
abbrev s_lreck : Stmt := top 57
abbrev N_lreck : List Str := ["_law_items", "_law_held", "_law_pile", "_law_item_here"]
theorem sc_lreck : FnScope N_lreck ["_law_items", "_law_held"] (defScope s_lreck) := ⟨rfl, rfl, rfl, by decide +kernel, rfl, by decide +kernel, by decide +kernel⟩
abbrev s_lregs : Stmt := top 58
abbrev N_lregs : List Str := ["_law_feed_here", "_law_found", "_law_k"]
theorem sc_lregs : FnScope N_lregs ["_law_feed_here"] (defScope s_lregs) := ⟨rfl, rfl, rfl, by decide +kernel, rfl, by decide +kernel, by decide +kernel⟩
abbrev s_lextext : Stmt := top 59
abbrev N_lextext : List Str := ["_law_e", "_law_item_here"]
theorem sc_lextext : FnScope N_lextext ["_law_e"] (defScope s_lextext) := ⟨rfl, rfl, rfl, by decide +kernel, rfl, by decide +kernel, by decide +kernel⟩
abbrev s_lrowtext : Stmt := top 60
abbrev N_lrowtext : List Str := ["_law_row", "_law_things", "_law_thing"]
theorem sc_lrowtext : FnScope N_lrowtext ["_law_row"] (defScope s_lrowtext) := ⟨rfl, rfl, rfl, by decide +kernel, rfl, by decide +kernel, by decide +kernel⟩
abbrev s_lprogtext : Stmt := top 61
abbrev N_lprogtext : List Str := ["_law_program", "_law_rows", "_law_thread", "_law_row"]
theorem sc_lprogtext : FnScope N_lprogtext ["_law_program"] (defScope s_lprogtext) := ⟨rfl, rfl, rfl, by decide +kernel, rfl, by decide +kernel, by decide +kernel⟩
abbrev s_llong : Stmt := top 62
abbrev N_llong : List Str := ["_law_feed_here", "_law_items", "_law_high", "_law_left", "_law_k", "_law_some"]
theorem sc_llong : FnScope N_llong ["_law_feed_here"] (defScope s_llong) := ⟨rfl, rfl, rfl, by decide +kernel, rfl, by decide +kernel, by decide +kernel⟩
abbrev s_llongrow : Stmt := top 63
abbrev N_llongrow : List Str := ["_law_feed_here", "_law_e", "_law_f", "_law_k"]
theorem sc_llongrow : FnScope N_llongrow ["_law_feed_here"] (defScope s_llongrow) := ⟨rfl, rfl, rfl, by decide +kernel, rfl, by decide +kernel, by decide +kernel⟩
abbrev s_lrefused : Stmt := top 64
abbrev N_lrefused : List Str := ["_law_text", "_law_nth", "_law_e"]
theorem sc_lrefused : FnScope N_lrefused ["_law_text"] (defScope s_lrefused) := ⟨rfl, rfl, rfl, by decide +kernel, rfl, by decide +kernel, by decide +kernel⟩
abbrev s_lonemore : Stmt := top 65
abbrev N_lonemore : List Str := ["_law_feed_here", "_law_program", "_law_at", "_law_k", "_law_begin", "_law_thread", "_law_e", "_law_rows", "_law_way", "_law_row"]
theorem sc_lonemore : FnScope N_lonemore ["_law_feed_here", "_law_program"] (defScope s_lonemore) := ⟨rfl, rfl, rfl, by decide +kernel, rfl, by decide +kernel, by decide +kernel⟩
abbrev s_law : Stmt := top 66
abbrev N_law : List Str := ["_law_script", "_law_feed_here", "_law_program", "_law_k", "_law_thread", "_law_one", "_law_text", "_law_turn", "_law_other", "_law_nth", "_law_e", "_law_held"]
theorem sc_law : FnScope N_law ["_law_script"] (defScope s_law) := ⟨rfl, rfl, rfl, by decide +kernel, rfl, by decide +kernel, by decide +kernel⟩
abbrev s_plus : Stmt := top 10
abbrev N_plus : List Str := ["one", "other"]
theorem sc_plus : FnScope N_plus ["one", "other"] (defScope s_plus) := ⟨rfl, rfl, rfl, by decide +kernel, rfl, by decide +kernel, by decide +kernel⟩
abbrev s_minus : Stmt := top 11
abbrev N_minus : List Str := ["one", "other"]
theorem sc_minus : FnScope N_minus ["one", "other"] (defScope s_minus) := ⟨rfl, rfl, rfl, by decide +kernel, rfl, by decide +kernel, by decide +kernel⟩
abbrev s_times : Stmt := top 12
abbrev N_times : List Str := ["one", "other"]
theorem sc_times : FnScope N_times ["one", "other"] (defScope s_times) := ⟨rfl, rfl, rfl, by decide +kernel, rfl, by decide +kernel, by decide +kernel⟩
abbrev s_isless : Stmt := top 15
abbrev N_isless : List Str := ["one", "other"]
theorem sc_isless : FnScope N_isless ["one", "other"] (defScope s_isless) := ⟨rfl, rfl, rfl, by decide +kernel, rfl, by decide +kernel, by decide +kernel⟩
abbrev s_issame : Stmt := top 16
abbrev N_issame : List Str := ["one", "other"]
theorem sc_issame : FnScope N_issame ["one", "other"] (defScope s_issame) := ⟨rfl, rfl, rfl, by decide +kernel, rfl, by decide +kernel, by decide +kernel⟩
abbrev s_bitsofboth : Stmt := top 17
abbrev N_bitsofboth : List Str := ["one", "other"]
theorem sc_bitsofboth : FnScope N_bitsofboth ["one", "other"] (defScope s_bitsofboth) := ⟨rfl, rfl, rfl, by decide +kernel, rfl, by decide +kernel, by decide +kernel⟩
abbrev s_bitsofone : Stmt := top 18
abbrev N_bitsofone : List Str := ["one", "other"]
theorem sc_bitsofone : FnScope N_bitsofone ["one", "other"] (defScope s_bitsofone) := ⟨rfl, rfl, rfl, by decide +kernel, rfl, by decide +kernel, by decide +kernel⟩
structure Txt (K : PySem.W.Frag) (w : World) (mg : Str → Option Value) (f : Nat → Addr) (fd : Nat → FuncData) (ob : Nat → Addr) : Prop where
  F_brought : Fun K "brought" "brought" s_brought (f 0) (fd 0)
  m_brought : mg "brought" = some (.ref (f 0))
  b_brought : Binds K (fd 0) ["n"] []
  F_quotient : Fun K "quotient" "quotient" s_quotient (f 1) (fd 1)
  m_quotient : mg "quotient" = some (.ref (f 1))
  b_quotient : Binds K (fd 1) ["one", "other"] []
  F_rest : Fun K "rest" "rest" s_rest (f 2) (fd 2)
  m_rest : mg "rest" = some (.ref (f 2))
  b_rest : Binds K (fd 2) ["one", "other"] []
  F_iNoText : Fun K "__init__" "NoText.__init__" s_iNoText (f 3) (fd 3)
  m_NoText : mg "NoText" = some (.ref (ob 2))
  X_NoText : OexC K (ob 2)
  XI_NoText : PySem.W.findIn K (.ref (ob 2)) "__init__" = some (some (.ref (f 3)))
  XT_NoText : PySem.W.typeIn K (.ref (f 3)) = some (.type "function")
  XF_NoText : XfC K (ob 2)
  XC_NoText : PySem.W.isClsIn K (ob 2) = true
  XE_NoText : PySem.W.exmOne K (.ref (ob 2)) (.ref (ob 2)) = some true
  XN_NoText_nth : PySem.W.findIn K (.ref (ob 2)) "nth" = some none
  b_iNoText : Binds K (fd 3) ["self", "nth"] []
  F_iswhole : Fun K "is_whole" "is_whole" s_iswhole (f 4) (fd 4)
  m_iswhole : mg "is_whole" = some (.ref (f 4))
  b_iswhole : Binds K (fd 4) ["thing"] []
  F_isbelow : Fun K "is_below" "is_below" s_isbelow (f 5) (fd 5)
  m_isbelow : mg "is_below" = some (.ref (f 5))
  b_isbelow : Binds K (fd 5) ["thing", "many"] []
  F_wholeof : Fun K "whole_of" "whole_of" s_wholeof (f 6) (fd 6)
  m_wholeof : mg "whole_of" = some (.ref (f 6))
  b_wholeof : Binds K (fd 6) ["text"] []
  F_isworth : Fun K "is_worth" "is_worth" s_isworth (f 7) (fd 7)
  m_isworth : mg "is_worth" = some (.ref (f 7))
  b_isworth : Binds K (fd 7) ["thing"] []
  F_worthof : Fun K "worth_of" "worth_of" s_worthof (f 8) (fd 8)
  m_worthof : mg "worth_of" = some (.ref (f 8))
  b_worthof : Binds K (fd 8) ["text"] []
  F_isletter : Fun K "is_letter" "is_letter" s_isletter (f 9) (fd 9)
  m_isletter : mg "is_letter" = some (.ref (f 9))
  b_isletter : Binds K (fd 9) ["thing"] []
  F_issign : Fun K "is_sign" "is_sign" s_issign (f 10) (fd 10)
  m_issign : mg "is_sign" = some (.ref (f 10))
  b_issign : Binds K (fd 10) ["thing"] []
  F_leavesone : Fun K "leaves_one" "leaves_one" s_leavesone (f 11) (fd 11)
  m_leavesone : mg "leaves_one" = some (.ref (f 11))
  b_leavesone : Binds K (fd 11) ["items"] []
  F_isexpression : Fun K "is_expression" "is_expression" s_isexpression (f 12) (fd 12)
  m_isexpression : mg "is_expression" = some (.ref (f 12))
  b_isexpression : Binds K (fd 12) ["thing"] []
  F_showexpression : Fun K "show_expression" "show_expression" s_showexpression (f 13) (fd 13)
  m_showexpression : mg "show_expression" = some (.ref (f 13))
  b_showexpression : Binds K (fd 13) ["e"] []
  F_itemof : Fun K "item_of" "item_of" s_itemof (f 14) (fd 14)
  m_itemof : mg "item_of" = some (.ref (f 14))
  b_itemof : Binds K (fd 14) ["word"] []
  F_expressionof : Fun K "expression_of" "expression_of" s_expressionof (f 15) (fd 15)
  m_expressionof : mg "expression_of" = some (.ref (f 15))
  b_expressionof : Binds K (fd 15) ["text"] []
  F_fits : Fun K "fits" "fits" s_fits (f 16) (fd 16)
  m_fits : mg "fits" = some (.ref (f 16))
  b_fits : Binds K (fd 16) ["kind", "thing", "many"] []
  F_isrow : Fun K "is_row" "is_row" s_isrow (f 17) (fd 17)
  m_isrow : mg "is_row" = some (.ref (f 17))
  b_isrow : Binds K (fd 17) ["thing", "many"] []
  F_isthread : Fun K "is_thread" "is_thread" s_isthread (f 18) (fd 18)
  m_isthread : mg "is_thread" = some (.ref (f 18))
  b_isthread : Binds K (fd 18) ["thing"] []
  F_isprogram : Fun K "is_program" "is_program" s_isprogram (f 19) (fd 19)
  m_isprogram : mg "is_program" = some (.ref (f 19))
  b_isprogram : Binds K (fd 19) ["thing"] []
  F_showthing : Fun K "show_thing" "show_thing" s_showthing (f 20) (fd 20)
  m_showthing : mg "show_thing" = some (.ref (f 20))
  b_showthing : Binds K (fd 20) ["kind", "thing"] []
  F_showrow : Fun K "show_row" "show_row" s_showrow (f 21) (fd 21)
  m_showrow : mg "show_row" = some (.ref (f 21))
  b_showrow : Binds K (fd 21) ["row"] []
  F_showprogram : Fun K "show_program" "show_program" s_showprogram (f 22) (fd 22)
  m_showprogram : mg "show_program" = some (.ref (f 22))
  b_showprogram : Binds K (fd 22) ["program"] []
  F_thingof : Fun K "thing_of" "thing_of" s_thingof (f 23) (fd 23)
  m_thingof : mg "thing_of" = some (.ref (f 23))
  b_thingof : Binds K (fd 23) ["kind", "text"] []
  F_rowof : Fun K "row_of" "row_of" s_rowof (f 24) (fd 24)
  m_rowof : mg "row_of" = some (.ref (f 24))
  b_rowof : Binds K (fd 24) ["text"] []
  F_goeswithin : Fun K "goes_within" "goes_within" s_goeswithin (f 25) (fd 25)
  m_goeswithin : mg "goes_within" = some (.ref (f 25))
  b_goeswithin : Binds K (fd 25) ["row", "many"] []
  F_rowsbehind : Fun K "rows_behind" "rows_behind" s_rowsbehind (f 26) (fd 26)
  m_rowsbehind : mg "rows_behind" = some (.ref (f 26))
  b_rowsbehind : Binds K (fd 26) ["texts", "nth"] []
  F_readprogram : Fun K "read_program" "read_program" s_readprogram (f 27) (fd 27)
  m_readprogram : mg "read_program" = some (.ref (f 27))
  b_readprogram : Binds K (fd 27) ["text"] []
  F_lfeed : Fun K "_law_feed" "_law_feed" s_lfeed (f 28) (fd 28)
  m_lfeed : mg "_law_feed" = some (.ref (f 28))
  b_lfeed : Binds K (fd 28) ["_law_script"] []
  F_ldraw : Fun K "_law_draw" "_law_draw" s_ldraw (f 29) (fd 29)
  m_ldraw : mg "_law_draw" = some (.ref (f 29))
  b_ldraw : Binds K (fd 29) ["_law_feed_here", "_law_many"] []
  F_lworth : Fun K "_law_worth" "_law_worth" s_lworth (f 30) (fd 30)
  m_lworth : mg "_law_worth" = some (.ref (f 30))
  b_lworth : Binds K (fd 30) ["_law_feed_here"] []
  F_lregister : Fun K "_law_register" "_law_register" s_lregister (f 31) (fd 31)
  m_lregister : mg "_law_register" = some (.ref (f 31))
  b_lregister : Binds K (fd 31) ["_law_feed_here"] []
  F_litem : Fun K "_law_item" "_law_item" s_litem (f 32) (fd 32)
  m_litem : mg "_law_item" = some (.ref (f 32))
  b_litem : Binds K (fd 32) ["_law_feed_here"] []
  F_toldby : Fun K "told_by" "told_by" s_toldby (f 33) (fd 33)
  m_toldby : mg "told_by" = some (.ref (f 33))
  b_toldby : Binds K (fd 33) ["sign", "one", "other"] []
  F_reckoned : Fun K "reckoned" "reckoned" s_reckoned (f 34) (fd 34)
  m_reckoned : mg "reckoned" = some (.ref (f 34))
  b_reckoned : Binds K (fd 34) ["e", "registers"] []
  F_ltells : Fun K "_law_tells" "_law_tells" s_ltells (f 35) (fd 35)
  m_ltells : mg "_law_tells" = some (.ref (f 35))
  b_ltells : Binds K (fd 35) ["_law_mark", "_law_a", "_law_b"] []
  F_lreck : Fun K "_law_reckoned" "_law_reckoned" s_lreck (f 36) (fd 36)
  m_lreck : mg "_law_reckoned" = some (.ref (f 36))
  b_lreck : Binds K (fd 36) ["_law_items", "_law_held"] []
  F_lregs : Fun K "_law_registers" "_law_registers" s_lregs (f 37) (fd 37)
  m_lregs : mg "_law_registers" = some (.ref (f 37))
  b_lregs : Binds K (fd 37) ["_law_feed_here"] []
  F_lextext : Fun K "_law_expression_text" "_law_expression_text" s_lextext (f 38) (fd 38)
  m_lextext : mg "_law_expression_text" = some (.ref (f 38))
  b_lextext : Binds K (fd 38) ["_law_e"] []
  F_lrowtext : Fun K "_law_row_text" "_law_row_text" s_lrowtext (f 39) (fd 39)
  m_lrowtext : mg "_law_row_text" = some (.ref (f 39))
  b_lrowtext : Binds K (fd 39) ["_law_row"] []
  F_lprogtext : Fun K "_law_program_text" "_law_program_text" s_lprogtext (f 40) (fd 40)
  m_lprogtext : mg "_law_program_text" = some (.ref (f 40))
  b_lprogtext : Binds K (fd 40) ["_law_program"] []
  F_llong : Fun K "_law_long" "_law_long" s_llong (f 41) (fd 41)
  m_llong : mg "_law_long" = some (.ref (f 41))
  b_llong : Binds K (fd 41) ["_law_feed_here"] []
  F_llongrow : Fun K "_law_long_row" "_law_long_row" s_llongrow (f 42) (fd 42)
  m_llongrow : mg "_law_long_row" = some (.ref (f 42))
  b_llongrow : Binds K (fd 42) ["_law_feed_here"] []
  F_lrefused : Fun K "_law_refused" "_law_refused" s_lrefused (f 43) (fd 43)
  m_lrefused : mg "_law_refused" = some (.ref (f 43))
  b_lrefused : Binds K (fd 43) ["_law_text"] []
  F_lonemore : Fun K "_law_one_more" "_law_one_more" s_lonemore (f 44) (fd 44)
  m_lonemore : mg "_law_one_more" = some (.ref (f 44))
  b_lonemore : Binds K (fd 44) ["_law_feed_here", "_law_program"] []
  F_law : Fun K "law" "law" s_law (f 45) (fd 45)
  m_law : mg "law" = some (.ref (f 45))
  b_law : Binds K (fd 45) ["_law_script"] []
  F_plus : Fun K "plus" "plus" s_plus (f 46) (fd 46)
  m_plus : mg "plus" = some (.ref (f 46))
  b_plus : Binds K (fd 46) ["one", "other"] []
  F_minus : Fun K "minus" "minus" s_minus (f 47) (fd 47)
  m_minus : mg "minus" = some (.ref (f 47))
  b_minus : Binds K (fd 47) ["one", "other"] []
  F_times : Fun K "times" "times" s_times (f 48) (fd 48)
  m_times : mg "times" = some (.ref (f 48))
  b_times : Binds K (fd 48) ["one", "other"] []
  F_isless : Fun K "is_less" "is_less" s_isless (f 49) (fd 49)
  m_isless : mg "is_less" = some (.ref (f 49))
  b_isless : Binds K (fd 49) ["one", "other"] []
  F_issame : Fun K "is_same" "is_same" s_issame (f 50) (fd 50)
  m_issame : mg "is_same" = some (.ref (f 50))
  b_issame : Binds K (fd 50) ["one", "other"] []
  F_bitsofboth : Fun K "bits_of_both" "bits_of_both" s_bitsofboth (f 51) (fd 51)
  m_bitsofboth : mg "bits_of_both" = some (.ref (f 51))
  b_bitsofboth : Binds K (fd 51) ["one", "other"] []
  F_bitsofone : Fun K "bits_of_one" "bits_of_one" s_bitsofone (f 52) (fd 52)
  m_bitsofone : mg "bits_of_one" = some (.ref (f 52))
  b_bitsofone : Binds K (fd 52) ["one", "other"] []
  m_SIGNS : mg "SIGNS" = some (.ref (ob 0))
  t_SIGNS_0 : KDct K w (ob 0) "+" (.ref (f 46))
  t_SIGNS_1 : KDct K w (ob 0) "-" (.ref (f 47))
  t_SIGNS_2 : KDct K w (ob 0) "*" (.ref (f 48))
  t_SIGNS_3 : KDct K w (ob 0) "/" (.ref (f 1))
  t_SIGNS_4 : KDct K w (ob 0) "#" (.ref (f 2))
  t_SIGNS_5 : KDct K w (ob 0) "<" (.ref (f 49))
  t_SIGNS_6 : KDct K w (ob 0) "=" (.ref (f 50))
  t_SIGNS_7 : KDct K w (ob 0) "&" (.ref (f 51))
  t_SIGNS_8 : KDct K w (ob 0) "^" (.ref (f 52))
  d_SIGNS : ∃ es n, KDict K w (ob 0) es n
  n_SIGNS : ∀ z : Str, z ∉ (["+", "-", "*", "/", "#", "<", "=", "&", "^"] : List Str) → PySem.W.nsIn K (ob 0) z = some none
  m_SHAPES : mg "SHAPES" = some (.ref (ob 1))
  t_SHAPES_0 : KDct K w (ob 1) "set" (.str "re")
  t_SHAPES_1 : KDct K w (ob 1) "load" (.str "re")
  t_SHAPES_2 : KDct K w (ob 1) "store" (.str "ee")
  t_SHAPES_3 : KDct K w (ob 1) "swap" (.str "ree")
  t_SHAPES_4 : KDct K w (ob 1) "lock" (.str "e")
  t_SHAPES_5 : KDct K w (ob 1) "free" (.str "e")
  t_SHAPES_6 : KDct K w (ob 1) "send" (.str "ee")
  t_SHAPES_7 : KDct K w (ob 1) "take" (.str "re")
  t_SHAPES_8 : KDct K w (ob 1) "input" (.str "r")
  t_SHAPES_9 : KDct K w (ob 1) "tell" (.str "e")
  t_SHAPES_10 : KDct K w (ob 1) "check" (.str "e")
  t_SHAPES_11 : KDct K w (ob 1) "if" (.str "ek")
  t_SHAPES_12 : KDct K w (ob 1) "go" (.str "k")
  d_SHAPES : ∃ es n, KDict K w (ob 1) es n
  n_SHAPES : ∀ z : Str, z ∉ (["set", "load", "store", "swap", "lock", "free", "send", "take", "input", "tell", "check", "if", "go"] : List Str) → PySem.W.nsIn K (ob 1) z = some none
  c_LETTERS : ∃ t, mg "LETTERS" = some (.str "abcdefghijklmnop" t)
  c_MOST_ITEMS : ∃ t, mg "MOST_ITEMS" = some (.int 15 t)
  c_MOST_THREADS : ∃ t, mg "MOST_THREADS" = some (.int 4 t)
  c_MOST_ROWS : ∃ t, mg "MOST_ROWS" = some (.int 40 t)
  c_HEAD : ∃ t, mg "HEAD" = some (.str "thread" t)
  z_all : mg "all" = none
  z_bool : mg "bool" = none
  z_enumerate : mg "enumerate" = none
  z_int : mg "int" = none
  z_isinstance : mg "isinstance" = none
  z_len : mg "len" = none
  z_list : mg "list" = none
  z_range : mg "range" = none
  z_repr : mg "repr" = none
  z_str : mg "str" = none
  z_tuple : mg "tuple" = none
  z_zip : mg "zip" = none
/-! Frames: all that was tracked but p stands as it stood. -/
def Kp (p : Addr) (H H' : Hp) : Prop := ∀ b o, b ≠ p → H b = some o → H' b = some o
theorem Kp.refl (p : Addr) (H : Hp) : Kp p H H := fun _ _ _ h => h
theorem Kp.trans {p : Addr} {H H1 H2 : Hp} (a : Kp p H H1) (b : Kp p H1 H2) : Kp p H H2 := fun x o n h => b x o n (a x o n h)
theorem Kp.upd {p : Addr} {H : Hp} (o : HO) : Kp p H (upd H p o) := fun b u n h => by
  rw [upd_ne n]
  exact h
theorem Kp.new {p q : Addr} {H : Hp} {o : HO} (h : H q = none) : Kp p H (L2.upd H q o) := fun b u _ e => by
  rw [upd_ne (ne_of_none e h)]
  exact e
theorem Kp.mut {p q : Addr} {H H' : Hp} {o : HO} (k : Kp p H H') (h : H q = none) : Kp p H (L2.upd H' q o) := fun b u n e => by
  rw [upd_ne (ne_of_none e h)]
  exact k b u n e
theorem Same.kp {p : Addr} {H H' : Hp} (s : Same H H') : Kp p H H' := fun b o _ h => s b o h
theorem Same.new {q : Addr} {H : Hp} {o : HO} (h : H q = none) : Same H (L2.upd H q o) := fun b u e => by
  rw [upd_ne (ne_of_none e h)]
  exact e
theorem Same.mut {q : Addr} {H H' : Hp} {o : HO} (k : Same H H') (h : H q = none) : Same H (L2.upd H' q o) := fun b u e => by
  rw [upd_ne (ne_of_none e h)]
  exact k b u e
/-- free behind a frame is free ahead of it, but for p -/
theorem Kp.free {p q : Addr} {H H' : Hp} (k : Kp p H H') (hq : q ≠ p) (h : H' q = none) : H q = none := by
  cases e : H q with
  | none => rfl
  | some o =>
    rw [k q o hq e] at h
    cases h
/-! What holds of the feed: a list of the cells, how many were begun, what is left. -/
def Pen (H : Hp) (p c : Addr) (ns : List Int) (n : Int) : Prop :=
  ∃ r : Int, H p = some (.lst [.ref c, .int n, .int r]) ∧ H c = some (.lst (ns.map V.int)) ∧ 0 ≤ n ∧ 0 ≤ r
theorem Pen.ne {H : Hp} {p c : Addr} {ns : List Int} {n : Int} (h : Pen H p c ns n) : c ≠ p := by
  obtain ⟨r, h1, h2, _⟩ := h
  refine ne_of h2 h1 fun e => ?_
  cases ns with
  | nil => cases e
  | cons a l => cases e
theorem Pen.nn {H : Hp} {p c : Addr} {ns : List Int} {n : Int} (h : Pen H p c ns n) : 0 ≤ n := by
  obtain ⟨r, _, _, h, _⟩ := h
  exact h
theorem Pen.new {H : Hp} {p c q : Addr} {ns : List Int} {n : Int} {o : HO} (h : Pen H p c ns n) (hq : H q = none) : Pen (upd H q o) p c ns n := by
  obtain ⟨r, h1, h2, h3, h4⟩ := h
  exact ⟨r, (upd_ne (ne_of_none h1 hq)).trans h1, (upd_ne (ne_of_none h2 hq)).trans h2, h3, h4⟩
theorem Pen.same {H H' : Hp} {p c : Addr} {ns : List Int} {n : Int} (h : Pen H p c ns n) (s : Same H H') : Pen H' p c ns n := by
  obtain ⟨r, h1, h2, h3, h4⟩ := h
  exact ⟨r, s _ _ h1, s _ _ h2, h3, h4⟩
theorem Pen.ni {H : Hp} {p c q : Addr} {ns : List Int} {n : Int} (h : Pen H p c ns n) (hq : H q = none) : q ≠ p := by
  obtain ⟨r, h1, _⟩ := h
  exact (ne_of_none h1 hq).symm
theorem cut63 {xs : List V} (h : xs.length ≤ 63) : cutV xs none (some 63) = xs := by
  unfold cutV
  rw [HT.sIx_none, show HT.sIx xs.length xs.length (some 63) = min 63 xs.length from HT.sIx_nat xs.length xs.length 63]
  rw [show min 63 xs.length = xs.length by omega]
  simp
theorem atI_in {ns : List Int} {i : Int} (h0 : 0 ≤ i) (h1 : i < ((ns.map V.int).length : Int)) : ∃ v : Int, atI (ns.map V.int) i = some (.int v) := by
  obtain ⟨j, rfl⟩ := Int.eq_ofNat_of_zero_le h0
  have hj : j < ns.length := by
    rw [List.length_map] at h1
    omega
  refine ⟨ns[j], atI_nat ?_⟩
  rw [List.getElem?_map, List.getElem?_eq_getElem hj]
  rfl
theorem few {i : Int} (h : i.natAbs < 2 ^ 20) : i.natAbs.log2 < 1920 := Nat.lt_of_lt_of_le (PySem.Flt.log2_lt_of (by decide) h) (by decide)
/-! Lists of ints as data. -/
theorem dpInts {K : PySem.W.Frag} {H : Hp} : ∀ ns : List Int, DpAll K H (ns.map V.int) (ns.map PyData.int)
  | [] => .nil
  | n :: r => .cons (.int n) (dpInts r)
theorem dpL {K : PySem.W.Frag} {H : Hp} {a : Addr} {ns : List Int} (h : SqL K H a (ns.map V.int)) : Dp K H (.ref a) (.list (ns.map PyData.int)) := .lst h (dpInts ns)
theorem shInts (ns : List Int) : SeqAt.shaped (.list (ns.map PyData.int)) = true := by
  simp [SeqAt.shaped, PyData.canLay0, PyData.depth, PySem.W.ke_canLayAll0, PySem.W.ke_depthAll]
theorem eqvInts (ns ms : List Int) : PyData.eqv (.list (ns.map PyData.int)) (.list (ms.map PyData.int)) = decide (ns = ms) := by
  rw [PyData.eqv, PySem.W.ked_eqvAll]
/-! A call with keywords alone. -/
section
variable {X : Cx} {CX : CXT} {k : Nat} {f : Addr} {fd : FuncData} {ps ks : List Str} {sp : Sp} {E : XK} {x : Str} {p pos : Pos} {kws : List Keyword} {tk : TA} {g : List Value → List Value → List Value} {gV : List V → List V → List V}
theorem callKw0 (F : FnOk X.prog X.w X.K X.mg X.base CX k f fd ps sp) (hr : Room k X.A) (hg : Gl X x) (hm : X.mg x = some (.ref f))
    (hk : PySem.W.keepIn X.K (.ref f) = true) (hb : KBn X.K fd ps 0 ks g gV) (hx : Passes CX X E) (hkw : PK X kws tk)
    (hall : (backToKw pos (keywordEach kws X.env)).all (·.1.isSome) = true := by rfl)
    (hks : (backToKw pos (keywordEach kws X.env)).filterMap (·.1) = ks := by rfl)
    (hdb : (x == ("__debug__" : Str)) = false := by decide)
    (hpl : ((backTo pos (starEach [] X.env)).any (·.1) || (backToKw pos (keywordEach kws X.env)).any (·.1.isNone)) = false := by rfl) :
    PE X (.Call (.Name x p) [] kws pos) (tCallN 0 ks.length sp gV E tNil tk) := by
  constructor
  intro pins s σ H Q I h
  refine wpAny_Call_Name_kw (ld_glob I hg hm ?_ hdb)
  refine PySem.W.callWith_KW0 (h₀ := X.base) I.ok.mod.kin hk hall ?_ hpl
  refine thn (hkw.run pos pins s σ H _ I h) ?_
  rintro ws s2 ⟨zs, H2, I2, rz, l1, l2, q2⟩
  refine ⟨I2.kIn, ?_⟩
  rw [hks]
  exact run_fnN (us := []) (vs := []) F hr hb hx I2 .nil rz rfl l2 q2
end
/-! A written dict whose keys are these texts. -/
def Keyed : List DictEntry → List Str → Prop
  | [], [] => True
  | e :: r, k :: ks => (∃ t, e.key = .str k t) ∧ Keyed r ks
  | _, _ => False
theorem keyed_find : ∀ {l : List DictEntry} {ks : List Str} {z : Str}, Keyed l ks → z ∉ ks → l.find? (·.key.isStr z) = none ∧ l.any (·.refKey) = false
  | [], [], _, _, _ => ⟨rfl, rfl⟩
  | e :: r, k :: ks, z, h, hz => by
    obtain ⟨⟨t, et⟩, hr⟩ := h
    have hk : z ≠ k := fun q => hz (by rw [q]; exact List.mem_cons_self)
    obtain ⟨h1, h2⟩ := keyed_find hr (fun q => hz (List.mem_cons_of_mem _ q))
    have e1 : e.key.isStr z = false := by
      rw [PySem.W.isStr_of, et]
      show (k == z) = false
      exact beq_false_of_ne (fun q => hk q.symm)
    have e2 : e.refKey = false := by
      unfold DictEntry.refKey
      rw [et]
    refine ⟨?_, ?_⟩
    · rw [List.find?_cons, e1]
      exact h1
    · rw [List.any_cons, e2, h2]
      rfl
theorem keyed_none {K : PySem.W.Frag} {a : Addr} {c : Value} {d : Option Addr} {es : Array DictEntry} {n : Nat} {sl : Array (Option Value)} {ks : List Str} {z : Str} (l : K.lookup a = some ⟨c, d, .dict es n, sl⟩) (h : Keyed es.toList ks) (hz : z ∉ ks) :
    PySem.W.nsIn K a z = some none := by
  obtain ⟨h1, h2⟩ := keyed_find h hz
  unfold PySem.W.nsIn
  rw [l]
  show (match es.toList.find? (·.key.isStr z) with
      | some e => some (some e.val)
      | none => if es.toList.any (·.refKey) then none else some none) = some none
  rw [h1, h2]
  rfl
/-! A word between a test and what follows it; between an expression and what follows it. -/
section
variable {X : Cx}
def tM (t : TT) : TT := fun σ H Q => ∃ M : Bool → Hp → Prop, t σ H M ∧ ∀ b H', M b H' → Q b H'
theorem pt_M {e : Expr} {t : TT} (h : PT X e t) : PT X e (tM t) :=
  ⟨fun pins s σ H _ I ⟨M, hm, k⟩ => thn (h.run pins s σ H M I hm) fun b _ ⟨H1, I1, q⟩ => ⟨H1, I1, k b H1 q⟩⟩
def eM (t : TE) : TE := fun σ H Q => ∃ M : V → Hp → Prop, t σ H M ∧ ∀ v H', M v H' → Q v H'
theorem pe_M {e : Expr} {t : TE} (h : PE X e t) : PE X e (eM t) :=
  ⟨fun pins s σ H _ I ⟨M, hm, k⟩ => thn (h.run pins s σ H M I hm) fun _ _ ⟨v, H1, I1, r, q⟩ => ⟨v, H1, I1, r, k v H1 q⟩⟩
end
theorem Pen.nt {H : Hp} {p c q : Addr} {ns : List Int} {n : Int} {o : HO} (h : Pen H p c ns n) (e : H q = some o) (ho : ∀ xs, o ≠ .lst xs) : q ≠ p := by
  obtain ⟨r, h1, _⟩ := h
  exact ne_of e h1 (ho _)
theorem ex_t {K : PySem.W.Frag} {H H' : Hp} {a : Addr} {xs : List V} (e : Same H H') (h : SqT K H a xs) : SqT K H' a xs := by
  rcases h with (h | ⟨o, h⟩) | h
  · exact .inl (.inl (e _ _ h))
  · exact .inl (.inr ⟨o, e _ _ h⟩)
  · exact .inr h
/-! Defs that are called where no repr is under way (guards known): their promise, the rule, the call, the law's end. -/
structure FnG (P : Program) (w : World) (K : PySem.W.Frag) (mg : Str → Option Value) (base : Heap) (C : CXT) (k : Nat) (f : Addr) (fd : FuncData) (ps : List Str) (sp : Sp) : Prop where
  len : ∀ vs H Q E, sp vs H Q E → vs.length = ps.length
  go : ∀ (A : Around) (o : List Env) (s : Shared) (H : Hp) (args : Args) (us : List Value) (vs : List V) (Q : VK) (E : XK), A.guards = some [] → Room k A → Env0 P w K mg base A o s H →
    BindsTo s fd args (ps.zip us) → Vals vs us → sp vs H Q E → codeAny (model P w) A (.call (.ref f) args) (CR C o P w H s Q E) s
theorem FnG.of {P : Program} {w : World} {K : PySem.W.Frag} {mg : Str → Option Value} {base : Heap} {C : CXT} {k : Nat} {f : Addr} {fd : FuncData} {ps : List Str} {sp : Sp} (h : FnOk P w K mg base C k f fd ps sp) : FnG P w K mg base C k f fd ps sp :=
  ⟨h.len, fun A o s H args us vs Q E _ => h.run A o s H args us vs Q E⟩
section
open PyProof.Rows
theorem Fun.okG {P : Program} {w : World} {K : PySem.W.Frag} {mg : Str → Option Value} {base : Heap} {x qual : Str} {st : Stmt} {f : Addr} {fd : FuncData} {N ps : List Str} {k : Nat} {sp : Sp} (F : Fun K x qual st f fd) (S : FnScope N ps (defScope st))
    (len : ∀ vs H Q E, sp vs H Q E → vs.length = ps.length)
    (body : ∀ (cdv : Value) (A : Around) (o : List Env) (s : Shared) (H : Hp) (vs : List V) (Q : VK) (E : XK), A.guards = some [] → Room k (A.deeper (envOfC qual (defScope st) s.heap.objs.size f cdv)) → sp vs H Q E →
      ∃ t, PSs (cxOf CX0 P w K mg base N qual (defScope st) f cdv A o s H E).nox (defBody st) t ∧ t { nx := fun _ H' => Q .non H', rt := Q } (start N vs) H) : FnG P w K mg base CX0 (k + 1) f fd ps sp := by
  obtain ⟨oc, od, kV, doc, pm, an, cdv, ct, osl, rfl, lk, hcd⟩ := F.ex
  constructor
  · exact len
  · intro A o s H args us vs Q E hg room env bnd rel want
    have hl := len vs H Q E want
    have kin : K.In s.heap := env.mod.kin.keeps fun b u e => (env.bs b u e).1
    have nol : s.heap.NoLimit := env.mod.nolimit.keeps fun b u e => (env.bs b u e).1
    have kinds : ∀ y ∈ ps.zip us, (defScope st).names.lookup y.1 = some .local ∨ ((defScope st).names.lookup y.1 = some .cell ∧ ((cellsFrom (s.heap.objs.size + 1) (defScope st).names []).lookup y.1).isSome = true) := by
      rintro ⟨n, v⟩ hy
      rcases S.par n (List.of_mem_zip hy).1 with q | q
      · left
        exact q
      · right
        exact ⟨q, PySem.W.cellsFrom_some _ _ _ (.inl q)⟩
    refine codeAny_call_function room.depth (kin _ _ lk) rfl S.co S.gen rfl (PySem.W.codeRec_of kin hcd) (bnd _ _ _ _ ?_)
    apply wpAny_newFunctionEnv_cells S.kind kinds
    intro en he s1 q1
    subst he
    refine ⟨nol.keeps q1.toInCall.keep, codeAny_func ?_⟩
    obtain ⟨t, ht, hq⟩ := body cdv A o s H vs Q E hg (room.deeper _) want
    have J : Inv (cxOf CX0 P w K mg base N qual (defScope st) f cdv A o s H E) [] (start N vs) H s1 := inv_start S room.hd env hl rel q1
    refine wpAny_mono (ht.nox.run [] s1 (start N vs) H _ J hq) ?_ (fun e s' z => z)
    intro fl s' z
    match fl, z with
    | .ret u, ⟨v, _, H', I', rv, qv⟩ => exact ⟨v, H', I'.os, I'.bare, I'.base, I'.hok, rv, qv⟩
    | .next, ⟨_, H', I', qv⟩ => exact ⟨V.non, H', I'.os, I'.bare, I'.base, I'.hok, rfl, qv⟩
    | .brk, ⟨_, _, _, bad⟩ => exact False.elim bad
    | .cont, ⟨_, _, _, bad⟩ => exact False.elim bad
/-- the call of such a def by its name -/
theorem callG {X : Cx} {C : CXT} {k : Nat} {f : Addr} {fd : FuncData} {ps : List Str} {ds : List Value} {dvs : List V} {sp : Sp} {E : XK} {x : Str} {p pos : Pos} {e : Expr} {es : List Expr} {t : TA}
    (F : FnG X.prog X.w X.K X.mg X.base C k f fd ps sp) (hu : X.A.guards = some []) (room : Room k X.A) (glob : Gl X x) (hm : X.mg x = some (.ref f)) (kp : PySem.W.keepIn X.K (.ref f) = true) (bnd : Binds X.K fd ps ds) (hd : Vals dvs ds) (pas : Passes C X E)
    (args : PA X (e :: es) t) (h1 : (x == ("__debug__" : Str)) = false := by decide) (h2 : starEach (e :: es) X.env = (false, eval e X.env) :: starEach es X.env := by rfl) (h3 : (backTo pos (starEach es X.env)).any (·.1) = false := by rfl) :
    PE X (.Call (.Name x p) (e :: es) [] pos) (tCall sp dvs E t) := by
  constructor
  intro pins s σ H Q I h
  refine wpAny_Call_Name_kw (ld_glob I glob hm ?_ h1)
  refine PySem.W.callWith_K (h₀ := X.base) I.ok.mod.kin kp (thn (args.run pos pins s σ H _ I h) ?_) h2 h3
  rintro us s1 ⟨vs, H1, I1, r1, q1⟩
  refine ⟨I1.kIn, ?_⟩
  have r2 : Vals (vs ++ dvs) (us ++ ds) := r1.append hd
  have hl : (us ++ ds).length = ps.length := r2.length.symm.trans (F.len _ _ _ _ q1)
  refine wpAny_call (codeAny_mono (F.go X.A X.stack s1 H1 ⟨us, []⟩ (us ++ ds) (vs ++ dvs) Q E hu room I1.env0 (bnd s1 us I1.kIn hl) r2 q1) ?_)
  intro r s' hq
  match r, hq with
  | .error z, hq => exact pas pins σ H1 s1 z s' I1 hq
  | .ok (.ret u), hq => exact I1.after hq
  | .ok .next, hq => exact False.elim hq
  | .ok .brk, hq => exact False.elim hq
  | .ok .cont, hq => exact False.elim hq
/-- repr of data -/
structure ShowOk (d : PyData) : Prop where
  can : d.showable = true
  nod : d.hasDict = false
  deep : d.depth ≤ 60
  size : d.shown.length ≤ sizeLine
def rRepr (K : PySem.W.Frag) : List V → Hp → VK → Prop := fun xs H Q => ∃ (x : V) (d : PyData), xs = [x] ∧ Dp K H x d ∧ ShowOk d ∧ Q (.str d.shown) H
theorem call_reprD {X : Cx} (hg : X.A.guards = some []) (hu : X.A.units + 64 < cLine) : CallR X (.builtin "repr") (rRepr X.K) := by
  intro pins s σ H xs us Q I r h
  obtain ⟨x, d, rfl, dp, ok, q⟩ := h
  obtain ⟨u, rfl, ru⟩ := vals1 r
  obtain ⟨as, rd⟩ := Dp.reads I d x u dp ru
  cases dp with
  | non =>
    cases ru
    exact PySem.P.repr_of_none ⟨.str _, H, I.tok _, ⟨_, rfl⟩, q⟩
  | bl b =>
    cases ru
    exact PySem.P.repr_of_bool ⟨.str _, H, I.tok _, ⟨_, rfl⟩, q⟩
  | int i =>
    obtain ⟨t, rfl⟩ := ru
    exact PySem.P.repr_of_int (of_decide_eq_true ok.can) ⟨.str _, H, I.tok _, ⟨_, rfl⟩, q⟩
  | str z =>
    obtain ⟨t, rfl⟩ := ru
    exact PySem.P.repr_of_str ⟨.str _, H, I.tok _, ⟨_, rfl⟩, q⟩ ok.size
  | lst hs ha =>
    cases ru
    refine repr_of_reads' rd ok.can (fun e => by rw [ok.nod] at e; cases e) hg (by have := ok.deep; omega) (fun _ _ e => e) (fun h' t tk hk => ⟨.str _, H, I.kept hk, ⟨_, rfl⟩, q⟩) ok.size
  | tup hs ha =>
    cases ru
    refine repr_of_reads' rd ok.can (fun e => by rw [ok.nod] at e; cases e) hg (by have := ok.deep; omega) (fun _ _ e => e) (fun h' t tk hk => ⟨.str _, H, I.kept hk, ⟨_, rfl⟩, q⟩) ok.size
end
section
open PyProof.Rows
/-- the law's call from such a promise -/
theorem lawG {P : Program} {w : World} {K : PySem.W.Frag} {mg mb : Str → Option Value} {C : CXT} {k : Nat} {fa a : Addr} {fd : FuncData} {x : Str} {sp : Sp} {s0 : Shared} {vs : List Value} {ns : List Int}
    (kin : K.In s0.heap) (hns : s0.heap.Ns mainGlobals mg) (hbn : s0.heap.Ns builtinsNs mb) (hbb : ∀ z : Str, z ≠ "__name__" → mb z = bootBuiltins z) (nol : s0.heap.NoLimit) (gens : s0.gens = #[])
    (ha : s0.heap.get? a = some { cls := .type "list", data := .seq vs.toArray }) (nums : IntsAre vs ns) (few : ns.length ≤ sizeLine) (room : Room k callerA)
    (F : ∀ base : Heap, K.In base → base.Ns mainGlobals mg → FnG P w K mg base C k fa fd [x] sp) (bnd : ∀ (s : Shared) (u : Value), BindsTo s fd ⟨[u], []⟩ [(x, u)])
    (want : ∀ H : Hp, Only H → SqL K H a (ns.map V.int) → sp [.ref a] H (fun v _ => v = .bl true) fun _ _ _ => False) (noX : ∀ H e s', C [] H s0 (fun _ _ _ => False) e s' → False) :
    codeAny (model P w) callerA (.call (.ref fa) ⟨[.ref a], []⟩) (fun r s' => r = .ok (.ret (.bool true)) ∧ OldK s0.heap s'.heap ∧ s'.os = s0.os ∧ AllBare s'.gens) s0 := by
  have rel := vals_ints nums
  have nlen := nums.length
  have core : ∀ H : Hp, Only H → SqL K H a (ns.map V.int) → HOk P w H s0.heap → (∀ b, H b ≠ none → b = a) → (H a ≠ none → K.lookup a = none) →
      codeAny (model P w) callerA (.call (.ref fa) ⟨[.ref a], []⟩) (fun r s' => r = .ok (.ret (.bool true)) ∧ OldK s0.heap s'.heap ∧ s'.os = s0.os ∧ AllBare s'.gens) s0 := by
    intro H only sq hok isA notK
    have free : ∀ {b : Addr} {o : Obj} {es : Array DictEntry} {ep : Nat}, s0.heap.get? b = some o → o.data = .dict es ep → H b = none := by
      intro b o es ep e d
      cases q : H b with
      | none => rfl
      | some u =>
        obtain rfl : b = a := isA b (by rw [q]; simp)
        rw [ha] at e
        cases e
        cases d
    have nsK : ∀ {b : Addr} {m : Str → Option Value}, s0.heap.Ns b m → (hidT s0.heap H).Ns b m := by
      rintro b m ⟨o, es, ep, e, d, r⟩
      exact ⟨o, es, ep, hidT_get e (free e d), d, r⟩
    have kinB : K.In (hidT s0.heap H) := by
      intro b o e
      refine hidT_get (kin b o e) ?_
      cases q : H b with
      | none => rfl
      | some u =>
        obtain rfl : b = a := isA b (by rw [q]; simp)
        rw [notK (by rw [q]; simp)] at e
        cases e
    have lim : (hidT s0.heap H).NoLimit := by
      obtain ⟨mc, l1, l2⟩ := nol
      exact ⟨mc, nsK l1, l2⟩
    have env : Env0 P w K mg (hidT s0.heap H) callerA [] s0 H :=
      ⟨rfl, ⟨kinB, nsK hns, ⟨mb, nsK hbn, hbb⟩, lim⟩, fun b o e => of_hidT e, Nat.le_of_eq (hidT_size _ _), trivial, fun b z => absurd z (List.not_mem_nil), hok, .of_eq gens⟩
    refine codeAny_mono ((F _ kinB (nsK hns)).go callerA [] s0 H ⟨[.ref a], []⟩ [.ref a] [.ref a] _ _ rfl room env (bnd s0 (.ref a)) (.cons rfl .nil) (want H only sq)) ?_
    intro r s' h
    match r, h with
    | .error e, h => exact (noX H e s' h).elim
    | .ok .next, h => exact False.elim h
    | .ok .brk, h => exact False.elim h
    | .ok .cont, h => exact False.elim h
    | .ok (.ret u), h =>
      obtain ⟨v, H', os, bare, un, hok', rv, (q : v = .bl true)⟩ := h
      subst q
      obtain rfl : u = Value.bool true := rv
      refine ⟨rfl, OldK.of_keep ?_, os, bare⟩
      intro b o e
      cases q : H b with
      | none => exact un.keep b o e q (fun z => absurd z List.not_mem_nil) (fun z => absurd z List.not_mem_nil)
      | some u =>
        rcases only b with z | ⟨ob, xs, z⟩
        · rw [q] at z
          cases z
        · obtain ⟨e1, _⟩ := hok b _ z
          obtain ⟨e2, _⟩ := hok' b _ (un.frzs b ob _ z)
          rw [e] at e1
          cases e1
          exact e2
  cases hk : K.lookup a with
  | some o =>
    have e := kin a o hk
    rw [ha] at e
    cases e
    refine core (fun _ => none) (fun _ => .inl rfl) ?_ (fun b u z => nomatch z) (fun b z => absurd rfl z) (fun z => absurd rfl z)
    exact .inr ⟨_, vs.toArray, _, hk, rfl, rfl, rfl, by rw [List.size_toArray, nlen]; exact few, by simpa using rel⟩
  | none =>
    have at_ : ∀ b : Addr, (if b = a then some (HO.frz { cls := .type "list", data := .seq vs.toArray } (.lst (ns.map V.int))) else none) ≠ none → b = a := fun b z => by
      by_cases hb : b = a
      · exact hb
      · rw [if_neg hb] at z
        exact absurd rfl z
    refine core (fun b => if b = a then some (.frz { cls := .type "list", data := .seq vs.toArray } (.lst (ns.map V.int))) else none) (fun b => ?_) (.inl (.inr ⟨_, if_pos rfl⟩)) (fun b u z => ?_) at_ (fun _ => hk)
    · by_cases hb : b = a
      · exact .inr ⟨_, _, if_pos hb⟩
      · exact .inl (if_neg hb)
    · dsimp only at z
      obtain rfl := at_ b (by rw [z]; simp)
      rw [if_pos rfl] at z
      obtain rfl := Option.some.inj z
      exact ⟨ha, by rw [List.length_map]; exact few, vs, _, rel, ha⟩
theorem walkG {l : PySem.W.OpenLaw} {n k : Nat} {q : Program} {loose : List Str} {XP : (Str → Option Value) → Heap → Prop} {YP : World → Heap → Prop} {d : DefRec} {K : Params → PySem.W.Frag} {C : World → CXT} {sp : World → Sp} {x : Str}
    (hn : l.most = some n) (hn2 : n ≤ sizeLine) (hdf : d.params.defaults = []) (room : Room k callerA) (hY : ∀ (w : World) (h : Heap), YP w h → (K w.params).In h)
    (F : ∀ (w : World) (mg : Str → Option Value) (fa : Addr) (h : Heap), (K w.params).In h → h.Ns mainGlobals mg → mg d.name = some (.ref fa) →
      ∃ fd : FuncData, (∀ (s : Shared) (u : Value), BindsTo s fd ⟨[u], []⟩ [(x, u)]) ∧ ∀ base : Heap, (K w.params).In base → base.Ns mainGlobals mg → FnG l.prog w (K w.params) mg base (C w) k fa fd [x] (sp w))
    (want : ∀ (w : World) (H : Hp) (a : Addr) (ns : List Int), ns.length ≤ n → Only H → SqL (K w.params) H a (ns.map V.int) → sp w [.ref a] H (fun v _ => v = .bl true) fun _ _ _ => False)
    (noX : ∀ (w : World) (H : Hp) (s : Shared) (e : Value) (s' : Shared), C w [] H s (fun _ _ _ => False) e s' → False) : PySem.W.WalkO q loose XP YP l.row.toRowW d [] (fun f vs => PySem.call f vs) := by
  refine Att.attach_call hn hdf ?_
  intro w s₀ s1 mg mb fa o pm cd doc a vs ns G Y ho hd hcd hmg hobj nums hlen gens
  obtain ⟨fd, bnd, ok⟩ := F w mg fa _ (hY w _ Y) G.T.g hmg
  exact lawG (hY w _ Y) G.T.g G.T.b G.T.builtins G.T.nolimit gens hobj nums (Nat.le_trans hlen hn2) room ok bnd (fun H h1 h2 => want w H a ns hlen h1 h2) (fun H e s' => noX w H s1 e s')
end
/-! zip of a text and a tuple, of a text and a list. -/
section
open PySem.Spec PyProof.Rows
/-- zip of a text and a tuple that stands: the sign and the item, in new pairs -/
def ItzST (K : PySem.W.Frag) (z : Str) (b : Addr) : It :=
  ⟨fun i H => ∃ (ys : List V) (y : V) (c : Nat), SqT K H b ys ∧ z.cps[i]? = some c ∧ ys[i]? = some y,
    fun i H v H' => ∃ T c y, v = .ref T ∧ H T = none ∧ H' = upd H T (.tup [.str ⟨#[c]⟩, y]) ∧ z.cps[i]? = some c ∧ ∀ ys, SqT K H b ys → ys[i]? = some y,
    fun i H => ∃ ys : List V, SqT K H b ys ∧ i ≤ z.cps.size ∧ i ≤ ys.length ∧ (i = z.cps.size ∨ i = ys.length)⟩
theorem turn_zipST {P : Program} {w : World} {K : PySem.W.Frag} {elts : List Expr} {kk : Nat} {tpos : Pos} {q TI TO i1 i2 b : Addr} {z : Str} {t : Tok} (S : ZipSep2 q TI TO i1 i2 [i1] [i2, b]) :
    Turn P w K (.Tuple elts kk tpos) (ItzST K z b) [q, TI, TO, i1, i2] q (fun i h => IsZip h q TI TO .none ∧ IsTupOf2 h TI (.ref i1) (.ref i2) ∧ (∃ x y, IsTupOf2 h TO x y) ∧ h.IsStrIter i1 (strIterType z) z t i ∧ h.IsTupleIter i2 b i) where
  mem := by simp
  obj := by
    rintro i h ⟨h1, h2, ⟨x, y, h3⟩, ⟨o1, h4, _, d4⟩, ⟨o2, h5, _, d5⟩⟩ c hc
    simp only [List.mem_cons, List.not_mem_nil, or_false] at hc
    rcases hc with rfl | rfl | rfl | rfl | rfl
    · exact ⟨_, h1, fun v e => nomatch e⟩
    · exact ⟨_, h2, fun v e => nomatch e⟩
    · exact ⟨_, h3, fun v e => nomatch e⟩
    · exact ⟨o1, h4, fun v e => by rw [d4] at e; cases e⟩
    · exact ⟨o2, h5, fun v e => by rw [d5] at e; cases e⟩
  keep := by
    rintro i h h' ⟨h1, h2, ⟨x, y, h3⟩, h4, h5⟩ k
    refine ⟨k q (by simp) _ h1, k TI (by simp) _ h2, ⟨x, y, k TO (by simp) _ h3⟩, ?_, h5.at fun o e => k i2 (by simp) o e⟩
    obtain ⟨o, e, r⟩ := h4
    exact ⟨o, k i1 (by simp) o e, r⟩
  item := by
    rintro X rfl rfl rfl calm i pins s σ H E I hf ⟨h1, h2, ⟨x0, y0, h3⟩, h4, h5⟩ ⟨ys, y, c, hq, hc, hy⟩
    obtain ⟨its, rv, p, _⟩ := I.tuple hq
    have hh : X.A.in1.handled = none := I.ok.hd calm
    have ci : i < z.cps.size := (Array.getElem?_eq_some_iff.mp hc).1
    have yi : i < its.toArray.size := by
      rw [List.size_toArray, ← rv.length]
      exact (List.getElem?_eq_some_iff.mp hy).1
    have nb : b ≠ i2 := by
      intro e
      obtain ⟨o2, g2, c2, _⟩ := h5
      obtain ⟨o1, g1, c1, _⟩ := p
      rw [e, g2] at g1
      cases g1
      rw [c2] at c1
      exact absurd c1 (by decide)
    have hql : q < s.heap.objs.size := Heap.lt_size h1
    refine wpAny_pyNext_zipD2_item S (Draws.text hh i1 z t) (Draws.tuple hh i2 b nb its.toArray) h1 h2 h3 h4 ⟨h5, p⟩ ci yi ?_
    rintro x1 x2 h' tk ⟨c', u, hc', rfl⟩ hx2 z' TO' st1 ⟨st2, _⟩ hT hsz hk
    rw [hc] at hc'
    obtain rfl := Option.some.inj hc'
    refine ⟨_, rfl, wpAny_letOwnedTupleGo_zip (s := { s with heap := h', toks := tk }) z' ?_⟩
    intro h'' z'' sb
    obtain ⟨u2, hu2, ru2⟩ := rv.get hy
    have e2 : x2 = u2 := by
      have e : its.toArray[i]? = some u2 := by simpa using hu2
      rw [e] at hx2
      exact (Option.some.inj hx2).symm
    subst e2
    have hT2 : h''.get? s.heap.objs.size = some { cls := .type "tuple", data := .seq #[.str ⟨#[c]⟩ u, x2] } := (sb.2 _ (Nat.ne_of_gt hql)).trans hT
    have new : ObjOk X.prog X.w (upd H s.heap.objs.size (.tup [.str ⟨#[c]⟩, y])) h'' s.heap.objs.size (.tup [.str ⟨#[c]⟩, y]) :=
      ⟨(show 2 ≤ sizeLine by decide), [.str ⟨#[c]⟩ u, x2], .cons ⟨u, rfl⟩ (.cons ru2 .nil), ⟨_, hT2, rfl, _, rfl⟩⟩
    have J : L2.Inv X pins σ (upd H s.heap.objs.size (.tup [.str ⟨#[c]⟩, y])) { s with heap := h'', toks := tk } := by
      refine I.turnedNew (t' := tk) (ch := [q, TI, TO, i1, i2]) ?_ hf (Nat.le_refl _) new
      intro d o hb e
      simp only [List.mem_cons, List.not_mem_nil, or_false, not_or] at hb
      obtain ⟨b1, b2, b3, b4, b5⟩ := hb
      exact (sb.2 d b1).trans (hk d o b1 b3 b4 b5 e)
    refine ⟨.ref s.heap.objs.size, _, J, rfl, ⟨_, c, y, rfl, I.hok.fresh (Nat.le_refl _), rfl, hc, ?_⟩, ⟨z'', ?_, ⟨_, _, (sb.2 _ S.TOz).trans TO'⟩, ?_, ?_⟩, ?_⟩
    · intro l hl
      rw [I.tuple_inj hl hq]
      exact hy
    · exact (sb.2 _ S.TIz).trans (hk _ _ S.TIz S.TITO S.TIi1 S.TIi2 h2)
    · obtain ⟨o, e, r⟩ := st1
      exact ⟨o, (sb.2 _ S.zi1.symm).trans e, r⟩
    · exact st2.at fun o e => (sb.2 _ S.zi2.symm).trans e
    · intro d hd
      have lt : d < s.heap.objs.size := by
        have hd' := hd
        simp only [List.mem_cons, List.not_mem_nil, or_false] at hd'
        rcases hd' with rfl | rfl | rfl | rfl | rfl
        · exact hql
        · exact Heap.lt_size h2
        · exact Heap.lt_size h3
        · obtain ⟨_, e, _⟩ := h4
          exact Heap.lt_size e
        · obtain ⟨_, e, _⟩ := h5
          exact Heap.lt_size e
      rw [upd_ne (Nat.ne_of_lt lt)]
      exact (hf d hd).1
  done := by
    rintro X rfl rfl rfl calm i pins s σ H E I hf ⟨h1, h2, ⟨x0, y0, h3⟩, h4, h5⟩ ⟨ys, hq, l1, l2, l3⟩
    obtain ⟨its, rv, p, _⟩ := I.tuple hq
    have hh : X.A.in1.handled = none := I.ok.hd calm
    have nb : b ≠ i2 := by
      intro e
      obtain ⟨o2, g2, c2, _⟩ := h5
      obtain ⟨o1, g1, c1, _⟩ := p
      rw [e, g2] at g1
      cases g1
      rw [c2] at c1
      exact absurd c1 (by decide)
    have sz : its.toArray.size = ys.length := by
      rw [List.size_toArray, ← rv.length]
    refine wpAny_pyNext_zipD2_end S (Draws.text hh i1 z t) (Draws.tuple hh i2 b nb its.toArray) h1 h2 h3 h4 ⟨h5, p⟩ l1 (by rw [sz]; exact l2) (by rw [sz]; exact l3) ?_
    intro h' tk hk
    refine ⟨rfl, I.turnedL (t' := tk) (ch := [q, TI, TO, i1, i2]) ?_ hf⟩
    intro d o hb e
    simp only [List.mem_cons, List.not_mem_nil, or_false, not_or] at hb
    obtain ⟨b1, b2, b3, b4, b5⟩ := hb
    exact hk d o b1 b3 b4 b5 e
  self := fun A i s Q E st h => wpAny_pyIter_zip st.1 h
def iZipST (K : PySem.W.Frag) (ta : TA) : TI := fun σ H R => ta σ H fun vs H1 => ∃ z b ys, vs = [.str z, .ref b] ∧ SqT K H1 b ys ∧ R (ItzST K z b) H1
theorem pi_zipST {X : Cx} {e e2 : Expr} {ta : TA} {p pos tpos : Pos} {elts : List Expr} {kk : Nat} (hg : Gl X "zip") (hm : X.mg "zip" = none) (ha : PA X [e, e2] ta)
    (n1 : starEach [e, e2] X.env = (false, eval e X.env) :: starEach [e2] X.env := by rfl) (n2 : (backTo pos (starEach [e2] X.env)).any (·.1) = false := by rfl) :
    PI X (.Tuple elts kk tpos) (.Call (.Name "zip" p) [e, e2] [] pos) (iZipST X.K ta) := by
  constructor
  intro pins s σ H R I h
  refine Call_ (ld_blt I hg hm PyProof.Rows.boot_zip (PyProof.Rows.callWith_type1 (thn (ha.run pos pins s σ H _ I h) ?_) n1 n2))
  rintro us s1 ⟨vs, H1, I1, r1, z, b, ys, rfl, hq, rr⟩
  obtain ⟨u, u2, rfl, ⟨t, rfl⟩, r2⟩ : ∃ u u2, us = [u, u2] ∧ L2.RelV (.str z) u ∧ L2.RelV (.ref b) u2 := by
    cases r1 with
    | cons a r =>
      cases r with
      | cons c r =>
        cases r
        exact ⟨_, _, rfl, a, c⟩
  cases r2
  obtain ⟨its, rv, p1, _⟩ := I1.tuple hq
  obtain ⟨ob, g0, _⟩ := id p1
  have lb := Heap.lt_size g0
  refine zip_begins2 (begins_text z t) (begins_tuple b its.toArray) trivial p1 ?_
  intro h' hz hTI hTO h1 h2 hsz hk
  refine wpAny_pyIter_zip hz ?_
  have I2 : L2.Inv X pins σ H1 { s1 with heap := h' } := I1.kept (t' := s1.toks) hk
  generalize eN : s1.heap.objs.size = N at *
  have sep : ZipSep2 (N + 4) (N + 2) (N + 3) N (N + 1) [N] [N + 1, b] := zip_sep2 (fun _ z => nomatch z) (fun c hc => by rw [List.mem_singleton.mp hc]; exact lb)
  refine ⟨N + 4, [N + 4, N + 2, N + 3, N, N + 1], _, _, H1, rfl, I2, turn_zipST (t := t) sep, ⟨hz, hTI, ⟨_, _, hTO⟩, ⟨_, h1, rfl, rfl⟩, ⟨_, h2, rfl, rfl⟩⟩, ?_, rr⟩
  intro c hc
  have le : s1.heap.objs.size ≤ c := by
    rw [eN]
    have hc' : c = N + 4 ∨ c = N + 2 ∨ c = N + 3 ∨ c = N ∨ c = N + 1 := by simpa using hc
    rcases hc' with e | e | e | e | e
    all_goals
      rw [e]
      first
        | exact Nat.le_add_right _ _
        | exact Nat.le_refl _
  exact I1.fpOk le (I1.hok.fresh le)
theorem walk_zipST {K : PySem.W.Frag} {z : Str} {b : Addr} {ys : List V} {n : Nat} (hn : n = min z.cps.size ys.length) :
    Walk (ItzST K z b) n (fun H => SqT K H b ys) (YPair (fun i => (z.cps[i]?).map fun c => V.str ⟨#[c]⟩) (fun i => ys[i]?)) := by
  subst hn
  refine ⟨?_, ?_, ?_⟩
  · intro i H hi hq
    have h1 : i < z.cps.size := by omega
    have h2 : i < ys.length := by omega
    exact ⟨ys, ys[i], z.cps[i], hq, Array.getElem?_eq_getElem h1, List.getElem?_eq_getElem h2⟩
  · intro H hq
    exact ⟨ys, hq, by omega, by omega, by omega⟩
  · rintro i H v H' hi hq ⟨T, c, y, h1, h2, h3, h4, h5⟩
    exact ⟨T, _, y, h1, h2, h3, by show (z.cps[i]?).map _ = _; rw [h4]; rfl, h5 ys hq⟩
/-- zip of a text and a list that stands: the sign and the item, in new pairs -/
def ItzSL (K : PySem.W.Frag) (z : Str) (b : Addr) : It :=
  ⟨fun i H => ∃ (ys : List V) (y : V) (c : Nat), SqL K H b ys ∧ z.cps[i]? = some c ∧ ys[i]? = some y,
    fun i H v H' => ∃ T c y, v = .ref T ∧ H T = none ∧ H' = upd H T (.tup [.str ⟨#[c]⟩, y]) ∧ z.cps[i]? = some c ∧ ∀ ys, SqL K H b ys → ys[i]? = some y,
    fun i H => ∃ ys : List V, SqL K H b ys ∧ i ≤ z.cps.size ∧ i ≤ ys.length ∧ (i = z.cps.size ∨ i = ys.length)⟩
theorem turn_zipSL {P : Program} {w : World} {K : PySem.W.Frag} {elts : List Expr} {kk : Nat} {tpos : Pos} {q TI TO i1 i2 b : Addr} {z : Str} {t : Tok} (S : ZipSep2 q TI TO i1 i2 [i1] [i2, b]) :
    Turn P w K (.Tuple elts kk tpos) (ItzSL K z b) [q, TI, TO, i1, i2] q (fun i h => IsZip h q TI TO .none ∧ IsTupOf2 h TI (.ref i1) (.ref i2) ∧ (∃ x y, IsTupOf2 h TO x y) ∧ h.IsStrIter i1 (strIterType z) z t i ∧ h.IsListIter i2 b i) where
  mem := by simp
  obj := by
    rintro i h ⟨h1, h2, ⟨x, y, h3⟩, ⟨o1, h4, _, d4⟩, ⟨o2, h5, _, d5⟩⟩ c hc
    simp only [List.mem_cons, List.not_mem_nil, or_false] at hc
    rcases hc with rfl | rfl | rfl | rfl | rfl
    · exact ⟨_, h1, fun v e => nomatch e⟩
    · exact ⟨_, h2, fun v e => nomatch e⟩
    · exact ⟨_, h3, fun v e => nomatch e⟩
    · exact ⟨o1, h4, fun v e => by rw [d4] at e; cases e⟩
    · exact ⟨o2, h5, fun v e => by rw [d5] at e; cases e⟩
  keep := by
    rintro i h h' ⟨h1, h2, ⟨x, y, h3⟩, h4, h5⟩ k
    refine ⟨k q (by simp) _ h1, k TI (by simp) _ h2, ⟨x, y, k TO (by simp) _ h3⟩, ?_, h5.at fun o e => k i2 (by simp) o e⟩
    obtain ⟨o, e, r⟩ := h4
    exact ⟨o, k i1 (by simp) o e, r⟩
  item := by
    rintro X rfl rfl rfl calm i pins s σ H E I hf ⟨h1, h2, ⟨x0, y0, h3⟩, h4, h5⟩ ⟨ys, y, c, hq, hc, hy⟩
    obtain ⟨its, rv, p, _⟩ := I.list hq
    have hh : X.A.in1.handled = none := I.ok.hd calm
    have ci : i < z.cps.size := (Array.getElem?_eq_some_iff.mp hc).1
    have yi : i < its.toArray.size := by
      rw [List.size_toArray, ← rv.length]
      exact (List.getElem?_eq_some_iff.mp hy).1
    have nb : b ≠ i2 := by
      intro e
      obtain ⟨o2, g2, c2, _⟩ := h5
      obtain ⟨o1, g1, c1, _⟩ := p.isList
      rw [e, g2] at g1
      cases g1
      rw [c2] at c1
      exact absurd c1 (by decide)
    have hql : q < s.heap.objs.size := Heap.lt_size h1
    refine wpAny_pyNext_zipD2_item S (Draws.text hh i1 z t) (Draws.list hh i2 b nb its.toArray) h1 h2 h3 h4 ⟨h5, p.isList⟩ ci yi ?_
    rintro x1 x2 h' tk ⟨c', u, hc', rfl⟩ hx2 z' TO' st1 ⟨st2, _⟩ hT hsz hk
    rw [hc] at hc'
    obtain rfl := Option.some.inj hc'
    refine ⟨_, rfl, wpAny_letOwnedTupleGo_zip (s := { s with heap := h', toks := tk }) z' ?_⟩
    intro h'' z'' sb
    obtain ⟨u2, hu2, ru2⟩ := rv.get hy
    have e2 : x2 = u2 := by
      have e : its.toArray[i]? = some u2 := by simpa using hu2
      rw [e] at hx2
      exact (Option.some.inj hx2).symm
    subst e2
    have hT2 : h''.get? s.heap.objs.size = some { cls := .type "tuple", data := .seq #[.str ⟨#[c]⟩ u, x2] } := (sb.2 _ (Nat.ne_of_gt hql)).trans hT
    have new : ObjOk X.prog X.w (upd H s.heap.objs.size (.tup [.str ⟨#[c]⟩, y])) h'' s.heap.objs.size (.tup [.str ⟨#[c]⟩, y]) :=
      ⟨(show 2 ≤ sizeLine by decide), [.str ⟨#[c]⟩ u, x2], .cons ⟨u, rfl⟩ (.cons ru2 .nil), ⟨_, hT2, rfl, _, rfl⟩⟩
    have J : L2.Inv X pins σ (upd H s.heap.objs.size (.tup [.str ⟨#[c]⟩, y])) { s with heap := h'', toks := tk } := by
      refine I.turnedNew (t' := tk) (ch := [q, TI, TO, i1, i2]) ?_ hf (Nat.le_refl _) new
      intro d o hb e
      simp only [List.mem_cons, List.not_mem_nil, or_false, not_or] at hb
      obtain ⟨b1, b2, b3, b4, b5⟩ := hb
      exact (sb.2 d b1).trans (hk d o b1 b3 b4 b5 e)
    refine ⟨.ref s.heap.objs.size, _, J, rfl, ⟨_, c, y, rfl, I.hok.fresh (Nat.le_refl _), rfl, hc, ?_⟩, ⟨z'', ?_, ⟨_, _, (sb.2 _ S.TOz).trans TO'⟩, ?_, ?_⟩, ?_⟩
    · intro l hl
      rw [I.list_inj hl hq]
      exact hy
    · exact (sb.2 _ S.TIz).trans (hk _ _ S.TIz S.TITO S.TIi1 S.TIi2 h2)
    · obtain ⟨o, e, r⟩ := st1
      exact ⟨o, (sb.2 _ S.zi1.symm).trans e, r⟩
    · exact st2.at fun o e => (sb.2 _ S.zi2.symm).trans e
    · intro d hd
      have lt : d < s.heap.objs.size := by
        have hd' := hd
        simp only [List.mem_cons, List.not_mem_nil, or_false] at hd'
        rcases hd' with rfl | rfl | rfl | rfl | rfl
        · exact hql
        · exact Heap.lt_size h2
        · exact Heap.lt_size h3
        · obtain ⟨_, e, _⟩ := h4
          exact Heap.lt_size e
        · obtain ⟨_, e, _⟩ := h5
          exact Heap.lt_size e
      rw [upd_ne (Nat.ne_of_lt lt)]
      exact (hf d hd).1
  done := by
    rintro X rfl rfl rfl calm i pins s σ H E I hf ⟨h1, h2, ⟨x0, y0, h3⟩, h4, h5⟩ ⟨ys, hq, l1, l2, l3⟩
    obtain ⟨its, rv, p, _⟩ := I.list hq
    have hh : X.A.in1.handled = none := I.ok.hd calm
    have nb : b ≠ i2 := by
      intro e
      obtain ⟨o2, g2, c2, _⟩ := h5
      obtain ⟨o1, g1, c1, _⟩ := p.isList
      rw [e, g2] at g1
      cases g1
      rw [c2] at c1
      exact absurd c1 (by decide)
    have sz : its.toArray.size = ys.length := by
      rw [List.size_toArray, ← rv.length]
    refine wpAny_pyNext_zipD2_end S (Draws.text hh i1 z t) (Draws.list hh i2 b nb its.toArray) h1 h2 h3 h4 ⟨h5, p.isList⟩ l1 (by rw [sz]; exact l2) (by rw [sz]; exact l3) ?_
    intro h' tk hk
    refine ⟨rfl, I.turnedL (t' := tk) (ch := [q, TI, TO, i1, i2]) ?_ hf⟩
    intro d o hb e
    simp only [List.mem_cons, List.not_mem_nil, or_false, not_or] at hb
    obtain ⟨b1, b2, b3, b4, b5⟩ := hb
    exact hk d o b1 b3 b4 b5 e
  self := fun A i s Q E st h => wpAny_pyIter_zip st.1 h
def iZipSL (K : PySem.W.Frag) (ta : TA) : TI := fun σ H R => ta σ H fun vs H1 => ∃ z b ys, vs = [.str z, .ref b] ∧ SqL K H1 b ys ∧ R (ItzSL K z b) H1
theorem pi_zipSL {X : Cx} {e e2 : Expr} {ta : TA} {p pos tpos : Pos} {elts : List Expr} {kk : Nat} (hg : Gl X "zip") (hm : X.mg "zip" = none) (ha : PA X [e, e2] ta)
    (n1 : starEach [e, e2] X.env = (false, eval e X.env) :: starEach [e2] X.env := by rfl) (n2 : (backTo pos (starEach [e2] X.env)).any (·.1) = false := by rfl) :
    PI X (.Tuple elts kk tpos) (.Call (.Name "zip" p) [e, e2] [] pos) (iZipSL X.K ta) := by
  constructor
  intro pins s σ H R I h
  refine Call_ (ld_blt I hg hm PyProof.Rows.boot_zip (PyProof.Rows.callWith_type1 (thn (ha.run pos pins s σ H _ I h) ?_) n1 n2))
  rintro us s1 ⟨vs, H1, I1, r1, z, b, ys, rfl, hq, rr⟩
  obtain ⟨u, u2, rfl, ⟨t, rfl⟩, r2⟩ : ∃ u u2, us = [u, u2] ∧ L2.RelV (.str z) u ∧ L2.RelV (.ref b) u2 := by
    cases r1 with
    | cons a r =>
      cases r with
      | cons c r =>
        cases r
        exact ⟨_, _, rfl, a, c⟩
  cases r2
  obtain ⟨its, rv, p1, _⟩ := I1.list hq
  obtain ⟨ob, g0, _⟩ := id p1.isList
  have lb := Heap.lt_size g0
  refine zip_begins2 (begins_text z t) (begins_list b its.toArray) trivial p1.isList ?_
  intro h' hz hTI hTO h1 h2 hsz hk
  refine wpAny_pyIter_zip hz ?_
  have I2 : L2.Inv X pins σ H1 { s1 with heap := h' } := I1.kept (t' := s1.toks) hk
  generalize eN : s1.heap.objs.size = N at *
  have sep : ZipSep2 (N + 4) (N + 2) (N + 3) N (N + 1) [N] [N + 1, b] := zip_sep2 (fun _ z => nomatch z) (fun c hc => by rw [List.mem_singleton.mp hc]; exact lb)
  refine ⟨N + 4, [N + 4, N + 2, N + 3, N, N + 1], _, _, H1, rfl, I2, turn_zipSL (t := t) sep, ⟨hz, hTI, ⟨_, _, hTO⟩, ⟨_, h1, rfl, rfl⟩, ⟨_, h2, rfl, rfl⟩⟩, ?_, rr⟩
  intro c hc
  have le : s1.heap.objs.size ≤ c := by
    rw [eN]
    have hc' : c = N + 4 ∨ c = N + 2 ∨ c = N + 3 ∨ c = N ∨ c = N + 1 := by simpa using hc
    rcases hc' with e | e | e | e | e
    all_goals
      rw [e]
      first
        | exact Nat.le_add_right _ _
        | exact Nat.le_refl _
  exact I1.fpOk le (I1.hok.fresh le)
theorem walk_zipSL {K : PySem.W.Frag} {z : Str} {b : Addr} {ys : List V} {n : Nat} (hn : n = min z.cps.size ys.length) :
    Walk (ItzSL K z b) n (fun H => SqL K H b ys) (YPair (fun i => (z.cps[i]?).map fun c => V.str ⟨#[c]⟩) (fun i => ys[i]?)) := by
  subst hn
  refine ⟨?_, ?_, ?_⟩
  · intro i H hi hq
    have h1 : i < z.cps.size := by omega
    have h2 : i < ys.length := by omega
    exact ⟨ys, ys[i], z.cps[i], hq, Array.getElem?_eq_getElem h1, List.getElem?_eq_getElem h2⟩
  · intro H hq
    exact ⟨ys, hq, by omega, by omega, by omega⟩
  · rintro i H v H' hi hq ⟨T, c, y, h1, h2, h3, h4, h5⟩
    exact ⟨T, _, y, h1, h2, h3, by show (z.cps[i]?).map _ = _; rw [h4]; rfl, h5 ys hq⟩
end
/-! d.get(k, x) of a written dict whose keys are texts. -/
section
open PySem.Spec PyProof.Rows
def tKGet (K : PySem.W.Frag) (d : Addr) (td ty tx : TE) : TE := fun σ H Q => td σ H fun x H1 => x = .ref d ∧ ty σ H1 fun y H2 => tx σ H2 fun z H3 => ∃ (k : Str) (r : Option Value) (v : V), y = .str k ∧ PySem.W.nsIn K d k = some r ∧ (∀ u, r = some u → L2.RelV v u) ∧ (r = none → v = z) ∧ Q v H3
theorem pe_kget {X : Cx} {o e f : Expr} {apos cpos : Pos} {td ty tx : TE} {d : Addr} {es : Array DictEntry} {n : Nat} (D : KDict X.K X.w d es n) (ho : PE X o td) (he : PE X e ty) (hf : PE X f tx) (m : M2 X o "get" apos e f cpos) :
    PE X (.Call (.Attribute o "get" apos) [e, f] [] cpos) (tKGet X.K d td ty tx) := by
  constructor
  intro pins s σ H Q I h
  refine wpAny_Call_method m.base m.few m.line PySem.F.plainAttrs_dict PySem.F.slot_dict_get PySem.F.type_dict_get (thn (ho.run pins s σ H _ I h) ?_)
  rintro u s1 ⟨x, H1, I1, rx, rfl, q1⟩
  obtain rfl : u = Value.ref d := rx
  refine ⟨kd_type D I1, ?_, ?_⟩
  · rintro b z
    cases z
    exact ⟨_, I1.kIn _ _ D.at_, rfl⟩
  · rw [m.trees]
    refine Calls.callWith_builtin rfl (Calls.evalArgs_plain (Calls.spliced_cons (thn (he.run pins s1 σ H1 _ I1 q1) ?_)))
    rintro iv s2 ⟨y, H2, I2, ry, q2⟩
    refine Calls.spliced_cons (thn (hf.run pins s2 σ H2 _ I2 q2) ?_)
    rintro fv s3 ⟨z, H3, I3, rz, k, r, v, rfl, e, h1, h2, q3⟩
    obtain ⟨t, rfl⟩ := ry
    refine Calls.spliced_nil ?_
    have mp := PySem.W.mapOf_K (prog := X.prog) (w := X.w) I3.kIn D.at_ D.lit
    refine call_meetsIn PySem.F.slot_dict_get mp.typeIs PySem.F.entry_dict_get (PySem.F.args_dict_get_3 _ _ _) (meets_dict_get_default (strKind X.prog X.w) d (strKind_is X.prog X.w k t) D.low fv) ⟨_, mp, ?_⟩
    rw [PySem.W.find_K D.at_ e]
    refine ⟨v, H3, I3.tok _, ?_, q3⟩
    cases r with
    | none =>
      rw [h2 rfl]
      exact rz
    | some u => exact h1 u rfl
end
/-! d.update(e) of dicts; t * k of a tuple for k of 0 and 1, too. -/
section
open PySem.Spec PyProof.Rows
variable {X : Cx}
def rDUpd : V → List V → Hp → VK → Prop := fun x xs H Q => ∃ (a b : Addr) (ks ls : List (Key × V)), x = .ref a ∧ xs = [.ref b] ∧ H a = some (.dK ks) ∧ H b = some (.dK ls) ∧ a ≠ b ∧ ks.length + ls.length ≤ sizeLine ∧ Q .non (upd H a (.dK (mergeK ks ls)))
theorem mt_dupd : MtR X "dict.update" rDUpd := by
  intro pins s σ H x xs v us Q I rx rxs h
  obtain ⟨a, b, ks, ls, rfl, rfl, ha, hb, ne, hz, q⟩ := h
  cases rx
  obtain ⟨u, rfl, ru⟩ := rxs.one
  cases ru
  obtain ⟨z1, m1, vs, r1, d1⟩ := dk_of I.hok ha
  obtain ⟨z2, m2, ws, r2, d2⟩ := dk_of I.hok hb
  refine call_meetsIn PySem.F.slot_dict_update d1.typeIs PySem.F.entry_dict_update (PySem.F.args_dict_update_2 _ _) (meets_dict_update (mixKind X.prog X.w) a b ne m2) ⟨vs, ws, d1, d2, by rw [← r1.length, ← r2.length]; exact hz, ?_⟩
  intro h' d1' _ same
  have he : ∃ o, h'.get? a = some o := let ⟨o, _, _, e, _⟩ := d1'; ⟨o, e⟩
  refine ⟨.non, _, d_write (t' := s.toks) I (by rw [ha]; trivial) same he (dk_new (Nat.le_trans (length_mergeK ls ks) hz) m1 (KV.merge r2 r1) d1'), rfl, q⟩
theorem tup_mul1 (l : Addr) (items : Array Value) (n : Nat) (dd : Option Addr) (sl : Array (Option Value)) (u : Tok) (hi : items.isEmpty = false) :
    Meets (Builtin.«tuple.__mul__» ⟨[.ref l, .int 1 u], []⟩) (fun _ R s => s.heap.get? l = some { cls := .type "tuple", dict := dd, data := .seq items n, slots := sl } ∧ R (.ok (.ret (.ref l))) s) :=
  .of_wp fun prog w A R s h => by
    obtain ⟨hp, g, d, tk, os⟩ := s
    obtain ⟨hl, h⟩ := h
    have f1 := AutoSeq1.idx_int
    have c0 : (decide ((1 : Int) < -(2 ^ 63)) || decide ((1 : Int) ≥ 2 ^ 63)) = false := by decide
    have c1 : (items.isEmpty || (1 : Int) == 1) = true := by rw [hi]; rfl
    wp_walk using AutoSeq1.wpAny_loadPart' hl
    repeat (first
      | (refine wpAny_ite_false (decide_eq_false (by rw [c0]; exact Bool.false_ne_true)) ?_; wp_walk using AutoSeq1.wpAny_loadPart' hl)
      | (refine wpAny_ite_true (decide_eq_true c1) ?_; wp_walk using AutoSeq1.wpAny_loadPart' hl))
    exact ⟨_, rfl, h⟩
theorem tup_mul0 (l : Addr) (items : Array Value) (n : Nat) (dd : Option Addr) (sl : Array (Option Value)) (u : Tok) (hi : items.isEmpty = false) :
    Meets (Builtin.«tuple.__mul__» ⟨[.ref l, .int 0 u], []⟩) (fun _ R s => s.heap.get? l = some { cls := .type "tuple", dict := dd, data := .seq items n, slots := sl } ∧
      R (.ok (.ret (Value.ref s.heap.objs.size))) { s with heap := s.heap.push { cls := Value.type "tuple", data := Data.seq #[] }, toks := s.toks }) :=
  .of_wp fun prog w A R s h => by
    obtain ⟨hp, g, d, tk, os⟩ := s
    obtain ⟨hl, h⟩ := h
    have f1 := AutoSeq1.idx_int
    have c0 : (decide ((0 : Int) < -(2 ^ 63)) || decide ((0 : Int) ≥ 2 ^ 63)) = false := by decide
    have c1 : (items.isEmpty || (0 : Int) == 1) = false := by rw [hi]; rfl
    have c2 : (decide ((0 : Int) ≤ 0) || items.isEmpty) = true := by rw [hi]; rfl
    wp_walk using AutoSeq1.wpAny_loadPart' hl
    repeat (first
      | (refine wpAny_ite_false (decide_eq_false (by rw [c0]; exact Bool.false_ne_true)) ?_; wp_walk using AutoSeq1.wpAny_loadPart' hl)
      | (refine wpAny_ite_false (decide_eq_false (by rw [c1]; exact Bool.false_ne_true)) ?_; wp_walk using AutoSeq1.wpAny_loadPart' hl)
      | (refine wpAny_ite_true (decide_eq_true c2) ?_; wp_walk using AutoSeq1.wpAny_loadPart' hl))
    exact ⟨_, rfl, h⟩
def rRepA (K : PySem.W.Frag) : R2 := fun x y H Q => ∃ (l : Addr) (k : Nat) (xs : List V), x = .ref l ∧ y = .int (k : Int) ∧ H l = some (.tup xs) ∧ xs ≠ [] ∧ k ≤ 1000 ∧ xs.length ≤ 1000 ∧
  ∀ r H', Same H H' → H' r = some (.tup (List.replicate k xs).flatten) → Q (.ref r) H'
theorem op_repA : OpR X (binaryOp .Mult) (rRepA X.K) := by
  intro pins s σ H x y v u Q I rx ry h
  obtain ⟨l, k, xs, ex, ey, hl, hne, h2, hz, q⟩ := h
  by_cases hk : 2 ≤ k
  · refine op_repT pins s σ H x y v u Q I rx ry ⟨l, (k : Int), xs, ex, ey, SqT.of hl, hne, by omega, by omega, hz, ?_⟩
    intro p hp
    rw [Int.toNat_natCast]
    exact q p _ (Same.new hp) upd_same
  · subst ex ey
    cases rx
    obtain ⟨t, rfl⟩ := ry
    obtain ⟨its, r, ⟨⟨cls, dd, data, sl⟩, ho, hc, n, hd⟩, hs⟩ := I.tuple (SqT.of hl)
    simp only at hc hd
    subst hc hd
    have hi : its.toArray.isEmpty = false := by
      cases its with
      | nil =>
        have := r.length
        exact absurd (List.eq_nil_of_length_eq_zero this) hne
      | cons a b => rfl
    have hk2 : k = 0 ∨ k = 1 := by omega
    rcases hk2 with rfl | rfl
    · refine wpAny_binaryOp_repeat_ref (T := "tuple") (U := "int") (by decide) ⟨_, ho, rfl⟩ (fun s' => typeIs_int s' _ t) noFill_tuple_mul F.fills_int_mul F.slot_int_rmul repeat_tuple F.slot_int_index.lookup
        (call_meets F.slot_int_rmul (typeIs_int s _ t) F.entry_int_rmul (F.args_int_rmul_2 _ _) (int_rmul_tuple _ t l its.toArray n dd sl)
          ⟨ho, rfl, ⟨_, ho, rfl⟩, call_meets F.slot_tuple_mul ⟨_, ho, rfl⟩ F.entry_tuple_mul (F.args_tuple_mul_2 _ _) (tup_mul0 l its.toArray n dd sl t hi) ⟨ho, ?_⟩⟩)
      refine ⟨.ref s.heap.objs.size, _, I.laid (t' := s.toks) (o := .tup []) (fun b ob z => Heap.get?_push_of_some _ z) (Nat.le_refl _) ?_, rfl, q _ _ (Same.new (I.hok.fresh (Nat.le_refl _))) upd_same⟩
      exact ⟨Nat.zero_le _, _, .nil, IsTup.new _ _⟩
    · refine wpAny_binaryOp_repeat_ref (T := "tuple") (U := "int") (by decide) ⟨_, ho, rfl⟩ (fun s' => typeIs_int s' _ t) noFill_tuple_mul F.fills_int_mul F.slot_int_rmul repeat_tuple F.slot_int_index.lookup
        (call_meets F.slot_int_rmul (typeIs_int s _ t) F.entry_int_rmul (F.args_int_rmul_2 _ _) (int_rmul_tuple _ t l its.toArray n dd sl)
          ⟨ho, rfl, ⟨_, ho, rfl⟩, call_meets F.slot_tuple_mul ⟨_, ho, rfl⟩ F.entry_tuple_mul (F.args_tuple_mul_2 _ _) (tup_mul1 l its.toArray n dd sl t hi) ⟨ho, ?_⟩⟩)
      refine ⟨.ref l, H, I, rfl, q l H (Same.refl H) ?_⟩
      rw [hl]
      simp
end
/-! l != [] of a list of whatever. -/
section
open PySem.Spec PyProof.Rows
variable {X : Cx}
def rNeL0 (K : PySem.W.Frag) : R2 := fun x y H Q => ∃ a b xs, x = .ref a ∧ y = .ref b ∧ SqL K H a xs ∧ SqL K H b [] ∧ Q (.bl (!decide (xs = []))) H
theorem op_neL0 (hu : X.A.units + 64 < cLine) : OpR X (compareOp .NotEq) (rNeL0 X.K) := by
  intro pins s σ H x y v u Q I rx ry h
  obtain ⟨a, b, xs, rfl, rfl, ha, hb, q⟩ := h
  cases rx
  cases ry
  obtain ⟨its, r1, p1, _⟩ := I.list ha
  obtain ⟨its2, r2, p2, _⟩ := I.list hb
  cases r2
  cases r1 with
  | nil =>
    refine SeqAt.RcNeAt.lists (e := fun _ => true) p1.isList p2.isList rfl (by omega) (fun j h1 _ => absurd h1 (by simp)) X.prog X.w X.xe _ ⟨.bl false, H, I, ?_, q⟩
    rfl
  | cons h t =>
    refine SeqAt.RcNeAt.lists_lengths p1.isList p2.isList (by simp) (by omega) X.prog X.w X.xe _ ⟨.bl true, H, I, rfl, ?_⟩
    exact q
end
/-! Worths and the nine signs. -/
def W (a : Int) : Prop := -32768 ≤ a ∧ a ≤ 32767
def br (n : Int) : Int := (n + 32768) % 65536 - 32768
theorem br_W (n : Int) : W (br n) := by
  unfold W br
  omega
theorem br_id {a : Int} (h : W a) : br a = a := by
  unfold W at h
  unfold br
  omega
def sg (i : Nat) (a b : Int) : Int := match i with
  | 0 => a + b
  | 1 => a - b
  | 2 => a * b
  | 3 => if b = 0 then 0 else a.fdiv b
  | 4 => if b = 0 then 0 else a - b * a.fdiv b
  | 5 => if a < b then 1 else 0
  | 6 => if a = b then 1 else 0
  | 7 => Builtin.bitAnd a b
  | _ => Builtin.bitXor a b
def nm (i : Nat) : Str := match i with
  | 0 => "+"
  | 1 => "-"
  | 2 => "*"
  | 3 => "/"
  | 4 => "#"
  | 5 => "<"
  | 6 => "="
  | 7 => "&"
  | _ => "^"
theorem few_W {a : Int} (h : W a) : a.natAbs.log2 < 1920 := few (by unfold W at h; show _ < 1048576; omega)
/-! The law's own signs. -/
theorem iteB0 {c : Bool} {A B : Prop} (h : c = false) (hB : B) : if c = true then A else B := by
  rw [h]
  exact iteF hB
theorem iteB1 {c : Bool} {A B : Prop} (h : c = true) (hA : A) : if c = true then A else B := by
  rw [h]
  exact iteT hA
theorem in_qr : ∀ i, i < 9 → inV (.str (nm i)) [.str "/", .str "#"] = decide (i = 3 ∨ i = 4) := by decide +kernel
theorem in_ax : ∀ i, i < 9 → inV (.str (nm i)) [.str "&", .str "^"] = decide (i = 7 ∨ i = 8) := by decide +kernel
theorem is_r : ∀ i, i < 9 → decide (V.str (nm i) = V.str "#") = decide (i = 4) := by decide +kernel
theorem is_x : ∀ i, i < 9 → decide (V.str (nm i) = V.str "^") = decide (i = 8) := by decide +kernel
theorem fdiv_own {a b : Int} (h : b ≠ 0) : (a - a.fmod b).fdiv b = a.fdiv b := by
  have e : a - a.fmod b = b * a.fdiv b := by
    have := Int.fmod_add_mul_fdiv a b
    omega
  rw [e, Int.mul_fdiv_cancel_left _ h]
/-- what one place gives -/
def dig (i : Nat) (c d : Int) : Int := if i = 8 then (c + d) % 2 else c * d
theorem dig_step {i : Nat} (hi : i = 7 ∨ i = 8) (x y : Int) : sg i x y = dig i (x % 2) (y % 2) + 2 * sg i (x / 2) (y / 2) := by
  have h := PySem.W.kbt_halves x y
  have hx : x % 2 = 0 ∨ x % 2 = 1 := by omega
  have hy : y % 2 = 0 ∨ y % 2 = 1 := by omega
  rcases hi with rfl | rfl
  · show Builtin.bitAnd x y = (if 7 = 8 then (x % 2 + y % 2) % 2 else x % 2 * (y % 2)) + 2 * Builtin.bitAnd (x / 2) (y / 2)
    rw [if_neg (by decide), h]
    rcases hx with e | e <;> rcases hy with g | g <;> rw [e, g] <;> simp <;> omega
  · show Builtin.bitXor x y = (if 8 = 8 then (x % 2 + y % 2) % 2 else x % 2 * (y % 2)) + 2 * Builtin.bitXor (x / 2) (y / 2)
    rw [if_pos rfl, PyProof.Rows.bitXor_and, PyProof.Rows.bitXor_and, h]
    rcases hx with e | e <;> rcases hy with g | g <;> rw [e, g] <;> simp <;> omega
theorem pow_16 : ∀ k, k < 16 → 0 < (2 : Int) ^ k ∧ (2 : Int) ^ k ≤ 32768 := by decide +kernel
theorem dig_turn {i : Nat} (hi : i = 7 ∨ i = 8) {a b f : Int} {k : Nat} (h : sg i a b = f + 2 ^ k * sg i (a / 2 ^ k) (b / 2 ^ k)) :
    sg i a b = (f + 2 ^ k * dig i (a / 2 ^ k % 2) (b / 2 ^ k % 2)) + 2 ^ (k + 1) * sg i (a / 2 ^ (k + 1)) (b / 2 ^ (k + 1)) := by
  have e1 : a / 2 ^ (k + 1) = a / 2 ^ k / 2 := by
    rw [Int.pow_succ, Int.ediv_ediv_of_nonneg (Int.le_of_lt (Int.pow_pos (by decide)))]
  have e2 : b / 2 ^ (k + 1) = b / 2 ^ k / 2 := by
    rw [Int.pow_succ, Int.ediv_ediv_of_nonneg (Int.le_of_lt (Int.pow_pos (by decide)))]
  rw [e1, e2, h, dig_step hi (a / 2 ^ k) (b / 2 ^ k), Int.pow_succ, Int.mul_add, Int.mul_assoc]
  omega
theorem dig_end {i : Nat} {a b f : Int} (h : sg i a b = f + 2 ^ 16 * sg i (a / 2 ^ 16) (b / 2 ^ 16)) : br f = br (sg i a b) := by
  rw [h]
  unfold br
  have e : (2 : Int) ^ 16 = 65536 := by decide
  rw [e]
  omega
theorem dget5 (v0 v1 v2 v3 v4 : V) : ∀ i, i < 9 → ¬ (i = 3 ∨ i = 4) → ¬ (i = 7 ∨ i = 8) →
    valV (mergeK [] [(.inr "+", v0), (.inr "-", v1), (.inr "*", v2), (.inr "<", v3), (.inr "=", v4)]) (.inr (nm i)) = some (match i with | 0 => v0 | 1 => v1 | 2 => v2 | 5 => v3 | _ => v4)
  | 0, _, _, _ => by kernel_rfl
  | 1, _, _, _ => by kernel_rfl
  | 2, _, _, _ => by kernel_rfl
  | 3, _, h, _ => absurd (.inl rfl) h
  | 4, _, h, _ => absurd (.inr rfl) h
  | 5, _, _, _ => by kernel_rfl
  | 6, _, _, _ => by kernel_rfl
  | 7, _, _, h => absurd (.inl rfl) h
  | 8, _, _, h => absurd (.inr rfl) h
/-! Expressions: worths, registers, signs; reckoned with a pile (the uppermost first). -/
inductive Im where
  | wo (a : Int)
  | re (k : Nat)
  | si (i : Nat)
def lt (k : Nat) : Str := ⟨#[97 + k]⟩
def Im.toV : Im → V
  | .wo a => .int a
  | .re k => .str (lt k)
  | .si i => .str (nm i)
def Im.ok : Im → Prop
  | .wo a => W a
  | .re k => k < 16
  | .si i => i < 9
def Im.sgn : Im → Bool
  | .si _ => true
  | _ => false
def step (ρ : Nat → Int) (rp : List Int) : Im → Option (List Int)
  | .wo a => some (a :: rp)
  | .re k => some (ρ k :: rp)
  | .si i => match rp with
    | y :: x :: r => some (br (sg i x y) :: r)
    | _ => none
def run (ρ : Nat → Int) : List Int → List Im → Option (List Int)
  | rp, [] => some rp
  | rp, m :: l => match step ρ rp m with
    | some rp' => run ρ rp' l
    | none => none
def ht : Nat → List Im → Option Nat
  | h, [] => some h
  | h, m :: l => if m.sgn = true then (if 2 ≤ h then ht (h - 1) l else none) else ht (h + 1) l
theorem ht_snoc : ∀ (l : List Im) (h : Nat) (m : Im), ht h (l ++ [m]) = match ht h l with
    | some g => ht g [m]
    | none => none
  | [], h, m => rfl
  | x :: l, h, m => by
    show (if x.sgn = true then (if 2 ≤ h then ht (h - 1) (l ++ [m]) else none) else ht (h + 1) (l ++ [m])) = match (if x.sgn = true then (if 2 ≤ h then ht (h - 1) l else none) else ht (h + 1) l) with
      | some g => ht g [m]
      | none => none
    rw [ht_snoc l (h - 1) m, ht_snoc l (h + 1) m]
    split
    · split <;> rfl
    · rfl
/-- what stands in the middle of one with another thing that is no sign there -/
theorem ht_other : ∀ (l r : List Im) (h : Nat) (m m' : Im), m.sgn = false → m'.sgn = false → ht h (l ++ m :: r) = ht h (l ++ m' :: r)
  | [], r, h, m, m', e, e' => by
    show (if m.sgn = true then _ else ht (h + 1) r) = (if m'.sgn = true then _ else ht (h + 1) r)
    rw [e, e']
  | x :: l, r, h, m, m', e, e' => by
    show (if x.sgn = true then (if 2 ≤ h then ht (h - 1) (l ++ m :: r) else none) else ht (h + 1) (l ++ m :: r)) = (if x.sgn = true then (if 2 ≤ h then ht (h - 1) (l ++ m' :: r) else none) else ht (h + 1) (l ++ m' :: r))
    rw [ht_other l r (h - 1) m m' e e', ht_other l r (h + 1) m m' e e']
theorem ht_run (ρ : Nat → Int) : ∀ (l : List Im) (h g : Nat) (rp : List Int), ht h l = some g → rp.length = h → ∃ rp', run ρ rp l = some rp' ∧ rp'.length = g
  | [], h, g, rp, e, el => ⟨rp, rfl, by rw [el]; exact Option.some.inj e⟩
  | .wo a :: l, h, g, rp, e, el => ht_run ρ l (h + 1) g (a :: rp) e (by rw [List.length_cons, el])
  | .re k :: l, h, g, rp, e, el => ht_run ρ l (h + 1) g (ρ k :: rp) e (by rw [List.length_cons, el])
  | .si i :: l, h, g, rp, e, el => by
    have e2 : (if 2 ≤ h then ht (h - 1) l else none) = some g := e
    by_cases hh : 2 ≤ h
    · rw [if_pos hh] at e2
      match rp, el with
      | y :: x :: r, el =>
        obtain ⟨rp', h1, h2⟩ := ht_run ρ l (h - 1) g (br (sg i x y) :: r) e2 (by
          rw [List.length_cons, List.length_cons] at el
          rw [List.length_cons]
          omega)
        exact ⟨rp', h1, h2⟩
      | [x], el =>
        rw [List.length_singleton] at el
        omega
      | [], el =>
        rw [List.length_nil] at el
        omega
    · rw [if_neg hh] at e2
      cases e2
/-- one that is right: so many on the pile at the end as one -/
structure Expr1 (l : List Im) : Prop where
  ok : ∀ m ∈ l, m.ok
  ht : ht 0 l = some 1
theorem Expr1.val {l : List Im} (h : Expr1 l) (ρ : Nat → Int) : ∃ y, run ρ [] l = some [y] := by
  obtain ⟨rp, h1, h2⟩ := ht_run ρ l 0 1 [] h.ht rfl
  match rp, h2 with
  | [y], _ => exact ⟨y, h1⟩
/-! Registers' worths, a dict. -/
def Gd (kvs : List (Key × V)) : Prop := ∀ p ∈ kvs, valV kvs p.1 = some p.2 ∧ ∃ a, p.2 = .int a ∧ W a
def rho (kvs : List (Key × V)) (k : Nat) : Int := match valV kvs (.inr (lt k)) with
  | some (.int a) => a
  | _ => 0
theorem valV_mem {kvs : List (Key × V)} {k : Key} {v : V} (h : valV kvs k = some v) : ∃ p ∈ kvs, p.2 = v := by
  unfold valV at h
  cases e : kvs.find? fun kv => decide (kv.1 = k) with
  | none =>
    rw [e] at h
    cases h
  | some p =>
    rw [e] at h
    exact ⟨p, List.mem_of_find?_eq_some e, Option.some.inj h⟩
theorem Gd.get {kvs : List (Key × V)} (h : Gd kvs) (k : Nat) : (valV kvs (.inr (lt k))).getD (.int 0) = .int (rho kvs k) ∧ W (rho kvs k) := by
  unfold rho
  cases e : valV kvs (.inr (lt k)) with
  | none => exact ⟨rfl, by unfold W; decide⟩
  | some v =>
    obtain ⟨p, hp, rfl⟩ := valV_mem e
    obtain ⟨_, a, ha, hW⟩ := h p hp
    rw [ha]
    exact ⟨rfl, hW⟩
theorem Gd.nil : Gd [] := fun p hp => by cases hp
theorem Gd.put {kvs : List (Key × V)} (h : Gd kvs) (k : Key) {a : Int} (ha : W a) : Gd (putK kvs k (.int a)) := by
  have key : ∀ p ∈ putK kvs k (.int a), (p.1 = k ∧ p.2 = .int a) ∨ (p.1 ≠ k ∧ p ∈ kvs) := by
    intro p hp
    unfold putK at hp
    by_cases e : (kvs.any fun kv => decide (kv.1 = k)) = true
    · rw [if_pos e] at hp
      obtain ⟨q, hq, eq⟩ := List.mem_map.mp hp
      by_cases g : q.1 = k
      · rw [if_pos g] at eq
        subst eq
        exact .inl ⟨g, rfl⟩
      · rw [if_neg g] at eq
        subst eq
        exact .inr ⟨g, hq⟩
    · rw [if_neg e] at hp
      rcases List.mem_append.mp hp with hp | hp
      · refine .inr ⟨fun g => e ?_, hp⟩
        rw [List.any_eq_true]
        exact ⟨p, hp, decide_eq_true g⟩
      · rw [List.mem_singleton] at hp
        subst hp
        exact .inl ⟨rfl, rfl⟩
  intro p hp
  rw [valV_put]
  rcases key p hp with ⟨h1, h2⟩ | ⟨h1, h2⟩
  · rw [if_pos h1, h2]
    exact ⟨rfl, a, rfl, ha⟩
  · rw [if_neg h1]
    exact h p h2
theorem Gd.ne {kvs : List (Key × V)} (h : Gd kvs) : ∀ p ∈ kvs, valV kvs p.1 = some p.2 ∧ flatB p.2 = true := fun p hp => by
  obtain ⟨h1, a, h2, _⟩ := h p hp
  refine ⟨h1, ?_⟩
  rw [h2]
  rfl
/-! Texts of one sign. -/
def letters : Str := "abcdefghijklmnop"
theorem lt_at : ∀ j, j < 16 → atI (letters.cps.toList) ((j : Nat) : Int) = some (97 + j) := by decide +kernel
theorem lt_no : ∀ k, k < 16 → lt k ∉ (["+", "-", "*", "/", "#", "<", "=", "&", "^"] : List Str) := by decide +kernel
def codes : List Nat := [43, 45, 42, 47, 35, 60, 61, 38, 94]
theorem nm_code : ∀ i, i < 9 → nm i = ⟨#[codes.getD i 0]⟩ := by decide +kernel
theorem sg_at : ∀ j, j < 9 → atI (("+-*/#<=&^" : Str).cps.toList) ((j : Nat) : Int) = some (codes.getD j 0) := by decide +kernel
theorem lt_in : ∀ k, k < 16 → decide (97 + k ∈ letters.cps.toList) = true := by decide +kernel
theorem sg_in : ∀ i, i < 9 → decide (codes.getD i 0 ∈ letters.cps.toList) = false := by decide +kernel
/-! Lists at their ends. -/
theorem rev_last (y : Int) (r : List Int) : ((y :: r).reverse.map V.int) = r.reverse.map V.int ++ [.int y] := by
  rw [List.reverse_cons, List.map_append]
  rfl
theorem last_get (xs : List V) (y : V) : (xs ++ [y])[(xs ++ [y]).length - 1]? = some y := by
  rw [List.length_append, List.length_singleton, Nat.add_sub_cancel, List.getElem?_append_right (Nat.le_refl _), Nat.sub_self]
  rfl
theorem atI_last2 (xs : List V) (x y : V) : atI (xs ++ [x] ++ [y]) (-2) = some x := by
  have hl : (xs ++ [x] ++ [y]).length = xs.length + 2 := by simp
  have e : ixN (xs ++ [x] ++ [y]).length (-2) = some xs.length := by
    unfold ixN
    rw [hl, if_neg (by decide), if_pos (by omega)]
    congr 1
    omega
  unfold atI
  rw [e]
  show (xs ++ [x] ++ [y])[xs.length]? = some x
  rw [List.append_assoc, List.getElem?_append_right (Nat.le_refl _), Nat.sub_self]
  rfl
theorem cut_last2 (xs : List V) (x y : V) : cutV (xs ++ [x] ++ [y]) none (some (-2)) = xs := by
  unfold cutV
  have hl : (xs ++ [x] ++ [y]).length = xs.length + 2 := by simp
  have e : HT.sIx (xs ++ [x] ++ [y]).length (xs ++ [x] ++ [y]).length (some (-2)) = xs.length := by
    have e0 : ∀ n d : Nat, HT.sIx n d (some (-2)) = ((-2 : Int) + (n : Int)).toNat := fun n d => by
      show (if (-2 : Int) < 0 then ((-2 : Int) + (n : Int)).toNat else min (-2 : Int).toNat n) = _
      rw [if_pos (by decide)]
    rw [e0, hl]
    omega
  rw [HT.sIx_none, e, List.drop_zero, Nat.sub_zero, List.append_assoc, List.take_left]
/-! Texts by their codes: whole numbers, worths, items. -/
abbrev cp (x : Str) : List Nat := x.cps.toList
def digL (l : List Nat) : Bool := !l.isEmpty && l.all (fun c => decide (48 ≤ c) && decide (c ≤ 57)) && decide (l.length ≤ 9)
def wholeL (l : List Nat) : Option Int := if digL l = true then (if l.head? = some 48 ∧ l ≠ [48] then none else some (NumText.digitsVal l : Nat)) else none
def keepW (o : Option Int) : Option Int := match o with
  | some a => if -32768 ≤ a ∧ a ≤ 32767 then some a else none
  | none => none
def worthL (l : List Nat) : Option Int := if l.head? = some 45 then (if l = [45, 48] then none else keepW ((wholeL (l.drop 1)).map (fun a => -a))) else keepW (wholeL l)
def ov : Option Int → V
  | none => .non
  | some a => .int a
theorem cp_len (x : Str) : x.length = (cp x).length := TL.len_tl x
theorem cp_ext {x y : Str} (h : cp x = cp y) : x = y := TL.ext_tl h
theorem digit_128 : ∀ c, c < 128 → Unicode.isDigit c = (decide (48 ≤ c) && decide (c ≤ 57)) := by decide +kernel
theorem all_codes (x : Str) (p : Nat → Bool) : x.cps.all p = (cp x).all p := by
  rw [Array.all_toList]
theorem asc_digits {l : List Nat} (h : l.all (fun c => decide (c < 128)) = true) : l.all Unicode.isDigit = l.all (fun c => decide (48 ≤ c) && decide (c ≤ 57)) := by
  induction l with
  | nil => rfl
  | cons c r ih =>
    rw [List.all_cons, Bool.and_eq_true] at h
    rw [List.all_cons, List.all_cons, ih h.2, digit_128 c (of_decide_eq_true h.1)]
theorem digits_asc {l : List Nat} (h : l.all (fun c => decide (48 ≤ c) && decide (c ≤ 57)) = true) : l.all (fun c => decide (c < 128)) = true := by
  rw [List.all_eq_true] at h ⊢
  intro c hc
  have := h c hc
  rw [Bool.and_eq_true] at this
  have h2 := of_decide_eq_true this.2
  exact decide_eq_true (by omega)
theorem isascii_cp (x : Str) : Txt.isascii x = (cp x).all (fun c => decide (c < 128)) := all_codes x _
theorem isdigit_cp (x : Str) : Txt.isdigit x = (decide (0 < (cp x).length) && (cp x).all Unicode.isDigit) := by
  unfold Txt.isdigit
  rw [all_codes, cp_len]
theorem dig_of {x : Str} (h1 : Txt.isascii x = true) (h2 : Txt.isdigit x = true) (h3 : x.length ≤ 9) : digL (cp x) = true := by
  rw [isascii_cp] at h1
  rw [isdigit_cp, asc_digits h1, Bool.and_eq_true] at h2
  unfold digL
  rw [h2.2, decide_eq_true (show (cp x).length ≤ 9 by rw [← cp_len]; exact h3)]
  have := of_decide_eq_true h2.1
  cases e : cp x with
  | nil =>
    rw [e] at this
    exact absurd this (by decide)
  | cons c r => rfl
theorem dig_to {x : Str} (h : digL (cp x) = true) : Txt.isascii x = true ∧ Txt.isdigit x = true ∧ x.length ≤ 9 := by
  unfold digL at h
  rw [Bool.and_eq_true, Bool.and_eq_true] at h
  obtain ⟨⟨h1, h2⟩, h3⟩ := h
  have ha := digits_asc h2
  refine ⟨by rw [isascii_cp]; exact ha, ?_, by rw [cp_len]; exact of_decide_eq_true h3⟩
  rw [isdigit_cp, asc_digits ha, h2, Bool.and_true]
  cases e : cp x with
  | nil =>
    rw [e] at h1
    cases h1
  | cons c r => rfl
theorem dig_int {x : Str} (h : digL (cp x) = true) : intText? x = some ((NumText.digitsVal (cp x) : Nat) : Int) := by
  have h0 := dig_to h
  unfold digL at h
  rw [Bool.and_eq_true, Bool.and_eq_true] at h
  obtain ⟨⟨h1, h2⟩, h3⟩ := h
  refine PySem.intText_digits (fun c hc => ?_) (fun z => ?_) (by omega)
  · have := List.all_eq_true.mp h2 c hc
    rw [Bool.and_eq_true] at this
    exact ⟨of_decide_eq_true this.1, of_decide_eq_true this.2⟩
  · rw [show cp x = [] from z] at h1
    cases h1
theorem starts_dash (x : Str) : Txt.startswith x "-" = decide ((cp x).head? = some 45) := by
  unfold Txt.startswith
  rw [PySem.StrLaws.subAt_eq]
  have e1 : ("-" : Str).length = 1 := by decide +kernel
  have e2 : ("-" : Str).cps.toList = [45] := by decide +kernel
  rw [e1, e2, cp_len]
  show (decide (0 + 1 ≤ (cp x).length) && (((cp x).drop 0).take 1 == [45])) = _
  cases cp x with
  | nil => rfl
  | cons c r =>
    show (decide (0 + 1 ≤ (c :: r).length) && ([c] == [45])) = decide (some c = some 45)
    rw [decide_eq_true (show 0 + 1 ≤ (c :: r).length by rw [List.length_cons]; omega), Bool.true_and]
    by_cases h : c = 45
    · subst h
      rfl
    · rw [decide_eq_false (fun z => h (Option.some.inj z))]
      simp [h]
theorem str_eq (x : Str) (s : Str) : decide (V.str x = V.str s) = decide (cp x = cp s) := by
  by_cases h : cp x = cp s
  · rw [decide_eq_true h, decide_eq_true (by rw [cp_ext h])]
  · rw [decide_eq_false h, decide_eq_false (fun z => h (by rw [V.str.inj z]))]
theorem cp_zero : cp ("0" : Str) = [48] := by decide +kernel
theorem cp_mzero : cp ("-0" : Str) = [45, 48] := by decide +kernel
theorem cp_blank : cp (" " : Str) = [32] := by decide +kernel
theorem cp_cut1 (x : Str) : cp (cutS x (some 1) none) = (cp x).drop 1 := by
  unfold cutS
  show ((x.cps.toList.drop (HT.sIx x.length 0 (some 1))).take (HT.sIx x.length x.length none - HT.sIx x.length 0 (some 1))) = _
  rw [show HT.sIx x.length 0 (some 1) = min 1 x.length from HT.sIx_nat x.length 0 1, HT.sIx_none, cp_len]
  show ((cp x).drop (min 1 (cp x).length)).take ((cp x).length - min 1 (cp x).length) = _
  cases cp x with
  | nil => rfl
  | cons c r =>
    rw [show min 1 (c :: r).length = 1 by rw [List.length_cons]; omega]
    show r.take (r.length + 1 - 1) = r
    rw [Nat.add_sub_cancel, List.take_length]
/-! Flat things: numbers and texts. -/
def sgKeys : List Str := ["+", "-", "*", "/", "#", "<", "=", "&", "^"]
def sgV : V → Bool
  | .str z => decide (z ∈ sgKeys)
  | _ => false
def ltV : V → Bool
  | .str z => decide (z.length = 1) && decide (∀ c ∈ cp z, 97 ≤ c ∧ c ≤ 112)
  | _ => false
def woV : V → Bool
  | .int a => decide (-32768 ≤ a ∧ a ≤ 32767)
  | _ => false
def htV : Nat → List V → Option Nat
  | h, [] => some h
  | h, m :: l => if sgV m = true then (if 2 ≤ h then htV (h - 1) l else none) else htV (h + 1) l
def exV (xs : List V) : Bool := decide (xs.length ≤ 15) && xs.all (fun x => woV x || ltV x || sgV x) && decide (htV 0 xs = some 1)
def Flat : V → Prop
  | .int a => a.natAbs.log2 < 1920
  | .str z => z.length ≤ 8000000
  | _ => False
def shV : V → Str
  | .int a => Str.ofString (toString a)
  | .str z => z
  | _ => Str.empty
def itV (z : Str) : V := match worthL (cp z) with
  | some a => .int a
  | none => .str z
/-! Texts of worths. -/
theorem cp_nat (n : Nat) : cp (Str.ofString (toString ((n : Nat) : Int))) = TL.numL n := TL.tl_num n
theorem cp_neg (n : Nat) : cp (Str.ofString (toString (Int.negSucc n))) = 45 :: TL.numL (n + 1) := by
  have e : toString (Int.negSucc n) = "-" ++ toString (((n + 1 : Nat) : Nat) : Int) := rfl
  rw [e]
  show TL.tl _ = _
  rw [TL.tl_ofString, String.toList_append, List.map_append, ← TL.tl_ofString (toString (((n + 1 : Nat) : Nat) : Int)), TL.tl_num]
  rfl
theorem numL_lead : ∀ n : Nat, (TL.numL n).head? = some 48 → n = 0
  | n, h => by
    by_cases hn : n < 10
    · rw [TL.numL_lt hn] at h
      have := Option.some.inj h
      omega
    · rw [TL.numL_step (by omega)] at h
      have hne := TL.numL_ne (n / 10)
      have h2 : (TL.numL (n / 10)).head? = some 48 := by
        cases q : TL.numL (n / 10) with
        | nil => exact absurd q hne
        | cons c r =>
          rw [q] at h
          exact h
      have := numL_lead (n / 10) h2
      omega
  termination_by n => n
theorem wholeL_num {n : Nat} (h : n < 10 ^ 9) : wholeL (TL.numL n) = some (n : Int) := by
  have hl := TL.numL_len (show 0 < 9 by decide) h
  have hd := TL.numL_digits n
  have hne := TL.numL_ne n
  have e : digL (TL.numL n) = true := by
    unfold digL
    rw [Bool.and_eq_true, Bool.and_eq_true]
    refine ⟨⟨?_, ?_⟩, decide_eq_true hl⟩
    · cases q : TL.numL n with
      | nil => exact absurd q hne
      | cons c r => rfl
    · rw [List.all_eq_true]
      intro c hc
      rw [Bool.and_eq_true]
      exact ⟨decide_eq_true (hd c hc).1, decide_eq_true (hd c hc).2⟩
  unfold wholeL
  rw [if_pos e, if_neg, TL.numL_val]
  rintro ⟨h1, h2⟩
  have hz := numL_lead n h1
  subst hz
  exact h2 (TL.numL_lt (by decide))
theorem numL_head (n : Nat) : (TL.numL n).head? ≠ some 45 := by
  intro h
  have hm : 45 ∈ TL.numL n := List.mem_of_head? h
  exact TL.numL_free (.inl (by decide)) hm
theorem itV_int {a : Int} (h : W a) : itV (Str.ofString (toString a)) = .int a := by
  unfold itV
  have e : worthL (cp (Str.ofString (toString a))) = some a := by
    unfold W at h
    cases a with
    | ofNat n =>
      have h : -32768 ≤ ((n : Nat) : Int) ∧ ((n : Nat) : Int) ≤ 32767 := h
      rw [show (Int.ofNat n) = ((n : Nat) : Int) from rfl, cp_nat]
      unfold worthL
      rw [if_neg (numL_head n), wholeL_num (by omega)]
      show (if -32768 ≤ (n : Int) ∧ (n : Int) ≤ 32767 then some (n : Int) else none) = _
      rw [if_pos h]
    | negSucc n =>
      rw [cp_neg]
      unfold worthL
      rw [if_pos (show (45 :: TL.numL (n + 1)).head? = some 45 from rfl), if_neg, List.drop_succ_cons, List.drop_zero, wholeL_num (by omega)]
      · show (if -32768 ≤ -(((n + 1 : Nat) : Nat) : Int) ∧ -(((n + 1 : Nat) : Nat) : Int) ≤ 32767 then some (-(((n + 1 : Nat) : Nat) : Int)) else none) = _
        rw [if_pos (by omega)]
        rfl
      · intro z
        have z2 := (List.cons.inj z).2
        have := TL.numL_inj (m := n + 1) (n := 0) (by rw [z2]; rfl)
        omega
  rw [e]
theorem itV_lt : ∀ k, k < 16 → itV (lt k) = .str (lt k) := by decide +kernel
theorem itV_sg : ∀ i, i < 9 → itV (nm i) = .str (nm i) := by decide +kernel
theorem sg_nm : ∀ i, i < 9 → sgV (.str (nm i)) = true := by decide +kernel
theorem sg_lt : ∀ k, k < 16 → sgV (.str (lt k)) = false := by decide +kernel
theorem lt_lt : ∀ k, k < 16 → ltV (.str (lt k)) = true := by decide +kernel
theorem lt_nm : ∀ i, i < 9 → ltV (.str (nm i)) = false := by decide +kernel
theorem nm_mem {z : Str} (h : z ∈ sgKeys) : ∃ i, i < 9 ∧ z = nm i := by
  have h2 : ∀ y ∈ sgKeys, ∃ i, i < 9 ∧ y = nm i := by
    intro y hy
    simp only [sgKeys, List.mem_cons, List.not_mem_nil, or_false] at hy
    rcases hy with e | e | e | e | e | e | e | e | e
    · exact ⟨0, by decide, e⟩
    · exact ⟨1, by decide, e⟩
    · exact ⟨2, by decide, e⟩
    · exact ⟨3, by decide, e⟩
    · exact ⟨4, by decide, e⟩
    · exact ⟨5, by decide, e⟩
    · exact ⟨6, by decide, e⟩
    · exact ⟨7, by decide, e⟩
    · exact ⟨8, by decide, e⟩
  exact h2 z h
theorem cutTo (xs : List V) (k : Nat) : cutV xs none (some (k : Int)) = xs.take k := by
  unfold cutV
  rw [HT.sIx_none, HT.sIx_nat]
  show (xs.drop 0).take (min k xs.length - 0) = _
  rw [List.drop_zero, Nat.sub_zero]
  by_cases h : k ≤ xs.length
  · rw [Nat.min_eq_left h]
  · rw [Nat.min_eq_right (by omega), List.take_of_length_le (Nat.le_refl _), List.take_of_length_le (by omega)]
theorem cutFrom (xs : List V) {k : Nat} (h : k ≤ xs.length) : cutV xs (some (k : Int)) none = xs.drop k := by
  unfold cutV
  rw [HT.sIx_none, HT.sIx_nat, Nat.min_eq_left h]
  exact List.take_of_length_le (by rw [List.length_drop]; omega)
/-! t[::-1] of a tuple; t == () of a tuple, whatever lies in it. -/
section
open PySem.Spec PyProof.Rows HT
theorem adjBack (n : Nat) : Builtin.Slice.sliceAdjust none none (-1) (n : Int) = ((n : Int) - 1, -1) := rfl
theorem placesBack (n : Nat) : Builtin.Slice.slicePlaces ((n : Int) - 1) (-1) (-1) = n := by
  unfold Builtin.Slice.slicePlaces
  rw [if_neg (by decide)]
  by_cases h : n = 0
  · subst h
    rfl
  · rw [if_pos (by omega)]
    have e : ((n : Int) - 1 - -1 - 1) / (- -1) = (n : Int) - 1 := by
      rw [show (- -1 : Int) = 1 by decide, Int.ediv_one]
      omega
    rw [e]
    omega
theorem pickBack (xs : List Value) : ((List.range xs.toArray.size).filterMap fun (m : Nat) => xs.toArray[((xs.toArray.size : Int) - 1 + (m : Int) * (-1)).toNat]?).toArray = xs.reverse.toArray := by
  congr 1
  apply List.ext_getElem?
  intro i
  have e : (List.range xs.toArray.size).filterMap (fun (m : Nat) => xs.toArray[((xs.toArray.size : Int) - 1 + (m : Int) * (-1)).toNat]?) = (List.range xs.length).map (fun m => xs.getD (xs.length - 1 - m) .none) := by
    rw [List.size_toArray]
    have key : ∀ l : List Nat, (∀ m ∈ l, m < xs.length) → l.filterMap (fun (m : Nat) => xs.toArray[((xs.length : Int) - 1 + (m : Int) * (-1)).toNat]?) = l.map (fun m => xs.getD (xs.length - 1 - m) .none) := by
      intro l
      induction l with
      | nil => exact fun _ => rfl
      | cons m r ih =>
        intro h
        have hm := h m List.mem_cons_self
        have e1 : ((xs.length : Int) - 1 + (m : Int) * (-1)).toNat = xs.length - 1 - m := by omega
        have hlt : xs.length - 1 - m < xs.length := by omega
        rw [List.map_cons, ← ih (fun k hk => h k (List.mem_cons_of_mem _ hk)), List.filterMap_cons]
        rw [e1, List.getElem?_toArray, List.getElem?_eq_getElem hlt, List.getD_eq_getElem?_getD, List.getElem?_eq_getElem hlt]
        rfl
    exact key _ (fun m hm => List.mem_range.mp hm)
  rw [e, List.getElem?_map]
  by_cases hi : i < xs.length
  · rw [List.getElem?_range hi, List.getElem?_reverse hi, List.getElem?_eq_getElem (show xs.length - 1 - i < xs.length by omega)]
    rw [Option.map_some, List.getD_eq_getElem?_getD, List.getElem?_eq_getElem (show xs.length - 1 - i < xs.length by omega)]
    rfl
  · rw [List.getElem?_eq_none (by rw [List.length_range]; omega), List.getElem?_eq_none (by rw [List.length_reverse]; omega)]
    rfl
variable {prog : Program} {w : World} {A : Around} {E : Value → Shared → Prop} {s : Shared}
theorem sliceBack {sl : Addr} {vl vu vk : Value} {n : Nat} {Q : Int × Int × Nat → Shared → Prop} (hs : s.heap.IsSliceOf sl vl vu vk) (pl : IsPart vl none) (pu : IsPart vu none) (pk : IsPart vk (some (-1)))
    (h : Q ((n : Int) - 1, -1, n) s) : wpAny (model prog w) A (Builtin.Slice.sliceApplied (.ref sl) (pure (n : Int))) Q E s := by
  obtain ⟨oo, hoo, _, hdd⟩ := id hs
  unfold Builtin.Slice.sliceApplied Builtin.Slice.sliceFields
  refine wpAny_bind (wpAny_bind (wpAny_field hoo hdd (x := vl) rfl (wpAny_bind (wpAny_field hoo hdd (x := vu) rfl (wpAny_bind (wpAny_field hoo hdd (x := vk) rfl (wpAny_pure ?_)))))))
  refine wpAny_bind (slicePart_ pk ?_)
  show wpAny _ _ (if ((-1 : Int) == 0) = true then _ else _) _ _ s
  rw [if_neg (show ¬ (((-1 : Int) == 0) = true) by decide)]
  refine wpAny_bind (slicePart_ pl (wpAny_bind (slicePart_ pu (wpAny_bind (wpAny_pure ?_)))))
  show wpAny _ _ (match Builtin.Slice.sliceAdjust none none (-1) (n : Int) with | (a, b) => pure (a, (-1 : Int), Builtin.Slice.slicePlaces a b (-1))) _ _ s
  rw [adjBack n]
  show wpAny _ _ (pure ((n : Int) - 1, (-1 : Int), Builtin.Slice.slicePlaces ((n : Int) - 1) (-1) (-1))) _ _ s
  rw [placesBack]
  exact wpAny_pure h
theorem itemBack {t sl : Addr} {its : List Value} {vl vu vk : Value} {Q : Value → Shared → Prop} (ht : IsTup s.heap t its.toArray) (hs : s.heap.IsSliceOf sl vl vu vk) (pl : IsPart vl none) (pu : IsPart vu none) (pk : IsPart vk (some (-1)))
    (h : Q (.ref s.heap.objs.size) { s with heap := s.heap.push { cls := .type "tuple", data := .seq its.reverse.toArray } }) (hsz : its.length ≤ sizeLine) : wpAny (model prog w) A (getItem (.ref t) (.ref sl)) Q E s := by
  have fits : sizeOk (.seq its.reverse.toArray) := by
    show its.reverse.toArray.size ≤ sizeLine
    rw [List.size_toArray, List.length_reverse]
    exact hsz
  obtain ⟨oo, hoo, hcc, _⟩ := id hs
  have isSl : s.TypeIs (.ref sl) "slice" := ⟨oo, hoo, hcc⟩
  unfold getItem
  try with_reducible refine wpAny_holding ?_
  first | refine wpAny_bind (wpAny_pure ?_) | skip
  refine wpAny_bind (wpAny_sequenceKey (ht.typeIs) (by decide) ?_)
  refine wpAny_bind (wpAny_callSpecial?_slot (name := Str.ofString "__getitem__") (ht.typeIs) PyProof.Rows.slot_tuple_getitem (wpAny_call_entry PyProof.Rows.slot_tuple_getitem (ht.typeIs) entry_tuple_getitem ?_ (args_tuple_getitem _ _)))
  show wpAny _ _ (Builtin.Tuple.tupleItemsOf (.ref t) >>= _) _ _ s
  refine wpAny_bind (tupleItemsOf_ ht ?_)
  refine wpAny_bind (wpAny_typeOf isSl ?_)
  rw [if_pos (by decide)]
  refine wpAny_bind (sliceBack hs pl pu pk ?_)
  show wpAny _ _ (if (((its.toArray.size : Int) - 1) == 0 && (-1 : Int) == 1 && its.toArray.size == its.toArray.size) = true then _ else _) _ _ s
  rw [if_neg (by simp), pickBack]
  first
    | exact wpAny_bind (m := Builtin.Tuple.tupleExact _) (wpAny_newObj_type (wpAny_pure ⟨_, rfl, wpAny_pure h⟩) fits)
    | exact wpAny_bind (m := Builtin.Tuple.tupleExact _) (wpAny_newObj_type (wpAny_bind (wpAny_pure (wpAny_pure ⟨_, rfl, wpAny_pure h⟩))) fits)
    | exact wpAny_bind (wpAny_bind (m := Builtin.Tuple.tupleExact _) (wpAny_newObj_type (wpAny_pure (wpAny_pure ⟨_, rfl, wpAny_pure h⟩)) fits))
    | exact wpAny_bind (wpAny_bind (m := Builtin.Tuple.tupleExact _) (wpAny_newObj_type (wpAny_pure ⟨_, rfl, wpAny_pure h⟩) fits))
end
section
open PySem.Spec PyProof.Rows
variable {X : Cx}
def tRevT (K : PySem.W.Frag) (te : TE) : TE := fun σ H Q => te σ H fun x H1 => ∃ a xs, x = .ref a ∧ SqT K H1 a xs ∧ ∀ p, H1 p = none → Q (.ref p) (upd H1 p (.tup xs.reverse))
theorem pe_revT {e : Expr} {te : TE} {k : Nat} {p1 p2 p3 pos : Pos} (he : PE X e te) : PE X (.Subscript e (.Slice none none (some (.UnaryOp .USub (.Constant (.int 1) k p1) p2)) p3) pos) (tRevT X.K te) := by
  constructor
  intro pins s σ H Q I h
  refine Subscript_ (thn (he.run pins s σ H _ I h) fun v s1 ⟨x, H1, I1, r1, a, xs, ex, hx, q⟩ => ?_)
  subst ex
  cases r1
  have hst : PO X (some (.UnaryOp .USub (.Constant (.int 1) k p1) p2)) (tPart (tUn (rU fun i => .int (-i)) (tC (.int 1)))) := po_some (pe_un un_neg pe_int)
  refine wpAny_Slice (thn (po_none.run pins s1 σ H1 (fun o H2 => o = none ∧ H2 = H1) I1 ⟨rfl, rfl⟩) ?_)
  rintro vl s2 ⟨_, H2, I2, pl, rfl, rfl⟩
  refine thn (po_none.run pins s2 σ H2 (fun o H3 => o = none ∧ H3 = H2) I2 ⟨rfl, rfl⟩) ?_
  rintro vu s3 ⟨_, H3, I3, pu, rfl, rfl⟩
  refine thn (hst.run pins s3 σ H3 (fun o H4 => o = some (-1) ∧ H4 = H3) I3 ⟨1, rfl, -1, rfl, rfl, rfl⟩) ?_
  rintro vk s4 ⟨_, H4, I4, pk, rfl, rfl⟩
  have I5 : Inv X pins σ H4 { s4 with heap := s4.heap.push { cls := .type "slice", data := .fields #[vl, vu, vk] } } := I4.kept (t' := s4.toks) fun b ob z => Heap.get?_push_of_some _ z
  obtain ⟨its, r, ht, hz⟩ := I5.tuple hx
  have hlen := r.length
  show wpAny (model X.prog X.w) X.A (subscriptTail e (.Slice none none (some (.UnaryOp .USub (.Constant (.int 1) k p1) p2)) p3) (.ref a) (.ref s4.heap.objs.size)) (EP X pins σ Q) X.xe { s4 with heap := s4.heap.push { cls := .type "slice", data := .fields #[vl, vu, vk] } }
  refine tail_any (ops := [.ref a, .ref s4.heap.objs.size]) ht.typeIs PyProof.Rows.slot_tuple_getitem.lookup ?_ (by with_unfolding_all rfl)
  refine itemBack ht (Heap.IsSliceOf.new _ vl vu vk) pl pu pk ?_ (by omega)
  refine ⟨.ref _, _, I5.laid (t' := s4.toks) (o := .tup xs.reverse) (fun b ob z => Heap.get?_push_of_some _ z) (Nat.le_refl _) ?_, rfl, q _ (I5.hok.fresh (Nat.le_refl _))⟩
  exact ⟨by rw [List.length_reverse]; exact hz, _, r.reverse, IsTup.new _ _⟩
/-- a tuple of whatever == () -/
def rEqE (K : PySem.W.Frag) : R2 := fun x y H Q => ∃ a b xs, x = .ref a ∧ y = .ref b ∧ SqT K H a xs ∧ SqT K H b [] ∧ Q (.bl (decide (xs = []))) H
theorem op_eqE (hu : X.A.units + 64 < cLine) : OpR X (compareOp .Eq) (rEqE X.K) := by
  intro pins s σ H x y v u Q I rx ry h
  obtain ⟨a, b, xs, rfl, rfl, ha, hb, q⟩ := h
  cases rx
  cases ry
  obtain ⟨its, r1, p1, _⟩ := I.tuple ha
  obtain ⟨its2, r2, p2, _⟩ := I.tuple hb
  cases r2
  refine SeqAt.eq_tupleAt (e := fun _ => true) p1 p2 (by omega) (fun j _ h2 => absurd h2 (by simp)) ⟨.bl (decide (xs = [])), H, I, ?_, q⟩
  cases r1 <;> simp [L2.RelV]
end
/-! A try whose exception is kept under another name, and looked at behind the try. -/
section
open PySem.Spec PyProof.Rows
variable {X : Cx}
/-- the context behind it: the exception is pinned -/
abbrev kpC (X : Cx) (q : Addr × Obj) : Cx := Cx.tr X (q :: X.pn) X.xe
theorem inv_kp {pins pn' : List (Addr × Obj)} {σ : L2.St} {H : Hp} {s : Shared} {a : Addr} {q : Addr × Obj} (I : L2.Inv (Cx.suite X a (q :: (X.pn ++ pins))) pn' σ H s) (ok : X.Ok) : L2.Inv (kpC X q) pins σ H s :=
  ⟨Cx.Ok.toTry ok _ _, I.os, I.bare, I.base, I.loc, I.cell, I.free, I.freeC, fun p hp => I.pin p (List.mem_append_left _ hp), I.hok, I.len⟩
theorem inv_unkp {pins : List (Addr × Obj)} {σ : L2.St} {H : Hp} {s : Shared} {q : Addr × Obj} (I : L2.Inv (kpC X q) pins σ H s) (ok : X.Ok) : L2.Inv X pins σ H s :=
  ⟨ok, I.os, I.bare, I.base, I.loc, I.cell, I.free, I.freeC, fun p hp => I.pin p (List.mem_cons_of_mem _ hp), I.hok, I.len⟩
def endsKp (i : Nat) (t1 : Addr → Value → Option Addr → TS) (D : Ends) (a : Addr) (cls : Value) (d : Option Addr) : Ends :=
  { nx := fun σ' H' => t1 a cls d D (σ'.set i none) H', rt := fun _ _ => False, bk := fun _ _ => False, ct := fun _ _ => False }
def wKeep (K : PySem.W.Frag) (c : Value) (i : Nat) (ts t1 : Addr → Value → Option Addr → TS) (Wout : WX) (D : Ends) : WX := fun cls d σ H =>
  ∃ b, PySem.W.exmOne K cls c = some b ∧ (b = true → ∀ a, H a = none → ts a cls d (endsKp i t1 D a cls d) (σ.set i (some (.ref a))) H) ∧ (b = false → Wout cls d σ H)
/-- what holds behind the try's statement -/
def postKp (X : Cx) (pins : List (Addr × Obj)) (t0 : TS) (t1 : Addr → Value → Option Addr → TS) (D : Ends) (fl : Flow) (s1 : Shared) : Prop :=
  match fl with
  | .next => (∃ σ' H', L2.Inv X pins σ' H' s1 ∧ t0 D σ' H') ∨ ∃ (a : Addr) (oe : Obj) (cls : Value) (d : Option Addr) (σ' : L2.St) (H' : Hp), Zc cls d oe ∧ (∃ vs, oe.data = .fields vs) ∧ L2.Inv (kpC X (a, oe)) pins σ' H' s1 ∧ t1 a cls d D σ' H'
  | fl => SP X pins D fl s1
variable {x nm0 : Str} {c : Value} {i : Nat} {body suite rest : List Stmt} {b0 : Stmt} {np pos pos' : Pos} {tb : WX → TS} {ts t1 : Addr → Value → Option Addr → TS} {t0 : TS} {Wout : WX}
theorem try_keep (stk : X.stack = X.env :: X.outer) (frm : X.env.frame = some X.env.locals) (nod : X.N.Nodup) (at_ : X.N[i]? = some nm0) (kin : X.env.kindOf nm0 = some .local) (nms : Names X x c) (tk : Takes X Wout)
    (hbody : ∀ (W : WX) (pn : List (Addr × Obj)) (xe : Value → Shared → Prop), Takes (Cx.tr X pn xe) W → PassesOwn (model X.prog X.w) X.A X.env xe → PSs (Cx.tr X pn xe) body (tb W))
    (hsuite : ∀ (a : Addr) (oe : Obj) (cls : Value) (d : Option Addr) (pn : List (Addr × Obj)), Zc cls d oe → (∃ vs, oe.data = .fields vs) → PSs (Cx.suite X a ((a, oe) :: pn)) (b0 :: suite) (ts a cls d))
    {pins : List (Addr × Obj)} {s : Shared} {σ : L2.St} {H : Hp} {D : Ends} (I : L2.Inv X pins σ H s) (h : tb (wKeep X.K c i ts t1 Wout D) { D with nx := t0 D } σ H) :
    wpAny (model X.prog X.w) X.A (exec (.Try body [.ExceptHandler (some (.Name x np)) (some nm0) (b0 :: suite) pos'] [] [] pos) X.env) (postKp X pins t0 t1 D) X.xe s := by
  have okX := I.ok
  have allF : X.A.frames = some (X.env :: X.outer) := by
    rw [okX.frames, stk]
  refine wpAny_Try_except ?_
  refine wpAny_mono ((hbody (wKeep X.K c i ts t1 Wout D) (X.pn ++ pins) (fun e s₁ => wpAny (model X.prog X.w) X.A (noteFrame e X.env) (fun _ s₂ => wpAny (model X.prog X.w) X.A (setFlight e none)
    (fun _ s₃ => wpAny (model X.prog X.w) X.A (handleBy e X.env [.ExceptHandler (some (.Name x np)) (some nm0) (b0 :: suite) pos']) (postKp X pins t0 t1 D) X.xe s₃) X.xe s₂) X.xe s₁) (fun u s' caught => ?_) PassesOwn.looking).run [] s σ H _ (I.toTry _) h) (fun fl s1 hsp => ?_) (fun e s1 he => he)
  · obtain ⟨a, B, sI, pins', σ', H', cls, d, rfl, J', nb, up, sky, na, os, ag, b, hb1, hyes, hno⟩ := caught
    have J : L2.Inv X pins σ' H' sI := J'.ofTry okX
    have sky2 : Sky B (X.env :: X.outer) a (Zc cls d) X.env.locals s'.heap := by
      rw [← stk]
      exact sky
    show wpAny (model X.prog X.w) X.A (noteFrame (.ref a) X.env) _ _ _
    refine Sky.land Zc.steady allF frm sky2 fun h3 fl3 up3 => ?_
    have J3 : L2.Inv X pins σ' H' { s' with heap := h3 } := J.landed nb fl3.1 (up.trans up3) os ag
    obtain ⟨oe3, vs3, he3, hz3, hd3⟩ := fl3.there
    have notIn : a ∉ frs (X.env :: X.outer) := fun hm => by
      obtain ⟨_, o', e', hnf⟩ := fl3.2.2.1.mem hm
      rw [he3] at e'
      cases e'
      exact hnf _ hd3
    have nL : a ≠ X.env.locals := fun z => notIn (List.mem_filterMap.mpr ⟨X.env, List.mem_cons_self, (by rw [frm, z])⟩)
    have nF : a ∉ X.fs := fun hm => by
      obtain ⟨e, hin, eq⟩ := List.mem_filterMap.mp hm
      exact notIn (List.mem_filterMap.mpr ⟨e, List.mem_cons_of_mem _ hin, eq⟩)
    have S3 := Inv.suite J3 he3 hd3 na nL nF
    refine wpAny_handleBy_cons (codeAny_handlers_test ?_) (by intro q; cases q)
    have itsType : PySem.W.Looks (model X.prog X.w) h3 (typeOf (.ref a)) cls := fun A Q E s k q => wpAny_typeOf_ref (k _ _ he3) (by rw [hz3.1]; exact q)
    have itMatches := PySem.W.exm_one (M := model X.prog X.w) (J3.kIn) itsType hb1
    have named : ∀ {Q : Value → Shared → Prop} {E : Value → Shared → Prop}, Q c { s' with heap := h3 } → wpAny (model X.prog X.w) (X.A.mark (some (.ref a))) (eval (.Name x np) X.env) Q E { s' with heap := h3 } := fun {Q E} q => by
      obtain ⟨gl, dbg, g | ⟨g, v, nn⟩⟩ := nms
      · exact ld_glob (X := Cx.suite X a ((a, oe3) :: (X.pn ++ pins))) S3 gl g q dbg
      · exact ld_blt (X := Cx.suite X a ((a, oe3) :: (X.pn ++ pins))) S3 gl g v q nn dbg
    refine named (itMatches.here ?_)
    cases b with
    | true =>
      refine codeAny_handlers_suite_as ?_
      refine HandSPX.lands_againZ fl3 fun h4 fl4 up4 => ?_
      have J4 : L2.Inv X pins σ' H' { s' with heap := h4 } := J.landed nb fl4.1 ((up.trans up3).trans up4) os ag
      obtain ⟨oe4, vs4, he4, hz4, hd4⟩ := fl4.there
      have S4 := Inv.suite J4 he4 hd4 na nL nF
      refine store_ok (X := Cx.suite X a ((a, oe4) :: (X.pn ++ pins))) (v := .ref a) S4 nod at_ (.inl kin) rfl (fun s5 S5 => ?_) (.inr kin)
      refine wpAny_mono ((hsuite a oe4 cls d (X.pn ++ pins) hz4 ⟨_, hd4⟩).run [] s5 _ H' _ S5 (hyes rfl a na)) (fun fl s6 hsp => ?_) (fun _ _ z => False.elim z)
      cases fl with
      | next =>
        obtain ⟨σ6, H6, S6, q6⟩ := hsp
        exact gone_ok (X := kpC X (a, oe4)) (inv_kp S6 okX) nod at_ kin fun s7 J7 => .inr ⟨a, oe4, cls, d, _, _, hz4, ⟨_, hd4⟩, J7, q6⟩
      | brk =>
        obtain ⟨_, _, _, bad⟩ := hsp
        exact False.elim bad
      | cont =>
        obtain ⟨_, _, _, bad⟩ := hsp
        exact False.elim bad
      | ret u =>
        obtain ⟨_, _, _, _, _, bad⟩ := hsp
        exact False.elim bad
    | false =>
      show wpAny _ X.A (handleBy (.ref a) X.env []) _ _ _
      refine wpAny_handleBy_nil ?_
      obtain ⟨k1, k2, k3, oe, vs, T, oT, ts', he, hz, hd, h1, hr⟩ := id fl3
      unfold PySem.passOn
      refine wpAny_bind (wpAny_field he hd h1 ?_)
      rw [if_neg (show ¬ ((Value.ref T == Value.none) = true) by simp)]
      have on : wpAny (model X.prog X.w) X.A (setFlight (.ref a) X.env.frame) (fun _ s4 => wpAny (model X.prog X.w) X.A (throw (.ref a) : Sem Flow) (postKp X pins t0 t1 D) X.xe s4) X.xe { s' with heap := h3 } := by
        rw [frm]
        refine HandSPX.setFlight_upZ fl3 fun h4 hh4 up4 => wpAny_throw (tk _ _ ?_)
        exact ⟨a, B, sI, pins, σ', H', cls, d, rfl, J, nb, (up.trans up3).trans up4, .inr (.inr (by rw [stk]; exact hh4)), na, os, ag, hno rfl⟩
      first
        | exact wpAny_bind (wpAny_pure (wpAny_bind on))
        | exact wpAny_bind on
  · cases fl with
    | next =>
      obtain ⟨σ', H', J', q⟩ := hsp
      exact wpAny_execs_nil (.inl ⟨σ', H', J'.ofTry okX, q⟩)
    | brk =>
      obtain ⟨σ', H', J', q⟩ := hsp
      exact ⟨σ', H', J'.ofTry okX, q⟩
    | cont =>
      obtain ⟨σ', H', J', q⟩ := hsp
      exact ⟨σ', H', J'.ofTry okX, q⟩
    | ret u =>
      obtain ⟨v, σ', H', J', r, q⟩ := hsp
      exact ⟨v, σ', H', J'.ofTry okX, r, q⟩
theorem pss_try_keep (stk : X.stack = X.env :: X.outer) (frm : X.env.frame = some X.env.locals) (nod : X.N.Nodup) (at_ : X.N[i]? = some nm0) (kin : X.env.kindOf nm0 = some .local) (nms : Names X x c) (tk : Takes X Wout)
    (hbody : ∀ (W : WX) (pn : List (Addr × Obj)) (xe : Value → Shared → Prop), Takes (Cx.tr X pn xe) W → PassesOwn (model X.prog X.w) X.A X.env xe → PSs (Cx.tr X pn xe) body (tb W))
    (hsuite : ∀ (a : Addr) (oe : Obj) (cls : Value) (d : Option Addr) (pn : List (Addr × Obj)), Zc cls d oe → (∃ vs, oe.data = .fields vs) → PSs (Cx.suite X a ((a, oe) :: pn)) (b0 :: suite) (ts a cls d))
    (h0 : PSs X rest t0) (h1 : ∀ (a : Addr) (oe : Obj) (cls : Value) (d : Option Addr), Zc cls d oe → (∃ vs, oe.data = .fields vs) → PSs (kpC X (a, oe)) rest (t1 a cls d)) :
    PSs X (.Try body [.ExceptHandler (some (.Name x np)) (some nm0) (b0 :: suite) pos'] [] [] pos :: rest) (fun D σ H => tb (wKeep X.K c i ts t1 Wout D) { D with nx := t0 D } σ H) := by
  constructor
  intro pins s σ H D I h
  refine wpAny_execs_cons (thn (try_keep (t1 := t1) stk frm nod at_ kin nms tk hbody hsuite I h) fun fl s1 q => ?_)
  cases fl with
  | next =>
    rcases q with ⟨σ', H', I', q⟩ | ⟨a, oe, cls, d, σ', H', hz, hf, I', q⟩
    · exact h0.run pins s1 σ' H' D I' q
    · refine thn ((h1 a oe cls d hz hf).run pins s1 σ' H' D I' q) fun fl s2 z => ?_
      cases fl with
      | next =>
        obtain ⟨σ2, H2, J, z⟩ := z
        exact ⟨σ2, H2, inv_unkp J I.ok, z⟩
      | brk =>
        obtain ⟨σ2, H2, J, z⟩ := z
        exact ⟨σ2, H2, inv_unkp J I.ok, z⟩
      | cont =>
        obtain ⟨σ2, H2, J, z⟩ := z
        exact ⟨σ2, H2, inv_unkp J I.ok, z⟩
      | ret u =>
        obtain ⟨v, σ2, H2, J, r, z⟩ := z
        exact ⟨v, σ2, H2, inv_unkp J I.ok, r, z⟩
  | ret v => exact q
  | brk => exact q
  | cont => exact q
/-- the kept exception's field -/
theorem pe_xfK {a C : Addr} {oe : Obj} {cls : Value} {d : Option Addr} {e : Expr} {te : TE} {pos : Pos} {f0 : Str} (T : XfC X.K C) (hno : PySem.W.findIn X.K (.ref C) f0 = some none) (hz : Zc cls d oe) (hf : ∃ vs, oe.data = .fields vs) (hin : (a, oe) ∈ X.pn)
    (he : PE X e te) (hb : attributeBase e f0 X.env (eval e X.env) = eval e X.env := by rfl) : PE X (.Attribute e f0 pos) (tXf a cls d C f0 te) := by
  constructor
  intro pins s σ H Q I h
  refine attr_of hb (thn (he.run pins s σ H _ I h) fun u s1 hh => ?_)
  obtain ⟨x, H1, I1, rx, rfl, rfl, dd, fs, v, rfl, ea, l, q⟩ := hh
  obtain rfl : u = Value.ref a := rx
  obtain ⟨there, _⟩ := I1.pin (a, oe) (List.mem_append_left _ hin)
  obtain ⟨vs, hd⟩ := hf
  obtain ⟨mA, hns, hr⟩ : ObjOk X.prog X.w H1 s1.heap dd (.xd fs) := I1.hok dd _ ea
  obtain ⟨od, ho, hl⟩ := lookIn_ns hns
  obtain ⟨u, hu, ru⟩ := RelO.some_of (v := v) (o := mA f0) (by rw [← l]; exact hr f0)
  have J : PySem.W.InstAt s1.heap a oe C (some od) := ⟨there, hz.1, (by unfold PySem.W.notCls; rw [hd] <;> rfl), (by rw [hz.2]; exact ho)⟩
  exact HandSPX.exc_get I1.kIn J T.ga T.gg T.exC (PySem.W.findObj_own T.hdC hno rfl (by rw [hl, hu])) (handed_of ru) ⟨v, H1, I1.tok _, ru, q⟩
end
section
open PySem.Spec PyProof.Rows
variable {X : Cx}
/-- isinstance of the kept exception: one class, or a tuple of two own ones -/
def rIsK (K : PySem.W.Frag) (cls : Value) (D a : Addr) (d : Option Addr) : List V → Hp → VK → Prop := fun xs H Q => ∃ (c : V) (b : Bool) (dd : Addr) (fs : List (Str × V)), xs = [.ref a, c] ∧ cls = .ref D ∧ d = some dd ∧ H dd = some (.xd fs) ∧
  ((∃ cv, (∀ u, L2.RelV c u → u = cv) ∧ PySem.W.kitOne K (.ref D) cv = some b) ∨ ∃ t d1 d2, c = .ref t ∧ SqT K H t [.ref d1, .ref d2] ∧ PySem.W.kitAny K (.ref D) [.ref d1, .ref d2] = some b) ∧ Q (.bl b) H
theorem call_isK {a D : Addr} {oe : Obj} {cls : Value} {d : Option Addr} (C : ExcC X.K D) (hcl : PySem.W.isClsIn X.K D = true) (hz : Zc cls d oe) (hf : ∃ vs, oe.data = .fields vs) (hin : (a, oe) ∈ X.pn) : CallR X (.builtin "isinstance") (rIsK X.K cls D a d) := by
  intro pins s σ H xs us Q I r h
  obtain ⟨c, b, dd, fs, rfl, rfl, rfl, ea, hc, q⟩ := h
  obtain ⟨u0, r0, rfl, h0, hr0⟩ : ∃ u0 r0, us = u0 :: r0 ∧ u0 = Value.ref a ∧ Vals [c] r0 := by
    cases r with
    | cons h1 h2 => exact ⟨_, _, rfl, h1, h2⟩
  subst h0
  obtain ⟨u1, rfl, hu1⟩ := vals1 hr0
  obtain ⟨there, _⟩ := I.pin (a, oe) (List.mem_append_left _ hin)
  obtain ⟨vs, hd⟩ := hf
  obtain ⟨mA, hns, _⟩ : ObjOk X.prog X.w H s.heap dd (.xd fs) := I.hok dd _ ea
  obtain ⟨od, ho, _⟩ := lookIn_ns hns
  have J : PySem.W.InstAt s.heap a oe D (some od) := ⟨there, hz.1, (by unfold PySem.W.notCls; rw [hd] <;> rfl), (by rw [hz.2]; exact ho)⟩
  have Z := PySem.W.kitx_exc (x := a) (ox := oe) (od := some od) hcl C.hg C.hk C.hs C.ha C.hn C.ht C.hm
  rcases hc with ⟨cv, hcv, e⟩ | ⟨t, d1, d2, rfl, ht, e⟩
  · obtain rfl := hcv _ hu1
    exact PySem.W.kia_one Z I.kIn J e (fun z => nomatch z) fun tk => ⟨.bl b, H, I.kept (t' := tk) fun _ _ z => z, rfl, q⟩
  · obtain rfl : u1 = Value.ref t := hu1
    obtain ⟨its, ri, ⟨⟨cls, dd2, data, sl⟩, ho2, hc2, n2, hd2⟩, _⟩ := I.tuple ht
    simp only at hc2 hd2
    subst hc2 hd2
    have ei : its = [.ref d1, .ref d2] := by
      cases ri with
      | cons h1 h2 =>
        cases h2 with
        | cons h3 h4 =>
          cases h4
          rw [show _ = Value.ref d1 from h1, show _ = Value.ref d2 from h3]
    subst ei
    exact PySem.W.kia_tup Z I.kIn J ho2 e (fun z => nomatch z) fun tk => ⟨.bl b, H, I.kept (t' := tk) fun _ _ z => z, rfl, q⟩
end
/-- an error of a class is what its own clause names -/
theorem exm_self {K : PySem.W.Frag} {S : Addr} (h1 : PySem.W.subIn K (.ref S) (.type "BaseException") = some true) (h2 : PySem.W.isClsIn K S = true) (h3 : PySem.W.typeIn K (.ref S) = some (.type "type")) (h4 : PySem.W.subIn K (.ref S) (.ref S) = some true) : PySem.W.exmOne K (.ref S) (.ref S) = some true := by
  have c1 : (PySem.W.subIn K (.ref S) (.type "BaseException") == some true) = true := by
    rw [h1]
    rfl
  have c2 : ((PySem.W.clsIn K S).isSome && PySem.W.typeIn K (.ref S) == some (.type "type")) = true := by
    rw [show (PySem.W.clsIn K S).isSome = true from h2, h3]
    rfl
  show (if (PySem.W.subIn K (.ref S) (.type "BaseException") == some true) = true then (if ((PySem.W.clsIn K S).isSome && PySem.W.typeIn K (.ref S) == some (.type "type")) = true then PySem.W.subIn K (.ref S) (.ref S) else none) else none) = _
  rw [if_pos c1, if_pos c2, h4]
/-! The promises. -/
def sp_brought : Sp := fun vs H Q _ => ∃ n : Int, vs = [.int n] ∧ Q (.int (br n)) H
def spS (i : Nat) : Sp := fun vs H Q _ => ∃ a b : Int, vs = [.int a, .int b] ∧ W a ∧ W b ∧ Q (.int (sg i a b)) H
def sp_toldby : Sp := fun vs H Q _ => ∃ (i : Nat) (a b : Int), i < 9 ∧ vs = [.str (nm i), .int a, .int b] ∧ W a ∧ W b ∧ Q (.int (br (sg i a b))) H
def sp_lfeed (K : PySem.W.Frag) : Sp := fun vs H Q _ => ∃ (a : Addr) (ns : List Int), vs = [.ref a] ∧ SqL K H a (ns.map V.int) ∧ ns.length ≤ 63 ∧
  ∀ H' p c, Pen H' p c ns 0 → Q (.ref p) H'
def sp_ldraw : Sp := fun vs H Q _ => ∃ (p c : Addr) (ns : List Int) (n m : Int), vs = [.ref p, .int m] ∧ Pen H p c ns n ∧ 0 < m ∧ m < 1073741824 ∧ n < 1000000 ∧
  ∀ (H' : Hp) (d n' : Int), Kp p H H' → Pen H' p c ns n' → 0 ≤ d → d < m → n ≤ n' → n' ≤ n + 1 → Q (.int d) H'
def sp_lworth : Sp := fun vs H Q _ => ∃ (p c : Addr) (ns : List Int) (n : Int), vs = [.ref p] ∧ Pen H p c ns n ∧ n < 900000 ∧
  ∀ (H' : Hp) (k n' : Int), Kp p H H' → Pen H' p c ns n' → n ≤ n' → n' ≤ n + 2 → W k → Q (.int k) H'
def sp_ltells : Sp := fun vs H Q _ => ∃ (i : Nat) (a b : Int), i < 9 ∧ vs = [.str (nm i), .int a, .int b] ∧ W a ∧ W b ∧ ∀ H', Same H H' → Q (.int (br (sg i a b))) H'
def sp_issign : Sp := fun vs H Q _ => ∃ m : Im, vs = [m.toV] ∧ m.ok ∧ Q (.bl m.sgn) H
def sp_reckoned (K : PySem.W.Frag) : Sp := fun vs H Q _ => ∃ (e d : Addr) (its : List Im) (kvs : List (Key × V)) (y : Int) (r : List Int), vs = [.ref e, .ref d] ∧ SqT K H e (its.map Im.toV) ∧ (∀ m ∈ its, m.ok) ∧ its.length ≤ 1000 ∧
  H d = some (.dK kvs) ∧ Gd kvs ∧ run (rho kvs) [] its = some (y :: r) ∧ ∀ H', Same H H' → W y → Q (.int y) H'
def sp_lregister : Sp := fun vs H Q _ => ∃ (p c : Addr) (ns : List Int) (n : Int), vs = [.ref p] ∧ Pen H p c ns n ∧ n < 900000 ∧
  ∀ (H' : Hp) (k : Nat) (n' : Int), Kp p H H' → Pen H' p c ns n' → n ≤ n' → n' ≤ n + 2 → k < 16 → Q (.str (lt k)) H'
def sp_litem : Sp := fun vs H Q _ => ∃ (p c : Addr) (ns : List Int) (n : Int), vs = [.ref p] ∧ Pen H p c ns n ∧ n < 890000 ∧
  ∀ (H' : Hp) (m : Im) (n' : Int), Kp p H H' → Pen H' p c ns n' → n ≤ n' → n' ≤ n + 5 → m.ok → m.sgn = false → Q m.toV H'
def sp_lexpression : Sp := fun vs H Q _ => ∃ (p c : Addr) (ns : List Int) (n : Int) (most : Nat), vs = [.ref p, .int (most : Int)] ∧ Pen H p c ns n ∧ n < 880000 ∧ most ≤ 20 ∧
  ∀ (H' : Hp) (t : Addr) (its : List Im) (n' : Int), Kp p H H' → Pen H' p c ns n' → n ≤ n' → n' ≤ n + 300 → H t = none → H' t = some (.tup (its.map Im.toV)) → Expr1 its → its.length ≤ 2 * most + 1 → its ≠ [] → Q (.ref t) H'
def sp_lregs : Sp := fun vs H Q _ => ∃ (p c : Addr) (ns : List Int) (n : Int), vs = [.ref p] ∧ Pen H p c ns n ∧ n < 880000 ∧
  ∀ (H' : Hp) (d : Addr) (kvs : List (Key × V)) (n' : Int), Kp p H H' → Pen H' p c ns n' → n ≤ n' → n' ≤ n + 60 → H' d = some (.dK kvs) → Gd kvs → kvs.length ≤ 100 → Q (.ref d) H'
def sp_lreck (K : PySem.W.Frag) : Sp := fun vs H Q _ => ∃ (e d : Addr) (its : List Im) (kvs : List (Key × V)) (y : Int), vs = [.ref e, .ref d] ∧ SqT K H e (its.map Im.toV) ∧ (∀ m ∈ its, m.ok) ∧ its.length ≤ 1000 ∧
  H d = some (.dK kvs) ∧ Gd kvs ∧ run (rho kvs) [] its = some [y] ∧ ∀ H', Same H H' → Q (.int y) H'
/-! Things of any kind. -/
def Kn (H : Hp) : V → Prop
  | .ref a => (∃ xs, H a = some (.tup xs)) ∨ (∃ xs, H a = some (.lst xs)) ∨ ∃ kvs, H a = some (.dK kvs)
  | .non => True
  | .bl _ => True
  | .int _ => True
  | .str z => z.length ≤ 8000000
  | _ => False
theorem Kn.same {H H' : Hp} {x : V} (s : Same H H') (h : Kn H x) : Kn H' x := by
  cases x with
  | ref a =>
    rcases h with ⟨xs, e⟩ | ⟨xs, e⟩ | ⟨xs, e⟩
    · exact .inl ⟨xs, s _ _ e⟩
    · exact .inr (.inl ⟨xs, s _ _ e⟩)
    · exact .inr (.inr ⟨xs, s _ _ e⟩)
  | non => exact h
  | bl b => exact h
  | int i => exact h
  | str z => exact h
  | byt b => exact h
  | flt b => exact h
  | ty n => exact h
def exT (H : Hp) : V → Bool
  | .ref a => match H a with
    | some (.tup xs) => exV xs
    | _ => false
  | _ => false
theorem exT_tup {H : Hp} {t : Addr} {xs : List V} (h : H t = some (.tup xs)) : exT H (.ref t) = exV xs := by
  simp only [exT, h]
theorem exT_lst {H : Hp} {t : Addr} {xs : List V} (h : H t = some (.lst xs)) : exT H (.ref t) = false := by
  simp only [exT, h]
theorem exT_dK {H : Hp} {t : Addr} {xs : List (Key × V)} (h : H t = some (.dK xs)) : exT H (.ref t) = false := by
  simp only [exT, h]
def sp_isexpA : Sp := fun vs H Q _ => ∃ x : V, vs = [x] ∧ Kn H x ∧ (∀ t xs, x = .ref t → H t = some (.tup xs) → xs.length ≤ 8000000 ∧ ∀ y ∈ xs, Kn H y) ∧ ∀ H', Same H H' → Q (.bl (exT H x)) H'
def inV2 : V → Bool
  | .int _ => true
  | _ => false
def sp_iswhole : Sp := fun vs H Q _ => ∃ x : V, vs = [x] ∧ Kn H x ∧ Q (.bl (inV2 x)) H
def sp_isworth : Sp := fun vs H Q _ => ∃ x : V, vs = [x] ∧ Kn H x ∧ Q (.bl (woV x)) H
def sp_isletter : Sp := fun vs H Q _ => ∃ x : V, vs = [x] ∧ Kn H x ∧ Q (.bl (ltV x)) H
def sp_issignV : Sp := fun vs H Q _ => ∃ x : V, vs = [x] ∧ Kn H x ∧ Q (.bl (sgV x)) H
def sp_leavesone (K : PySem.W.Frag) : Sp := fun vs H Q _ => ∃ (t : Addr) (xs : List V), vs = [.ref t] ∧ SqT K H t xs ∧ (∀ x ∈ xs, Kn H x) ∧ Q (.bl (decide (htV 0 xs = some 1))) H
theorem len_size {n : Nat} (h : n ≤ 8000000) : n ≤ sizeLine := Nat.le_trans h (by decide)
theorem one_code {z : Str} (h : z.length = 1) : ∃ c, z = ⟨#[c]⟩ := by
  rw [cp_len] at h
  obtain ⟨c, hc⟩ := List.length_eq_one_iff.mp h
  exact ⟨c, cp_ext hc⟩
theorem letters_mem : ∀ c : Nat, decide (c ∈ letters.cps.toList) = decide (97 ≤ c ∧ c ≤ 112) := by
  intro c
  have e : letters.cps.toList = [97, 98, 99, 100, 101, 102, 103, 104, 105, 106, 107, 108, 109, 110, 111, 112] := by decide +kernel
  rw [e]
  by_cases h : 97 ≤ c ∧ c ≤ 112
  · rw [decide_eq_true h]
    refine decide_eq_true ?_
    simp only [List.mem_cons, List.not_mem_nil, or_false]
    omega
  · rw [decide_eq_false h]
    refine decide_eq_false ?_
    simp only [List.mem_cons, List.not_mem_nil, or_false]
    omega
/-! Things that lie within one another, so deep and so long at most. -/
def Low (H : Hp) : V → Prop
  | .ref a => (∃ xs, H a = some (.lst xs)) ∨ ∃ kvs, H a = some (.dK kvs)
  | .non => True
  | .bl _ => True
  | .int _ => True
  | .str z => z.length ≤ 8000000
  | _ => False
def Th (H : Hp) (L : Nat) : Nat → V → Prop
  | 0, x => Low H x
  | d + 1, x => Low H x ∨ ∃ t xs, x = .ref t ∧ H t = some (.tup xs) ∧ xs.length ≤ L ∧ ∀ y ∈ xs, Th H L d y
theorem Low.th {H : Hp} {L : Nat} {x : V} (h : Low H x) : ∀ d, Th H L d x
  | 0 => h
  | _ + 1 => .inl h
theorem Low.kp {H H' : Hp} {p c : Addr} {ns : List Int} {n : Int} {x : V} (k : Kp p H H') (P : Pen H' p c ns n) (h : Low H x) : Low H' x := by
  cases x with
  | ref a =>
    by_cases hp : a = p
    · subst hp
      obtain ⟨r, e, _⟩ := P
      exact .inl ⟨_, e⟩
    · rcases h with ⟨xs, e⟩ | ⟨xs, e⟩
      · exact .inl ⟨xs, k _ _ hp e⟩
      · exact .inr ⟨xs, k _ _ hp e⟩
  | non => exact h
  | bl b => exact h
  | int i => exact h
  | str z => exact h
  | byt b => exact h
  | flt b => exact h
  | ty n => exact h
theorem Th.kp {H H' : Hp} {p c : Addr} {ns ns0 : List Int} {n n0 : Int} {c0 : Addr} {L : Nat} (k : Kp p H H') (P0 : Pen H p c0 ns0 n0) (P : Pen H' p c ns n) : ∀ {d : Nat} {x : V}, Th H L d x → Th H' L d x
  | 0, _, h => Low.kp k P h
  | d + 1, _, .inl h => .inl (Low.kp k P h)
  | d + 1, _, .inr ⟨t, xs, e, ht, hl, hx⟩ => .inr ⟨t, xs, e, k _ _ (P0.nt ht (fun _ z => by cases z)) ht, hl, fun y hy => Th.kp k P0 P (hx y hy)⟩
theorem Low.same {H H' : Hp} {x : V} (s : Same H H') (h : Low H x) : Low H' x := by
  cases x with
  | ref a =>
    rcases h with ⟨xs, e⟩ | ⟨xs, e⟩
    · exact .inl ⟨xs, s _ _ e⟩
    · exact .inr ⟨xs, s _ _ e⟩
  | non => exact h
  | bl b => exact h
  | int i => exact h
  | str z => exact h
  | byt b => exact h
  | flt b => exact h
  | ty n => exact h
theorem Th.same {H H' : Hp} {L : Nat} (s : Same H H') : ∀ {d : Nat} {x : V}, Th H L d x → Th H' L d x
  | 0, _, h => Low.same s h
  | d + 1, _, .inl h => .inl (Low.same s h)
  | d + 1, _, .inr ⟨t, xs, e, ht, hl, hx⟩ => .inr ⟨t, xs, e, s _ _ ht, hl, fun y hy => Th.same s (hx y hy)⟩
theorem Th.mono {H : Hp} {L L' : Nat} (hL : L ≤ L') : ∀ {d d' : Nat} {x : V}, d ≤ d' → Th H L d x → Th H L' d' x
  | 0, d', _, _, h => Low.th h d'
  | d + 1, 0, _, hd, _ => absurd hd (by omega)
  | d + 1, d' + 1, _, _, .inl h => .inl h
  | d + 1, d' + 1, _, hd, .inr ⟨t, xs, e, ht, hl, hx⟩ => .inr ⟨t, xs, e, ht, Nat.le_trans hl hL, fun y hy => Th.mono hL (by omega) (hx y hy)⟩
theorem Low.kn {H : Hp} {x : V} (h : Low H x) : Kn H x := by
  cases x with
  | ref a =>
    rcases h with ⟨xs, e⟩ | ⟨xs, e⟩
    · exact .inr (.inl ⟨xs, e⟩)
    · exact .inr (.inr ⟨xs, e⟩)
  | non => exact h
  | bl b => exact h
  | int i => exact h
  | str z => exact h
  | byt b => exact h
  | flt b => exact h
  | ty n => exact h
theorem Th.kn {H : Hp} {L : Nat} : ∀ {d : Nat} {x : V}, Th H L d x → Kn H x
  | 0, _, h => Low.kn h
  | d + 1, _, .inl h => Low.kn h
  | d + 1, _, .inr ⟨t, xs, e, ht, _⟩ => by
    rw [e]
    exact .inl ⟨xs, ht⟩
theorem Low.no {H : Hp} {t : Addr} {xs : List V} (h : Low H (.ref t)) (ht : H t = some (.tup xs)) : False := by
  rcases h with ⟨ys, e⟩ | ⟨ys, e⟩
  · rw [ht] at e
    cases e
  · rw [ht] at e
    cases e
theorem Th.items {H : Hp} {L d : Nat} {x : V} (h : Th H L d x) : ∀ t xs, x = .ref t → H t = some (.tup xs) → xs.length ≤ L ∧ ∀ y ∈ xs, Kn H y := by
  intro t xs ex ht
  subst ex
  cases d with
  | zero => exact (Low.no h ht).elim
  | succ d =>
    rcases h with h | ⟨t', xs', e, ht', hl, hx⟩
    · exact (Low.no h ht).elim
    · obtain rfl := V.ref.inj e
      rw [ht] at ht'
      obtain rfl : xs = xs' := HO.tup.inj (Option.some.inj ht')
      exact ⟨hl, fun y hy => (hx y hy).kn⟩
/-! Slices and sums of tuples: a tuple of what is due, new or not. -/
theorem catAny {K : PySem.W.Frag} {H : Hp} {a b : Addr} {xs ys : List V} {Q : VK} (ha : H a = some (.tup xs)) (hb : H b = some (.tup ys)) (hl : xs.length + ys.length ≤ sizeLine)
    (q : ∀ r H', Same H H' → H' r = some (.tup (xs ++ ys)) → Q (.ref r) H') : rCatA K (.ref a) (.ref b) H Q := by
  refine ⟨a, b, xs, ys, rfl, rfl, SqT.of ha, SqT.of hb, hl, fun e => ?_, fun _ e => ?_, fun _ _ p hp => q p _ (Same.new hp) upd_same⟩
  · subst e
    exact q b H (Same.refl H) hb
  · subst e
    refine q a H (Same.refl H) ?_
    rw [List.append_nil]
    exact ha
theorem cutWhole {xs : List V} {lo hi : Option Int} (h : HT.sIx xs.length 0 lo = 0 ∧ HT.sIx xs.length xs.length hi = xs.length) : cutV xs lo hi = xs := by
  unfold cutV
  rw [h.1, h.2, List.drop_zero, Nat.sub_zero, List.take_length]
theorem slAny {K : PySem.W.Frag} {H : Hp} {a : Addr} {xs : List V} {lo hi : Option Int} {Q : VK} (ha : H a = some (.tup xs)) (q : ∀ r H', Same H H' → H' r = some (.tup (cutV xs lo hi)) → Q (.ref r) H') : rSlA K (.ref a) lo hi H Q := by
  refine ⟨a, xs, rfl, SqT.of ha, fun e => ?_, fun _ p hp => q p _ (Same.new hp) upd_same⟩
  refine q a H (Same.refl H) ?_
  rw [cutWhole e]
  exact ha
theorem slFrom {K : PySem.W.Frag} {H : Hp} {σ : St} {a : Addr} {xs : List V} {lo : Option Int} {Q : VK} (ha : H a = some (.tup xs)) (q : ∀ r H', Same H H' → H' r = some (.tup (cutV xs lo none)) → Q (.ref r) H') : tNoPart σ H fun u H3 => rSlA K (.ref a) lo u H3 Q :=
  show rSlA K (.ref a) lo none H Q from slAny ha q
/-! What the law finds of a thing. -/
def okV (x : V) : Bool := woV x || ltV x || sgV x
theorem lt_code (c : Nat) : ltV (.str ⟨#[c]⟩) = decide (97 ≤ c ∧ c ≤ 112) := by
  show (decide ((⟨#[c]⟩ : Str).length = 1) && decide (∀ d ∈ cp ⟨#[c]⟩, 97 ≤ d ∧ d ≤ 112)) = _
  rw [decide_eq_true (show (⟨#[c]⟩ : Str).length = 1 from rfl), Bool.true_and]
  by_cases h2 : 97 ≤ c ∧ c ≤ 112
  · rw [decide_eq_true h2, decide_eq_true]
    intro d hd
    rw [show d = c from List.mem_singleton.mp hd]
    exact h2
  · rw [decide_eq_false h2, decide_eq_false]
    exact fun g => h2 (g c (List.mem_singleton.mpr rfl))
theorem sg_code (c : Nat) : sgV (.str ⟨#[c]⟩) = decide (c ∈ codes) := by
  have e : sgKeys = codes.map fun c => ⟨#[c]⟩ := by decide +kernel
  show decide ((⟨#[c]⟩ : Str) ∈ sgKeys) = _
  rw [e]
  by_cases h : c ∈ codes
  · rw [decide_eq_true h, decide_eq_true (List.mem_map_of_mem h)]
  · rw [decide_eq_false h, decide_eq_false]
    intro g
    obtain ⟨d, hd, e2⟩ := List.mem_map.mp g
    have e3 : #[d] = #[c] := congrArg Str.cps e2
    have : d = c := by simpa using e3
    exact h (this ▸ hd)
theorem sg_len {z : Str} (h : z.length ≠ 1) : sgV (.str z) = false := by
  have e : ∀ k ∈ sgKeys, k.length = 1 := by decide +kernel
  exact decide_eq_false (fun g => h (e z g))
theorem lt_len {z : Str} (h : z.length ≠ 1) : ltV (.str z) = false := by
  show (decide (z.length = 1) && _) = _
  rw [decide_eq_false h]
  rfl
theorem all_mem (c : Nat) : decide (c ∈ ("abcdefghijklmnop+-*/#<=&^" : Str).cps.toList) = (ltV (.str ⟨#[c]⟩) || sgV (.str ⟨#[c]⟩)) := by
  have e : ("abcdefghijklmnop+-*/#<=&^" : Str).cps.toList = letters.cps.toList ++ codes := by decide +kernel
  rw [e, lt_code, sg_code, ← letters_mem]
  by_cases h1 : c ∈ letters.cps.toList
  · rw [decide_eq_true h1, decide_eq_true (List.mem_append_left _ h1)]
    rfl
  · by_cases h2 : c ∈ codes
    · rw [decide_eq_false h1, decide_eq_true h2, decide_eq_true (List.mem_append_right _ h2)]
      rfl
    · rw [decide_eq_false h1, decide_eq_false h2, decide_eq_false]
      · rfl
      · intro g
        rcases List.mem_append.mp g with g | g
        · exact h1 g
        · exact h2 g
theorem sign_mem (c : Nat) : decide (c ∈ ("+-*/#<=&^" : Str).cps.toList) = sgV (.str ⟨#[c]⟩) := by
  have e : ("+-*/#<=&^" : Str).cps.toList = codes := by decide +kernel
  rw [e, sg_code]
theorem exV_bad {xs : List V} {x : V} (hm : x ∈ xs) (h : okV x = false) : exV xs = false := by
  unfold exV
  have : xs.all (fun x => woV x || ltV x || sgV x) = false := by
    rw [List.all_eq_false]
    exact ⟨x, hm, by rw [show (woV x || ltV x || sgV x) = okV x from rfl, h]; decide⟩
  rw [this, Bool.and_false]
  rfl
theorem exV_ht {xs : List V} (h : htV 0 xs ≠ some 1) : exV xs = false := by
  unfold exV
  rw [decide_eq_false h, Bool.and_false]
theorem exV_all {xs : List V} (h : xs.all okV = true) (hl : xs.length ≤ 15) : exV xs = decide (htV 0 xs = some 1) := by
  unfold exV
  rw [show xs.all (fun x => woV x || ltV x || sgV x) = true from h, decide_eq_true hl]
  rfl
theorem pickAll {l : List V} {Pr : V → Prop} (h : ∀ x ∈ l, Pr x) {j : Nat} (hj : j < l.length) : ∃ x, atI l ((j : Nat) : Int) = some x ∧ Pr x :=
  ⟨l[j], atI_nat (List.getElem?_eq_getElem hj), h _ (List.getElem_mem hj)⟩
theorem thS {H : Hp} {L d : Nat} {z : Str} (h : z.length ≤ 8000000) : Th H L d (.str z) := Low.th (x := .str z) h d
theorem thT {H : Hp} {L d : Nat} {t : Addr} {xs : List V} (h : H t = some (.tup xs)) (hl : xs.length ≤ L) (hx : ∀ y ∈ xs, Th H L d y) : Th H L (d + 1) (.ref t) := .inr ⟨t, xs, rfl, h, hl, hx⟩
theorem fm {Pr : V → Prop} {x : V} {l : List V} (h1 : Pr x) (h2 : ∀ y ∈ l, Pr y) : ∀ y ∈ x :: l, Pr y := List.forall_mem_cons.mpr ⟨h1, h2⟩
theorem fn {Pr : V → Prop} : ∀ y ∈ ([] : List V), Pr y := fun _ h => nomatch h
theorem Th.ex {H : Hp} {L d : Nat} {x : V} (h : Th H L d x) (hL : L ≤ 1000) : ∀ t xs, x = .ref t → H t = some (.tup xs) → xs.length ≤ 8000000 ∧ ∀ y ∈ xs, Kn H y := fun t xs e ht =>
  ⟨Nat.le_trans (h.items t xs e ht).1 (by omega), (h.items t xs e ht).2⟩
theorem exT_same {H H' : Hp} {x : V} (s : Same H H') (h : Kn H x) : exT H' x = exT H x := by
  cases x with
  | ref a =>
    rcases h with ⟨xs, e⟩ | ⟨xs, e⟩ | ⟨xs, e⟩
    · rw [exT_tup e, exT_tup (s _ _ e)]
    · rw [exT_lst e, exT_lst (s _ _ e)]
    · rw [exT_dK e, exT_dK (s _ _ e)]
  | non => rfl
  | bl b => rfl
  | int i => rfl
  | str z => rfl
  | byt b => rfl
  | flt b => rfl
  | ty n => rfl
theorem bool_show (b : Bool) : ShowOk (.bool b) := ⟨rfl, rfl, Nat.zero_le _, by cases b <;> decide +kernel⟩
theorem th_ims {H : Hp} {t : Addr} {its : List Im} (h : H t = some (.tup (its.map Im.toV))) (hok : ∀ m ∈ its, m.ok) (hl : its.length ≤ 17) : Th H 20 1 (.ref t) := by
  refine thT h (by rw [List.length_map]; omega) fun y hy => ?_
  obtain ⟨m, hm, rfl⟩ := List.mem_map.mp hy
  have ho := hok m hm
  cases m with
  | wo a => exact trivial
  | re k =>
    have e : ∀ k, k < 16 → (lt k).length ≤ 8000000 := by decide +kernel
    exact e k ho
  | si i =>
    have e : ∀ i, i < 9 → (nm i).length ≤ 8000000 := by decide +kernel
    exact e i ho
/-! What is a row, a thread, a program: of things of any kind. -/
def SH : List (Str × Str) := [("set", "re"), ("load", "re"), ("store", "ee"), ("swap", "ree"), ("lock", "e"), ("free", "e"), ("send", "ee"), ("take", "re"), ("input", "r"), ("tell", "e"), ("check", "e"), ("if", "ek"), ("go", "k")]
def wds : List Str := ["set", "load", "store", "swap", "lock", "free", "send", "take", "input", "tell", "check", "if", "go"]
def shp (z : Str) : Str := match SH.find? (fun p => decide (p.1 = z)) with
  | some p => p.2
  | none => ""
theorem shp_no {z : Str} (h : z ∉ wds) : shp z = "" := by
  have e : SH.find? (fun p => decide (p.1 = z)) = none := by
    rw [List.find?_eq_none]
    intro p hp
    have e2 : SH.map (·.1) = wds := rfl
    have : p.1 ∈ wds := e2 ▸ List.mem_map_of_mem hp
    simp only [decide_eq_true_eq]
    exact fun q => h (q ▸ this)
  unfold shp
  rw [e]
theorem shp_some : ∀ z ∈ wds, shp z ≠ "" ∧ (shp z).length ≤ 3 := by decide +kernel
theorem shp_len (z : Str) : (shp z).length ≤ 3 := by
  by_cases h : z ∈ wds
  · exact (shp_some z h).2
  · rw [shp_no h]
    decide +kernel
def kkB (m : Nat) : V → Bool
  | .int i => decide (0 ≤ i ∧ i ≤ (m : Int))
  | _ => false
def fitB (H : Hp) (m c : Nat) (x : V) : Bool := if c = 114 then ltV x else if c = 101 then exT H x else kkB m x
def tupT (g : List V → Bool) (H : Hp) : V → Bool
  | .ref a => match H a with
    | some (.tup xs) => g xs
    | _ => false
  | _ => false
theorem tupT_tup {g : List V → Bool} {H : Hp} {t : Addr} {xs : List V} (h : H t = some (.tup xs)) : tupT g H (.ref t) = g xs := by
  simp only [tupT, h]
def rowV (H : Hp) (m : Nat) : List V → Bool
  | .str z :: ps => !decide (shp z = "") && (decide (ps.length = (shp z).length) && ((cp (shp z)).zip ps).all (fun q => fitB H m q.1 q.2))
  | _ => false
def thrV (H : Hp) (xs : List V) : Bool := decide (xs.length ≤ 40) && xs.all (tupT (rowV H xs.length) H)
def prgV (H : Hp) (xs : List V) : Bool := decide (1 ≤ xs.length ∧ xs.length ≤ 4) && xs.all (tupT (thrV H) H)
/-- a thing is a tuple, or it isn't -/
theorem Th.two {H : Hp} {L d : Nat} {x : V} (h : Th H L d x) : (∃ t xs, x = .ref t ∧ H t = some (.tup xs) ∧ xs.length ≤ L ∧ ∀ y ∈ xs, Th H L d y) ∨ (Low H x ∧ ∀ g, tupT g H x = false) := by
  have low : Low H x → (Low H x ∧ ∀ g, tupT g H x = false) := fun hl => ⟨hl, fun g => by
    cases x with
    | ref a =>
      rcases hl with ⟨xs, e⟩ | ⟨xs, e⟩
      · simp only [tupT, e]
      · simp only [tupT, e]
    | non => rfl
    | bl b => rfl
    | int i => rfl
    | str z => rfl
    | byt b => rfl
    | flt b => rfl
    | ty n => rfl⟩
  cases d with
  | zero => exact .inr (low h)
  | succ d =>
    rcases h with h | ⟨t, xs, e, ht, hl, hx⟩
    · exact .inr (low h)
    · exact .inl ⟨t, xs, e, ht, hl, fun y hy => (hx y hy).mono (Nat.le_refl _) (Nat.le_succ d)⟩
theorem fitB_same {H H' : Hp} {m c : Nat} {x : V} (s : Same H H') (h : Kn H x) : fitB H' m c x = fitB H m c x := by
  unfold fitB
  rw [exT_same s h]
theorem all_same {α : Type} {l : List α} {f g : α → Bool} (h : ∀ x ∈ l, f x = g x) : l.all f = l.all g := by
  induction l with
  | nil => rfl
  | cons a r ih =>
    rw [List.all_cons, List.all_cons, h a List.mem_cons_self, ih fun x hx => h x (List.mem_cons_of_mem _ hx)]
theorem rowV_same {H H' : Hp} {m : Nat} {xs : List V} (s : Same H H') (h : ∀ y ∈ xs, Kn H y) : rowV H' m xs = rowV H m xs := by
  cases xs with
  | nil => rfl
  | cons x ps =>
    cases x with
    | str z =>
      show (!decide (shp z = "") && (decide (ps.length = (shp z).length) && ((cp (shp z)).zip ps).all (fun q => fitB H' m q.1 q.2))) = (!decide (shp z = "") && (decide (ps.length = (shp z).length) && ((cp (shp z)).zip ps).all (fun q => fitB H m q.1 q.2)))
      rw [all_same (f := fun q : Nat × V => fitB H' m q.1 q.2) (g := fun q : Nat × V => fitB H m q.1 q.2)]
      intro q hq
      exact fitB_same s (h _ (List.mem_cons_of_mem _ (List.of_mem_zip (b := q.2) (a := q.1) hq).2))
    | ref a => rfl
    | non => rfl
    | bl b => rfl
    | int i => rfl
    | byt b => rfl
    | flt b => rfl
    | ty n => rfl
theorem tupT_same {H H' : Hp} {L d : Nat} {x : V} {g g' : List V → Bool} (s : Same H H') (h : Th H L d x) (hg : ∀ t xs, x = .ref t → H t = some (.tup xs) → (∀ y ∈ xs, Th H L d y) → g' xs = g xs) : tupT g' H' x = tupT g H x := by
  rcases h.two with ⟨t, xs, rfl, ht, hl, hx⟩ | ⟨hl, hf⟩
  · rw [tupT_tup ht, tupT_tup (s _ _ ht)]
    exact hg t xs rfl ht hx
  · rw [hf]
    rcases (Low.th (L := L) (hl.same s) d).two with ⟨t, xs, rfl, ht, _⟩ | ⟨_, hf'⟩
    · exact ((hl.same s).no ht).elim
    · exact hf' _
theorem rowT_same {H H' : Hp} {L d m : Nat} {x : V} (s : Same H H') (h : Th H L d x) : tupT (rowV H' m) H' x = tupT (rowV H m) H x :=
  tupT_same s h fun _ _ _ _ hx => rowV_same s fun y hy => (hx y hy).kn
theorem thrT_same {H H' : Hp} {L d : Nat} {x : V} (s : Same H H') (h : Th H L d x) : tupT (thrV H') H' x = tupT (thrV H) H x :=
  tupT_same s h fun _ xs _ _ hx => by
    unfold thrV
    rw [all_same fun y hy => rowT_same (m := xs.length) s (hx y hy)]
theorem prgT_same {H H' : Hp} {L d : Nat} {x : V} (s : Same H H') (h : Th H L d x) : tupT (prgV H') H' x = tupT (prgV H) H x :=
  tupT_same s h fun _ xs _ _ hx => by
    unfold prgV
    rw [all_same fun y hy => thrT_same s (hx y hy)]
/-! isinstance of such. -/
def isTupB (H : Hp) : V → Bool := tupT (fun _ => true) H
def isStrB : V → Bool
  | .str _ => true
  | _ => false
def isLstB (H : Hp) : V → Bool
  | .ref a => match H a with
    | some (.lst _) => true
    | _ => false
  | _ => false
theorem isi_tup {K : PySem.W.Frag} {H : Hp} {x : V} (h : Kn H x) : ∃ t, TyX K H x t ∧ PySem.W.kitOne K t (.type "tuple") = some (isTupB H x) := by
  cases x with
  | non => exact ⟨_, .base .non, (show PySem.W.kitOne K _ _ = some false from kit_ty (by decide +kernel))⟩
  | bl b => exact ⟨_, .base (.bl _), (show PySem.W.kitOne K _ _ = some false from kit_ty (by decide +kernel))⟩
  | int i => exact ⟨_, .base (.int _), (show PySem.W.kitOne K _ _ = some false from kit_ty (by decide +kernel))⟩
  | str z => exact ⟨_, .base (.str _), (show PySem.W.kitOne K _ _ = some false from kit_ty (by decide +kernel))⟩
  | byt b => exact h.elim
  | flt b => exact h.elim
  | ty n => exact h.elim
  | ref a =>
    rcases h with ⟨xs, e⟩ | ⟨xs, e⟩ | ⟨xs, e⟩
    · rw [show isTupB H (.ref a) = true from tupT_tup e]
      exact ⟨_, .base (.tup e), (show PySem.W.kitOne K _ _ = some true from kit_ty (by decide +kernel))⟩
    · rw [show isTupB H (.ref a) = false by simp only [isTupB, tupT, e]]
      exact ⟨_, .base (.lst e), (show PySem.W.kitOne K _ _ = some false from kit_ty (by decide +kernel))⟩
    · rw [show isTupB H (.ref a) = false by simp only [isTupB, tupT, e]]
      exact ⟨_, .base (.dK e), (show PySem.W.kitOne K _ _ = some false from kit_ty (by decide +kernel))⟩
theorem isi_str {K : PySem.W.Frag} {H : Hp} {x : V} (h : Kn H x) : ∃ t, TyX K H x t ∧ PySem.W.kitOne K t (.type "str") = some (isStrB x) := by
  cases x with
  | non => exact ⟨_, .base .non, (show PySem.W.kitOne K _ _ = some false from kit_ty (by decide +kernel))⟩
  | bl b => exact ⟨_, .base (.bl _), (show PySem.W.kitOne K _ _ = some false from kit_ty (by decide +kernel))⟩
  | int i => exact ⟨_, .base (.int _), (show PySem.W.kitOne K _ _ = some false from kit_ty (by decide +kernel))⟩
  | str z => exact ⟨_, .base (.str _), (show PySem.W.kitOne K _ _ = some true from kit_ty (by decide +kernel))⟩
  | byt b => exact h.elim
  | flt b => exact h.elim
  | ty n => exact h.elim
  | ref a =>
    rcases h with ⟨xs, e⟩ | ⟨xs, e⟩ | ⟨xs, e⟩
    · exact ⟨_, .base (.tup e), (show PySem.W.kitOne K _ _ = some false from kit_ty (by decide +kernel))⟩
    · exact ⟨_, .base (.lst e), (show PySem.W.kitOne K _ _ = some false from kit_ty (by decide +kernel))⟩
    · exact ⟨_, .base (.dK e), (show PySem.W.kitOne K _ _ = some false from kit_ty (by decide +kernel))⟩
def blB (m : Int) : V → Bool
  | .int i => decide (0 ≤ i ∧ i < m)
  | _ => false
def sp_isbelow : Sp := fun vs H Q _ => ∃ (x : V) (m : Int), vs = [x, .int m] ∧ Kn H x ∧ Q (.bl (blB m x)) H
def sp_fits : Sp := fun vs H Q _ => ∃ (c m : Nat) (x : V) (L d : Nat), vs = [.str ⟨#[c]⟩, x, .int (m : Int)] ∧ Th H L d x ∧ L ≤ 1000 ∧ ∀ H', Same H H' → Q (.bl (fitB H m c x)) H'
def sp_isrow : Sp := fun vs H Q _ => ∃ (m : Nat) (x : V) (L d : Nat), vs = [x, .int (m : Int)] ∧ Th H L d x ∧ L ≤ 1000 ∧ ∀ H', Same H H' → Q (.bl (tupT (rowV H m) H x)) H'
def sp_isthread : Sp := fun vs H Q _ => ∃ (x : V) (L d : Nat), vs = [x] ∧ Th H L d x ∧ L ≤ 1000 ∧ ∀ H', Same H H' → Q (.bl (tupT (thrV H) H x)) H'
def sp_isprogram : Sp := fun vs H Q _ => ∃ (x : V) (L d : Nat), vs = [x] ∧ Th H L d x ∧ L ≤ 1000 ∧ ∀ H', Same H H' → Q (.bl (tupT (prgV H) H x)) H'
def All2 {α : Type} (R : V → α → Prop) : List V → List α → Prop
  | [], [] => True
  | v :: vs, x :: xs => R v x ∧ All2 R vs xs
  | _, _ => False
theorem All2.mono {α : Type} {R S : V → α → Prop} (h : ∀ v x, R v x → S v x) : ∀ {vs : List V} {xs : List α}, All2 R vs xs → All2 S vs xs
  | [], [], _ => trivial
  | _ :: _, _ :: _, ⟨a, b⟩ => ⟨h _ _ a, b.mono h⟩
  | [], _ :: _, z => z.elim
  | _ :: _, [], z => z.elim
theorem All2.len {α : Type} {R : V → α → Prop} : ∀ {vs : List V} {xs : List α}, All2 R vs xs → vs.length = xs.length
  | [], [], _ => rfl
  | _ :: _, _ :: _, ⟨_, b⟩ => by rw [List.length_cons, List.length_cons, b.len]
  | [], _ :: _, z => z.elim
  | _ :: _, [], z => z.elim
theorem All2.snoc {α : Type} {R : V → α → Prop} {v : V} {x : α} (hv : R v x) : ∀ {vs : List V} {xs : List α}, All2 R vs xs → All2 R (vs ++ [v]) (xs ++ [x])
  | [], [], _ => ⟨hv, trivial⟩
  | _ :: _, _ :: _, ⟨a, b⟩ => ⟨a, b.snoc hv⟩
  | [], _ :: _, z => z.elim
  | _ :: _, [], z => z.elim
theorem All2.app {α : Type} {R : V → α → Prop} : ∀ {vs us : List V} {xs ys : List α}, All2 R vs xs → All2 R us ys → All2 R (vs ++ us) (xs ++ ys)
  | [], _, [], _, _, h => h
  | _ :: _, _, _ :: _, _, ⟨a, b⟩, h => ⟨a, b.app h⟩
  | [], _, _ :: _, _, z, _ => z.elim
  | _ :: _, _, [], _, z, _ => z.elim
theorem All2.take {α : Type} {R : V → α → Prop} : ∀ {vs : List V} {xs : List α} (n : Nat), All2 R vs xs → All2 R (vs.take n) (xs.take n)
  | [], [], n, _ => by
    rw [List.take_nil, List.take_nil]
    trivial
  | _ :: _, _ :: _, 0, _ => trivial
  | _ :: _, _ :: _, n + 1, ⟨a, b⟩ => ⟨a, b.take n⟩
  | [], _ :: _, _, z => z.elim
  | _ :: _, [], _, z => z.elim
theorem All2.get {α : Type} {R : V → α → Prop} : ∀ {vs : List V} {xs : List α} {i : Nat} {v : V}, All2 R vs xs → vs[i]? = some v → ∃ x, xs[i]? = some x ∧ R v x
  | [], [], i, v, _, e => by simp at e
  | a :: _, x :: _, 0, v, ⟨h, _⟩, e => by
    cases (show some a = some v from e)
    exact ⟨x, rfl, h⟩
  | _ :: _, _ :: _, i + 1, v, ⟨_, b⟩, e => b.get (i := i) e
  | [], _ :: _, _, _, z, _ => z.elim
  | _ :: _, [], _, _, z, _ => z.elim
def FlatN : V → Prop
  | .non => True
  | .bl _ => True
  | .int _ => True
  | .str z => z.length ≤ 8000000
  | _ => False
def rStrV : List V → Hp → VK → Prop := fun xs H Q => ∃ x, xs = [x] ∧ Flat x ∧ Q (.str (shV x)) H
theorem call_strV {X : Cx} : CallR X (.type "str") rStrV := by
  intro pins s σ H xs us Q I r h
  obtain ⟨x, rfl, hf, q⟩ := h
  cases x with
  | int i => exact call_str_int pins s σ H _ us Q I r ⟨i, rfl, hf, q⟩
  | str z => exact SkE.call_str_str pins s σ H _ us Q I r ⟨z, rfl, q⟩
  | non => exact hf.elim
  | bl b => exact hf.elim
  | byt b => exact hf.elim
  | flt b => exact hf.elim
  | ref a => exact hf.elim
  | ty n => exact hf.elim
def sp_wholeof : Sp := fun vs H Q _ => ∃ z : Str, vs = [.str z] ∧ z.length ≤ 8000000 ∧ Q (ov (wholeL (cp z))) H
def sp_worthof : Sp := fun vs H Q _ => ∃ z : Str, vs = [.str z] ∧ z.length ≤ 8000000 ∧ Q (ov (worthL (cp z))) H
def sp_itemof : Sp := fun vs H Q _ => ∃ z : Str, vs = [.str z] ∧ z.length ≤ 8000000 ∧ Q (itV z) H
def sp_showexpression (K : PySem.W.Frag) : Sp := fun vs H Q _ => ∃ (t : Addr) (xs : List V), vs = [.ref t] ∧ SqT K H t xs ∧ (∀ x ∈ xs, Flat x) ∧ xs.length ≤ 1000 ∧ ((xs.map shV).map (·.length)).sum + xs.length ≤ 1000000 ∧
  ∀ H', Same H H' → Q (.str (Txt.join " " (xs.map shV))) H'
def sp_expressionof : Sp := fun vs H Q _ => ∃ z : Str, vs = [.str z] ∧ z.length ≤ 7900000 ∧
  (∀ (H' : Hp) (t : Addr), exV ((Txt.split z " ").map itV) = true → Same H H' → H t = none → H' t = some (.tup ((Txt.split z " ").map itV)) → Q (.ref t) H') ∧
  (∀ H' : Hp, exV ((Txt.split z " ").map itV) = false → Same H H' → Q .non H')
theorem split_len (z : Str) : (Txt.split z " ").length ≤ z.length + 1 ∧ ∀ w ∈ Txt.split z " ", w.length ≤ z.length := by
  have h := TL.split_spl z " " (by rw [show TL.tl (" " : Str) = [32] from cp_blank]; simp) (TL.kind_ok (by decide +kernel))
  rw [show TL.tl (" " : Str) = [32] from cp_blank] at h
  have key : ∀ (l acc : List Nat), (TL.spl [32] 0 acc l).length ≤ l.length + 1 ∧ ∀ w ∈ TL.spl [32] 0 acc l, w.length ≤ acc.length + l.length := by
    intro l
    induction l with
    | nil =>
      intro acc
      rw [TL.spl_nil]
      refine ⟨Nat.le_refl _, fun w hw => ?_⟩
      rw [List.mem_singleton] at hw
      rw [hw]
      exact Nat.le_refl _
    | cons c r ih =>
      intro acc
      by_cases hc : TL.pre [32] (c :: r) = true
      · rw [TL.spl_hit hc]
        obtain ⟨h1, h2⟩ := ih []
        refine ⟨by rw [List.length_cons, List.length_cons]; exact Nat.succ_le_succ h1, fun w hw => ?_⟩
        rcases List.mem_cons.mp hw with rfl | hw
        · omega
        · have := h2 w hw
          rw [List.length_nil] at this
          rw [List.length_cons]
          omega
      · rw [TL.spl_miss (by simpa using hc)]
        obtain ⟨h1, h2⟩ := ih (acc ++ [c])
        refine ⟨by rw [List.length_cons]; omega, fun w hw => ?_⟩
        have := h2 w hw
        rw [List.length_append, List.length_singleton] at this
        rw [List.length_cons]
        omega
  obtain ⟨h1, h2⟩ := key (cp z) []
  have e1 : (Txt.split z " ").length = (TL.spl [32] 0 [] (cp z)).length := by
    rw [← h, List.length_map]
  refine ⟨by rw [e1, cp_len]; exact h1, fun w hw => ?_⟩
  have hm : TL.tl w ∈ TL.spl [32] 0 [] (cp z) := by
    rw [← h]
    exact List.mem_map_of_mem hw
  have := h2 _ hm
  rw [List.length_nil] at this
  rw [cp_len, cp_len]
  show (TL.tl w).length ≤ _
  omega
theorem FlatN.kn {H : Hp} {x : V} (h : FlatN x) : Kn H x := by
  cases x with
  | ref a => exact h.elim
  | non => exact h
  | bl b => exact h
  | int i => exact h
  | str z => exact h
  | byt b => exact h
  | flt b => exact h
  | ty n => exact h
/-! Items as data, and shown. -/
def Im.toD : Im → PyData
  | .wo a => .int a
  | .re k => .str (lt k)
  | .si i => .str (nm i)
theorem dpIm {K : PySem.W.Frag} {H : Hp} : ∀ its : List Im, DpAll K H (its.map Im.toV) (its.map Im.toD)
  | [] => .nil
  | .wo a :: r => .cons (.int a) (dpIm r)
  | .re k :: r => .cons (.str _) (dpIm r)
  | .si i :: r => .cons (.str _) (dpIm r)
theorem im_shown {m : Im} (h : m.ok) : m.toD.shown.length ≤ 20 ∧ m.toD.showable = true ∧ m.toD.hasDict = false ∧ m.toD.depth = 0 := by
  cases m with
  | wo a =>
    have h2 : W a := h
    refine ⟨?_, decide_eq_true (few_W h2), rfl, rfl⟩
    show (Str.ofString (toString a)).length ≤ 20
    have := int_text_length_le10 (a := a) (k := 5) (by decide) (by unfold W at h2; omega)
    have e : (Str.ofString (toString a)).length = (toString a).length := by
      rw [cp_len, show cp (Str.ofString (toString a)) = (toString a).toList.map Char.toNat from TL.tl_ofString _, List.length_map]
      rfl
    rw [e]
    omega
  | re k =>
    have e : ∀ k, k < 16 → (reprText (lt k)).length ≤ 20 := by decide +kernel
    exact ⟨e k h, rfl, rfl, rfl⟩
  | si i =>
    have e : ∀ i, i < 9 → (reprText (nm i)).length ≤ 20 := by decide +kernel
    exact ⟨e i h, rfl, rfl, rfl⟩
theorem ims_shown : ∀ {its : List Im}, (∀ m ∈ its, m.ok) → (∀ t ∈ PyData.shownAll (its.map Im.toD), t.length ≤ 20) ∧ (PyData.shownAll (its.map Im.toD)).length = its.length ∧ PyData.showableAll (its.map Im.toD) = true ∧ PyData.hasDictAll (its.map Im.toD) = false ∧ PyData.depthAll (its.map Im.toD) = 0
  | [], _ => ⟨(fun t h => nomatch h), rfl, rfl, rfl, rfl⟩
  | m :: r, h => by
    obtain ⟨a1, a2, a3, a4⟩ := im_shown (h m List.mem_cons_self)
    obtain ⟨b1, b2, b3, b4, b5⟩ := ims_shown (its := r) (fun x hx => h x (List.mem_cons_of_mem _ hx))
    refine ⟨fun t ht => ?_, ?_, ?_, ?_, ?_⟩
    · rcases List.mem_cons.mp (show t ∈ m.toD.shown :: PyData.shownAll (r.map Im.toD) from ht) with rfl | ht
      · exact a1
      · exact b1 t ht
    · show (PyData.shownAll (r.map Im.toD)).length + 1 = r.length + 1
      rw [b2]
    · show (m.toD.showable && PyData.showableAll (r.map Im.toD)) = true
      rw [a2, b3]
      rfl
    · show (m.toD.hasDict || PyData.hasDictAll (r.map Im.toD)) = false
      rw [a3, b4]
      rfl
    · show max m.toD.depth (PyData.depthAll (r.map Im.toD)) = 0
      rw [a4, b5]
      rfl
theorem join_le : ∀ (n : Nat) (ts : List Str), (∀ t ∈ ts, t.length ≤ n) → (Str.join ", " ts).length ≤ (n + 2) * ts.length
  | n, [], _ => by
    show (Str.empty).length ≤ _
    rw [show (Str.empty).length = 0 from rfl]
    omega
  | n, [x], h => by
    show x.length ≤ (n + 2) * 1
    have := h x List.mem_cons_self
    omega
  | n, x :: y :: r, h => by
    have ih := join_le n (y :: r) (fun t ht => h t (List.mem_cons_of_mem _ ht))
    have hx := h x List.mem_cons_self
    show (x ++ ", " ++ Str.join ", " (y :: r)).length ≤ _
    have e : ∀ a b : Str, (a ++ b).length = a.length + b.length := fun a b => by
      rw [cp_len, show cp (a ++ b) = cp a ++ cp b from TL.tl_append a b, List.length_append, ← cp_len, ← cp_len]
    rw [e, e, show ((", " : Str)).length = 2 by decide +kernel]
    rw [List.length_cons] at ih ⊢
    rw [List.length_cons]
    rw [Nat.mul_succ] at ih ⊢
    rw [Nat.mul_succ]
    omega
theorem tup_show {its : List Im} (h : ∀ m ∈ its, m.ok) (hl : its.length ≤ 10000) : ShowOk (.tuple (its.map Im.toD)) := by
  obtain ⟨b1, b2, b3, b4, b5⟩ := ims_shown h
  refine ⟨b3, b4, ?_, ?_⟩
  · show PyData.depthAll (its.map Im.toD) + 1 ≤ 60
    rw [b5]
    decide
  · show (tupleText (PyData.shownAll (its.map Im.toD))).length ≤ sizeLine
    have hj := join_le 20 _ b1
    rw [b2] at hj
    have e : ∀ a b : Str, (a ++ b).length = a.length + b.length := fun a b => by
      rw [cp_len, show cp (a ++ b) = cp a ++ cp b from TL.tl_append a b, List.length_append, ← cp_len, ← cp_len]
    unfold tupleText
    rw [e, e]
    have h1 : (("(" : Str)).length = 1 := by decide +kernel
    have h2 : ((if (PyData.shownAll (its.map Im.toD)).length == 1 then ",)" else ")" : String) : Str).length ≤ 2 := by
      split <;> decide +kernel
    rw [h1]
    exact Nat.le_trans (show _ ≤ 1000000 by omega) (by decide)
/-! Items and things. -/
theorem im_flags {m : Im} (h : m.ok) : sgV m.toV = m.sgn ∧ (woV m.toV || ltV m.toV || sgV m.toV) = true ∧ itV (shV m.toV) = m.toV ∧ Flat m.toV ∧ FlatN m.toV ∧ 32 ∉ cp (shV m.toV) ∧ (shV m.toV).length ≤ 10 := by
  cases m with
  | wo a =>
    have h2 : W a := h
    refine ⟨rfl, ?_, itV_int h2, few_W h2, trivial, ?_, ?_⟩
    · have e : woV (.int a) = true := decide_eq_true h2
      show (woV (.int a) || _ || _) = true
      rw [e]
      rfl
    · show 32 ∉ cp (Str.ofString (toString a))
      cases a with
      | ofNat n =>
        rw [show (Int.ofNat n) = ((n : Nat) : Int) from rfl, cp_nat]
        exact TL.numL_free (.inl (by decide))
      | negSucc n =>
        rw [cp_neg]
        intro hm
        rcases List.mem_cons.mp hm with e | hm
        · exact absurd e (by decide)
        · exact TL.numL_free (.inl (by decide)) hm
    · show (Str.ofString (toString a)).length ≤ 10
      have := int_text_length_le10 (a := a) (k := 5) (by decide) (by unfold W at h2; omega)
      have e : (Str.ofString (toString a)).length = (toString a).length := by
        rw [cp_len, show cp (Str.ofString (toString a)) = (toString a).toList.map Char.toNat from TL.tl_ofString _, List.length_map]
        rfl
      rw [e]
      omega
  | re k =>
    have e1 : ∀ k, k < 16 → 32 ∉ cp (lt k) ∧ (lt k).length ≤ 10 := by decide +kernel
    have e2 : (ltV (.str (lt k))) = true := lt_lt k h
    refine ⟨sg_lt k h, ?_, itV_lt k h, ?_, ?_, (e1 k h).1, (e1 k h).2⟩
    · show (false || ltV (.str (lt k)) || _) = true
      rw [e2]
      rfl
    · show (lt k).length ≤ 8000000
      have := (e1 k h).2
      omega
    · show (lt k).length ≤ 8000000
      have := (e1 k h).2
      omega
  | si i =>
    have e1 : ∀ i, i < 9 → 32 ∉ cp (nm i) ∧ (nm i).length ≤ 10 := by decide +kernel
    refine ⟨sg_nm i h, ?_, itV_sg i h, ?_, ?_, (e1 i h).1, (e1 i h).2⟩
    · show (false || _ || sgV (.str (nm i))) = true
      rw [sg_nm i h, Bool.or_true]
    · show (nm i).length ≤ 8000000
      have := (e1 i h).2
      omega
    · show (nm i).length ≤ 8000000
      have := (e1 i h).2
      omega
theorem htV_map : ∀ (its : List Im) (h : Nat), (∀ m ∈ its, m.ok) → htV h (its.map Im.toV) = ht h its
  | [], _, _ => rfl
  | m :: r, h, hok => by
    show (if sgV m.toV = true then (if 2 ≤ h then htV (h - 1) (r.map Im.toV) else none) else htV (h + 1) (r.map Im.toV)) = (if m.sgn = true then (if 2 ≤ h then ht (h - 1) r else none) else ht (h + 1) r)
    have hr : ∀ x ∈ r, x.ok := fun x hx => hok x (List.mem_cons_of_mem _ hx)
    rw [(im_flags (hok m List.mem_cons_self)).1, htV_map r (h - 1) hr, htV_map r (h + 1) hr]
theorem exV_map {its : List Im} (hok : ∀ m ∈ its, m.ok) (hh : ht 0 its = some 1) : exV (its.map Im.toV) = decide (its.length ≤ 15) := by
  unfold exV
  have e : (its.map Im.toV).all (fun x => woV x || ltV x || sgV x) = true := by
    rw [List.all_eq_true]
    intro x hx
    obtain ⟨m, hm, rfl⟩ := List.mem_map.mp hx
    exact (im_flags (hok m hm)).2.1
  rw [e, htV_map its 0 hok, hh, List.length_map, decide_eq_true rfl, Bool.and_true, Bool.and_true]
/-! Texts of items. -/
def showI (its : List Im) : Str := Txt.join " " ((its.map Im.toV).map shV)
theorem show_back {its : List Im} (hok : ∀ m ∈ its, m.ok) (hne : its ≠ []) : (Txt.split (showI its) " ").map itV = its.map Im.toV := by
  unfold showI
  rw [TL.split_join (show TL.tl (" " : Str) = 32 :: [] from cp_blank) (by decide +kernel) (by simpa using hne), List.map_map, List.map_map]
  · refine List.map_congr_left fun m hm => ?_
    exact (im_flags (hok m hm)).2.2.1
  · intro p hp
    rw [List.map_map] at hp
    obtain ⟨m, hm, rfl⟩ := List.mem_map.mp hp
    exact (im_flags (hok m hm)).2.2.2.2.2.1
theorem joinL_app : ∀ (S : List Nat) (a b : List (List Nat)), a ≠ [] → b ≠ [] → TL.joinL S (a ++ b) = TL.joinL S a ++ (S ++ TL.joinL S b)
  | S, [], b, h, _ => absurd rfl h
  | S, [x], [], _, h => absurd rfl h
  | S, [x], y :: r, _, _ => rfl
  | S, x :: z :: r, b, _, h => by
    show x ++ (S ++ TL.joinL S ((z :: r) ++ b)) = (x ++ (S ++ TL.joinL S (z :: r))) ++ (S ++ TL.joinL S b)
    rw [joinL_app S (z :: r) b (by simp) h]
    simp only [List.append_assoc]
theorem cp_join (ws : List Str) : cp (Txt.join " " ws) = TL.joinL [32] (ws.map TL.tl) := by
  show TL.tl _ = _
  rw [TL.join_eq, TL.tl_join, show TL.tl (" " : Str) = [32] from cp_blank]
theorem show_app {a b : List Im} (ha : a ≠ []) (hb : b ≠ []) : showI (a ++ b) = showI a ++ " " ++ showI b := by
  apply cp_ext
  show TL.tl _ = TL.tl _
  rw [TL.tl_append, TL.tl_append]
  show cp (showI (a ++ b)) = cp (showI a) ++ cp (" " : Str) ++ cp (showI b)
  unfold showI
  rw [cp_join, cp_join, cp_join, cp_blank, List.map_append, List.map_append, List.map_append, joinL_app _ _ _ (by simpa using ha) (by simpa using hb), List.append_assoc]
theorem joinL_len : ∀ (ps : List (List Nat)), (∀ p ∈ ps, p.length ≤ 10) → (TL.joinL [32] ps).length ≤ 11 * ps.length
  | [], _ => Nat.zero_le _
  | [p], h => by
    show p.length ≤ 11 * 1
    have := h p List.mem_cons_self
    omega
  | p :: q :: r, h => by
    have ih := joinL_len (q :: r) (fun x hx => h x (List.mem_cons_of_mem _ hx))
    have := h p List.mem_cons_self
    show (p ++ ([32] ++ TL.joinL [32] (q :: r))).length ≤ _
    rw [List.length_append, List.length_append, List.length_singleton]
    rw [List.length_cons] at ih ⊢
    rw [List.length_cons]
    omega
theorem show_len {its : List Im} (hok : ∀ m ∈ its, m.ok) : (showI its).length ≤ 11 * its.length := by
  rw [cp_len]
  unfold showI
  rw [cp_join]
  refine Nat.le_trans (joinL_len _ fun p hp => ?_) (by rw [List.length_map, List.length_map, List.length_map]; exact Nat.le_refl _)
  rw [List.map_map, List.map_map] at hp
  obtain ⟨m, hm, rfl⟩ := List.mem_map.mp hp
  have := (im_flags (hok m hm)).2.2.2.2.2.2
  rw [cp_len] at this
  exact this
theorem sum_len {its : List Im} (hok : ∀ m ∈ its, m.ok) : (((its.map Im.toV).map shV).map (·.length)).sum ≤ 10 * its.length := by
  induction its with
  | nil => exact Nat.zero_le _
  | cons m r ih =>
    have := ih (fun x hx => hok x (List.mem_cons_of_mem _ hx))
    have h1 := (im_flags (hok m List.mem_cons_self)).2.2.2.2.2.2
    rw [List.map_cons, List.map_cons, List.map_cons, List.sum_cons, List.length_cons]
    omega
/-! Reckoning put together. -/
theorem run_append (ρ : Nat → Int) : ∀ (l r : List Im) (rp : List Int), run ρ rp (l ++ r) = match run ρ rp l with
    | some rp' => run ρ rp' r
    | none => none
  | [], r, rp => rfl
  | m :: l, r, rp => by
    show (match step ρ rp m with | some rp' => run ρ rp' (l ++ r) | none => none) = match (match step ρ rp m with | some rp' => run ρ rp' l | none => none) with
      | some rp' => run ρ rp' r
      | none => none
    cases step ρ rp m with
    | none => rfl
    | some rp' => exact run_append ρ l r rp'
theorem run_base (ρ : Nat → Int) (b : List Int) : ∀ (l : List Im) (rp rp' : List Int), run ρ rp l = some rp' → run ρ (rp ++ b) l = some (rp' ++ b)
  | [], rp, rp', h => by
    rw [show rp = rp' from Option.some.inj h]
    rfl
  | .wo a :: l, rp, rp', h => run_base ρ b l (a :: rp) rp' h
  | .re k :: l, rp, rp', h => run_base ρ b l (ρ k :: rp) rp' h
  | .si i :: l, y :: x :: r, rp', h => run_base ρ b l (br (sg i x y) :: r) rp' h
  | .si i :: l, [x], rp', h => by cases h
  | .si i :: l, [], rp', h => by cases h
theorem run_both {ρ : Nat → Int} {e f : List Im} {x y : Int} (he : run ρ [] e = some [x]) (hf : run ρ [] f = some [y]) (i : Nat) : run ρ [] (e ++ f ++ [.si i]) = some [br (sg i x y)] := by
  rw [run_append, run_append, he]
  show (match run ρ [x] f with | some rp' => run ρ rp' [.si i] | none => none) = _
  have := run_base ρ [x] f [] [y] hf
  rw [show ([] : List Int) ++ [x] = [x] from rfl] at this
  rw [this]
  rfl
theorem ht_app : ∀ (l r : List Im) (h : Nat), ht h (l ++ r) = match ht h l with
    | some g => ht g r
    | none => none
  | [], r, h => rfl
  | x :: l, r, h => by
    show (if x.sgn = true then (if 2 ≤ h then ht (h - 1) (l ++ r) else none) else ht (h + 1) (l ++ r)) = match (if x.sgn = true then (if 2 ≤ h then ht (h - 1) l else none) else ht (h + 1) l) with
      | some g => ht g r
      | none => none
    rw [ht_app l r (h - 1), ht_app l r (h + 1)]
    split
    · split <;> rfl
    · rfl
theorem ht_base : ∀ (l : List Im) (h g b : Nat), ht h l = some g → ht (h + b) l = some (g + b)
  | [], h, g, b, e => by
    rw [show h = g from Option.some.inj e]
    rfl
  | x :: l, h, g, b, e => by
    have e2 : (if x.sgn = true then (if 2 ≤ h then ht (h - 1) l else none) else ht (h + 1) l) = some g := e
    show (if x.sgn = true then (if 2 ≤ h + b then ht (h + b - 1) l else none) else ht (h + b + 1) l) = some (g + b)
    cases hx : x.sgn with
    | true =>
      rw [hx, if_pos rfl] at e2
      by_cases hh : 2 ≤ h
      · rw [if_pos hh] at e2
        rw [if_pos rfl, if_pos (by omega), show h + b - 1 = h - 1 + b by omega]
        exact ht_base l (h - 1) g b e2
      · rw [if_neg hh] at e2
        cases e2
    | false =>
      rw [hx, if_neg (by decide)] at e2
      rw [if_neg (by decide), show h + b + 1 = h + 1 + b by omega]
      exact ht_base l (h + 1) g b e2
theorem both_ok {e f : List Im} (he : Expr1 e) (hf : Expr1 f) {i : Nat} (hi : i < 9) : Expr1 (e ++ f ++ [.si i]) := by
  refine ⟨fun m hm => ?_, ?_⟩
  · rcases List.mem_append.mp hm with hm | hm
    · rcases List.mem_append.mp hm with hm | hm
      · exact he.ok m hm
      · exact hf.ok m hm
    · rw [List.mem_singleton] at hm
      rw [hm]
      exact hi
  · rw [ht_app, ht_app, he.ht]
    show (match ht 1 f with | some g => ht g [.si i] | none => none) = _
    have := ht_base f 0 1 1 hf.ht
    rw [show (0 : Nat) + 1 = 1 from rfl] at this
    rw [this]
    rfl
/-- the same values, item by item -/
def val (ρ : Nat → Int) : Im → Option Int
  | .wo a => some a
  | .re k => some (ρ k)
  | .si _ => none
theorem step_val {ρ ρ' : Nat → Int} {m m' : Im} (rp : List Int) (h : m = m' ∧ m.sgn = true ∨ (m.sgn = false ∧ m'.sgn = false ∧ val ρ m = val ρ' m')) : step ρ rp m = step ρ' rp m' := by
  rcases h with ⟨rfl, h⟩ | ⟨h1, h2, h3⟩
  · cases m with
    | wo a => cases h
    | re k => cases h
    | si i => rfl
  · cases m with
    | si i => cases h1
    | wo a =>
      cases m' with
      | si i => cases h2
      | wo b =>
        obtain rfl : a = b := Option.some.inj h3
        rfl
      | re k =>
        have : a = ρ' k := Option.some.inj h3
        show some (a :: rp) = some (ρ' k :: rp)
        rw [this]
    | re j =>
      cases m' with
      | si i => cases h2
      | wo b =>
        have : ρ j = b := Option.some.inj h3
        show some (ρ j :: rp) = some (b :: rp)
        rw [this]
      | re k =>
        have : ρ j = ρ' k := Option.some.inj h3
        show some (ρ j :: rp) = some (ρ' k :: rp)
        rw [this]
theorem run_same {ρ ρ' : Nat → Int} : ∀ (l : List Im) (rp : List Int), (∀ m ∈ l, m.sgn = true ∨ val ρ m = val ρ' m) → run ρ rp l = run ρ' rp l
  | [], rp, _ => rfl
  | m :: l, rp, h => by
    have e : step ρ rp m = step ρ' rp m := by
      apply step_val
      rcases h m List.mem_cons_self with g | g
      · exact .inl ⟨rfl, g⟩
      · cases hs : m.sgn with
        | true => exact .inl ⟨rfl, rfl⟩
        | false => exact .inr ⟨rfl, rfl, g⟩
    show (match step ρ rp m with | some rp' => run ρ rp' l | none => none) = (match step ρ' rp m with | some rp' => run ρ' rp' l | none => none)
    rw [e]
    cases step ρ' rp m with
    | none => rfl
    | some rp' => exact run_same l rp' (fun x hx => h x (List.mem_cons_of_mem _ hx))
theorem run_put {ρ ρ' : Nat → Int} {l r : List Im} {m m' : Im} (hl : ∀ x ∈ l, x.sgn = true ∨ val ρ x = val ρ' x) (hr : ∀ x ∈ r, x.sgn = true ∨ val ρ x = val ρ' x) (h1 : m.sgn = false) (h2 : m'.sgn = false) (hv : val ρ m = val ρ' m') :
    run ρ [] (l ++ m :: r) = run ρ' [] (l ++ m' :: r) := by
  rw [run_append, run_append, run_same l [] hl]
  cases run ρ' [] l with
  | none => rfl
  | some rp =>
    show (match step ρ rp m with | some rp' => run ρ rp' r | none => none) = (match step ρ' rp m' with | some rp' => run ρ' rp' r | none => none)
    rw [step_val rp (.inr ⟨h1, h2, hv⟩)]
    cases step ρ' rp m' with
    | none => rfl
    | some rp' => exact run_same r rp' hr
/-! Lists of letters as data. -/
theorem dpStrs {K : PySem.W.Frag} {H : Hp} : ∀ ks : List Nat, DpAll K H (ks.map (fun k => V.str (lt k))) (ks.map (fun k => PyData.str (lt k)))
  | [] => .nil
  | k :: r => .cons (.str _) (dpStrs r)
theorem lt_ok : ∀ k, k < 16 → PyData.strOk (lt k) = true := by decide +kernel
theorem shStrs : ∀ {ks : List Nat}, (∀ k ∈ ks, k < 16) → PyData.canLayAll0 (ks.map (fun k => PyData.str (lt k))) = true ∧ PyData.depthAll (ks.map (fun k => PyData.str (lt k))) = 0
  | [], _ => ⟨rfl, rfl⟩
  | k :: r, h => by
    obtain ⟨h1, h2⟩ := shStrs (ks := r) (fun x hx => h x (List.mem_cons_of_mem _ hx))
    refine ⟨?_, ?_⟩
    · show (PyData.strOk (lt k) && PyData.canLayAll0 (r.map (fun k => PyData.str (lt k)))) = true
      rw [lt_ok k (h k List.mem_cons_self), h1]
      rfl
    · show max 0 (PyData.depthAll (r.map (fun k => PyData.str (lt k)))) = 0
      rw [h2]
      rfl
theorem shapedStrs {ks : List Nat} (h : ∀ k ∈ ks, k < 16) : SeqAt.shaped (.list (ks.map (fun k => PyData.str (lt k)))) = true := by
  obtain ⟨h1, h2⟩ := shStrs h
  show (PyData.canLayAll0 (ks.map (fun k => PyData.str (lt k))) && decide (PyData.depthAll (ks.map (fun k => PyData.str (lt k))) + 1 ≤ 64)) = true
  rw [h1, h2]
  rfl
theorem lt_inj {j k : Nat} (h : lt j = lt k) : j = k := by
  have h2 : cp (lt j) = cp (lt k) := by rw [h]
  have h3 : [97 + j] = [97 + k] := h2
  have := (List.cons.inj h3).1
  omega
theorem rho_put (kvs : List (Key × V)) (k : Nat) (a : Int) (j : Nat) : rho (putK kvs (.inr (lt k)) (.int a)) j = if j = k then a else rho kvs j := by
  unfold rho
  rw [valV_put]
  by_cases h : j = k
  · subst h
    rw [if_pos rfl, if_pos rfl]
  · rw [if_neg (fun z => h (lt_inj (Sum.inr.inj z))), if_neg h]
theorem in_of {k : Nat} {its : List Im} (h : inV (.str (lt k)) (its.map Im.toV) = false) : ∀ m ∈ its, m ≠ .re k := by
  rintro m hm rfl
  have : inV (.str (lt k)) (its.map Im.toV) = true := by
    unfold inV
    rw [List.any_eq_true]
    exact ⟨_, List.mem_map_of_mem hm, by simp [Im.toV, eqV]⟩
  rw [h] at this
  cases this
theorem lt_a : ("a" : Str) = lt 0 := by decide +kernel
theorem flat_im {its : List Im} : (its.map Im.toV).all flatV = true := by
  rw [List.all_eq_true]
  intro x hx
  obtain ⟨m, hm, rfl⟩ := List.mem_map.mp hx
  cases m with
  | wo a => rfl
  | re k => rfl
  | si i => rfl
theorem len_app (a b : Str) : (a ++ b).length = a.length + b.length := by
  rw [cp_len, show cp (a ++ b) = cp a ++ cp b from TL.tl_append a b, List.length_append, ← cp_len, ← cp_len]
theorem put_val {kvs : List (Key × V)} {k : Nat} {a : Int} {its : List Im} (h : ∀ m ∈ its, m ≠ .re k) : ∀ m ∈ its, m.sgn = true ∨ val (rho kvs) m = val (rho (putK kvs (.inr (lt k)) (.int a))) m := by
  intro m hm
  cases m with
  | wo x => exact .inr rfl
  | si i => exact .inl rfl
  | re j =>
    refine .inr ?_
    have : j ≠ k := fun z => h _ hm (by rw [z])
    show some (rho kvs j) = some (rho (putK kvs (.inr (lt k)) (.int a)) j)
    rw [rho_put, if_neg this]
theorem letter_at : ∀ i, i < 16 → ("abcdefghijklmnop" : Str).cps[i]? = some (97 + i) := by decide +kernel
theorem letters_size : ("abcdefghijklmnop" : Str).cps.size = 16 := by decide +kernel
theorem a_no_sign : ∀ i, i < 9 → nm i ≠ ("a" : Str) := by decide +kernel
theorem show_mark (i : Nat) : showI [.si i] = nm i := by
  apply cp_ext
  unfold showI
  rw [cp_join]
  rfl
theorem nm_short : ∀ i, i < 9 → (nm i).length ≤ 1 := by decide +kernel
/-! Rows, threads, programs that are drawn. -/
theorem exV_facts {xs : List V} (h : exV xs = true) : xs.length ≤ 15 ∧ (∀ x ∈ xs, okV x = true) ∧ xs ≠ [] := by
  unfold exV at h
  simp only [Bool.and_eq_true, decide_eq_true_eq, List.all_eq_true] at h
  obtain ⟨⟨h1, h2⟩, h3⟩ := h
  refine ⟨h1, fun x hx => ?_, fun e => ?_⟩
  · have := h2 x hx
    unfold okV
    simpa using this
  · rw [e] at h3
    cases h3
theorem ok_flat {H : Hp} {L d : Nat} {x : V} (h : okV x = true) : Flat x ∧ (shV x).length ≤ 10 ∧ Th H L d x := by
  cases x with
  | int a =>
    have hw : W a := by
      unfold okV at h
      have h2 : -32768 ≤ a ∧ a ≤ 32767 := by simpa [woV, ltV, sgV] using h
      exact h2
    refine ⟨few_W hw, ?_, Low.th (x := .int a) trivial d⟩
    have hm := im_flags (m := .wo a) hw
    exact hm.2.2.2.2.2.2
  | str z =>
    have h1 : z.length = 1 := by
      refine Decidable.byContradiction fun e => ?_
      unfold okV at h
      rw [lt_len e, sg_len e] at h
      simp [woV] at h
    refine ⟨?_, ?_, thS (by omega)⟩
    · show z.length ≤ _
      omega
    · show z.length ≤ 10
      omega
  | non => cases h
  | bl b => cases h
  | ref a => cases h
  | byt b => cases h
  | flt b => cases h
  | ty n => cases h
inductive Tg where
  | re (k : Nat)
  | ex (xs : List V)
  | kk (n : Nat)
def TgV (H : Hp) (v : V) : Tg → Prop
  | .re k => v = .str (lt k)
  | .ex xs => ∃ t, v = .ref t ∧ H t = some (.tup xs)
  | .kk n => v = .int (n : Int)
def TgOk (m c : Nat) : Tg → Prop
  | .re k => c = 114 ∧ k < 16
  | .ex xs => c = 101 ∧ exV xs = true
  | .kk n => c = 107 ∧ n ≤ m
def TgsOk (m : Nat) : List Nat → List Tg → Prop
  | [], [] => True
  | c :: cs, t :: ts => TgOk m c t ∧ TgsOk m cs ts
  | _, _ => False
structure Rw where
  word : Str
  tgs : List Tg
def Rw.ok (m : Nat) (r : Rw) : Prop := r.word ∈ wds ∧ TgsOk m (cp (shp r.word)) r.tgs
def RwV (H : Hp) (v : V) (r : Rw) : Prop := ∃ t vs, v = .ref t ∧ H t = some (.tup (.str r.word :: vs)) ∧ All2 (TgV H) vs r.tgs
def ThV (H : Hp) (v : V) (rs : List Rw) : Prop := ∃ t vs, v = .ref t ∧ H t = some (.tup vs) ∧ All2 (RwV H) vs rs
def PrV (H : Hp) (v : V) (ps : List (List Rw)) : Prop := ∃ t vs, v = .ref t ∧ H t = some (.tup vs) ∧ All2 (ThV H) vs ps
def ThOk (rs : List Rw) : Prop := rs.length ≤ 40 ∧ ∀ r ∈ rs, r.ok rs.length
def PrOk (ps : List (List Rw)) : Prop := 1 ≤ ps.length ∧ ps.length ≤ 4 ∧ ∀ t ∈ ps, ThOk t
def TKp (H H' : Hp) : Prop := ∀ b xs, H b = some (.tup xs) → H' b = some (.tup xs)
theorem TKp.same {H H' : Hp} (s : Same H H') : TKp H H' := fun b _ h => s b _ h
theorem TKp.trans {H H1 H2 : Hp} (a : TKp H H1) (b : TKp H1 H2) : TKp H H2 := fun x xs h => b x xs (a x xs h)
theorem TKp.updL {H : Hp} {q : Addr} {xs : List V} {o : HO} (e : H q = some (.lst xs)) : TKp H (upd H q o) := fun b ys h => by
  rw [upd_ne (ne_of h e (fun z => nomatch z))]
  exact h
theorem Pen.tkp {H H' : Hp} {p c : Addr} {ns : List Int} {n : Int} (h : Pen H p c ns n) (k : Kp p H H') : TKp H H' := by
  obtain ⟨r, h1, _⟩ := h
  exact fun b ys e => k b _ (ne_of e h1 (fun z => nomatch z)) e
theorem TgV.keep {H H' : Hp} (k : TKp H H') {v : V} : ∀ {t : Tg}, TgV H v t → TgV H' v t
  | .re _, h => h
  | .ex _, ⟨t, e, h⟩ => ⟨t, e, k _ _ h⟩
  | .kk _, h => h
theorem RwV.keep {H H' : Hp} (k : TKp H H') {v : V} {r : Rw} (h : RwV H v r) : RwV H' v r := by
  obtain ⟨t, vs, e, h1, h2⟩ := h
  exact ⟨t, vs, e, k _ _ h1, h2.mono fun _ _ z => z.keep k⟩
theorem ThV.keep {H H' : Hp} (k : TKp H H') {v : V} {rs : List Rw} (h : ThV H v rs) : ThV H' v rs := by
  obtain ⟨t, vs, e, h1, h2⟩ := h
  exact ⟨t, vs, e, k _ _ h1, h2.mono fun _ _ z => z.keep k⟩
theorem PrV.keep {H H' : Hp} (k : TKp H H') {v : V} {ps : List (List Rw)} (h : PrV H v ps) : PrV H' v ps := by
  obtain ⟨t, vs, e, h1, h2⟩ := h
  exact ⟨t, vs, e, k _ _ h1, h2.mono fun _ _ z => z.keep k⟩
theorem All2.mem {α : Type} {R : V → α → Prop} : ∀ {vs : List V} {xs : List α} {v : V}, All2 R vs xs → v ∈ vs → ∃ x ∈ xs, R v x
  | a :: vs, x :: xs, v, ⟨h, t⟩, hv => by
    rcases List.mem_cons.mp hv with rfl | hv
    · exact ⟨x, List.mem_cons_self, h⟩
    · obtain ⟨y, hy, hr⟩ := All2.mem t hv
      exact ⟨y, List.mem_cons_of_mem _ hy, hr⟩
  | [], [], _, _, hv => nomatch hv
  | [], _ :: _, _, z, _ => z.elim
  | _ :: _, [], _, z, _ => z.elim
theorem TgsOk.len {m : Nat} : ∀ {cs : List Nat} {ts : List Tg}, TgsOk m cs ts → cs.length = ts.length
  | [], [], _ => rfl
  | _ :: _, _ :: _, ⟨_, h⟩ => by rw [List.length_cons, List.length_cons, h.len]
  | [], _ :: _, z => z.elim
  | _ :: _, [], z => z.elim
theorem TgsOk.mem {m : Nat} : ∀ {cs : List Nat} {ts : List Tg} {t : Tg}, TgsOk m cs ts → t ∈ ts → ∃ c, TgOk m c t
  | c :: cs, x :: ts, t, ⟨h, r⟩, ht => by
    rcases List.mem_cons.mp ht with rfl | ht
    · exact ⟨c, h⟩
    · exact TgsOk.mem r ht
  | [], [], _, _, ht => nomatch ht
  | [], _ :: _, _, z, _ => z.elim
  | _ :: _, [], _, z, _ => z.elim
theorem wd_len : ∀ z ∈ wds, z.length ≤ 5 := by decide +kernel
theorem tg_th {H : Hp} {m c : Nat} {v : V} {t : Tg} (h : TgV H v t) (o : TgOk m c t) : Th H 20 1 v := by
  cases t with
  | re k =>
    have e : ∀ k, k < 16 → (lt k).length ≤ 8000000 := by decide +kernel
    rw [show v = .str (lt k) from h]
    exact thS (e k o.2)
  | ex xs =>
    obtain ⟨a, e, h⟩ := h
    subst e
    obtain ⟨h1, h2, _⟩ := exV_facts o.2
    exact thT h (by omega) fun y hy => (ok_flat (h2 y hy)).2.2
  | kk n =>
    rw [show v = .int (n : Int) from h]
    exact .inl trivial
theorem rw_th {H : Hp} {m : Nat} {v : V} {r : Rw} (h : RwV H v r) (o : r.ok m) : Th H 40 2 v := by
  obtain ⟨t, vs, rfl, ht, hv⟩ := h
  obtain ⟨o1, o2⟩ := o
  have l1 := hv.len
  have l2 := o2.len
  have l3 := shp_len r.word
  rw [cp_len] at l3
  refine thT ht (by rw [List.length_cons]; omega) fun y hy => ?_
  rcases List.mem_cons.mp hy with rfl | hy
  · exact thS (by have := wd_len _ o1; omega)
  · obtain ⟨x, hx, hr⟩ := hv.mem hy
    obtain ⟨c, hc⟩ := o2.mem hx
    exact (tg_th hr hc).mono (by decide) (by decide)
theorem tv_th {H : Hp} {v : V} {rs : List Rw} (h : ThV H v rs) (o : ThOk rs) : Th H 40 3 v := by
  obtain ⟨t, vs, rfl, ht, hv⟩ := h
  refine thT ht (by rw [hv.len]; exact o.1) fun y hy => ?_
  obtain ⟨x, hx, hr⟩ := hv.mem hy
  exact rw_th hr (o.2 x hx)
theorem pv_th {H : Hp} {v : V} {ps : List (List Rw)} (h : PrV H v ps) (o : PrOk ps) : Th H 40 4 v := by
  obtain ⟨t, vs, rfl, ht, hv⟩ := h
  refine thT ht (by rw [hv.len]; have := o.2.1; omega) fun y hy => ?_
  obtain ⟨x, hx, hr⟩ := hv.mem hy
  exact tv_th hr (o.2.2 x hx)
def sp_lrow : Sp := fun vs H Q _ => ∃ (p c : Addr) (ns : List Int) (n : Int) (m most : Nat), vs = [.ref p, .int (m : Int), .int (most : Int)] ∧ Pen H p c ns n ∧ n < 870000 ∧ m ≤ 1000 ∧ most ≤ 7 ∧
  ∀ (H' : Hp) (v : V) (r : Rw) (n' : Int), Kp p H H' → Pen H' p c ns n' → n ≤ n' → n' ≤ n + 186 → RwV H' v r → r.ok m → Q v H'
def sp_lprogram : Sp := fun vs H Q _ => ∃ (p c : Addr) (ns : List Int) (n : Int) (most : Nat), vs = [.ref p, .int (most : Int)] ∧ Pen H p c ns n ∧ n < 830000 ∧ most ≤ 40 ∧
  ∀ (H' : Hp) (v : V) (ps : List (List Rw)) (n' : Int), Kp p H H' → Pen H' p c ns n' → n ≤ n' → n' ≤ n + 30000 → PrV H' v ps → PrOk ps → Q v H'
/-! Rows, threads and programs as texts. -/
def tgText : Tg → Str
  | .re k => lt k
  | .ex xs => Txt.join " " (xs.map shV)
  | .kk n => shV (.int (n : Int))
def rwText (r : Rw) : Str := r.word ++ " " ++ Txt.join ", " (r.tgs.map tgText)
def thLines (rs : List Rw) : List Str := "thread" :: rs.map rwText
def prLines (ps : List (List Rw)) : List Str := (ps.map thLines).flatten
def prText (ps : List (List Rw)) : Str := Txt.join "\n" (prLines ps)
def sp_showthing : Sp := fun vs H Q _ => ∃ (c m : Nat) (v : V) (g : Tg), vs = [.str ⟨#[c]⟩, v] ∧ TgV H v g ∧ TgOk m c g ∧ m ≤ 1000 ∧ ∀ H', Same H H' → Q (.str (tgText g)) H'
def sp_showrow : Sp := fun vs H Q _ => ∃ (m : Nat) (v : V) (r : Rw), vs = [v] ∧ RwV H v r ∧ r.ok m ∧ m ≤ 1000 ∧ ∀ H', Same H H' → Q (.str (rwText r)) H'
def sp_showprogram : Sp := fun vs H Q _ => ∃ (v : V) (ps : List (List Rw)), vs = [v] ∧ PrV H v ps ∧ PrOk ps ∧ ∀ H', Same H H' → Q (.str (prText ps)) H'
theorem joinL_bd (S : List Nat) (n : Nat) : ∀ (ps : List (List Nat)), (∀ p ∈ ps, p.length ≤ n) → (TL.joinL S ps).length ≤ (n + S.length) * ps.length
  | [], _ => Nat.zero_le _
  | [p], h => by
    show p.length ≤ (n + S.length) * 1
    have := h p List.mem_cons_self
    omega
  | p :: q :: r, h => by
    have ih := joinL_bd S n (q :: r) (fun x hx => h x (List.mem_cons_of_mem _ hx))
    have := h p List.mem_cons_self
    show (p ++ (S ++ TL.joinL S (q :: r))).length ≤ _
    rw [List.length_append, List.length_append, List.length_cons, Nat.mul_succ]
    omega
theorem join_bd (y : Str) (n : Nat) {ws : List Str} (h : ∀ w ∈ ws, w.length ≤ n) : (Txt.join y ws).length ≤ (n + y.length) * ws.length := by
  rw [TL.len_tl, TL.join_eq, TL.tl_join]
  have := joinL_bd (TL.tl y) n (ws.map TL.tl) (fun p hp => by
    obtain ⟨w, hw, rfl⟩ := List.mem_map.mp hp
    rw [← TL.len_tl]
    exact h w hw)
  rw [List.length_map, ← TL.len_tl] at this
  exact this
theorem sum_bd (n : Nat) : ∀ {ws : List Str}, (∀ w ∈ ws, w.length ≤ n) → (ws.map (·.length)).sum ≤ n * ws.length
  | [], _ => Nat.le_refl _
  | w :: r, h => by
    have := sum_bd n (ws := r) fun x hx => h x (List.mem_cons_of_mem _ hx)
    have := h w List.mem_cons_self
    rw [List.map_cons, List.sum_cons, List.length_cons, Nat.mul_succ]
    omega
theorem tg_len {m c : Nat} {g : Tg} (h : TgOk m c g) (hm : m ≤ 1000) : (tgText g).length ≤ 200 := by
  cases g with
  | re k =>
    have e : ∀ k, k < 16 → (lt k).length ≤ 200 := by decide +kernel
    exact e k h.2
  | ex xs =>
    obtain ⟨h1, h2, _⟩ := exV_facts h.2
    have := join_bd " " 10 (ws := xs.map shV) (fun w hw => by
      obtain ⟨x, hx, rfl⟩ := List.mem_map.mp hw
      exact (ok_flat (H := fun _ => none) (L := 0) (d := 0) (h2 x hx)).2.1)
    rw [List.length_map, show ((" " : Str)).length = 1 by decide +kernel] at this
    show (Txt.join " " (xs.map shV)).length ≤ 200
    omega
  | kk n =>
    have hw : W ((n : Nat) : Int) := by
      have := h.2
      have h2 : -32768 ≤ ((n : Nat) : Int) ∧ ((n : Nat) : Int) ≤ 32767 := by omega
      exact h2
    have := (im_flags (m := .wo (n : Int)) hw).2.2.2.2.2.2
    exact Nat.le_trans this (by decide)
theorem tgs_len {r : Rw} {m : Nat} (h : r.ok m) (hm : m ≤ 1000) : (∀ w ∈ r.tgs.map tgText, w.length ≤ 200) ∧ r.tgs.length ≤ 3 := by
  refine ⟨fun w hw => ?_, ?_⟩
  · obtain ⟨g, hg, rfl⟩ := List.mem_map.mp hw
    obtain ⟨c, hc⟩ := h.2.mem hg
    exact tg_len hc hm
  · have := h.2.len
    have l3 := shp_len r.word
    rw [cp_len] at l3
    omega
theorem rw_len {r : Rw} {m : Nat} (h : r.ok m) (hm : m ≤ 1000) : (rwText r).length ≤ 700 := by
  obtain ⟨h1, h2⟩ := tgs_len h hm
  have := join_bd ", " 200 h1
  rw [List.length_map, show ((", " : Str)).length = 2 by decide +kernel] at this
  have hw := wd_len _ h.1
  unfold rwText
  rw [len_app, len_app, show ((" " : Str)).length = 1 by decide +kernel]
  have : (200 + 2) * r.tgs.length ≤ 606 := Nat.le_trans (Nat.mul_le_mul_left _ h2) (by decide)
  omega
theorem pr_len {ps : List (List Rw)} (h : PrOk ps) : (∀ w ∈ prLines ps, w.length ≤ 700) ∧ (prLines ps).length ≤ 164 := by
  have e6 : (("thread" : Str)).length ≤ 700 := by decide +kernel
  refine ⟨fun w hw => ?_, ?_⟩
  · obtain ⟨l, hl, hwl⟩ := List.mem_flatten.mp hw
    obtain ⟨rs, hrs, rfl⟩ := List.mem_map.mp hl
    rcases List.mem_cons.mp hwl with rfl | hwl
    · exact e6
    · obtain ⟨r, hr, rfl⟩ := List.mem_map.mp hwl
      have ho := h.2.2 rs hrs
      exact rw_len (ho.2 r hr) (by have := ho.1; omega)
  · have key : ∀ l : List (List Rw), (∀ t ∈ l, ThOk t) → ((l.map thLines).flatten).length ≤ 41 * l.length := by
      intro l
      induction l with
      | nil =>
        intro _
        exact Nat.le_refl _
      | cons a r ih =>
        intro hl
        have := ih fun x hx => hl x (List.mem_cons_of_mem _ hx)
        have ha := (hl a List.mem_cons_self).1
        rw [List.map_cons, List.flatten_cons, List.length_append, List.length_cons]
        have : (thLines a).length = a.length + 1 := by
          unfold thLines
          rw [List.length_cons, List.length_map]
        omega
    have := key ps h.2.2
    have := h.2.1
    unfold prLines
    omega
theorem prLines_snoc (a : List (List Rw)) (rs : List Rw) : prLines (a ++ [rs]) = prLines a ++ thLines rs := by
  unfold prLines
  rw [List.map_append, List.flatten_append]
  simp
/-! Items that are found are items that can be drawn. -/
theorem ok_item {x : V} (h : okV x = true) : ∃ m : Im, x = m.toV ∧ m.ok := by
  cases x with
  | int a =>
    have h2 : (decide (-32768 ≤ a ∧ a ≤ 32767) || false || false) = true := h
    rw [Bool.or_false, Bool.or_false] at h2
    have h3 : -32768 ≤ a ∧ a ≤ 32767 := of_decide_eq_true h2
    exact ⟨.wo a, rfl, (show W a from h3)⟩
  | str z =>
    have h2 : (ltV (.str z) || sgV (.str z)) = true := h
    by_cases g : z.length = 1
    · obtain ⟨c, rfl⟩ := one_code g
      rw [Bool.or_eq_true] at h2
      rcases h2 with h2 | h2
      · rw [lt_code] at h2
        have h3 := of_decide_eq_true h2
        refine ⟨.re (c - 97), ?_, (show c - 97 < 16 by omega)⟩
        show V.str ⟨#[c]⟩ = V.str ⟨#[97 + (c - 97)]⟩
        rw [show 97 + (c - 97) = c by omega]
      · obtain ⟨i, hi, e⟩ := nm_mem (of_decide_eq_true h2)
        exact ⟨.si i, congrArg V.str e, hi⟩
    · rw [lt_len g, sg_len g] at h2
      cases h2
  | non => cases h
  | bl b => cases h
  | byt b => cases h
  | flt b => cases h
  | ref a => cases h
  | ty n => cases h
theorem ok_items : ∀ {xs : List V}, xs.all okV = true → ∃ its : List Im, xs = its.map Im.toV ∧ ∀ m ∈ its, m.ok
  | [], _ => ⟨[], rfl, fun m h => nomatch h⟩
  | x :: r, h => by
    rw [List.all_cons, Bool.and_eq_true] at h
    obtain ⟨m, e, hm⟩ := ok_item h.1
    obtain ⟨its, e2, hok⟩ := ok_items h.2
    refine ⟨m :: its, by rw [List.map_cons, e, e2], fun k hk => ?_⟩
    rcases List.mem_cons.mp hk with rfl | hk
    · exact hm
    · exact hok k hk
theorem ex_items {xs : List V} (h : exV xs = true) : ∃ its : List Im, xs = its.map Im.toV ∧ (∀ m ∈ its, m.ok) ∧ its.length ≤ 15 := by
  unfold exV at h
  rw [Bool.and_eq_true, Bool.and_eq_true] at h
  obtain ⟨its, e, hok⟩ := ok_items (show xs.all okV = true from h.1.2)
  refine ⟨its, e, hok, ?_⟩
  have := of_decide_eq_true h.1.1
  rw [e, List.length_map] at this
  exact this
def sp_law (K : PySem.W.Frag) : Sp := fun vs H Q _ => ∃ (a : Addr) (ns : List Int), vs = [.ref a] ∧ SqL K H a (ns.map V.int) ∧ ns.length ≤ 63 ∧ ∀ H', Q (.bl true) H'
theorem im_codes2 {m : Im} (h : m.ok) : ∀ c ∈ cp (shV m.toV), c ≠ 44 ∧ c ≠ 10 ∧ c ≠ 32 ∧ c < 200 := by
  cases m with
  | wo a =>
    intro c hc
    have hc2 : c ∈ cp (Str.ofString (toString a)) := hc
    cases a with
    | ofNat n =>
      rw [show (Int.ofNat n) = ((n : Nat) : Int) from rfl, cp_nat] at hc2
      have := TL.numL_digits n c hc2
      omega
    | negSucc n =>
      rw [cp_neg] at hc2
      rcases List.mem_cons.mp hc2 with e | hc3
      · omega
      · have := TL.numL_digits (n + 1) c hc3
        omega
  | re k =>
    have e : ∀ k, k < 16 → ∀ c ∈ cp (lt k), c ≠ 44 ∧ c ≠ 10 ∧ c ≠ 32 ∧ c < 200 := by decide +kernel
    exact e k h
  | si i =>
    have e : ∀ i, i < 9 → ∀ c ∈ cp (nm i), c ≠ 44 ∧ c ≠ 10 ∧ c ≠ 32 ∧ c < 200 := by decide +kernel
    exact e i h
theorem joinS_mem (S : List Nat) : ∀ (ps : List (List Nat)) (c : Nat), c ∈ TL.joinL S ps → c ∈ S ∨ ∃ p ∈ ps, c ∈ p
  | [], c, h => by cases h
  | [p], c, h => .inr ⟨p, List.mem_cons_self, h⟩
  | p :: q :: r, c, h => by
    have h2 : c ∈ p ++ (S ++ TL.joinL S (q :: r)) := h
    rcases List.mem_append.mp h2 with h3 | h3
    · exact .inr ⟨p, List.mem_cons_self, h3⟩
    · rcases List.mem_append.mp h3 with h4 | h4
      · exact .inl h4
      · rcases joinS_mem S (q :: r) c h4 with h5 | ⟨p', hp, hc⟩
        · exact .inl h5
        · exact .inr ⟨p', List.mem_cons_of_mem _ hp, hc⟩
theorem join_mem {y : Str} {ws : List Str} {c : Nat} (h : c ∈ cp (Txt.join y ws)) : c ∈ cp y ∨ ∃ w ∈ ws, c ∈ cp w := by
  have h2 : c ∈ TL.tl (Txt.join y ws) := h
  rw [TL.join_eq, TL.tl_join] at h2
  rcases joinS_mem _ _ c h2 with h3 | ⟨p, hp, hc⟩
  · exact .inl h3
  · obtain ⟨w, hw, rfl⟩ := List.mem_map.mp hp
    exact .inr ⟨w, hw, hc⟩
theorem tg_codes {m c : Nat} {g : Tg} (h : TgOk m c g) (hm : m ≤ 1000) : ∀ d ∈ cp (tgText g), d ≠ 44 ∧ d ≠ 10 ∧ d < 200 := by
  intro d hd
  cases g with
  | re k =>
    have e : ∀ k, k < 16 → ∀ c ∈ cp (lt k), c ≠ 44 ∧ c ≠ 10 ∧ c < 200 := by decide +kernel
    exact e k h.2 d hd
  | ex xs =>
    obtain ⟨its, rfl, hok, _⟩ := ex_items h.2
    rcases join_mem (show d ∈ cp (Txt.join " " ((its.map Im.toV).map shV)) from hd) with h2 | ⟨w, hw, hc⟩
    · rw [cp_blank, List.mem_singleton] at h2
      omega
    · rw [List.map_map] at hw
      obtain ⟨i, hi, rfl⟩ := List.mem_map.mp hw
      have := im_codes2 (hok i hi) d hc
      omega
  | kk n =>
    have hw : W ((n : Nat) : Int) := by
      have := h.2
      have h2 : -32768 ≤ ((n : Nat) : Int) ∧ ((n : Nat) : Int) ≤ 32767 := by omega
      exact h2
    have := im_codes2 (m := .wo (n : Int)) hw d hd
    omega
theorem cp_comma : cp (", " : Str) = [44, 32] := by decide +kernel
theorem cp_line : cp ("\n" : Str) = [10] := by decide +kernel
theorem wd_codes : ∀ z ∈ wds, ∀ c ∈ cp z, c ≠ 32 ∧ c ≠ 10 ∧ c < 200 := by decide +kernel
theorem shp_ne {z : Str} (h : z ∈ wds) : cp (shp z) ≠ [] := by
  have e : ∀ z ∈ wds, cp (shp z) ≠ [] := by decide +kernel
  exact e z h
theorem tgs_ne {r : Rw} {m : Nat} (h : r.ok m) : r.tgs ≠ [] := by
  intro e
  have := h.2.len
  rw [e] at this
  exact shp_ne h.1 (List.eq_nil_of_length_eq_zero this)
theorem split_row {r : Rw} {m : Nat} (h : r.ok m) (hm : m ≤ 1000) : Txt.split (Txt.join ", " (r.tgs.map tgText)) ", " = r.tgs.map tgText := by
  refine TL.split_join (show TL.tl (", " : Str) = 44 :: [32] from cp_comma) (by decide +kernel) (by simpa using tgs_ne h) ?_
  intro p hp
  obtain ⟨g, hg, rfl⟩ := List.mem_map.mp hp
  obtain ⟨c, hc⟩ := h.2.mem hg
  exact fun z => (tg_codes hc hm 44 z).1 rfl
theorem part_row {r : Rw} {m : Nat} (h : r.ok m) : Txt.partition (rwText r) " " = (r.word, (" " : Str), Txt.join ", " (r.tgs.map tgText)) := by
  unfold rwText
  exact TL.partition_app (show TL.tl (" " : Str) = 32 :: [] from cp_blank) (fun z => (wd_codes _ h.1 32 z).1 rfl)
theorem rw_codes {r : Rw} {m : Nat} (h : r.ok m) (hm : m ≤ 1000) : ∀ d ∈ cp (rwText r), d ≠ 10 ∧ d < 200 := by
  intro d hd
  have hd2 : d ∈ TL.tl (rwText r) := hd
  unfold rwText at hd2
  rw [TL.tl_append, TL.tl_append] at hd2
  rcases List.mem_append.mp hd2 with h1 | h1
  · rcases List.mem_append.mp h1 with h2 | h2
    · have := wd_codes _ h.1 d h2
      omega
    · have e : d ∈ cp (" " : Str) := h2
      rw [cp_blank, List.mem_singleton] at e
      omega
  · rcases join_mem (show d ∈ cp (Txt.join ", " (r.tgs.map tgText)) from h1) with h2 | ⟨w, hw, hc⟩
    · rw [cp_comma] at h2
      simp only [List.mem_cons, List.not_mem_nil, or_false] at h2
      omega
    · obtain ⟨g, hg, rfl⟩ := List.mem_map.mp hw
      obtain ⟨c, hc2⟩ := h.2.mem hg
      have := tg_codes hc2 hm d hc
      omega
theorem rw_head {r : Rw} : rwText r ≠ "thread" := by
  intro e
  have h : 32 ∈ TL.tl (rwText r) := by
    unfold rwText
    rw [TL.tl_append, TL.tl_append]
    refine List.mem_append_left _ (List.mem_append_right _ ?_)
    show 32 ∈ cp (" " : Str)
    rw [cp_blank]
    exact List.mem_singleton.mpr rfl
  rw [e] at h
  have : 32 ∉ cp ("thread" : Str) := by decide +kernel
  exact this h
theorem line_codes {ps : List (List Rw)} (h : PrOk ps) : ∀ w ∈ prLines ps, ∀ d ∈ cp w, d ≠ 10 ∧ d < 200 := by
  intro w hw
  obtain ⟨l, hl, hwl⟩ := List.mem_flatten.mp hw
  obtain ⟨rs, hrs, rfl⟩ := List.mem_map.mp hl
  rcases List.mem_cons.mp hwl with rfl | hwl
  · decide +kernel
  · obtain ⟨r, hr, rfl⟩ := List.mem_map.mp hwl
    have ho := h.2.2 rs hrs
    exact rw_codes (ho.2 r hr) (by have := ho.1; omega)
theorem split_prog {ps : List (List Rw)} (h : PrOk ps) : Txt.split (prText ps) "\n" = prLines ps := by
  refine TL.split_join (show TL.tl ("\n" : Str) = 10 :: [] from cp_line) (by decide +kernel) ?_ ?_
  · obtain ⟨h1, _⟩ := h
    cases ps with
    | nil => exact absurd h1 (by decide)
    | cons a r => exact fun e => nomatch (show ("thread" : Str) :: (a.map rwText ++ prLines r) = [] from e)
  · intro p hp z
    exact (line_codes h p hp 10 z).1 rfl
def sp_thingof : Sp := fun vs H Q _ => ∃ (c m : Nat) (g : Tg), vs = [.str ⟨#[c]⟩, .str (tgText g)] ∧ TgOk m c g ∧ m ≤ 40 ∧ ∀ (H' : Hp) (v : V), Same H H' → TgV H' v g → Q v H'
def sp_rowof : Sp := fun vs H Q _ => ∃ (m : Nat) (r : Rw), vs = [.str (rwText r)] ∧ r.ok m ∧ m ≤ 40 ∧ ∀ (H' : Hp) (v : V), Same H H' → RwV H' v r → Q v H'
/-! Rows as data. -/
def vD : V → PyData
  | .int a => .int a
  | .str z => .str z
  | _ => .none
theorem vD_im (m : Im) : vD m.toV = m.toD := by
  cases m <;> rfl
theorem vD_ims (its : List Im) : (its.map Im.toV).map vD = its.map Im.toD := by
  rw [List.map_map]
  exact List.map_congr_left fun m _ => vD_im m
def tgD : Tg → PyData
  | .re k => .str (lt k)
  | .ex xs => .tuple (xs.map vD)
  | .kk n => .int (n : Int)
theorem tg_dp {K : PySem.W.Frag} {H : Hp} {m c : Nat} {v : V} {g : Tg} (h : TgV H v g) (o : TgOk m c g) : Dp K H v (tgD g) := by
  cases g with
  | re k =>
    rw [show v = .str (lt k) from h]
    exact .str _
  | kk n =>
    rw [show v = .int (n : Int) from h]
    exact .int _
  | ex xs =>
    obtain ⟨t, rfl, ht⟩ := h
    obtain ⟨its, rfl, hok, _⟩ := ex_items o.2
    show Dp K H (.ref t) (.tuple ((its.map Im.toV).map vD))
    rw [vD_ims]
    exact .tup (SqT.of ht) (dpIm its)
theorem nm_sok : ∀ i, i < 9 → PyData.strOk (nm i) = true := by decide +kernel
theorem im_lay {m : Im} (h : m.ok) : m.toD.canLay0 = true ∧ m.toD.depth = 0 := by
  cases m with
  | wo a => exact ⟨by simp [Im.toD, PyData.canLay0], rfl⟩
  | re k => exact ⟨by simp [Im.toD, PyData.canLay0, lt_ok k h], rfl⟩
  | si i => exact ⟨by simp [Im.toD, PyData.canLay0, nm_sok i h], rfl⟩
theorem lay_all {ds : List PyData} {k : Nat} : (∀ d ∈ ds, d.canLay0 = true ∧ d.depth ≤ k) → PyData.canLayAll0 ds = true ∧ PyData.depthAll ds ≤ k := by
  induction ds with
  | nil =>
    intro _
    exact ⟨by simp [PyData.canLayAll0], by simp [PyData.depthAll]⟩
  | cons a r ih =>
    intro h
    obtain ⟨h1, h2⟩ := h a List.mem_cons_self
    obtain ⟨h3, h4⟩ := ih fun d hd => h d (List.mem_cons_of_mem _ hd)
    refine ⟨by simp [PyData.canLayAll0, h1, h3], ?_⟩
    show max a.depth (PyData.depthAll r) ≤ k
    omega
theorem tg_lay {m c : Nat} {g : Tg} (o : TgOk m c g) : (tgD g).canLay0 = true ∧ (tgD g).depth ≤ 1 := by
  cases g with
  | re k => exact ⟨by simp [tgD, PyData.canLay0, lt_ok k o.2], Nat.zero_le _⟩
  | kk n => exact ⟨by simp [tgD, PyData.canLay0], Nat.zero_le _⟩
  | ex xs =>
    obtain ⟨its, rfl, hok, _⟩ := ex_items o.2
    obtain ⟨h1, h2⟩ := lay_all (ds := its.map Im.toD) (k := 0) (fun d hd => by
      obtain ⟨i, hi, rfl⟩ := List.mem_map.mp hd
      obtain ⟨a, b⟩ := im_lay (hok i hi)
      exact ⟨a, by omega⟩)
    show (PyData.tuple ((its.map Im.toV).map vD)).canLay0 = true ∧ (PyData.tuple ((its.map Im.toV).map vD)).depth ≤ 1
    rw [vD_ims]
    refine ⟨by simp [PyData.canLay0, h1], ?_⟩
    show PyData.depthAll (its.map Im.toD) + 1 ≤ 1
    omega
theorem shaped_of {d : PyData} (h1 : d.canLay0 = true) (h2 : d.depth ≤ 60) : SeqAt.shaped d = true := by
  show (d.canLay0 && decide (d.depth ≤ 64)) = true
  rw [h1, decide_eq_true (by omega)]
  rfl
theorem lst_lay {ds : List PyData} {k : Nat} (h : ∀ d ∈ ds, d.canLay0 = true ∧ d.depth ≤ k) : (PyData.list ds).canLay0 = true ∧ (PyData.list ds).depth ≤ k + 1 := by
  obtain ⟨h1, h2⟩ := lay_all h
  exact ⟨by simp [PyData.canLay0, h1], by show PyData.depthAll ds + 1 ≤ k + 1; omega⟩
theorem tgs_dp {K : PySem.W.Frag} {H : Hp} {m : Nat} : ∀ {cs : List Nat} {vs : List V} {gs : List Tg}, All2 (TgV H) vs gs → TgsOk m cs gs → DpAll K H vs (gs.map tgD)
  | _, [], [], _, _ => .nil
  | c :: cs, v :: vs, g :: gs, ⟨h1, h2⟩, ⟨o1, o2⟩ => .cons (tg_dp h1 o1) (tgs_dp h2 o2)
  | [], _ :: _, _ :: _, _, z => z.elim
  | _, [], _ :: _, z, _ => z.elim
  | _, _ :: _, [], z, _ => z.elim
/-! str of a thing, of a tuple too. -/
section
open PyProof.Rows
def rStrD (K : PySem.W.Frag) : List V → Hp → VK → Prop := fun xs H Q => ∃ x, xs = [x] ∧ ((Flat x ∧ Q (.str (shV x)) H) ∨ ∃ a d, x = .ref a ∧ Dp K H x d ∧ ShowOk d ∧ Q (.str d.shown) H)
theorem call_strD {X : Cx} (hg : X.A.guards = some []) (hu : X.A.units + 64 < cLine) : CallR X (.type "str") (rStrD X.K) := by
  intro pins s σ H xs us Q I r h
  obtain ⟨x, rfl, h | ⟨a, d, rfl, dp, ok, q⟩⟩ := h
  · exact call_strV pins s σ H _ us Q I r ⟨x, rfl, h.1, h.2⟩
  · obtain ⟨u, rfl, ru⟩ := vals1 r
    obtain ⟨as, rd⟩ := Dp.reads I d (.ref a) u dp ru
    cases ru
    refine str_of_reads rd ok.can (fun e => by rw [ok.nod] at e; cases e) hg (by have := ok.deep; omega) (fun _ _ e => e) (fun h' t tk hk => ⟨.str _, H, I.kept hk, ⟨_, rfl⟩, q⟩) ok.size
end
/-! Data that can be shown, put together: at most n signs, at most k deep. -/
structure Shw (d : PyData) (n k : Nat) : Prop where
  len : d.shown.length ≤ n
  can : d.showable = true
  nod : d.hasDict = false
  deep : d.depth ≤ k
theorem Shw.ok {d : PyData} {n k : Nat} (h : Shw d n k) (hn : n ≤ 10000000) (hk : k ≤ 60) : ShowOk d :=
  ⟨h.can, h.nod, Nat.le_trans h.deep hk, Nat.le_trans h.len (Nat.le_trans hn (by decide))⟩
theorem Shw.mono {d : PyData} {n k n' k' : Nat} (h : Shw d n k) (hn : n ≤ n') (hk : k ≤ k') : Shw d n' k' := ⟨Nat.le_trans h.len hn, h.can, h.nod, Nat.le_trans h.deep hk⟩
theorem sm_app (a b : Str) : (a ++ b).length = a.length + b.length := by
  rw [TL.len_tl, show TL.tl (a ++ b) = TL.tl a ++ TL.tl b from TL.tl_append a b, List.length_append, ← TL.len_tl, ← TL.len_tl]
theorem sm_join : ∀ (n : Nat) (ts : List Str), (∀ t ∈ ts, t.length ≤ n) → (Str.join ", " ts).length ≤ (n + 2) * ts.length
  | n, [], _ => by
    show (Str.empty).length ≤ _
    rw [show (Str.empty).length = 0 from rfl]
    omega
  | n, [x], h => by
    show x.length ≤ (n + 2) * 1
    have := h x List.mem_cons_self
    omega
  | n, x :: y :: r, h => by
    have ih := sm_join n (y :: r) (fun t ht => h t (List.mem_cons_of_mem _ ht))
    have hx := h x List.mem_cons_self
    show (x ++ ", " ++ Str.join ", " (y :: r)).length ≤ _
    rw [sm_app, sm_app, show ((", " : Str)).length = 2 by decide +kernel]
    rw [List.length_cons] at ih ⊢
    rw [List.length_cons]
    rw [Nat.mul_succ] at ih ⊢
    rw [Nat.mul_succ]
    omega
theorem sm_from : ∀ (ts : List Str) (j : Nat) (acc : Str) (n : Nat), (∀ t ∈ ts, t.length ≤ n) → (textFrom j acc ts).length ≤ acc.length + (n + 2) * ts.length
  | [], j, acc, n, _ => by
    show acc.length ≤ _
    omega
  | t :: r, j, acc, n, h => by
    have ht := h t List.mem_cons_self
    have e : (textFrom j acc (t :: r)) = textFrom (j + 1) (acc ++ ((if j > 0 then ", " else "" : String) : Str) ++ t) r := rfl
    rw [e]
    have ih := sm_from r (j + 1) (acc ++ ((if j > 0 then ", " else "" : String) : Str) ++ t) n (fun x hx => h x (List.mem_cons_of_mem _ hx))
    rw [sm_app, sm_app] at ih
    have h2 : ((if j > 0 then ", " else "" : String) : Str).length ≤ 2 := by
      split <;> decide +kernel
    rw [List.length_cons, Nat.mul_succ]
    omega
theorem shw_int {a : Int} (h : a.natAbs < 10 ^ 5) : Shw (.int a) 6 0 := by
  refine ⟨?_, decide_eq_true (Nat.lt_of_lt_of_le (PySem.Flt.log2_lt_of (k := 17) (by decide) (Nat.lt_trans h (by decide))) (by decide)), rfl, Nat.le_refl _⟩
  show (Str.ofString (toString a)).length ≤ 6
  have := int_text_length_le10 (a := a) (k := 5) (by decide) h
  have e : (Str.ofString (toString a)).length = (toString a).length := by
    rw [TL.len_tl, show TL.tl (Str.ofString (toString a)) = (toString a).toList.map Char.toNat from TL.tl_ofString _, List.length_map]
    rfl
  rw [e]
  exact this
theorem shw_all : ∀ {ds : List PyData} {n k : Nat}, (∀ d ∈ ds, Shw d n k) → (∀ t ∈ PyData.shownAll ds, t.length ≤ n) ∧ (PyData.shownAll ds).length = ds.length ∧ PyData.showableAll ds = true ∧ PyData.hasDictAll ds = false ∧ PyData.depthAll ds ≤ k
  | [], n, k, _ => ⟨(fun t h => nomatch h), rfl, rfl, rfl, Nat.zero_le _⟩
  | d :: r, n, k, h => by
    have a := h d List.mem_cons_self
    obtain ⟨b1, b2, b3, b4, b5⟩ := shw_all (ds := r) (fun x hx => h x (List.mem_cons_of_mem _ hx))
    refine ⟨fun t ht => ?_, ?_, ?_, ?_, ?_⟩
    · rcases List.mem_cons.mp (show t ∈ d.shown :: PyData.shownAll r from ht) with rfl | ht
      · exact a.len
      · exact b1 t ht
    · show (PyData.shownAll r).length + 1 = r.length + 1
      rw [b2]
    · show (d.showable && PyData.showableAll r) = true
      rw [a.can, b3]
      rfl
    · show (d.hasDict || PyData.hasDictAll r) = false
      rw [a.nod, b4]
      rfl
    · show max d.depth (PyData.depthAll r) ≤ k
      have := a.deep
      omega
theorem shw_tup {ds : List PyData} {n k : Nat} (h : ∀ d ∈ ds, Shw d n k) : Shw (.tuple ds) ((n + 2) * ds.length + 3) (k + 1) := by
  obtain ⟨b1, b2, b3, b4, b5⟩ := shw_all h
  refine ⟨?_, b3, b4, ?_⟩
  · show (tupleText (PyData.shownAll ds)).length ≤ _
    have hj := sm_join n _ b1
    rw [b2] at hj
    unfold tupleText
    rw [sm_app, sm_app]
    have h1 : (("(" : Str)).length = 1 := by decide +kernel
    have h2 : ((if (PyData.shownAll ds).length == 1 then ",)" else ")" : String) : Str).length ≤ 2 := by
      split <;> decide +kernel
    rw [h1]
    omega
  · show PyData.depthAll ds + 1 ≤ k + 1
    omega
theorem shw_lst {ds : List PyData} {n k : Nat} (h : ∀ d ∈ ds, Shw d n k) : Shw (.list ds) ((n + 2) * ds.length + 2) (k + 1) := by
  obtain ⟨b1, b2, b3, b4, b5⟩ := shw_all h
  refine ⟨?_, b3, b4, ?_⟩
  · show (listText (PyData.shownAll ds)).length ≤ _
    have hj := sm_from (PyData.shownAll ds) 0 "[" n b1
    rw [b2] at hj
    unfold listText
    have h1 : (("[" : Str)).length = 1 := by decide +kernel
    have h2 : (("]" : Str)).length = 1 := by decide +kernel
    rw [sm_app, h2]
    rw [h1] at hj
    omega
  · show PyData.depthAll ds + 1 ≤ k + 1
    omega
theorem shw_bool (b : Bool) : Shw (.bool b) 5 0 := ⟨by cases b <;> decide +kernel, rfl, rfl, Nat.zero_le _⟩
section
variable {P : Program} {w : World} {K : PySem.W.Frag} {mg : Str → Option Value} {base : Heap} {f : Nat → Addr} {fd : Nat → FuncData} {ob : Nat → Addr}
theorem sign_in (T : Txt K w mg f fd ob) {i : Nat} (hi : i < 9) : ∃ u, PySem.W.nsIn K (ob 0) (nm i) = some (some u) := by
  match i, hi with
  | 0, _ => obtain ⟨_, _, u, _, _, h, _⟩ := T.t_SIGNS_0; exact ⟨u, h⟩
  | 1, _ => obtain ⟨_, _, u, _, _, h, _⟩ := T.t_SIGNS_1; exact ⟨u, h⟩
  | 2, _ => obtain ⟨_, _, u, _, _, h, _⟩ := T.t_SIGNS_2; exact ⟨u, h⟩
  | 3, _ => obtain ⟨_, _, u, _, _, h, _⟩ := T.t_SIGNS_3; exact ⟨u, h⟩
  | 4, _ => obtain ⟨_, _, u, _, _, h, _⟩ := T.t_SIGNS_4; exact ⟨u, h⟩
  | 5, _ => obtain ⟨_, _, u, _, _, h, _⟩ := T.t_SIGNS_5; exact ⟨u, h⟩
  | 6, _ => obtain ⟨_, _, u, _, _, h, _⟩ := T.t_SIGNS_6; exact ⟨u, h⟩
  | 7, _ => obtain ⟨_, _, u, _, _, h, _⟩ := T.t_SIGNS_7; exact ⟨u, h⟩
  | 8, _ => obtain ⟨_, _, u, _, _, h, _⟩ := T.t_SIGNS_8; exact ⟨u, h⟩
theorem ok_iswhole (T : Txt K w mg f fd ob) : FnOk P w K mg base CX0 1 (f 4) (fd 4) ["thing"] sp_iswhole := by
  refine T.F_iswhole.ok sc_iswhole (fun vs H Q E h => ?_) (fun cdv A outer s H vs Q E hr h => ?_)
  · obtain ⟨x, rfl, _⟩ := h
    rfl
  · obtain ⟨x, rfl, hx, q⟩ := h
    refine ⟨_, (pss_one (ps_ret (pe_and (pe_callB call_isi (by rfl) T.z_isinstance (by decide +kernel) (pa_cons (pv 0) (pa_cons (pe_bltn (v := .ty "int") (by rfl) T.z_int (by decide +kernel) rfl) pa_nil))) (pe_one (pe_not (pe_callB call_isi (by rfl) T.z_isinstance (by decide +kernel) (pa_cons (pv 0) (pa_cons (pe_bltn (v := .ty "bool") (by rfl) T.z_bool (by decide +kernel) rfl) pa_nil)))))))), ?_⟩
    cases x with
    | non => exact ⟨_, rfl, _, _, _, _, false, rfl, .ty _, .base .non, kit_ty (by decide +kernel), _, rfl, iteF q⟩
    | bl b => exact ⟨_, rfl, _, _, _, _, true, rfl, .ty _, .base (.bl _), kit_ty (by decide +kernel), _, rfl, iteT ⟨_, rfl, _, _, _, _, true, rfl, .ty _, .base (.bl _), kit_ty (by decide +kernel), _, rfl, q⟩⟩
    | int i => exact ⟨_, rfl, _, _, _, _, true, rfl, .ty _, .base (.int _), kit_ty (by decide +kernel), _, rfl, iteT ⟨_, rfl, _, _, _, _, false, rfl, .ty _, .base (.int _), kit_ty (by decide +kernel), _, rfl, q⟩⟩
    | str z => exact ⟨_, rfl, _, _, _, _, false, rfl, .ty _, .base (.str _), kit_ty (by decide +kernel), _, rfl, iteF q⟩
    | byt b => exact hx.elim
    | flt b => exact hx.elim
    | ref a =>
      rcases hx with ⟨xs, e⟩ | ⟨xs, e⟩ | ⟨xs, e⟩
      · exact ⟨_, rfl, _, _, _, _, false, rfl, .ty _, .base (.tup e), kit_ty (by decide +kernel), _, rfl, iteF q⟩
      · exact ⟨_, rfl, _, _, _, _, false, rfl, .ty _, .base (.lst e), kit_ty (by decide +kernel), _, rfl, iteF q⟩
      · exact ⟨_, rfl, _, _, _, _, false, rfl, .ty _, .base (.dK e), kit_ty (by decide +kernel), _, rfl, iteF q⟩
    | ty n => exact hx.elim
theorem ok_isworth (T : Txt K w mg f fd ob) : FnOk P w K mg base CX0 2 (f 7) (fd 7) ["thing"] sp_isworth := by
  have G_iswhole := ok_iswhole (P := P) (base := base) T
  refine T.F_isworth.ok sc_isworth (fun vs H Q E h => ?_) (fun cdv A outer s H vs Q E hr h => ?_)
  · obtain ⟨x, rfl, _⟩ := h
    rfl
  · obtain ⟨x, rfl, hx, q⟩ := h
    have hr_iswhole := hr
    refine ⟨_, (pss_one (ps_ret (pe_and (pe_call G_iswhole hr_iswhole (by rfl) T.m_iswhole T.F_iswhole.kp T.b_iswhole .nil pass0 (pa_cons (pv 0) pa_nil)) (pe_one (pe_chain op_le op_le (pe_un un_neg pe_int) (pv 0) pe_int))))), ?_⟩
    refine ⟨_, rfl, x, rfl, hx, _, rfl, ?_⟩
    cases x with
    | int i =>
      refine iteT ⟨_, rfl, _, rfl, _, _, rfl, rfl, _, rfl, ite2 (fun h1 => ⟨_, _, rfl, rfl, ?_⟩) (fun h1 => ?_)⟩
      · have h1' : -32768 ≤ i := of_decide_eq_true h1
        have e : woV (.int i) = decide (i ≤ 32767) := by
          show decide (-32768 ≤ i ∧ i ≤ 32767) = _
          by_cases h2 : i ≤ 32767
          · rw [decide_eq_true h2, decide_eq_true ⟨h1', h2⟩]
          · rw [decide_eq_false h2, decide_eq_false (fun z => h2 z.2)]
        rw [e] at q
        exact q
      · have e : woV (.int i) = false := decide_eq_false (fun z => h1 (decide_eq_true z.1))
        rw [e] at q
        exact q
    | non => exact iteF q
    | bl b => exact iteF q
    | str z => exact iteF q
    | byt b => exact hx.elim
    | flt b => exact hx.elim
    | ref a => exact iteF q
    | ty n => exact hx.elim
theorem ok_isletter (T : Txt K w mg f fd ob) : FnOk P w K mg base CX0 1 (f 9) (fd 9) ["thing"] sp_isletter := by
  obtain ⟨tkL, h_LETTERS⟩ := T.c_LETTERS
  refine T.F_isletter.ok sc_isletter (fun vs H Q E h => ?_) (fun cdv A outer s H vs Q E hr h => ?_)
  · obtain ⟨x, rfl, _⟩ := h
    rfl
  · obtain ⟨x, rfl, hx, q⟩ := h
    refine ⟨_, (pss_one (ps_ret (pe_and (pe_callB call_isi (by rfl) T.z_isinstance (by decide +kernel) (pa_cons (pv 0) (pa_cons (pe_bltn (v := .ty "str") (by rfl) T.z_str (by decide +kernel) rfl) pa_nil))) (pe_and (pe_cmpR op_eq (pe_callB call_len_str (by rfl) T.z_len PySem.boot_len (pa_cons (pv 0) pa_nil)) pe_int (nomark _)) (pe_one (pe_cmpR op_in_sign (pv 0) (pe_glob (v := .str "abcdefghijklmnop") (by rfl) h_LETTERS ⟨_, rfl⟩) (by rfl))))))), ?_⟩
    cases x with
    | str z =>
      refine ⟨_, rfl, _, _, _, _, true, rfl, .ty _, .base (.str _), kit_ty (by decide +kernel), _, rfl, iteT ⟨_, rfl, z, rfl, len_size hx, rfl, _, rfl, ?_⟩⟩
      by_cases h1 : z.length = 1
      · obtain ⟨c, rfl⟩ := one_code h1
        refine iteB1 (decide_eq_true (by rw [h1]; rfl)) ⟨_, rfl, c, letters, rfl, rfl, ?_⟩
        rw [letters_mem]
        have e : ltV (.str ⟨#[c]⟩) = decide (97 ≤ c ∧ c ≤ 112) := by
          show (decide ((⟨#[c]⟩ : Str).length = 1) && decide (∀ d ∈ cp ⟨#[c]⟩, 97 ≤ d ∧ d ≤ 112)) = _
          rw [decide_eq_true h1, Bool.true_and]
          by_cases h2 : 97 ≤ c ∧ c ≤ 112
          · rw [decide_eq_true h2, decide_eq_true]
            intro d hd
            rw [show d = c from List.mem_singleton.mp hd]
            exact h2
          · rw [decide_eq_false h2, decide_eq_false]
            exact fun g => h2 (g c (List.mem_singleton.mpr rfl))
        rw [e] at q
        exact q
      · refine iteB0 (decide_eq_false (fun g => h1 (by have := V.int.inj g; omega))) ?_
        have e : ltV (.str z) = false := by
          show (decide (z.length = 1) && _) = _
          rw [decide_eq_false h1]
          rfl
        rw [e] at q
        exact q
    | non => exact ⟨_, rfl, _, _, _, _, false, rfl, .ty _, .base .non, kit_ty (by decide +kernel), _, rfl, iteF q⟩
    | bl b => exact ⟨_, rfl, _, _, _, _, false, rfl, .ty _, .base (.bl _), kit_ty (by decide +kernel), _, rfl, iteF q⟩
    | int i => exact ⟨_, rfl, _, _, _, _, false, rfl, .ty _, .base (.int _), kit_ty (by decide +kernel), _, rfl, iteF q⟩
    | byt b => exact hx.elim
    | flt b => exact hx.elim
    | ref a =>
      rcases hx with ⟨xs, e⟩ | ⟨xs, e⟩ | ⟨xs, e⟩
      · exact ⟨_, rfl, _, _, _, _, false, rfl, .ty _, .base (.tup e), kit_ty (by decide +kernel), _, rfl, iteF q⟩
      · exact ⟨_, rfl, _, _, _, _, false, rfl, .ty _, .base (.lst e), kit_ty (by decide +kernel), _, rfl, iteF q⟩
      · exact ⟨_, rfl, _, _, _, _, false, rfl, .ty _, .base (.dK e), kit_ty (by decide +kernel), _, rfl, iteF q⟩
    | ty n => exact hx.elim
theorem ok_issignV (T : Txt K w mg f fd ob) : FnOk P w K mg base CX0 1 (f 10) (fd 10) ["thing"] sp_issignV := by
  obtain ⟨es, nn, D_SIGNS⟩ := T.d_SIGNS
  refine T.F_issign.ok sc_issign (fun vs H Q E h => ?_) (fun cdv A outer s H vs Q E hr h => ?_)
  · obtain ⟨m, rfl, _⟩ := h
    rfl
  · obtain ⟨x, rfl, hx, q⟩ := h
    refine ⟨_, (pss_one (ps_ret (pe_and (pe_callB call_isi (by rfl) T.z_isinstance (by decide +kernel) (pa_cons (pv 0) (pa_cons (pe_bltn (v := .ty "str") (by rfl) T.z_str (by decide +kernel) rfl) pa_nil))) (pe_one (pe_cmpR (op_in_kd D_SIGNS) (pv 0) (pe_glob (v := .ref (ob 0)) (by rfl) T.m_SIGNS rfl) (by rfl)))))), ?_⟩
    cases x with
    | str z =>
      refine ⟨_, rfl, _, _, _, _, true, rfl, .ty _, .base (.str _), kit_ty (by decide +kernel), _, rfl, iteT ⟨_, rfl, z, ?_⟩⟩
      by_cases h1 : z ∈ sgKeys
      · obtain ⟨i, hi, rfl⟩ := nm_mem h1
        obtain ⟨u, hu⟩ := sign_in T hi
        refine ⟨_, rfl, rfl, hu, ?_⟩
        rw [sg_nm i hi] at q
        exact q
      · refine ⟨_, rfl, rfl, T.n_SIGNS _ h1, ?_⟩
        have e : sgV (.str z) = false := decide_eq_false h1
        rw [e] at q
        exact q
    | non => exact ⟨_, rfl, _, _, _, _, false, rfl, .ty _, .base .non, kit_ty (by decide +kernel), _, rfl, iteF q⟩
    | bl b => exact ⟨_, rfl, _, _, _, _, false, rfl, .ty _, .base (.bl _), kit_ty (by decide +kernel), _, rfl, iteF q⟩
    | int i => exact ⟨_, rfl, _, _, _, _, false, rfl, .ty _, .base (.int _), kit_ty (by decide +kernel), _, rfl, iteF q⟩
    | byt b => exact hx.elim
    | flt b => exact hx.elim
    | ref a =>
      rcases hx with ⟨xs, e⟩ | ⟨xs, e⟩ | ⟨xs, e⟩
      · exact ⟨_, rfl, _, _, _, _, false, rfl, .ty _, .base (.tup e), kit_ty (by decide +kernel), _, rfl, iteF q⟩
      · exact ⟨_, rfl, _, _, _, _, false, rfl, .ty _, .base (.lst e), kit_ty (by decide +kernel), _, rfl, iteF q⟩
      · exact ⟨_, rfl, _, _, _, _, false, rfl, .ty _, .base (.dK e), kit_ty (by decide +kernel), _, rfl, iteF q⟩
    | ty n => exact hx.elim
theorem ok_leavesone (T : Txt K w mg f fd ob) : FnOk P w K mg base CX0 2 (f 11) (fd 11) ["items"] (sp_leavesone K) := by
  have G_issign := ok_issignV (P := P) (base := base) T
  refine T.F_leavesone.ok sc_leavesone (fun vs H Q E h => ?_) (fun cdv A outer s H vs Q E hr h => ?_)
  · obtain ⟨t, xs, rfl, _⟩ := h
    rfl
  · obtain ⟨t, xs, rfl, hS, hx, q⟩ := h
    have hr_issign := hr
    refine ⟨_, (pss_cons (ps_set (i := 1) sc_leavesone.nd rfl (Or.inl rfl) pe_int)
      (pss_cons (ps_for PassesOwn.never rfl (pi_tup (pv 0)) (pg_name (i := 2) sc_leavesone.nd rfl (Or.inl rfl)) (pss_one (ps_if (pt_val (pe_call G_issign hr_issign (by rfl) T.m_issign T.F_issign.kp T.b_issign .nil pass0 (pa_cons (pv 2) pa_nil))) (pss_cons (ps_if (pt_cmpR op_lt (pv 1) pe_int (nomark _)) (pss_one (ps_ret pe_bl)) pss_nil)
      (pss_one (ps_aug (i := 1) sc_leavesone.nd rfl (Or.inl rfl) pe_int ip_sub))) (pss_one (ps_aug (i := 1) sc_leavesone.nd rfl (Or.inl rfl) pe_int ip_add)))))
      (pss_one (ps_ret (pe_cmpR op_eq (pv 1) pe_int (nomark _)))))), ?_⟩
    refine ⟨_, rfl, t, rfl, ⟨_, hS⟩, for_tup (xs := xs) (fun i σ' H' => ∃ (h : Nat) (y : Option V), σ' = [some (.ref t), some (.int (h : Int)), y] ∧ H = H' ∧ htV 0 xs = htV h (xs.drop i))
      ⟨0, none, rfl, rfl, rfl⟩ (fun i σ' H' _ ⟨_, _, _, e, _⟩ => by rw [← e]; exact hS) ?_ ?_⟩
    · rintro i x _ _ hi ⟨h, y, rfl, rfl, hh⟩
      have hl : i < xs.length := (List.getElem?_eq_some_iff.mp hi).1
      have ed : xs.drop i = x :: xs.drop (i + 1) := by
        rw [List.drop_eq_getElem_cons hl]
        congr 1
        exact (List.getElem?_eq_some_iff.mp hi).2
      rw [ed] at hh
      refine ⟨_, rfl, x, rfl, hx x (List.mem_of_getElem? hi), _, rfl, ?_⟩
      cases es : sgV x with
      | true =>
        have hh2 : htV 0 xs = if 2 ≤ h then htV (h - 1) (xs.drop (i + 1)) else none := by
          rw [hh]
          show (if sgV x = true then (if 2 ≤ h then htV (h - 1) (xs.drop (i + 1)) else none) else _) = _
          rw [es]
          rfl
        refine iteT ⟨_, rfl, _, _, rfl, rfl, _, rfl, ite2 (fun h1 => ?_) (fun h1 => ?_)⟩
        · have h1' : (h : Int) < 2 := of_decide_eq_true h1
          rw [hh2, if_neg (by omega)] at q
          exact q
        · have h1' : ¬ (h : Int) < 2 := fun g => h1 (decide_eq_true g)
          refine ⟨_, rfl, _, _, rfl, rfl, h - 1, some x, ?_, rfl, by rw [hh2, if_pos (by omega)]⟩
          show [some (V.ref t), some (V.int ((h : Int) - 1)), some x] = _
          rw [show (h : Int) - 1 = ((h - 1 : Nat) : Int) by omega]
      | false =>
        refine iteF ⟨_, rfl, _, _, rfl, rfl, h + 1, _, rfl, rfl, ?_⟩
        rw [hh]
        show (if sgV x = true then _ else htV (h + 1) (xs.drop (i + 1))) = _
        rw [es]
        rfl
    · rintro _ _ ⟨h, y, rfl, rfl, hh⟩
      rw [List.drop_length] at hh
      have e : decide (htV 0 xs = some 1) = decide (V.int (h : Int) = V.int 1) := by
        rw [hh]
        show decide (some h = some 1) = _
        by_cases g : h = 1
        · subst g
          rfl
        · rw [decide_eq_false (fun z => g (Option.some.inj z)), decide_eq_false (fun z => g (by have := V.int.inj z; omega))]
      rw [e] at q
      exact ⟨_, rfl, rfl, q⟩
theorem ok_isexpression (T : Txt K w mg f fd ob) : FnOk P w K mg base CX0 3 (f 12) (fd 12) ["thing"] sp_isexpA := by
  obtain ⟨tkM, h_MOST_ITEMS⟩ := T.c_MOST_ITEMS
  have G_isworth := ok_isworth (P := P) (base := base) T
  have G_isletter := ok_isletter (P := P) (base := base) T
  have G_issign := ok_issignV (P := P) (base := base) T
  have G_leavesone := ok_leavesone (P := P) (base := base) T
  refine T.F_isexpression.ok sc_isexpression (fun vs H Q E h => ?_) (fun cdv A outer s H vs Q E hr h => ?_)
  · obtain ⟨x, rfl, _⟩ := h
    rfl
  · obtain ⟨x, rfl, hx0, hx1, q⟩ := h
    have hr_isworth := hr
    have hr_leavesone := hr
    have hr_isletter : Room 1 _ := hr.mono (by decide)
    have hr_issign : Room 1 _ := hr.mono (by decide)
    refine ⟨_, (pss_cons (ps_if (PW.pt (pw_or (pt_not (pt_val (pe_callB call_isi (by rfl) T.z_isinstance (by decide +kernel) (pa_cons (pv 0) (pa_cons (pe_bltn (v := .ty "tuple") (by rfl) T.z_tuple (by decide +kernel) rfl) pa_nil))))) (pw_or1 (pt_cmpR op_gt (pe_callB call_len_seq (by rfl) T.z_len PySem.boot_len (pa_cons (pv 0) pa_nil)) (pe_glob (v := .int 15) (by rfl) h_MOST_ITEMS ⟨_, rfl⟩) (nomark _))))) (pss_one (ps_ret pe_bl)) pss_nil)
      (pss_cons (ps_if (pt_not (pt_val (pe_callB (cr_all rfl) (by rfl) T.z_all (by decide +kernel) (pa_cons (pe_lc (own := [("item", 1)]) (g := (gName 1)) (tt := tYes) (te := (tOrV (tCall sp_isworth [] E0 (tCons (tVar 1) tNil)) (tOrV (tCall sp_isletter [] E0 (tCons (tVar 1) tNil)) (tCall sp_issignV [] E0 (tCons (tVar 1) tNil))))) (by rfl) sc_isexpression.nd (pi_tup (pv 0)) (blkOk_by (own := [("item", 1)]) (N := N_isexpression) (sc := defScope s_isexpression) (by decide +kernel)) (fun _ _ _ _ _ => (pg_name (i := 1) sc_isexpression.nd rfl (Or.inl rfl))) (fun _ _ _ _ _ => pts_nil) (fun _ _ _ _ _ => (pe_or (pe_call G_isworth hr_isworth (by rfl) T.m_isworth T.F_isworth.kp T.b_isworth .nil pass0 (pa_cons (pv 1) pa_nil)) (pe_or (pe_call G_isletter hr_isletter (by rfl) T.m_isletter T.F_isletter.kp T.b_isletter .nil pass0 (pa_cons (pv 1) pa_nil)) (pe_one (pe_call G_issign hr_issign (by rfl) T.m_issign T.F_issign.kp T.b_issign .nil pass0 (pa_cons (pv 1) pa_nil))))))) pa_nil)))) (pss_one (ps_ret pe_bl)) pss_nil)
      (pss_one (ps_ret (pe_call G_leavesone hr_leavesone (by rfl) T.m_leavesone T.F_leavesone.kp T.b_leavesone .nil pass0 (pa_cons (pv 0) pa_nil)))))), ?_⟩
    have no : exT H x = false → Q (.bl false) H := fun e => by
      have q2 := q H (Same.refl H)
      rw [e] at q2
      exact q2
    cases x with
    | non => exact ⟨_, rfl, _, _, _, _, false, rfl, .ty _, .base .non, kit_ty (by decide +kernel), _, rfl, iteT (no rfl)⟩
    | bl b => exact ⟨_, rfl, _, _, _, _, false, rfl, .ty _, .base (.bl _), kit_ty (by decide +kernel), _, rfl, iteT (no rfl)⟩
    | int i => exact ⟨_, rfl, _, _, _, _, false, rfl, .ty _, .base (.int _), kit_ty (by decide +kernel), _, rfl, iteT (no rfl)⟩
    | str z => exact ⟨_, rfl, _, _, _, _, false, rfl, .ty _, .base (.str _), kit_ty (by decide +kernel), _, rfl, iteT (no rfl)⟩
    | byt b => exact hx0.elim
    | flt b => exact hx0.elim
    | ty n => exact hx0.elim
    | ref t =>
      rcases hx0 with ⟨xs, ht⟩ | ⟨xs, ht⟩ | ⟨xs, ht⟩
      rotate_left
      · exact ⟨_, rfl, _, _, _, _, false, rfl, .ty _, .base (.lst ht), kit_ty (by decide +kernel), _, rfl, iteT (no (exT_lst ht))⟩
      · exact ⟨_, rfl, _, _, _, _, false, rfl, .ty _, .base (.dK ht), kit_ty (by decide +kernel), _, rfl, iteT (no (exT_dK ht))⟩
      · obtain ⟨hlen, hx⟩ := hx1 t xs rfl ht
        rw [exT_tup ht] at q
        refine ⟨_, rfl, _, _, _, _, true, rfl, .ty _, .base (.tup ht), kit_ty (by decide +kernel), _, rfl, iteF ?_⟩
        refine ⟨_, rfl, _, _, rfl, .inr (SqT.of ht), _, _, rfl, rfl, _, rfl, ite2 (fun h1 => ?_) (fun h1 => ?_)⟩
        · have h1' : (15 : Int) < ((xs.length : Nat) : Int) := of_decide_eq_true h1
          have e : exV xs = false := by
            unfold exV
            rw [decide_eq_false (show ¬ xs.length ≤ 15 by omega)]
            rfl
          have q2 := q H (Same.refl H)
          rw [e] at q2
          exact q2
        · have h1' : ¬ (15 : Int) < ((xs.length : Nat) : Int) := fun g => h1 (decide_eq_true g)
          refine ⟨_, rfl, t, rfl, ⟨_, SqT.of ht⟩, fun D nD => ?_⟩
          refine lc_tup (K := K) (a := t) (xs := xs) (fun i H' => Same H H' ∧ H' D = some (.lst (((xs.take i).map (fun x => woV x || ltV x || sgV x)).map V.bl))) ⟨Same.new nD, upd_same⟩ (fun i H' _ h => SqT.of (h.1 _ _ ht)) ?_ ?_
          · rintro i x H1 hi ⟨s1, hD⟩
            have hl : i < xs.length := (List.getElem?_eq_some_iff.mp hi).1
            have hf := (hx x (List.mem_of_getElem? hi)).same s1
            have et : xs.take (i + 1) = xs.take i ++ [x] := by
              rw [List.take_add_one, hi]
              rfl
            have key : ∃ acc, H1 D = some (.lst acc) ∧ acc.length < sizeLine ∧ Same H (upd H1 D (.lst (acc ++ [V.bl (woV x || ltV x || sgV x)]))) ∧ (upd H1 D (.lst (acc ++ [V.bl (woV x || ltV x || sgV x)]))) D = some (.lst (((xs.take (i + 1)).map (fun x => woV x || ltV x || sgV x)).map V.bl)) := by
              refine ⟨_, hD, ?_, Same.mut s1 nD, ?_⟩
              · rw [List.length_map, List.length_map, List.length_take]
                exact small1000 (by omega)
              · rw [upd_same, et, List.map_append, List.map_append]
                rfl
            refine ⟨rfl, _, rfl, x, rfl, hf, _, rfl, ?_⟩
            cases e1 : woV x with
            | true =>
              rw [e1] at key
              exact iteT key
            | false =>
              refine iteF ⟨_, rfl, x, rfl, hf, _, rfl, ?_⟩
              cases e2 : ltV x with
              | true =>
                rw [e1, e2] at key
                exact iteT key
              | false =>
                refine iteF ⟨_, rfl, x, rfl, hf, ?_⟩
                rw [e1, e2] at key
                exact key
          · rintro H1 ⟨s1, hD⟩
            rw [List.take_length] at hD
            refine ⟨D, _, rfl, SqL.of hD, _, rfl, ?_⟩
            have ea : (xs.map (fun x => woV x || ltV x || sgV x)).all id = xs.all (fun x => woV x || ltV x || sgV x) := by
              rw [List.all_map]
              rfl
            rw [ea]
            cases e1 : xs.all (fun x => woV x || ltV x || sgV x) with
            | false =>
              refine iteT ?_
              have e : exV xs = false := by
                unfold exV
                rw [e1, Bool.and_false]
                rfl
              have q2 := q H1 s1
              rw [e] at q2
              exact q2
            | true =>
              refine iteF ⟨_, rfl, t, xs, rfl, SqT.of (s1 _ _ ht), fun x hm => (hx x hm).same s1, ?_⟩
              have e : exV xs = decide (htV 0 xs = some 1) := by
                unfold exV
                rw [e1, decide_eq_true (show xs.length ≤ 15 by omega)]
                rfl
              have q2 := q H1 s1
              rw [e] at q2
              exact q2
theorem ok_brought (T : Txt K w mg f fd ob) : FnOk P w K mg base CX0 1 (f 0) (fd 0) ["n"] sp_brought := by
  refine T.F_brought.ok sc_brought (fun vs H Q E h => ?_) (fun cdv A outer s H vs Q E hr h => ?_)
  · obtain ⟨n, rfl, _⟩ := h
    rfl
  · obtain ⟨n, rfl, q⟩ := h
    refine ⟨_, (pss_one (ps_ret (pe_op op_sub (pe_op op_mod (pe_op op_add (pv 0) pe_int) pe_int) pe_int))), ?_⟩
    exact ⟨_, rfl, _, _, rfl, rfl, _, _, rfl, rfl, (by show (0 : Int) < 65536; decide), _, _, rfl, rfl, q⟩
theorem len2 {i : Nat} {vs : List V} {H : Hp} {Q : VK} {E : XK} (h : spS i vs H Q E) : vs.length = 2 := by
  obtain ⟨a, b, rfl, _⟩ := h
  rfl
theorem ok_plus (T : Txt K w mg f fd ob) : FnOk P w K mg base CX0 1 (f 46) (fd 46) ["one", "other"] (spS 0) := by
  refine T.F_plus.ok sc_plus (fun vs H Q E h => len2 h) (fun cdv A outer s H vs Q E hr h => ?_)
  obtain ⟨a, b, rfl, ha, hb, q⟩ := h
  exact ⟨_, (pss_one (ps_ret (pe_op op_add (pv 0) (pv 1)))), _, rfl, _, rfl, _, _, rfl, rfl, q⟩
theorem ok_minus (T : Txt K w mg f fd ob) : FnOk P w K mg base CX0 1 (f 47) (fd 47) ["one", "other"] (spS 1) := by
  refine T.F_minus.ok sc_minus (fun vs H Q E h => len2 h) (fun cdv A outer s H vs Q E hr h => ?_)
  obtain ⟨a, b, rfl, ha, hb, q⟩ := h
  exact ⟨_, (pss_one (ps_ret (pe_op op_sub (pv 0) (pv 1)))), _, rfl, _, rfl, _, _, rfl, rfl, q⟩
theorem ok_times (T : Txt K w mg f fd ob) : FnOk P w K mg base CX0 1 (f 48) (fd 48) ["one", "other"] (spS 2) := by
  refine T.F_times.ok sc_times (fun vs H Q E h => len2 h) (fun cdv A outer s H vs Q E hr h => ?_)
  obtain ⟨a, b, rfl, ha, hb, q⟩ := h
  unfold W at ha hb
  exact ⟨_, (pss_one (ps_ret (pe_op op_mul (pv 0) (pv 1)))), _, rfl, _, rfl, _, _, rfl, rfl, .inl ⟨by omega, by omega⟩, q⟩
theorem ok_quotient (T : Txt K w mg f fd ob) : FnOk P w K mg base CX0 1 (f 1) (fd 1) ["one", "other"] (spS 3) := by
  refine T.F_quotient.ok sc_quotient (fun vs H Q E h => len2 h) (fun cdv A outer s H vs Q E hr h => ?_)
  obtain ⟨a, b, rfl, ha, hb, q⟩ := h
  unfold W at ha hb
  refine ⟨_, (pss_one (ps_ret (pe_ifExp (pt_cmpR op_eq (pv 1) pe_int (nomark _)) pe_int (pe_op op_fdivN (pv 0) (pv 1))))), ?_⟩
  refine ⟨_, rfl, rfl, _, rfl, ite2 (fun h => ?_) (fun h => ?_)⟩
  · have e : b = 0 := V.int.inj (of_decide_eq_true h)
    have e2 : sg 3 a b = 0 := if_pos e
    rw [e2] at q
    exact q
  · have e : ¬ b = 0 := fun z => h (decide_eq_true (by rw [z]))
    have e2 : sg 3 a b = a.fdiv b := if_neg e
    rw [e2] at q
    exact ⟨_, rfl, _, rfl, _, _, rfl, rfl, ⟨e, by omega⟩, q⟩
theorem ok_rest (T : Txt K w mg f fd ob) : FnOk P w K mg base CX0 1 (f 2) (fd 2) ["one", "other"] (spS 4) := by
  refine T.F_rest.ok sc_rest (fun vs H Q E h => len2 h) (fun cdv A outer s H vs Q E hr h => ?_)
  obtain ⟨a, b, rfl, ha, hb, q⟩ := h
  unfold W at ha hb
  refine ⟨_, (pss_one (ps_ret (pe_ifExp (pt_cmpR op_eq (pv 1) pe_int (nomark _)) pe_int (pe_op op_sub (pv 0) (pe_op op_mul (pv 1) (pe_op op_fdivN (pv 0) (pv 1))))))), ?_⟩
  refine ⟨_, rfl, rfl, _, rfl, ite2 (fun h => ?_) (fun h => ?_)⟩
  · have e : b = 0 := V.int.inj (of_decide_eq_true h)
    have e2 : sg 4 a b = 0 := if_pos e
    rw [e2] at q
    exact q
  · have e : ¬ b = 0 := fun z => h (decide_eq_true (by rw [z]))
    have e2 : sg 4 a b = a - b * a.fdiv b := if_neg e
    rw [e2] at q
    exact ⟨_, rfl, _, rfl, _, rfl, _, rfl, _, _, rfl, rfl, ⟨e, by omega⟩, _, _, rfl, rfl, .inl ⟨by omega, by omega⟩, _, _, rfl, rfl, q⟩
theorem ok_isless (T : Txt K w mg f fd ob) : FnOk P w K mg base CX0 1 (f 49) (fd 49) ["one", "other"] (spS 5) := by
  refine T.F_isless.ok sc_isless (fun vs H Q E h => len2 h) (fun cdv A outer s H vs Q E hr h => ?_)
  obtain ⟨a, b, rfl, ha, hb, q⟩ := h
  refine ⟨_, (pss_one (ps_ret (pe_ifExp (pt_cmpR op_lt (pv 0) (pv 1) (nomark _)) pe_int pe_int))), ?_⟩
  refine ⟨_, rfl, _, rfl, _, _, rfl, rfl, _, rfl, ite2 (fun h => ?_) (fun h => ?_)⟩
  · have e2 : sg 5 a b = 1 := if_pos (of_decide_eq_true h)
    rw [e2] at q
    exact q
  · have e2 : sg 5 a b = 0 := if_neg (fun z => h (decide_eq_true z))
    rw [e2] at q
    exact q
theorem ok_issame (T : Txt K w mg f fd ob) : FnOk P w K mg base CX0 1 (f 50) (fd 50) ["one", "other"] (spS 6) := by
  refine T.F_issame.ok sc_issame (fun vs H Q E h => len2 h) (fun cdv A outer s H vs Q E hr h => ?_)
  obtain ⟨a, b, rfl, ha, hb, q⟩ := h
  refine ⟨_, (pss_one (ps_ret (pe_ifExp (pt_cmpR op_eq (pv 0) (pv 1) (nomark _)) pe_int pe_int))), ?_⟩
  refine ⟨_, rfl, _, rfl, rfl, _, rfl, ite2 (fun h => ?_) (fun h => ?_)⟩
  · have e2 : sg 6 a b = 1 := if_pos (V.int.inj (of_decide_eq_true h))
    rw [e2] at q
    exact q
  · have e2 : sg 6 a b = 0 := if_neg (fun z => h (decide_eq_true (by rw [z])))
    rw [e2] at q
    exact q
theorem ok_bitsofboth (T : Txt K w mg f fd ob) : FnOk P w K mg base CX0 1 (f 51) (fd 51) ["one", "other"] (spS 7) := by
  refine T.F_bitsofboth.ok sc_bitsofboth (fun vs H Q E h => len2 h) (fun cdv A outer s H vs Q E hr h => ?_)
  obtain ⟨a, b, rfl, ha, hb, q⟩ := h
  exact ⟨_, (pss_one (ps_ret (pe_op op_and (pv 0) (pv 1)))), _, rfl, _, rfl, _, _, rfl, rfl, q⟩
theorem ok_bitsofone (T : Txt K w mg f fd ob) : FnOk P w K mg base CX0 1 (f 52) (fd 52) ["one", "other"] (spS 8) := by
  refine T.F_bitsofone.ok sc_bitsofone (fun vs H Q E h => len2 h) (fun cdv A outer s H vs Q E hr h => ?_)
  obtain ⟨a, b, rfl, ha, hb, q⟩ := h
  exact ⟨_, (pss_one (ps_ret (pe_op op_xor (pv 0) (pv 1)))), _, rfl, _, rfl, _, _, rfl, rfl, q⟩
theorem ok_toldby (T : Txt K w mg f fd ob) : FnOk P w K mg base CX0 2 (f 33) (fd 33) ["sign", "one", "other"] sp_toldby := by
  have G_brought := ok_brought (P := P) (base := base) T
  refine T.F_toldby.ok sc_toldby (fun vs H Q E h => ?_) (fun cdv A outer s H vs Q E hr h => ?_)
  · obtain ⟨i, a, b, _, rfl, _⟩ := h
    rfl
  · obtain ⟨i, a, b, hi, rfl, ha, hb, q⟩ := h
    have hr_brought := hr
    have key : ∀ (ff : Addr) (fdd : FuncData), FnOk P w K mg base CX0 1 ff fdd ["one", "other"] (spS i) → PySem.W.keepIn K (.ref ff) = true → Binds K fdd ["one", "other"] [] → KDct K w (ob 0) (nm i) (.ref ff) →
        ∃ t, PSs (cxOf CX0 P w K mg base N_toldby "told_by" (defScope s_toldby) (f 33) cdv A outer s H E).nox (defBody s_toldby) t ∧ t { nx := fun _ H' => Q .non H', rt := Q } (start N_toldby [.str (nm i), .int a, .int b]) H := by
      intro ff fdd Gf kpf bf hd
      refine ⟨_, (pss_cons (ps_set (i := 3) sc_toldby.nd rfl (Or.inl rfl) (pe_ix ix_kdict (pe_glob (v := .ref (ob 0)) (by rfl) T.m_SIGNS rfl) (pv 0) (fun _ _ => rfl)))
      (pss_one (ps_ret (pe_call G_brought hr_brought (by rfl) T.m_brought T.F_brought.kp T.b_brought .nil pass0 (pa_cons (pe_callL (i := 3) Gf hr (by rfl) (Or.inl rfl) kpf bf .nil pass0 (pa_cons (pv 1) (pa_cons (pv 2) pa_nil))) pa_nil))))), ?_⟩
      exact ⟨_, rfl, _, _, _, rfl, rfl, hd, rfl, _, rfl, _, rfl, a, b, rfl, ha, hb, _, rfl, q⟩
    match i, hi with
    | 0, _ => exact key _ _ (ok_plus T) T.F_plus.kp T.b_plus T.t_SIGNS_0
    | 1, _ => exact key _ _ (ok_minus T) T.F_minus.kp T.b_minus T.t_SIGNS_1
    | 2, _ => exact key _ _ (ok_times T) T.F_times.kp T.b_times T.t_SIGNS_2
    | 3, _ => exact key _ _ (ok_quotient T) T.F_quotient.kp T.b_quotient T.t_SIGNS_3
    | 4, _ => exact key _ _ (ok_rest T) T.F_rest.kp T.b_rest T.t_SIGNS_4
    | 5, _ => exact key _ _ (ok_isless T) T.F_isless.kp T.b_isless T.t_SIGNS_5
    | 6, _ => exact key _ _ (ok_issame T) T.F_issame.kp T.b_issame T.t_SIGNS_6
    | 7, _ => exact key _ _ (ok_bitsofboth T) T.F_bitsofboth.kp T.b_bitsofboth T.t_SIGNS_7
    | 8, _ => exact key _ _ (ok_bitsofone T) T.F_bitsofone.kp T.b_bitsofone T.t_SIGNS_8
theorem ok_issign (T : Txt K w mg f fd ob) : FnOk P w K mg base CX0 1 (f 10) (fd 10) ["thing"] sp_issign := by
  obtain ⟨es, nn, D_SIGNS⟩ := T.d_SIGNS
  refine T.F_issign.ok sc_issign (fun vs H Q E h => ?_) (fun cdv A outer s H vs Q E hr h => ?_)
  · obtain ⟨m, rfl, _⟩ := h
    rfl
  · obtain ⟨m, rfl, hm, q⟩ := h
    refine ⟨_, (pss_one (ps_ret (pe_and (pe_callB call_isi (by rfl) T.z_isinstance (by decide +kernel) (pa_cons (pv 0) (pa_cons (pe_bltn (v := .ty "str") (by rfl) T.z_str (by decide +kernel) rfl) pa_nil))) (pe_one (pe_cmpR (op_in_kd D_SIGNS) (pv 0) (pe_glob (v := .ref (ob 0)) (by rfl) T.m_SIGNS rfl) (by rfl)))))), ?_⟩
    cases m with
    | wo a => exact ⟨_, rfl, _, _, _, _, false, rfl, .ty _, .base (.int _), kit_ty (by decide +kernel), _, rfl, iteF q⟩
    | re k => exact ⟨_, rfl, _, _, _, _, true, rfl, .ty _, .base (.str _), kit_ty (by decide +kernel), _, rfl, iteT ⟨_, rfl, _, _, rfl, rfl, T.n_SIGNS _ (lt_no k hm), q⟩⟩
    | si i =>
      obtain ⟨u, hu⟩ := sign_in T hm
      exact ⟨_, rfl, _, _, _, _, true, rfl, .ty _, .base (.str _), kit_ty (by decide +kernel), _, rfl, iteT ⟨_, rfl, _, _, rfl, rfl, hu, q⟩⟩
theorem ok_reckoned (T : Txt K w mg f fd ob) : FnOk P w K mg base CX0 3 (f 34) (fd 34) ["e", "registers"] (sp_reckoned K) := by
  have G_issign := ok_issign (P := P) (base := base) T
  have G_toldby := ok_toldby (P := P) (base := base) T
  refine T.F_reckoned.ok sc_reckoned (fun vs H Q E h => ?_) (fun cdv A outer s H vs Q E hr h => ?_)
  · obtain ⟨e, d, its, kvs, y, r, rfl, _⟩ := h
    rfl
  · obtain ⟨e, d, its, kvs, y, r, rfl, hS, hok, hlen, hd, hg, hrun, q⟩ := h
    have hr_toldby := hr
    have hr_issign : Room 1 _ := hr.mono (by decide)
    refine ⟨_, (pss_cons (ps_set (i := 2) sc_reckoned.nd rfl (Or.inl rfl) (pe_lst pa_nil))
      (pss_cons (ps_for PassesOwn.never rfl (pi_tup (pv 0)) (pg_name (i := 3) sc_reckoned.nd rfl (Or.inl rfl)) (pss_one (ps_if (pt_val (pe_call G_issign hr_issign (by rfl) T.m_issign T.F_issign.kp T.b_issign .nil pass0 (pa_cons (pv 3) pa_nil))) (pss_cons (ps_set (i := 4) sc_reckoned.nd rfl (Or.inl rfl) (pe_bm0 PySem.F.plainAttrs_list PySem.F.slot_list_pop PySem.F.type_list_pop mt_pop (pv 2)))
      (pss_cons (ps_set (i := 5) sc_reckoned.nd rfl (Or.inl rfl) (pe_bm0 PySem.F.plainAttrs_list PySem.F.slot_list_pop PySem.F.type_list_pop mt_pop (pv 2)))
      (pss_one (ps_expr (pe_bm PySem.F.plainAttrs_list PySem.F.slot_list_append PySem.F.type_list_append mt_append (pv 2) (pa_cons (pe_call G_toldby hr_toldby (by rfl) T.m_toldby T.F_toldby.kp T.b_toldby .nil pass0 (pa_cons (pv 3) (pa_cons (pv 5) (pa_cons (pv 4) pa_nil)))) pa_nil)))))) (pss_one (ps_if (pt_val (pe_callB call_isi (by rfl) T.z_isinstance (by decide +kernel) (pa_cons (pv 3) (pa_cons (pe_bltn (v := .ty "str") (by rfl) T.z_str (by decide +kernel) rfl) pa_nil)))) (pss_one (ps_expr (pe_bm PySem.F.plainAttrs_list PySem.F.slot_list_append PySem.F.type_list_append mt_append (pv 2) (pa_cons (pe_dget2 (hu_of hr) (pv 1) (pv 3) pe_int ⟨rfl, rfl, rfl, rfl⟩) pa_nil)))) (pss_one (ps_expr (pe_bm PySem.F.plainAttrs_list PySem.F.slot_list_append PySem.F.type_list_append mt_append (pv 2) (pa_cons (pv 3) pa_nil)))))))))
      (pss_one (ps_ret (pe_ix ix_list (pv 2) (pe_un un_neg pe_int) (fun _ _ => rfl)))))), ?_⟩
    refine ⟨Nat.zero_le _, fun l hl => ?_⟩
    refine ⟨_, rfl, e, rfl, ⟨_, ex_t (Same.new hl) hS⟩, for_tup (xs := its.map Im.toV) (fun i σ' H' => ∃ (rp : List Int) (y3 y4 y5 : Option V), σ' = [some (.ref e), some (.ref d), some (.ref l), y3, y4, y5] ∧ Same H H' ∧ H' l = some (.lst (rp.reverse.map V.int)) ∧
        run (rho kvs) rp (its.drop i) = some (y :: r) ∧ (∀ x ∈ rp, W x) ∧ rp.length ≤ i)
      ⟨[], none, none, none, rfl, Same.new hl, upd_same, hrun, (fun x hx => (List.not_mem_nil hx).elim), Nat.le_refl _⟩ (fun i σ' H' _ ⟨_, _, _, _, _, s, _⟩ => ex_t s hS) ?_ ?_⟩
    · rintro i x _ H1 hx ⟨rp, y3, y4, y5, rfl, s1, h1, hr1, hW, hle⟩
      rw [List.getElem?_map] at hx
      cases em : its[i]? with
      | none =>
        rw [em] at hx
        cases hx
      | some m =>
        rw [em] at hx
        obtain rfl : m.toV = x := Option.some.inj hx
        have hi : i < its.length := (List.getElem?_eq_some_iff.mp em).1
        have hm : m ∈ its := List.mem_of_getElem? em
        have ed : its.drop i = m :: its.drop (i + 1) := by
          rw [List.drop_eq_getElem_cons hi]
          congr 1
          exact (List.getElem?_eq_some_iff.mp em).2
        rw [ed] at hr1
        have hd1 : H1 d = some (.dK kvs) := s1 _ _ hd
        have hsz : (rp.reverse.map V.int).length < sizeLine := by
          rw [List.length_map, List.length_reverse]
          exact small1000 (by omega)
        refine ⟨_, rfl, m, rfl, hok m hm, _, rfl, ?_⟩
        cases m with
        | wo a =>
          refine iteF ⟨_, rfl, _, _, _, _, false, rfl, .ty _, .base (.int _), kit_ty (by decide +kernel), _, rfl, iteF ?_⟩
          refine ⟨_, rfl, .inl ⟨rfl, _, SqL.of h1⟩, _, rfl, l, _, _, rfl, rfl, h1, hsz, ?_⟩
          refine ⟨a :: rp, _, _, _, rfl, Same.mut s1 hl, ?_, hr1, ?_, ?_⟩
          · rw [upd_same, rev_last]
            rfl
          · intro x hx
            rcases List.mem_cons.mp hx with rfl | hx
            · exact hok _ hm
            · exact hW x hx
          · rw [List.length_cons]
            omega
        | re k =>
          obtain ⟨g1, g2⟩ := hg.get k
          refine iteF ⟨_, rfl, _, _, _, _, true, rfl, .ty _, .base (.str _), kit_ty (by decide +kernel), _, rfl, iteT ?_⟩
          refine ⟨_, rfl, .inl ⟨rfl, _, SqL.of h1⟩, _, rfl, d, rfl, .inl ⟨_, .inl hd1⟩, _, rfl, _, .inl ⟨kvs, .inr (lt k), .inl hd1, rfl, rfl⟩, ?_⟩
          rw [g1]
          refine ⟨l, _, _, rfl, rfl, h1, hsz, ?_⟩
          refine ⟨rho kvs k :: rp, _, _, _, rfl, Same.mut s1 hl, ?_, hr1, ?_, ?_⟩
          · rw [upd_same, rev_last]
          · intro x hx
            rcases List.mem_cons.mp hx with rfl | hx
            · exact g2
            · exact hW x hx
          · rw [List.length_cons]
            omega
        | si j =>
          match rp, h1, hr1, hW, hle, hsz with
          | [], _, hr1, _, _, _ => cases hr1
          | [x], _, hr1, _, _, _ => cases hr1
          | v :: u :: t, h1, hr1, hW, hle, hsz =>
            have hv : W v := hW v List.mem_cons_self
            have hu : W u := hW u (List.mem_cons_of_mem _ List.mem_cons_self)
            have hj : j < 9 := hok _ hm
            rw [rev_last, rev_last] at h1
            refine iteT ⟨_, rfl, .inl ⟨rfl, _, SqL.of h1⟩, l, _, .int v, rfl, rfl, h1, last_get _ _, ?_⟩
            have h2 : (upd H1 l (.lst (t.reverse.map V.int ++ [V.int u] ++ [V.int v]).dropLast)) l = some (.lst (t.reverse.map V.int ++ [V.int u])) := by
              rw [upd_same, List.dropLast_concat]
            refine ⟨_, rfl, .inl ⟨rfl, _, SqL.of h2⟩, l, _, .int u, rfl, rfl, h2, last_get _ _, ?_⟩
            have h3 : (upd (upd H1 l (.lst (t.reverse.map V.int ++ [V.int u] ++ [V.int v]).dropLast)) l (.lst (t.reverse.map V.int ++ [V.int u]).dropLast)) l = some (.lst (t.reverse.map V.int)) := by
              rw [upd_same, List.dropLast_concat]
            refine ⟨_, rfl, .inl ⟨rfl, _, SqL.of h3⟩, _, rfl, _, rfl, _, rfl, j, u, v, hj, rfl, hu, hv, l, _, _, rfl, rfl, h3, ?_, ?_⟩
            · rw [List.length_map, List.length_reverse]
              rw [List.length_cons, List.length_cons] at hle
              exact small1000 (by omega)
            · refine ⟨br (sg j u v) :: t, _, _, _, rfl, Same.mut (Same.mut (Same.mut s1 hl) hl) hl, ?_, hr1, ?_, ?_⟩
              · rw [upd_same, rev_last]
              · intro x hx
                rcases List.mem_cons.mp hx with rfl | hx
                · exact br_W _
                · exact hW x (List.mem_cons_of_mem _ (List.mem_cons_of_mem _ hx))
              · rw [List.length_cons, List.length_cons] at hle
                rw [List.length_cons]
                omega
    · rintro _ H1 ⟨rp, y3, y4, y5, rfl, s1, h1, hr1, hW, hle⟩
      rw [List.length_map, List.drop_length] at hr1
      have e : rp = y :: r := Option.some.inj hr1
      subst e
      rw [rev_last] at h1
      exact ⟨_, rfl, _, rfl, _, _, _, _, rfl, rfl, SqL.of h1, atI_last _ _, q _ s1 (hW y List.mem_cons_self)⟩
theorem ok_lfeed (T : Txt K w mg f fd ob) : FnOk P w K mg base CX0 1 (f 28) (fd 28) ["_law_script"] (sp_lfeed K) := by
  refine T.F_lfeed.ok sc_lfeed (fun vs H Q E h => ?_) (fun cdv A outer s H vs Q E hr h => ?_)
  · obtain ⟨a, ns, rfl, _⟩ := h
    rfl
  · obtain ⟨a, ns, rfl, hS, hlen, q⟩ := h
    refine ⟨_, (pss_one (ps_ret (pe_lst (pa_cons (pe_callTy call_list_of (by rfl) T.z_list (by decide +kernel) (pa_cons (pe_slice sl_list (pv 0) po_none (po_some pe_int)) pa_nil)) (pa_cons pe_int (pa_cons pe_int pa_nil)))))), ?_⟩
    refine ⟨_, rfl, _, rfl, a, _, rfl, hS, fun c1 n1 => ⟨_, _, rfl, .inl (SqL.of upd_same), fun c n2 => ⟨(show 3 ≤ sizeLine by decide), fun p n3 => ?_⟩⟩⟩
    refine q _ p c ⟨0, upd_same, ?_, by decide, by decide⟩
    rw [upd_ne (ne_of_none upd_same n3), upd_same, cut63 (by rw [List.length_map]; exact hlen)]
theorem ok_ldraw (T : Txt K w mg f fd ob) : FnOk P w K mg base CX0 1 (f 29) (fd 29) ["_law_feed_here", "_law_many"] sp_ldraw := by
  refine T.F_ldraw.ok sc_ldraw (fun vs H Q E h => ?_) (fun cdv A outer s H vs Q E hr h => ?_)
  · obtain ⟨p, c, ns, n, m, rfl, _⟩ := h
    rfl
  · obtain ⟨p, c, ns, n, m, rfl, hP, hm0, hm1, hn1, q⟩ := h
    have hne : c ≠ p := hP.ne
    obtain ⟨r, hp, hc, hn0, hr0⟩ := hP
    refine ⟨_, (pss_cons (ps_if (pt_cmpR op_gt (pe_ix ix_list (pv 0) pe_int (fun _ _ => rfl)) pe_int (nomark _)) (pss_cons (ps_set (i := 2) sc_ldraw.nd rfl (Or.inl rfl) (pe_op op_mod (pe_ix ix_list (pv 0) pe_int (fun _ _ => rfl)) (pv 1)))
      (pss_cons (ps_asg (pe_op op_fdiv (pe_ix ix_list (pv 0) pe_int (fun _ _ => rfl)) (pv 1)) (pg_sub (pv 0) pe_int set_list))
      (pss_one (ps_ret (pv 2))))) pss_nil)
      (pss_cons (ps_set (i := 3) sc_ldraw.nd rfl (Or.inl rfl) (pe_ix ix_list (pv 0) pe_int (fun _ _ => rfl)))
      (pss_cons (ps_asg (pe_op op_add (pv 3) pe_int) (pg_sub (pv 0) pe_int set_list))
      (pss_cons (ps_set (i := 4) sc_ldraw.nd rfl (Or.inl rfl) (pv 3))
      (C8.pss_cut (ps_if (pt_cmpR op_gt (pe_callB call_len_seq (by rfl) T.z_len PySem.boot_len (pa_cons (pe_ix ix_list (pv 0) pe_int (fun _ _ => rfl)) pa_nil)) pe_int (nomark _)) (pss_one (ps_set (i := 4) sc_ldraw.nd rfl (Or.inl rfl) (pe_ix ix_list (pe_ix ix_list (pv 0) pe_int (fun _ _ => rfl)) (pe_op op_mod (pv 3) (pe_callB call_len_seq (by rfl) T.z_len PySem.boot_len (pa_cons (pe_ix ix_list (pv 0) pe_int (fun _ _ => rfl)) pa_nil))) (fun _ _ => rfl)))) pss_nil)
      (C8.pss_cut (ps_if (PW.pt (pw_and (pt_cmpR op_ge (pv 4) (pe_op op_pow pe_int pe_int) (nomark _)) (pw_and1 (pt_cmpR op_lt (pv 3) (pe_callB call_len_seq (by rfl) T.z_len PySem.boot_len (pa_cons (pe_ix ix_list (pv 0) pe_int (fun _ _ => rfl)) pa_nil)) (nomark _))))) (pss_cons (ps_asg (pe_op op_fdiv (pv 4) (pv 1)) (pg_sub (pv 0) pe_int set_list))
      (pss_one (ps_ret (pe_op op_mod (pv 4) (pv 1))))) pss_nil)
      (pss_cons (ps_set (i := 5) sc_ldraw.nd rfl (Or.inl rfl) (pe_op op_mod (pe_op op_mul (pe_op op_add (pe_op op_add (pe_op op_mod (pv 4) pe_int) (pe_op op_mul (pe_op op_mul pe_int (pv 3)) (pv 3))) pe_int) pe_int) pe_int))
      (pss_cons (ps_set (i := 5) sc_ldraw.nd rfl (Or.inl rfl) (pe_op op_mod (pe_op op_add (pe_op op_mul (pv 5) (pv 5)) (pe_op op_mul pe_int (pv 3))) pe_int))
      (pss_one (ps_ret (pe_op op_mod (pe_op op_fdiv (pe_op op_mod (pe_op op_mul (pv 5) (pe_op op_add (pe_op op_mod (pv 5) pe_int) pe_int)) pe_int) pe_int) (pv 1)))))))))))), ?_⟩
    -- if feed[2] > 0
    refine ⟨_, rfl, _, _, _, _, rfl, rfl, SqL.of hp, rfl, _, _, rfl, rfl, _, rfl, ite2 (fun h1 => ?_) (fun h1 => ?_)⟩
    · refine ⟨_, rfl, _, _, _, _, rfl, rfl, SqL.of hp, rfl, _, rfl, _, _, rfl, rfl, hm0, ?_⟩
      refine ⟨_, rfl, _, _, _, _, rfl, rfl, SqL.of hp, rfl, _, rfl, _, _, rfl, rfl, ⟨hm0, hm1⟩, _, rfl, _, _, _, _, rfl, rfl, hp, rfl, ?_⟩
      exact ⟨_, rfl, q _ _ _ (Kp.upd _) ⟨_, upd_same, (upd_ne hne).trans hc, hn0, Int.ediv_nonneg hr0 (by omega)⟩ (Int.emod_nonneg _ (by omega)) (Int.emod_lt_of_pos _ hm0) (by omega) (by omega)⟩
    · -- at = feed[1]; feed[1] = at + 1; cell = at
      refine ⟨_, rfl, _, _, _, _, rfl, rfl, SqL.of hp, rfl, ?_⟩
      refine ⟨_, rfl, _, _, rfl, rfl, _, rfl, _, _, _, _, rfl, rfl, hp, rfl, ?_⟩
      have hp1 : (upd H p (.lst [.ref c, .int (n + 1), .int r])) p = some (.lst [.ref c, .int (n + 1), .int r]) := upd_same
      have hc1 : (upd H p (.lst [.ref c, .int (n + 1), .int r])) c = some (.lst (ns.map V.int)) := (upd_ne hne).trans hc
      refine ⟨_, rfl, ?_⟩
      -- if len(feed[0]) > 0
      refine ⟨fun σ' H' => ∃ v : Int, σ' = [some (.ref p), some (.int m), none, some (.int n), some (.int v), none] ∧ H' = upd H p (.lst [.ref c, .int (n + 1), .int r]), ?_, ?_⟩
      · refine ⟨_, rfl, _, _, _, _, rfl, rfl, SqL.of hp1, rfl, _, _, rfl, .inl (SqL.of hc1), _, _, rfl, rfl, _, rfl, ite2 (fun h2 => ?_) (fun h2 => ⟨_, rfl, rfl⟩)⟩
        have hl : 0 < ((ns.map V.int).length : Int) := of_decide_eq_true h2
        obtain ⟨v, hv⟩ := atI_in (ns := ns) (Int.emod_nonneg n (by omega)) (Int.emod_lt_of_pos n hl)
        exact ⟨_, rfl, _, _, _, _, rfl, rfl, SqL.of hp1, rfl, _, rfl, _, rfl, _, _, _, _, rfl, rfl, SqL.of hp1, rfl, _, _, rfl, .inl (SqL.of hc1), _, _, rfl, rfl, hl, _, _, _, _, rfl, rfl, SqL.of hc1, hv, v, rfl, rfl⟩
      · rintro _ _ ⟨v, rfl, rfl⟩
        -- if cell >= 10 ** 18 and at < len(feed[0])
        refine ⟨fun σ' H' => σ' = [some (.ref p), some (.int m), none, some (.int n), some (.int v), none] ∧ H' = upd H p (.lst [.ref c, .int (n + 1), .int r]), ?_, ?_⟩
        · refine ⟨_, rfl, _, _, rfl, rfl, ⟨by decide, by decide, by decide⟩, _, _, rfl, rfl, _, rfl, ite2 (fun h3 => ?_) (fun h3 => iteF ⟨rfl, rfl⟩)⟩
          refine ⟨_, rfl, _, rfl, _, _, _, _, rfl, rfl, SqL.of hp1, rfl, _, _, rfl, .inl (SqL.of hc1), _, _, rfl, rfl, _, rfl, ite2 (fun h4 => ?_) (fun h4 => ⟨rfl, rfl⟩)⟩
          have hv : (10 : Int) ^ (18 : Int).toNat ≤ v := of_decide_eq_true h3
          have hv0 : 0 ≤ v := Int.le_trans (by decide) hv
          refine ⟨_, rfl, _, rfl, _, _, rfl, rfl, ⟨hm0, hm1⟩, _, rfl, _, _, _, _, rfl, rfl, hp1, rfl, ?_⟩
          refine ⟨_, rfl, _, rfl, _, _, rfl, rfl, hm0, ?_⟩
          rw [upd_upd]
          exact q _ _ (n + 1) (Kp.upd _) ⟨_, upd_same, (upd_ne hne).trans hc, by omega, Int.ediv_nonneg hv0 (by omega)⟩ (Int.emod_nonneg _ (by omega)) (Int.emod_lt_of_pos _ hm0) (by omega) (by omega)
        · rintro _ _ ⟨rfl, rfl⟩
          refine ⟨_, rfl, _, _, rfl, rfl, (by show (0 : Int) < 2147483647; decide), _, rfl, _, _, rfl, rfl, .inl ⟨by decide, by decide⟩, _, rfl, _, _, rfl, rfl, .inr ⟨by omega, by omega⟩, _, _, rfl, rfl, _, _, rfl, rfl, _, _, rfl, rfl, .inr ⟨by decide, by decide⟩, _, _, rfl, rfl, (by show (0 : Int) < 2147483647; decide), ?_⟩
          generalize hx : ((v % 2147483647 + 7919 * n * n + 104729) * 48271 % 2147483647 : Int) = x
          have hx0 : 0 ≤ x := by
            rw [← hx]
            exact Int.emod_nonneg _ (by decide)
          have hx1 : x < 2147483647 := by
            rw [← hx]
            exact Int.emod_lt_of_pos _ (by decide)
          refine ⟨_, rfl, _, rfl, _, _, rfl, rfl, .inl ⟨by omega, by omega⟩, _, rfl, _, _, rfl, rfl, .inl ⟨by decide, by decide⟩, _, _, rfl, rfl, _, _, rfl, rfl, (by show (0 : Int) < 2147483629; decide), ?_⟩
          generalize hy : ((x * x + 69621 * n) % 2147483629 : Int) = y
          have hy0 : 0 ≤ y := by
            rw [← hy]
            exact Int.emod_nonneg _ (by decide)
          have hy1 : y < 2147483629 := by
            rw [← hy]
            exact Int.emod_lt_of_pos _ (by decide)
          refine ⟨_, rfl, _, rfl, _, _, rfl, rfl, (by show (0 : Int) < 65521; decide), _, _, rfl, rfl, _, _, rfl, rfl, .inl ⟨by omega, by omega⟩, _, _, rfl, rfl, (by show (0 : Int) < 2147483587; decide), _, _, rfl, rfl, ⟨by decide, by decide⟩, _, rfl, _, _, rfl, rfl, hm0, ?_⟩
          exact q _ _ (n + 1) (Kp.upd _) ⟨_, upd_same, hc1, by omega, hr0⟩ (Int.emod_nonneg _ (by omega)) (Int.emod_lt_of_pos _ hm0) (by omega) (by omega)
theorem worth_at {i : Int} (h0 : 0 ≤ i) (h1 : i < 12) : ∃ v : Int, atI [V.int (-32768), V.int (-32767), V.int (-1), V.int 0, V.int 1, V.int 32766, V.int 32767, V.int 255, V.int 256, V.int (-256), V.int 181, V.int 182] i = some (.int v) ∧ W v := by
  have h : i = 0 ∨ i = 1 ∨ i = 2 ∨ i = 3 ∨ i = 4 ∨ i = 5 ∨ i = 6 ∨ i = 7 ∨ i = 8 ∨ i = 9 ∨ i = 10 ∨ i = 11 := by omega
  unfold W
  rcases h with rfl | rfl | rfl | rfl | rfl | rfl | rfl | rfl | rfl | rfl | rfl | rfl
  all_goals exact ⟨_, rfl, by decide, by decide⟩
theorem ok_lworth (T : Txt K w mg f fd ob) : FnOk P w K mg base CX0 2 (f 30) (fd 30) ["_law_feed_here"] sp_lworth := by
  have G_ldraw := ok_ldraw (P := P) (base := base) T
  refine T.F_lworth.ok sc_lworth (fun vs H Q E h => ?_) (fun cdv A outer s H vs Q E hr h => ?_)
  · obtain ⟨p, c, ns, n, rfl, _⟩ := h
    rfl
  · obtain ⟨p, c, ns, n, rfl, hP, hn, q⟩ := h
    have hr_ldraw := hr
    refine ⟨_, (pss_cons (ps_set (i := 1) sc_lworth.nd rfl (Or.inl rfl) (pe_call G_ldraw hr_ldraw (by rfl) T.m_ldraw T.F_ldraw.kp T.b_ldraw .nil pass0 (pa_cons (pv 0) (pa_cons pe_int pa_nil))))
      (pss_cons (ps_if (pt_cmpR op_lt (pv 1) pe_int (nomark _)) (pss_one (ps_ret (pe_op op_sub (pe_call G_ldraw hr_ldraw (by rfl) T.m_ldraw T.F_ldraw.kp T.b_ldraw .nil pass0 (pa_cons (pv 0) (pa_cons pe_int pa_nil))) pe_int))) pss_nil)
      (pss_cons (ps_if (pt_cmpR op_lt (pv 1) pe_int (nomark _)) (pss_one (ps_ret (pe_op op_sub (pe_call G_ldraw hr_ldraw (by rfl) T.m_ldraw T.F_ldraw.kp T.b_ldraw .nil pass0 (pa_cons (pv 0) (pa_cons pe_int pa_nil))) pe_int))) pss_nil)
      (pss_one (ps_ret (pe_ix ix_list (pe_lst (pa_cons (pe_un un_neg pe_int) (pa_cons (pe_un un_neg pe_int) (pa_cons (pe_un un_neg pe_int) (pa_cons pe_int (pa_cons pe_int (pa_cons pe_int (pa_cons pe_int (pa_cons pe_int (pa_cons pe_int (pa_cons (pe_un un_neg pe_int) (pa_cons pe_int (pa_cons pe_int pa_nil))))))))))))) (pe_call G_ldraw hr_ldraw (by rfl) T.m_ldraw T.F_ldraw.kp T.b_ldraw .nil pass0 (pa_cons (pv 0) (pa_cons pe_int pa_nil))) (fun _ _ => rfl))))))), ?_⟩
    refine ⟨_, rfl, p, c, ns, n, 5, rfl, hP, by decide, by decide, by omega, fun H1 d1 n1 k1 P1 d1a d1b n1a n1b => ?_⟩
    refine ⟨_, rfl, _, _, rfl, rfl, _, rfl, ite2 (fun h1 => ?_) (fun h1 => ?_)⟩
    · refine ⟨_, rfl, p, c, ns, n1, 13, rfl, P1, by decide, by decide, by omega, fun H2 d2 n2 k2 P2 d2a d2b n2a n2b => ?_⟩
      exact ⟨_, _, rfl, rfl, q _ _ _ (k1.trans k2) P2 (by omega) (by omega) ⟨by omega, by omega⟩⟩
    · refine ⟨_, rfl, _, _, rfl, rfl, _, rfl, ite2 (fun h2 => ?_) (fun h2 => ?_)⟩
      · refine ⟨_, rfl, p, c, ns, n1, 65536, rfl, P1, by decide, by decide, by omega, fun H2 d2 n2 k2 P2 d2a d2b n2a n2b => ?_⟩
        exact ⟨_, _, rfl, rfl, q _ _ _ (k1.trans k2) P2 (by omega) (by omega) ⟨by omega, by omega⟩⟩
      · refine ⟨_, rfl, _, rfl, _, rfl, _, rfl, (show 12 ≤ sizeLine by decide), fun l hl => ?_⟩
        refine ⟨_, rfl, p, c, ns, n1, 12, rfl, P1.new hl, by decide, by decide, by omega, fun H2 d2 n2 k2 P2 d2a d2b n2a n2b => ?_⟩
        obtain ⟨v, hv, hW⟩ := worth_at d2a d2b
        have e2 : H2 l = some (.lst [V.int (-32768), V.int (-32767), V.int (-1), V.int 0, V.int 1, V.int 32766, V.int 32767, V.int 255, V.int 256, V.int (-256), V.int 181, V.int 182]) := k2 _ _ (P1.ni hl) upd_same
        exact ⟨_, _, _, _, rfl, rfl, SqL.of e2, hv, q _ _ _ (k1.trans ((Kp.new hl).trans k2)) P2 (by omega) (by omega) hW⟩
theorem ok_ltells (T : Txt K w mg f fd ob) : FnOk P w K mg base CX0 1 (f 35) (fd 35) ["_law_mark", "_law_a", "_law_b"] sp_ltells := by
  refine T.F_ltells.ok sc_ltells (fun vs H Q E h => ?_) (fun cdv A outer s H vs Q E hr h => ?_)
  · obtain ⟨i, a, b, _, rfl, _⟩ := h
    rfl
  · obtain ⟨i, a, b, hi, rfl, ha, hb, q⟩ := h
    unfold W at ha hb
    refine ⟨_, (C8.pss_cut (ps_if (pt_cmpR op_in_seq (pv 0) (pe_tup (pa_cons pe_str (pa_cons pe_str pa_nil))) (by rfl)) (pss_cons (ps_asg (pe_tup (pa_cons pe_int (pa_cons pe_int pa_nil))) (pg_tup (by rfl) (pgs_cons (pg_name (i := 3) sc_ltells.nd rfl (Or.inl rfl)) (pgs_cons (pg_name (i := 4) sc_ltells.nd rfl (Or.inl rfl)) pgs_nil))))
      (C8.pss_cut (ps_if (pt_cmpR op_ne (pv 2) pe_int (nomark _)) (pss_cons (ps_set (i := 3) sc_ltells.nd rfl (Or.inl rfl) (pe_op op_fdivN (pe_op op_sub (pv 1) (pe_op op_modN (pv 1) (pv 2))) (pv 2)))
      (pss_one (ps_set (i := 4) sc_ltells.nd rfl (Or.inl rfl) (pe_op op_sub (pv 1) (pe_op op_mul (pv 3) (pv 2)))))) pss_nil)
      (pss_one (ps_set (i := 5) sc_ltells.nd rfl (Or.inl rfl) (pe_ix ix_list (pe_lst (pa_cons (pv 3) (pa_cons (pv 4) pa_nil))) (pe_callTy call_int1 (by rfl) T.z_int (by decide +kernel) (pa_cons (pe_cmpR op_eq (pv 0) pe_str (nomark _)) pa_nil)) (fun _ _ => rfl)))))) (pss_one (ps_if (pt_cmpR op_in_seq (pv 0) (pe_tup (pa_cons pe_str (pa_cons pe_str pa_nil))) (by rfl)) (pss_cons (ps_asg (pe_tup (pa_cons pe_int (pa_cons pe_int pa_nil))) (pg_tup (by rfl) (pgs_cons (pg_name (i := 5) sc_ltells.nd rfl (Or.inl rfl)) (pgs_cons (pg_name (i := 6) sc_ltells.nd rfl (Or.inl rfl)) pgs_nil))))
      (pss_one (ps_for PassesOwn.never rfl (pi_range1 (by rfl) T.z_range (pa_cons pe_int pa_nil)) (pg_name (i := 7) sc_ltells.nd rfl (Or.inl rfl)) (pss_cons (ps_par (i := 8) (j := 9) (by rfl) sc_ltells.nd rfl rfl (by decide) rfl rfl (pa_cons (pe_op op_mod (pe_op op_fdiv (pv 1) (pv 6)) pe_int) (pa_cons (pe_op op_mod (pe_op op_fdiv (pv 2) (pv 6)) pe_int) pa_nil)) (by rfl))
      (pss_cons (ps_set (i := 5) sc_ltells.nd rfl (Or.inl rfl) (pe_op op_add (pv 5) (pe_op op_mul (pv 6) (pe_ix ix_list (pe_lst (pa_cons (pe_op op_mul (pv 8) (pv 9)) (pa_cons (pe_op op_mod (pe_op op_add (pv 8) (pv 9)) pe_int) pa_nil))) (pe_callTy call_int1 (by rfl) T.z_int (by decide +kernel) (pa_cons (pe_cmpR op_eq (pv 0) pe_str (nomark _)) pa_nil)) (fun _ _ => rfl)))))
      (pss_one (ps_set (i := 6) sc_ltells.nd rfl (Or.inl rfl) (pe_op op_mul (pv 6) pe_int)))))))) (pss_one (ps_set (i := 5) sc_ltells.nd rfl (Or.inl rfl) (pe_dget (hu_of hr) (pe_disp (pps_cons pe_str (pe_op op_add (pv 1) (pv 2)) (pps_cons pe_str (pe_op op_sub (pv 1) (pv 2)) (pps_cons pe_str (pe_op op_mul (pv 1) (pv 2)) (pps_cons pe_str (pe_callTy call_int1 (by rfl) T.z_int (by decide +kernel) (pa_cons (pe_cmpR op_lt (pv 1) (pv 2) (nomark _)) pa_nil)) (pps_cons pe_str (pe_callTy call_int1 (by rfl) T.z_int (by decide +kernel) (pa_cons (pe_cmpR op_eq (pv 1) (pv 2) (nomark _)) pa_nil)) pps_nil))))) (by rfl) (by rfl) (fun z => by cases z) (by decide)) (pv 0) (fun _ _ => rfl)))))))
      (pss_one (ps_ret (pe_op op_sub (pe_op op_mod (pe_op op_add (pv 5) pe_int) pe_int) pe_int)))), ?_⟩
    refine ⟨fun σ' H' => ∃ (x : Int) (y3 y4 y6 y7 y8 y9 : Option V), σ' = [some (.str (nm i)), some (.int a), some (.int b), y3, y4, some (.int x), y6, y7, y8, y9] ∧ Same H H' ∧ br x = br (sg i a b), ?_, ?_⟩
    · -- if mark in ('/', '#')
      refine ⟨_, rfl, (show 2 ≤ sizeLine by decide), fun t1 ht1 => ⟨_, _, rfl, .inr (SqT.of upd_same), rfl, rfl, _, rfl, ?_⟩⟩
      have s1 : Same H (upd H t1 (.tup [.str "/", .str "#"])) := Same.new ht1
      by_cases hq : i = 3 ∨ i = 4
      · refine iteB1 ((in_qr i hi).trans (decide_eq_true hq)) ⟨(show 2 ≤ sizeLine by decide), fun t0 ht0 => ⟨t0, _, rfl, SqT.of upd_same, rfl, _, _, rfl, _, _, rfl, rfl, ?_⟩⟩
        have s0 : Same H (upd (upd H t1 (.tup [.str "/", .str "#"])) t0 (.tup [.int 0, .int 0])) := s1.trans (Same.new ht0)
        refine ⟨fun σ' H' => σ' = [some (.str (nm i)), some (.int a), some (.int b), some (.int (sg 3 a b)), some (.int (sg 4 a b)), none, none, none, none, none] ∧ Same H H', ?_, ?_⟩
        · refine ⟨_, rfl, rfl, _, rfl, ?_⟩
          by_cases hz : b = 0
          · subst hz
            exact iteB0 (by decide) ⟨rfl, s0⟩
          · refine iteB1 (by rw [decide_eq_false (fun z => hz (V.int.inj z))]; rfl) ?_
            refine ⟨_, rfl, _, rfl, _, rfl, _, _, rfl, rfl, hz, _, _, rfl, rfl, _, rfl, _, _, rfl, rfl, ⟨hz, by omega⟩, ?_⟩
            refine ⟨_, rfl, _, rfl, _, rfl, _, _, rfl, rfl, .inr ⟨by omega, by omega⟩, _, _, rfl, rfl, ?_, s0⟩
            have e3 : sg 3 a b = a.fdiv b := if_neg hz
            have e4 : sg 4 a b = a - b * a.fdiv b := if_neg hz
            rw [e3, e4]
            show [some (V.str (nm i)), some (V.int a), some (V.int b), some (V.int ((a - a.fmod b).fdiv b)), some (V.int (a - (a - a.fmod b).fdiv b * b)), none, none, none, none, none] = _
            rw [fdiv_own hz, Int.mul_comm]
        · rintro _ H2 ⟨rfl, s2⟩
          refine ⟨_, rfl, _, rfl, (show 2 ≤ sizeLine by decide), fun l hl => ?_⟩
          refine ⟨_, rfl, rfl, .inr ⟨_, rfl, _, _, _, .int (sg i a b), rfl, rfl, SqL.of upd_same, ?_, sg i a b, _, _, _, _, _, _, rfl, s2.trans (Same.new hl), rfl⟩⟩
          rw [is_r i hi]
          rcases hq with rfl | rfl
          · rfl
          · rfl
      · refine iteB0 ((in_qr i hi).trans (decide_eq_false hq)) ?_
        -- elif mark in ('&', '^')
        refine ⟨_, rfl, (show 2 ≤ sizeLine by decide), fun t2 ht2 => ⟨_, _, rfl, .inr (SqT.of upd_same), rfl, rfl, _, rfl, ?_⟩⟩
        have s2 : Same H (upd (upd H t1 (.tup [.str "/", .str "#"])) t2 (.tup [.str "&", .str "^"])) := s1.trans (Same.new ht2)
        by_cases hx : i = 7 ∨ i = 8
        · refine iteB1 ((in_ax i hi).trans (decide_eq_true hx)) ⟨(show 2 ≤ sizeLine by decide), fun t0 ht0 => ⟨t0, _, rfl, SqT.of upd_same, rfl, _, _, rfl, _, _, rfl, rfl, ?_⟩⟩
          refine ⟨16, rfl, by decide, by decide, for_range (lo := 0) (n := 16) (fun k σ' H' => ∃ (x : Int) (y7 y8 y9 : Option V), σ' = [some (.str (nm i)), some (.int a), some (.int b), none, none, some (.int x), some (.int (2 ^ k)), y7, y8, y9] ∧ Same H H' ∧ sg i a b = x + 2 ^ k * sg i (a / 2 ^ k) (b / 2 ^ k))
            ⟨0, none, none, none, rfl, s2.trans (Same.new ht0), ?_⟩ ?_ ?_⟩
          · rw [Int.pow_zero, Int.ediv_one, Int.ediv_one]
            omega
          · rintro k _ H3 hk ⟨x, y7, y8, y9, rfl, s3, hx3⟩
            obtain ⟨p0, p1⟩ := pow_16 k hk
            have c0 := Int.emod_nonneg (a / 2 ^ k) (show (2 : Int) ≠ 0 by decide)
            have c1 := Int.emod_lt_of_pos (a / 2 ^ k) (show (0 : Int) < 2 by decide)
            refine ⟨_, rfl, _, rfl, _, _, rfl, rfl, ⟨p0, by omega⟩, _, _, rfl, rfl, (by show (0 : Int) < 2; decide), _, rfl, _, rfl, _, _, rfl, rfl, ⟨p0, by omega⟩, _, _, rfl, rfl, (by show (0 : Int) < 2; decide), _, _, rfl, ?_⟩
            refine ⟨_, rfl, _, rfl, _, rfl, _, rfl, _, _, rfl, rfl, .inl ⟨by omega, by omega⟩, _, rfl, _, rfl, _, _, rfl, rfl, _, _, rfl, rfl, (by show (0 : Int) < 2; decide), (show 2 ≤ sizeLine by decide), fun l hl => ?_⟩
            refine ⟨_, rfl, rfl, .inr ⟨_, rfl, _, _, _, .int (dig i (a / 2 ^ k % 2) (b / 2 ^ k % 2)), rfl, rfl, SqL.of upd_same, ?_, _, _, rfl, rfl, .inl ⟨by omega, by omega⟩, _, _, rfl, rfl, ?_⟩⟩
            · rw [is_x i hi]
              rcases hx with rfl | rfl
              · rfl
              · rfl
            · exact ⟨_, rfl, _, _, rfl, rfl, .inr ⟨by decide, by decide⟩, _, _, _, _, rfl, s3.trans (Same.new hl), dig_turn hx hx3⟩
          · rintro _ H3 ⟨x, y7, y8, y9, rfl, s3, hx3⟩
            exact ⟨x, _, _, _, _, _, _, rfl, s3, dig_end hx3⟩
        · refine iteB0 ((in_ax i hi).trans (decide_eq_false hx)) ?_
          -- the written dict
          refine fun d hd => ⟨_, rfl, _, rfl, _, _, rfl, rfl, _, rfl, _, rfl, _, _, rfl, rfl, _, rfl, _, rfl, _, _, rfl, rfl, .inl ⟨by omega, by omega⟩, _, rfl, _, rfl, _, _, rfl, rfl, .inr ⟨_, rfl, _, rfl, _, rfl, rfl, .inr ⟨_, rfl, ?_⟩⟩⟩
          refine ⟨upd_same, [(.inr "+", .int (a + b)), (.inr "-", .int (a - b)), (.inr "*", .int (a * b)), (.inr "<", .int (if decide (a < b) = true then 1 else 0)), (.inr "=", .int (if decide (V.int a = V.int b) = true then 1 else 0))], rfl, (show 5 ≤ 15 by decide), _, rfl, d, .int (sg i a b), rfl, ?_, sg i a b, _, _, _, _, _, _, rfl, ?_, rfl⟩
          · refine .inl ⟨_, .inr (nm i), .inl upd_same, rfl, ?_⟩
            rw [dget5 _ _ _ _ _ i hi hq hx]
            have h5 : (if decide (a < b) = true then (1 : Int) else 0) = if a < b then 1 else 0 := by
              by_cases h : a < b
              · rw [if_pos h, if_pos (decide_eq_true h)]
              · rw [if_neg h, if_neg (fun z => h (of_decide_eq_true z))]
            have h6 : (if decide (V.int a = V.int b) = true then (1 : Int) else 0) = if a = b then 1 else 0 := by
              by_cases h : a = b
              · rw [if_pos h, if_pos (decide_eq_true (by rw [h]))]
              · rw [if_neg h, if_neg (fun z => h (V.int.inj (of_decide_eq_true z)))]
            rw [h5, h6]
            match i, hi, hq, hx with
            | 0, _, _, _ => rfl
            | 1, _, _, _ => rfl
            | 2, _, _, _ => rfl
            | 3, _, h, _ => exact absurd (.inl rfl) h
            | 4, _, h, _ => exact absurd (.inr rfl) h
            | 5, _, _, _ => rfl
            | 6, _, _, _ => rfl
            | 7, _, _, h => exact absurd (.inl rfl) h
            | 8, _, _, h => exact absurd (.inr rfl) h
          · rw [upd_upd]
            exact s2.trans (Same.new hd)
    · rintro _ H' ⟨x, y3, y4, y6, y7, y8, y9, rfl, s', hx⟩
      refine ⟨_, rfl, _, _, rfl, rfl, _, _, rfl, rfl, (by show (0 : Int) < 65536; decide), _, _, rfl, rfl, ?_⟩
      have e : (x + 32768) % 65536 - 32768 = br (sg i a b) := hx
      show Q (.int ((x + 32768) % 65536 - 32768)) H'
      rw [e]
      exact q _ s'
theorem ok_lregister (T : Txt K w mg f fd ob) : FnOk P w K mg base CX0 2 (f 31) (fd 31) ["_law_feed_here"] sp_lregister := by
  have G_ldraw := ok_ldraw (P := P) (base := base) T
  refine T.F_lregister.ok sc_lregister (fun vs H Q E h => ?_) (fun cdv A outer s H vs Q E hr h => ?_)
  · obtain ⟨p, c, ns, n, rfl, _⟩ := h
    rfl
  · obtain ⟨p, c, ns, n, rfl, hP, hn, q⟩ := h
    have hr_ldraw := hr
    refine ⟨_, (pss_one (ps_ret (pe_ix ix_str pe_str (pe_call G_ldraw hr_ldraw (by rfl) T.m_ldraw T.F_ldraw.kp T.b_ldraw .nil pass0 (pa_cons (pv 0) (pa_cons (pe_ix ix_list (pe_lst (pa_cons pe_int (pa_cons pe_int pa_nil))) (pe_op op_fdiv (pe_call G_ldraw hr_ldraw (by rfl) T.m_ldraw T.F_ldraw.kp T.b_ldraw .nil pass0 (pa_cons (pv 0) (pa_cons pe_int pa_nil))) pe_int) (fun _ _ => rfl)) pa_nil))) (fun _ _ => rfl)))), ?_⟩
    refine ⟨_, rfl, (show 2 ≤ sizeLine by decide), fun l hl => ?_⟩
    refine ⟨_, rfl, p, c, ns, n, 3, rfl, hP.new hl, by decide, by decide, by omega, fun H1 d1 n1 k1 P1 d1a d1b n1a n1b => ?_⟩
    have e1 : H1 l = some (.lst [V.int 3, V.int 16]) := k1 _ _ (hP.ni hl) upd_same
    obtain ⟨v, hv, hv0, hv1⟩ : ∃ v : Int, atI [V.int 3, V.int 16] (d1 / 2) = some (.int v) ∧ 0 < v ∧ v ≤ 16 := by
      have h : d1 / 2 = 0 ∨ d1 / 2 = 1 := by omega
      rcases h with e | e
      · rw [e]
        exact ⟨_, rfl, by decide, by decide⟩
      · rw [e]
        exact ⟨_, rfl, by decide, by decide⟩
    refine ⟨_, _, rfl, rfl, ⟨by decide, by decide⟩, _, _, _, _, rfl, rfl, SqL.of e1, hv, p, c, ns, n1, v, rfl, P1, by omega, by omega, by omega, fun H2 d2 n2 k2 P2 d2a d2b n2a n2b => ?_⟩
    obtain ⟨j, rfl⟩ := Int.eq_ofNat_of_zero_le d2a
    have hj : j < 16 := by omega
    exact ⟨_, _, _, rfl, rfl, (by decide +kernel), lt_at j hj, q _ j n2 ((Kp.new hl).trans (k1.trans k2)) P2 (by omega) (by omega) hj⟩
theorem ok_litem (T : Txt K w mg f fd ob) : FnOk P w K mg base CX0 3 (f 32) (fd 32) ["_law_feed_here"] sp_litem := by
  have G_ldraw := ok_ldraw (P := P) (base := base) T
  have G_lworth := ok_lworth (P := P) (base := base) T
  have G_lregister := ok_lregister (P := P) (base := base) T
  refine T.F_litem.ok sc_litem (fun vs H Q E h => ?_) (fun cdv A outer s H vs Q E hr h => ?_)
  · obtain ⟨p, c, ns, n, rfl, _⟩ := h
    rfl
  · obtain ⟨p, c, ns, n, rfl, hP, hn, q⟩ := h
    have hr_lworth := hr
    have hr_lregister := hr
    have hr_ldraw : Room 1 _ := hr.mono (by decide)
    refine ⟨_, (pss_one (ps_ret (pe_ix ix_list (pe_lst (pa_cons (pe_call G_lworth hr_lworth (by rfl) T.m_lworth T.F_lworth.kp T.b_lworth .nil pass0 (pa_cons (pv 0) pa_nil)) (pa_cons (pe_call G_lregister hr_lregister (by rfl) T.m_lregister T.F_lregister.kp T.b_lregister .nil pass0 (pa_cons (pv 0) pa_nil)) pa_nil))) (pe_call G_ldraw hr_ldraw (by rfl) T.m_ldraw T.F_ldraw.kp T.b_ldraw .nil pass0 (pa_cons (pv 0) (pa_cons pe_int pa_nil))) (fun _ _ => rfl)))), ?_⟩
    refine ⟨_, rfl, p, c, ns, n, rfl, hP, by omega, fun H1 a n1 k1 P1 n1a n1b hW => ?_⟩
    refine ⟨_, rfl, p, c, ns, n1, rfl, P1, by omega, fun H2 k n2 k2 P2 n2a n2b hk => ?_⟩
    refine ⟨(show 2 ≤ sizeLine by decide), fun l hl => ?_⟩
    refine ⟨_, rfl, p, c, ns, n2, 2, rfl, P2.new hl, by decide, by decide, by omega, fun H3 d n3 k3 P3 d3a d3b n3a n3b => ?_⟩
    have e3 : H3 l = some (.lst [V.int a, V.str (lt k)]) := k3 _ _ (P2.ni hl) upd_same
    have kk := (k1.trans k2).trans ((Kp.new hl).trans k3)
    have h : d = 0 ∨ d = 1 := by omega
    rcases h with rfl | rfl
    · exact ⟨_, _, _, _, rfl, rfl, SqL.of e3, rfl, q _ (.wo a) n3 kk P3 (by omega) (by omega) hW rfl⟩
    · exact ⟨_, _, _, _, rfl, rfl, SqL.of e3, rfl, q _ (.re k) n3 kk P3 (by omega) (by omega) hk rfl⟩
theorem ok_lregs (T : Txt K w mg f fd ob) : FnOk P w K mg base CX0 3 (f 37) (fd 37) ["_law_feed_here"] sp_lregs := by
  have G_ldraw := ok_ldraw (P := P) (base := base) T
  have G_lworth := ok_lworth (P := P) (base := base) T
  have G_lregister := ok_lregister (P := P) (base := base) T
  refine T.F_lregs.ok sc_lregs (fun vs H Q E h => ?_) (fun cdv A outer s H vs Q E hr h => ?_)
  · obtain ⟨p, c, ns, n, rfl, _⟩ := h
    rfl
  · obtain ⟨p, c, ns, n, rfl, hP, hn, q⟩ := h
    have hr_lworth := hr
    have hr_lregister := hr
    have hr_ldraw : Room 1 _ := hr.mono (by decide)
    refine ⟨_, (pss_cons (ps_set (i := 1) sc_lregs.nd rfl (Or.inl rfl) pe_dnewK)
      (pss_cons (ps_for PassesOwn.never rfl (pi_range1 (by rfl) T.z_range (pa_cons (pe_call G_ldraw hr_ldraw (by rfl) T.m_ldraw T.F_ldraw.kp T.b_ldraw .nil pass0 (pa_cons (pv 0) (pa_cons pe_int pa_nil))) pa_nil)) (pg_name (i := 2) sc_lregs.nd rfl (Or.inl rfl)) (pss_one (ps_dput (hu_of hr) (pv 1) (pe_call G_lregister hr_lregister (by rfl) T.m_lregister T.F_lregister.kp T.b_lregister .nil pass0 (pa_cons (pv 0) pa_nil)) (pe_call G_lworth hr_lworth (by rfl) T.m_lworth T.F_lworth.kp T.b_lworth .nil pass0 (pa_cons (pv 0) pa_nil)) rfl)))
      (pss_one (ps_ret (pv 1))))), ?_⟩
    intro d hd
    refine ⟨_, rfl, p, c, ns, n, 9, rfl, hP.new hd, by decide, by decide, by omega, fun H1 d1 n1 k1 P1 d1a d1b n1a n1b => ?_⟩
    have hd1 : H1 d = some (.dK []) := k1 _ _ (hP.ni hd) upd_same
    have ndp : d ≠ p := hP.ni hd
    have ndc : c ≠ d := fun z => by
      obtain ⟨r0, _, c2, _⟩ := hP
      rw [z, hd] at c2
      cases c2
    refine ⟨_, rfl, by omega, by omega, for_range (lo := 0) (n := d1.toNat) (fun j σ' H' => ∃ (kvs : List (Key × V)) (y : Option V) (n' : Int), σ' = [some (.ref p), some (.ref d), y] ∧ Kp p H H' ∧ Pen H' p c ns n' ∧ n ≤ n' ∧ n' ≤ n + 1 + 4 * j ∧ H' d = some (.dK kvs) ∧ Gd kvs ∧ kvs.length ≤ j)
      ⟨[], none, n1, rfl, (Kp.new hd).trans k1, P1, by omega, by omega, hd1, Gd.nil, Nat.le_refl _⟩ ?_ ?_⟩
    · rintro j _ H2 hj ⟨kvs, y, n2, rfl, k2, P2, n2a, n2b, hd2, hg, hlen⟩
      refine ⟨_, rfl, p, c, ns, n2, rfl, P2, by omega, fun H3 a n3 k3 P3 n3a n3b hW => ?_⟩
      refine ⟨_, rfl, _, rfl, p, c, ns, n3, rfl, P3, by omega, fun H4 k n4 k4 P4 n4a n4b hk => ?_⟩
      have hd4 := k4 _ _ ndp (k3 _ _ ndp hd2)
      refine ⟨d, _, rfl, DPut.k (k := .inr (lt k)) hd4 (small1000 (by omega)), ?_⟩
      refine ⟨_, _, n4, rfl, Kp.mut ((k2.trans k3).trans k4) hd, ?_, by omega, by omega, upd_same, hg.put _ hW, Nat.le_trans (length_putK _ _ _) (by omega)⟩
      obtain ⟨r, g1, g2, g3, g4⟩ := P4
      exact ⟨r, (upd_ne ndp.symm).trans g1, (upd_ne ndc).trans g2, g3, g4⟩
    · rintro _ H2 ⟨kvs, y, n2, rfl, k2, P2, n2a, n2b, hd2, hg, hlen⟩
      exact ⟨_, rfl, q _ d kvs n2 k2 P2 (by omega) (by omega) hd2 hg (by omega)⟩
theorem ok_lreck (T : Txt K w mg f fd ob) : FnOk P w K mg base CX0 2 (f 36) (fd 36) ["_law_items", "_law_held"] (sp_lreck K) := by
  have G_ltells := ok_ltells (P := P) (base := base) T
  refine T.F_lreck.ok sc_lreck (fun vs H Q E h => ?_) (fun cdv A outer s H vs Q E hr h => ?_)
  · obtain ⟨e, d, its, kvs, y, rfl, _⟩ := h
    rfl
  · obtain ⟨e, d, its, kvs, y, rfl, hS, hok, hlen, hd, hg, hrun, q⟩ := h
    have hr_ltells := hr
    refine ⟨_, (pss_cons (ps_set (i := 2) sc_lreck.nd rfl (Or.inl rfl) (pe_lst pa_nil))
      (pss_cons (ps_for PassesOwn.never rfl (pi_tup (pv 0)) (pg_name (i := 3) sc_lreck.nd rfl (Or.inl rfl)) (pss_one (ps_if (pt_val (pe_callB call_isi (by rfl) T.z_isinstance (by decide +kernel) (pa_cons (pv 3) (pa_cons (pe_bltn (v := .ty "int") (by rfl) T.z_int (by decide +kernel) rfl) pa_nil)))) (pss_one (ps_expr (pe_bm PySem.F.plainAttrs_list PySem.F.slot_list_append PySem.F.type_list_append mt_append (pv 2) (pa_cons (pv 3) pa_nil)))) (pss_one (ps_if (pt_cmpR op_in_sign (pv 3) pe_str (by rfl)) (pss_one (ps_expr (pe_bm PySem.F.plainAttrs_list PySem.F.slot_list_append PySem.F.type_list_append mt_append (pv 2) (pa_cons (pe_dget2 (hu_of hr) (pv 1) (pv 3) pe_int ⟨rfl, rfl, rfl, rfl⟩) pa_nil)))) (pss_one (ps_set (i := 2) sc_lreck.nd rfl (Or.inl rfl) (pe_op op_cat (pe_slice sl_list (pv 2) po_none (po_some (pe_un un_neg pe_int))) (pe_lst (pa_cons (pe_call G_ltells hr_ltells (by rfl) T.m_ltells T.F_ltells.kp T.b_ltells .nil pass0 (pa_cons (pv 3) (pa_cons (pe_ix ix_list (pv 2) (pe_un un_neg pe_int) (fun _ _ => rfl)) (pa_cons (pe_ix ix_list (pv 2) (pe_un un_neg pe_int) (fun _ _ => rfl)) pa_nil)))) pa_nil))))))))))
      (pss_one (ps_ret (pe_ix ix_list (pv 2) pe_int (fun _ _ => rfl)))))), ?_⟩
    refine ⟨Nat.zero_le _, fun l hl => ?_⟩
    refine ⟨_, rfl, e, rfl, ⟨_, ex_t (Same.new hl) hS⟩, for_tup (xs := its.map Im.toV) (fun i σ' H' => ∃ (l : Addr) (rp : List Int) (y3 : Option V), σ' = [some (.ref e), some (.ref d), some (.ref l), y3] ∧ Same H H' ∧ H l = none ∧ H' l = some (.lst (rp.reverse.map V.int)) ∧
        run (rho kvs) rp (its.drop i) = some [y] ∧ (∀ x ∈ rp, W x) ∧ rp.length ≤ i)
      ⟨l, [], none, rfl, Same.new hl, hl, upd_same, hrun, (fun x hx => (List.not_mem_nil hx).elim), Nat.le_refl _⟩ (fun i σ' H' _ ⟨_, _, _, _, s, _⟩ => ex_t s hS) ?_ ?_⟩
    · rintro i x _ H1 hx ⟨l, rp, y3, rfl, s1, hl, h1, hr1, hW, hle⟩
      rw [List.getElem?_map] at hx
      cases em : its[i]? with
      | none =>
        rw [em] at hx
        cases hx
      | some m =>
        rw [em] at hx
        obtain rfl : m.toV = x := Option.some.inj hx
        have hi : i < its.length := (List.getElem?_eq_some_iff.mp em).1
        have hm : m ∈ its := List.mem_of_getElem? em
        have ed : its.drop i = m :: its.drop (i + 1) := by
          rw [List.drop_eq_getElem_cons hi]
          congr 1
          exact (List.getElem?_eq_some_iff.mp em).2
        rw [ed] at hr1
        have hd1 : H1 d = some (.dK kvs) := s1 _ _ hd
        have hsz : (rp.reverse.map V.int).length < sizeLine := by
          rw [List.length_map, List.length_reverse]
          exact small1000 (by omega)
        cases m with
        | wo a =>
          refine ⟨_, rfl, _, _, _, _, true, rfl, .ty _, .base (.int _), kit_ty (by decide +kernel), _, rfl, iteT ?_⟩
          refine ⟨_, rfl, .inl ⟨rfl, _, SqL.of h1⟩, _, rfl, l, _, _, rfl, rfl, h1, hsz, ?_⟩
          refine ⟨l, a :: rp, _, rfl, Same.mut s1 hl, hl, ?_, hr1, ?_, ?_⟩
          · rw [upd_same, rev_last]
            rfl
          · intro x hx
            rcases List.mem_cons.mp hx with rfl | hx
            · exact hok _ hm
            · exact hW x hx
          · rw [List.length_cons]
            omega
        | re k =>
          obtain ⟨g1, g2⟩ := hg.get k
          refine ⟨_, rfl, _, _, _, _, false, rfl, .ty _, .base (.str _), kit_ty (by decide +kernel), _, rfl, iteF ?_⟩
          refine ⟨_, rfl, _, letters, rfl, rfl, _, rfl, iteB1 (lt_in k (hok _ hm)) ?_⟩
          refine ⟨_, rfl, .inl ⟨rfl, _, SqL.of h1⟩, _, rfl, d, rfl, .inl ⟨_, .inl hd1⟩, _, rfl, _, .inl ⟨kvs, .inr (lt k), .inl hd1, rfl, rfl⟩, ?_⟩
          rw [g1]
          refine ⟨l, _, _, rfl, rfl, h1, hsz, ?_⟩
          refine ⟨l, rho kvs k :: rp, _, rfl, Same.mut s1 hl, hl, ?_, hr1, ?_, ?_⟩
          · rw [upd_same, rev_last]
          · intro x hx
            rcases List.mem_cons.mp hx with rfl | hx
            · exact g2
            · exact hW x hx
          · rw [List.length_cons]
            omega
        | si j =>
          match rp, h1, hr1, hW, hle, hsz with
          | [], _, hr1, _, _, _ => cases hr1
          | [x], _, hr1, _, _, _ => cases hr1
          | v :: u :: t, h1, hr1, hW, hle, hsz =>
            have hv : W v := hW v List.mem_cons_self
            have hu : W u := hW u (List.mem_cons_of_mem _ List.mem_cons_self)
            have hj : j < 9 := hok _ hm
            rw [rev_last, rev_last] at h1
            refine ⟨_, rfl, _, _, _, _, false, rfl, .ty _, .base (.str _), kit_ty (by decide +kernel), _, rfl, iteF ?_⟩
            refine ⟨_, rfl, codes.getD j 0, letters, ?_, rfl, _, rfl, iteB0 (sg_in j hj) ?_⟩
            · show V.str (nm j) = _
              rw [nm_code j hj]
            refine ⟨_, rfl, _, rfl, _, rfl, l, _, rfl, SqL.of h1, fun s hs => ?_⟩
            have h2 := Same.new (o := .lst (cutV (t.reverse.map V.int ++ [V.int u] ++ [V.int v]) none (some (-2)))) hs _ _ h1
            refine ⟨_, rfl, _, rfl, _, rfl, _, _, _, _, rfl, rfl, SqL.of h2, atI_last2 _ _ _, _, rfl, _, rfl, _, _, _, _, rfl, rfl, SqL.of h2, atI_last _ _, j, u, v, hj, rfl, hu, hv, fun H3 s3 => ⟨(show 1 ≤ sizeLine by decide), fun l1 hl1 => ?_⟩⟩
            have hs3 : (upd H3 l1 (.lst [V.int (br (sg j u v))])) s = some (.lst (t.reverse.map V.int)) := by
              refine Same.new hl1 _ _ (s3 _ _ ?_)
              rw [upd_same, cut_last2]
            refine ⟨_, _, _, _, rfl, rfl, hs3, upd_same, ?_, fun p hp => ?_⟩
            · rw [List.length_map, List.length_reverse]
              rw [List.length_cons, List.length_cons] at hle
              exact Nat.le_trans (show _ ≤ 2000 by show t.length + 1 ≤ 2000; omega) (by decide)
            · have sp := ((s1.trans (Same.new (o := .lst (cutV (t.reverse.map V.int ++ [V.int u] ++ [V.int v]) none (some (-2)))) hs)).trans s3).trans (Same.new (o := .lst [V.int (br (sg j u v))]) hl1)
              refine ⟨p, br (sg j u v) :: t, _, rfl, sp.trans (Same.new hp), sp.free hp, ?_, hr1, ?_, ?_⟩
              · rw [upd_same, rev_last]
              · intro x hx
                rcases List.mem_cons.mp hx with rfl | hx
                · exact br_W _
                · exact hW x (List.mem_cons_of_mem _ (List.mem_cons_of_mem _ hx))
              · rw [List.length_cons, List.length_cons] at hle
                rw [List.length_cons]
                omega
    · rintro _ H1 ⟨l, rp, y3, rfl, s1, hl, h1, hr1, hW, hle⟩
      rw [List.length_map, List.drop_length] at hr1
      have e : rp = [y] := Option.some.inj hr1
      subst e
      exact ⟨_, rfl, _, _, _, _, rfl, rfl, SqL.of h1, rfl, q _ s1⟩
theorem ok_wholeof (T : Txt K w mg f fd ob) : FnOk P w K mg base CX0 1 (f 6) (fd 6) ["text"] sp_wholeof := by
  refine T.F_wholeof.ok sc_wholeof (fun vs H Q E h => ?_) (fun cdv A outer s H vs Q E hr h => ?_)
  · obtain ⟨z, rfl, _⟩ := h
    rfl
  · obtain ⟨z, rfl, hz, q⟩ := h
    refine ⟨_, (pss_cons (ps_if (pt_M (pt_not (PW.pt (pw_and (pt_val (pe_m0 PySem.F.slot_str_isascii PySem.F.type_str_isascii mt_isascii (pv 0))) (pw_and (pt_val (pe_m0 PySem.F.slot_str_isdigit PySem.F.type_str_isdigit mt_isdigit (pv 0))) (pw_and1 (pt_cmpR op_le (pe_callB call_len_str (by rfl) T.z_len PySem.boot_len (pa_cons (pv 0) pa_nil)) pe_int (nomark _)))))))) (pss_one (ps_ret pe_non)) pss_nil)
      (C8.pss_cut (ps_if (PW.pt (pw_and (pt_cmpR op_eq (pe_ix ix_str (pv 0) pe_int (fun _ _ => rfl)) pe_str (nomark _)) (pw_and1 (pt_cmpR op_ne (pv 0) pe_str (nomark _))))) (pss_one (ps_ret pe_non)) pss_nil)
      (pss_one (ps_ret (pe_callTy call_int_str (by rfl) T.z_int (by decide +kernel) (pa_cons (pv 0) pa_nil)))))), ?_⟩
    refine ⟨fun b H' => H = H' ∧ b = !digL (cp z), ?_, ?_⟩
    · refine ⟨_, rfl, ⟨_, rfl⟩, z, rfl, rfl, trivial, _, rfl, ?_⟩
      by_cases h1 : Txt.isascii z = true
      · refine iteB1 h1 ⟨_, rfl, ⟨_, rfl⟩, z, rfl, rfl, trivial, _, rfl, ?_⟩
        by_cases h2 : Txt.isdigit z = true
        · refine iteB1 h2 ⟨_, rfl, z, rfl, len_size hz, _, _, rfl, rfl, _, rfl, ?_⟩
          by_cases h3 : z.length ≤ 9
          · refine ⟨rfl, ?_⟩
            rw [dig_of h1 h2 h3, decide_eq_true (show ((z.length : Nat) : Int) ≤ 9 by omega)]
          · refine ⟨rfl, ?_⟩
            have e : digL (cp z) = false := by
              cases e : digL (cp z) with
              | false => rfl
              | true => exact absurd (dig_to e).2.2 h3
            rw [e, decide_eq_false (show ¬ ((z.length : Nat) : Int) ≤ 9 by omega)]
        · refine iteB0 (by simpa using h2) ⟨rfl, ?_⟩
          have e : digL (cp z) = false := by
            cases e : digL (cp z) with
            | false => rfl
            | true => exact absurd (dig_to e).2.1 h2
          rw [e]
      · refine iteB0 (by simpa using h1) ⟨rfl, ?_⟩
        have e : digL (cp z) = false := by
          cases e : digL (cp z) with
          | false => rfl
          | true => exact absurd (dig_to e).1 h1
        rw [e]
    · rintro b _ ⟨rfl, rfl⟩
      cases e : digL (cp z) with
      | false =>
        refine iteT ?_
        unfold wholeL at q
        rw [e] at q
        exact q
      | true =>
        refine iteF ?_
        obtain ⟨c, r, hc⟩ : ∃ c r, cp z = c :: r := by
          cases g : cp z with
          | nil =>
            rw [g] at e
            cases e
          | cons c r => exact ⟨c, r, rfl⟩
        have ha : atI z.cps.toList 0 = some c := atI_nat (j := 0) (by rw [show z.cps.toList = c :: r from hc]; rfl)
        have ezero : decide (V.str ⟨#[c]⟩ = V.str "0") = decide (c = 48) := by
          rw [str_eq, cp_zero]
          by_cases h : c = 48
          · subst h
            rfl
          · rw [decide_eq_false h, decide_eq_false (fun g => h (List.cons.inj g).1)]
        have e2 : decide (V.str z = V.str "0") = decide (cp z = [48]) := by
          rw [str_eq, cp_zero]
        refine ⟨fun σ' H' => σ' = [some (.str z)] ∧ H = H' ∧ ¬ ((cp z).head? = some 48 ∧ cp z ≠ [48]), ?_, ?_⟩
        · refine ⟨_, rfl, _, _, c, rfl, rfl, len_size hz, ha, rfl, _, rfl, ?_⟩
          by_cases h1 : c = 48
          · refine iteB1 (by rw [ezero]; exact decide_eq_true h1) ⟨_, rfl, rfl, _, rfl, ?_⟩
            by_cases h2 : cp z = [48]
            · refine iteB0 (by rw [e2, decide_eq_true h2]; rfl) ⟨rfl, rfl, fun g => g.2 h2⟩
            · refine iteB1 (by rw [e2, decide_eq_false h2]; rfl) ?_
              unfold wholeL at q
              rw [if_pos e, if_pos ⟨by rw [hc, h1]; rfl, h2⟩] at q
              exact q
          · refine iteB0 (by rw [ezero]; exact decide_eq_false h1) (iteF ⟨rfl, rfl, fun g => ?_⟩)
            rw [hc] at g
            exact h1 (Option.some.inj g.1)
        · rintro _ _ ⟨rfl, rfl, h3⟩
          unfold wholeL at q
          rw [if_pos e, if_neg h3] at q
          exact ⟨_, rfl, z, _, rfl, dig_int e, (by have := (dig_to e).2.2; omega), q⟩
theorem ok_worthof (T : Txt K w mg f fd ob) : FnOk P w K mg base CX0 3 (f 8) (fd 8) ["text"] sp_worthof := by
  have G_wholeof := ok_wholeof (P := P) (base := base) T
  have G_isworth := ok_isworth (P := P) (base := base) T
  refine T.F_worthof.ok sc_worthof (fun vs H Q E h => ?_) (fun cdv A outer s H vs Q E hr h => ?_)
  · obtain ⟨z, rfl, _⟩ := h
    rfl
  · obtain ⟨z, rfl, hz, q⟩ := h
    have hr_isworth := hr
    have hr_wholeof : Room 1 _ := hr.mono (by decide)
    refine ⟨_, (C8.pss_cut (ps_if (pt_not (pt_val (pe_m1 PySem.F.slot_str_startswith PySem.F.type_str_startswith mt_startswith (pv 0) pe_str))) (pss_one (ps_set (i := 1) sc_worthof.nd rfl (Or.inl rfl) (pe_call G_wholeof hr_wholeof (by rfl) T.m_wholeof T.F_wholeof.kp T.b_wholeof .nil pass0 (pa_cons (pv 0) pa_nil)))) (pss_one (ps_if (pt_cmpR op_eq (pv 0) pe_str (nomark _)) (pss_one (ps_set (i := 1) sc_worthof.nd rfl (Or.inl rfl) pe_non)) (pss_cons (ps_set (i := 2) sc_worthof.nd rfl (Or.inl rfl) (pe_call G_wholeof hr_wholeof (by rfl) T.m_wholeof T.F_wholeof.kp T.b_wholeof .nil pass0 (pa_cons (pe_slice sl_str (pv 0) (po_some pe_int) po_none) pa_nil)))
      (pss_one (ps_set (i := 1) sc_worthof.nd rfl (Or.inl rfl) (pe_ifExp (pt_cmpR op_isN (pv 2) pe_non (nomark _)) pe_non (pe_un un_neg (pv 2)))))))))
      (pss_one (ps_ret (pe_ifExp (pt_val (pe_call G_isworth hr_isworth (by rfl) T.m_isworth T.F_isworth.kp T.b_isworth .nil pass0 (pa_cons (pv 1) pa_nil))) (pv 1) pe_non)))), ?_⟩
    refine ⟨fun σ' H' => ∃ (o : Option Int) (y : Option V), σ' = [some (.str z), some (ov o), y] ∧ H = H' ∧ keepW o = worthL (cp z), ?_, ?_⟩
    · refine ⟨_, rfl, ⟨_, rfl⟩, z, _, rfl, rfl, _, rfl, ?_⟩
      rw [starts_dash]
      by_cases h1 : (cp z).head? = some 45
      · rw [decide_eq_true h1]
        refine iteF ⟨_, rfl, rfl, _, rfl, ?_⟩
        rw [str_eq, cp_mzero]
        by_cases h2 : cp z = [45, 48]
        · refine iteB1 (decide_eq_true h2) ⟨none, none, rfl, rfl, ?_⟩
          unfold worthL
          rw [if_pos h1, if_pos h2]
          rfl
        · refine iteB0 (decide_eq_false h2) ⟨_, rfl, 1, rfl, z, rfl, len_size hz, cutS z (some 1) none, rfl, Nat.le_trans (cutS_length _ _ _) hz, ?_⟩
          rw [cp_cut1]
          cases e : wholeL ((cp z).drop 1) with
          | none =>
            refine ⟨_, rfl, rfl, _, rfl, iteT ⟨none, _, rfl, rfl, ?_⟩⟩
            unfold worthL
            rw [if_pos h1, if_neg h2, e]
            rfl
          | some a =>
            refine ⟨_, rfl, rfl, _, rfl, iteF ⟨_, rfl, a, rfl, some (-a), _, rfl, rfl, ?_⟩⟩
            unfold worthL
            rw [if_pos h1, if_neg h2, e]
            rfl
      · rw [decide_eq_false h1]
        refine iteT ⟨_, rfl, z, rfl, hz, wholeL (cp z), none, rfl, rfl, ?_⟩
        unfold worthL
        rw [if_neg h1]
    · rintro _ _ ⟨o, y, rfl, rfl, ho⟩
      rw [← ho] at q
      cases o with
      | none => exact ⟨_, rfl, .non, rfl, trivial, _, rfl, iteF q⟩
      | some a =>
        refine ⟨_, rfl, .int a, rfl, trivial, _, rfl, ite2 (fun h => ⟨_, rfl, ?_⟩) (fun h => ?_)⟩
        · have e : keepW (some a) = some a := if_pos (of_decide_eq_true h)
          rw [e] at q
          exact q
        · have e : keepW (some a) = none := if_neg (fun g => h (decide_eq_true g))
          rw [e] at q
          exact q
theorem ok_itemof (T : Txt K w mg f fd ob) : FnOk P w K mg base CX0 4 (f 14) (fd 14) ["word"] sp_itemof := by
  have G_worthof := ok_worthof (P := P) (base := base) T
  refine T.F_itemof.ok sc_itemof (fun vs H Q E h => ?_) (fun cdv A outer s H vs Q E hr h => ?_)
  · obtain ⟨z, rfl, _⟩ := h
    rfl
  · obtain ⟨z, rfl, hz, q⟩ := h
    have hr_worthof := hr
    refine ⟨_, (pss_cons (ps_set (i := 1) sc_itemof.nd rfl (Or.inl rfl) (pe_call G_worthof hr_worthof (by rfl) T.m_worthof T.F_worthof.kp T.b_worthof .nil pass0 (pa_cons (pv 0) pa_nil)))
      (pss_one (ps_ret (pe_ifExp (pt_cmpR op_isN (pv 1) pe_non (nomark _)) (pv 0) (pv 1))))), ?_⟩
    refine ⟨_, rfl, z, rfl, hz, ?_⟩
    unfold itV at q
    cases e : worthL (cp z) with
    | none =>
      rw [e] at q
      exact ⟨_, rfl, rfl, _, rfl, iteT ⟨_, rfl, q⟩⟩
    | some a =>
      rw [e] at q
      exact ⟨_, rfl, rfl, _, rfl, iteF ⟨_, rfl, q⟩⟩
theorem ok_showexpression (T : Txt K w mg f fd ob) : FnOk P w K mg base CX0 1 (f 13) (fd 13) ["e"] (sp_showexpression K) := by
  refine T.F_showexpression.ok sc_showexpression (fun vs H Q E h => ?_) (fun cdv A outer s H vs Q E hr h => ?_)
  · obtain ⟨t, xs, rfl, _⟩ := h
    rfl
  · obtain ⟨t, xs, rfl, ht, hx, hlen, hsz, q⟩ := h
    refine ⟨_, (pss_one (ps_ret (pe_join pe_str (pe_lc (own := [("item", 1)]) (g := (gName 1)) (tt := tYes) (te := (tCB rStrV (tCons (tVar 1) tNil))) (by rfl) sc_showexpression.nd (pi_tup (pv 0)) (blkOk_by (own := [("item", 1)]) (N := N_showexpression) (sc := defScope s_showexpression) (by decide +kernel)) (fun _ _ _ _ _ => (pg_name (i := 1) sc_showexpression.nd rfl (Or.inl rfl))) (fun _ _ _ _ _ => pts_nil) (fun _ _ _ _ _ => (pe_callTy call_strV (by rfl) T.z_str (by decide +kernel) (pa_cons (pv 1) pa_nil))))))), ?_⟩
    refine ⟨⟨_, rfl⟩, _, rfl, t, rfl, ⟨_, ht⟩, fun D nD => ?_⟩
    refine lc_tup (K := K) (a := t) (xs := xs) (fun i H' => Same H H' ∧ H' D = some (.lst (((xs.take i).map shV).map V.str))) ⟨Same.new nD, upd_same⟩ (fun i H' _ h => ex_t h.1 ht) ?_ ?_
    · rintro i x H1 hi ⟨s1, hD⟩
      have hl : i < xs.length := (List.getElem?_eq_some_iff.mp hi).1
      have et : xs.take (i + 1) = xs.take i ++ [x] := by
        rw [List.take_add_one, hi]
        rfl
      refine ⟨rfl, _, rfl, x, rfl, hx x (List.mem_of_getElem? hi), _, hD, ?_, Same.mut s1 nD, ?_⟩
      · rw [List.length_map, List.length_map, List.length_take]
        exact small1000 (by omega)
      · rw [upd_same, et, List.map_append, List.map_append]
        rfl
    · rintro H1 ⟨s1, hD⟩
      rw [List.take_length] at hD
      refine ⟨_, D, xs.map shV, rfl, rfl, .inl (SqL.of hD), ?_, q _ s1⟩
      rw [show ((" " : Str)).length = 1 by decide +kernel, Nat.mul_one, List.length_map]
      omega
theorem flat_it {z : Str} (h : z.length ≤ 8000000) : FlatN (itV z) := by
  unfold itV
  cases worthL (cp z) with
  | none => exact h
  | some a => exact trivial
theorem ok_expressionof (T : Txt K w mg f fd ob) : FnOk P w K mg base CX0 5 (f 15) (fd 15) ["text"] sp_expressionof := by
  have G_itemof := ok_itemof (P := P) (base := base) T
  have G_isexpression := ok_isexpression (P := P) (base := base) T
  refine T.F_expressionof.ok sc_expressionof (fun vs H Q E h => ?_) (fun cdv A outer s H vs Q E hr h => ?_)
  · obtain ⟨z, rfl, _⟩ := h
    rfl
  · obtain ⟨z, rfl, hz, q1, q2⟩ := h
    have hr_itemof := hr
    have hr_isexpression : Room 3 _ := hr.mono (by decide)
    obtain ⟨hl1, hl2⟩ := split_len z
    refine ⟨_, (pss_cons (ps_set (i := 1) sc_expressionof.nd rfl (Or.inl rfl) (pe_callTy call_tuple_of (by rfl) T.z_tuple (by decide +kernel) (pa_cons (pe_lc (own := [("word", 2)]) (g := (gName 2)) (tt := tYes) (te := (tCall sp_itemof [] E0 (tCons (tVar 2) tNil))) (by rfl) sc_expressionof.nd (pi_list (pe_split (pv 0) pe_str)) (blkOk_by (own := [("word", 2)]) (N := N_expressionof) (sc := defScope s_expressionof) (by decide +kernel)) (fun _ _ _ _ _ => (pg_name (i := 2) sc_expressionof.nd rfl (Or.inl rfl))) (fun _ _ _ _ _ => pts_nil) (fun _ _ _ _ _ => (pe_call G_itemof hr_itemof (by rfl) T.m_itemof T.F_itemof.kp T.b_itemof .nil pass0 (pa_cons (pv 2) pa_nil)))) pa_nil)))
      (pss_one (ps_ret (pe_ifExp (pt_val (pe_call G_isexpression hr_isexpression (by rfl) T.m_isexpression T.F_isexpression.kp T.b_isexpression .nil pass0 (pa_cons (pv 1) pa_nil))) (pv 1) pe_non)))), ?_⟩
    refine ⟨_, rfl, ⟨_, rfl⟩, z, _, rfl, rfl, by decide +kernel, Nat.le_trans (show z.length + 2 ≤ 8000000 by omega) (by decide), fun l hl => ?_⟩
    have hL : (upd H l (.lst ((Txt.split z " ").map V.str))) l = some (.lst ((Txt.split z " ").map V.str)) := upd_same
    have s0 : Same H (upd H l (.lst ((Txt.split z " ").map V.str))) := Same.new hl
    refine ⟨l, rfl, ⟨_, SqL.of hL⟩, fun D nD => ?_⟩
    generalize upd H l (.lst ((Txt.split z " ").map V.str)) = H0 at hL s0 nD ⊢
    refine lc_list (K := K) (a := l) (xs := (Txt.split z " ").map V.str) (fun i H' => Same H0 H' ∧ H' D = some (.lst (((Txt.split z " ").take i).map itV))) ⟨Same.new nD, upd_same⟩ (fun i H' _ h => SqL.of (h.1 _ _ hL)) ?_ ?_
    · rintro i x H1 hi ⟨s1, hD⟩
      rw [List.getElem?_map] at hi
      cases ew : (Txt.split z " ")[i]? with
      | none =>
        rw [ew] at hi
        cases hi
      | some ww =>
        rw [ew] at hi
        obtain rfl : V.str ww = x := Option.some.inj hi
        have hli : i < (Txt.split z " ").length := (List.getElem?_eq_some_iff.mp ew).1
        have et : (Txt.split z " ").take (i + 1) = (Txt.split z " ").take i ++ [ww] := by
          rw [List.take_add_one, ew]
          rfl
        have hwl := hl2 ww (List.mem_of_getElem? ew)
        refine ⟨rfl, _, rfl, ww, rfl, by omega, _, hD, ?_, Same.mut s1 nD, ?_⟩
        · rw [List.length_map, List.length_take]
          exact Nat.lt_of_lt_of_le (show _ < 8000000 by omega) (by decide)
        · rw [upd_same, et, List.map_append]
          rfl
    · rintro H1 ⟨s1, hD⟩
      rw [List.length_map, List.take_length] at hD
      refine ⟨D, _, rfl, .inl ⟨SqL.of hD, fun t ht => ?_⟩⟩
      have s2 : Same H (upd H1 t (.tup ((Txt.split z " ").map itV))) := (s0.trans s1).trans (Same.new ht)
      have htn : H t = none := (s0.trans s1).free ht
      refine ⟨_, rfl, .ref t, rfl, .inl ⟨_, upd_same⟩, fun t' xs' et ht' => ?_, fun H2 s3 => ⟨_, rfl, ?_⟩⟩
      · cases et
        rw [upd_same] at ht'
        obtain rfl := HO.tup.inj (Option.some.inj ht')
        refine ⟨by rw [List.length_map]; omega, fun x hx => ?_⟩
        obtain ⟨ww, hw, rfl⟩ := List.mem_map.mp hx
        exact (flat_it (by have := hl2 ww hw; omega)).kn
      · rw [exT_tup upd_same]
        cases e : exV ((Txt.split z " ").map itV) with
        | true => exact iteT ⟨_, rfl, q1 _ t e (s2.trans s3) htn (s3 _ _ upd_same)⟩
        | false => exact iteF (q2 _ e (s2.trans s3))
theorem at0 (x : V) (ps : List V) : atI (x :: ps) 0 = some x := atI_nat (j := 0) rfl
theorem shape_at (T : Txt K w mg f fd ob) (z : Str) : ∃ r, PySem.W.nsIn K (ob 1) z = some r ∧ (∀ u, r = some u → L2.RelV (.str (shp z)) u) ∧ (r = none → shp z = "") := by
  by_cases h : z ∈ wds
  · have key : ∀ {a b : Str}, KDct K w (ob 1) a (.str b) → shp a = b → ∃ r, PySem.W.nsIn K (ob 1) a = some r ∧ (∀ u, r = some u → L2.RelV (.str (shp a)) u) ∧ (r = none → shp a = "") := by
      rintro a b ⟨_, _, u, _, _, h1, h2⟩ e
      rw [e]
      refine ⟨_, h1, ?_, fun z => nomatch z⟩
      intro u' e'
      cases e'
      exact h2
    simp only [wds, List.mem_cons, List.not_mem_nil, or_false] at h
    rcases h with rfl | rfl | rfl | rfl | rfl | rfl | rfl | rfl | rfl | rfl | rfl | rfl | rfl
    · exact key T.t_SHAPES_0 (by decide +kernel)
    · exact key T.t_SHAPES_1 (by decide +kernel)
    · exact key T.t_SHAPES_2 (by decide +kernel)
    · exact key T.t_SHAPES_3 (by decide +kernel)
    · exact key T.t_SHAPES_4 (by decide +kernel)
    · exact key T.t_SHAPES_5 (by decide +kernel)
    · exact key T.t_SHAPES_6 (by decide +kernel)
    · exact key T.t_SHAPES_7 (by decide +kernel)
    · exact key T.t_SHAPES_8 (by decide +kernel)
    · exact key T.t_SHAPES_9 (by decide +kernel)
    · exact key T.t_SHAPES_10 (by decide +kernel)
    · exact key T.t_SHAPES_11 (by decide +kernel)
    · exact key T.t_SHAPES_12 (by decide +kernel)
  · exact ⟨none, T.n_SHAPES z h, (fun _ e => nomatch e), fun _ => shp_no h⟩
theorem ok_isbelow (T : Txt K w mg f fd ob) : FnOk P w K mg base CX0 2 (f 5) (fd 5) ["thing", "many"] sp_isbelow := by
  have G_iswhole := ok_iswhole (P := P) (base := base) T
  refine T.F_isbelow.ok sc_isbelow (fun vs H Q E h => ?_) (fun cdv A outer s H vs Q E hr h => ?_)
  · obtain ⟨x, m, rfl, _⟩ := h
    rfl
  · obtain ⟨x, m, rfl, hx, q⟩ := h
    have hr_iswhole := hr
    refine ⟨_, (pss_one (ps_ret (pe_and (pe_call G_iswhole hr_iswhole (by rfl) T.m_iswhole T.F_iswhole.kp T.b_iswhole .nil pass0 (pa_cons (pv 0) pa_nil)) (pe_one (pe_chain op_le op_lt pe_int (pv 0) (pv 1)))))), ?_⟩
    refine ⟨_, rfl, x, rfl, hx, _, rfl, ?_⟩
    cases x with
    | int i =>
      refine iteT ⟨_, rfl, _, _, rfl, rfl, _, rfl, ite2 (fun h1 => ⟨_, rfl, _, _, rfl, rfl, ?_⟩) (fun h1 => ?_)⟩
      · have h1' : 0 ≤ i := of_decide_eq_true h1
        have e : blB m (.int i) = decide (i < m) := by
          show decide (0 ≤ i ∧ i < m) = _
          by_cases h2 : i < m
          · rw [decide_eq_true h2, decide_eq_true ⟨h1', h2⟩]
          · rw [decide_eq_false h2, decide_eq_false (fun z => h2 z.2)]
        rw [e] at q
        exact q
      · have e : blB m (.int i) = false := decide_eq_false (fun z => h1 (decide_eq_true z.1))
        rw [e] at q
        exact q
    | non => exact iteF q
    | bl b => exact iteF q
    | str z => exact iteF q
    | byt b => exact hx.elim
    | flt b => exact hx.elim
    | ref a => exact iteF q
    | ty n => exact hx.elim
theorem code_eq (c d : Nat) : decide (V.str ⟨#[c]⟩ = V.str ⟨#[d]⟩) = decide (c = d) := by
  by_cases h : c = d
  · rw [h, decide_eq_true rfl, decide_eq_true rfl]
  · rw [decide_eq_false h, decide_eq_false]
    intro e
    have e2 : (⟨#[c]⟩ : Str) = ⟨#[d]⟩ := V.str.inj e
    have e3 : #[c] = #[d] := congrArg Str.cps e2
    exact h (by simpa using e3)
theorem str_r : ("r" : Str) = ⟨#[114]⟩ := by decide +kernel
theorem str_e : ("e" : Str) = ⟨#[101]⟩ := by decide +kernel
theorem str_k : ("k" : Str) = ⟨#[107]⟩ := by decide +kernel
theorem kk_bl (m : Nat) (x : V) : blB ((m : Int) + 1) x = kkB m x := by
  cases x with
  | int i =>
    show decide (0 ≤ i ∧ i < (m : Int) + 1) = decide (0 ≤ i ∧ i ≤ (m : Int))
    by_cases h : 0 ≤ i ∧ i ≤ (m : Int)
    · rw [decide_eq_true h, decide_eq_true ⟨h.1, by omega⟩]
    · rw [decide_eq_false h, decide_eq_false (fun z => h ⟨z.1, by omega⟩)]
  | _ => rfl
theorem ok_fits (T : Txt K w mg f fd ob) : FnOk P w K mg base CX0 4 (f 16) (fd 16) ["kind", "thing", "many"] sp_fits := by
  have G_isletter := ok_isletter (P := P) (base := base) T
  have G_isexpression := ok_isexpression (P := P) (base := base) T
  have G_isbelow := ok_isbelow (P := P) (base := base) T
  refine T.F_fits.ok sc_fits (fun vs H Q E h => ?_) (fun cdv A outer s H vs Q E hr h => ?_)
  · obtain ⟨c, m, x, L, d, rfl, _⟩ := h
    rfl
  · obtain ⟨c, m, x, L, d, rfl, hx, hL, q⟩ := h
    have hr_isexpression := hr
    have hr_isletter : Room 1 _ := hr.mono (by decide)
    have hr_isbelow : Room 2 _ := hr.mono (by decide)
    refine ⟨_, (pss_cons (ps_if (pt_cmpR op_eq (pv 0) pe_str (nomark _)) (pss_one (ps_ret (pe_call G_isletter hr_isletter (by rfl) T.m_isletter T.F_isletter.kp T.b_isletter .nil pass0 (pa_cons (pv 1) pa_nil)))) pss_nil)
      (pss_cons (ps_if (pt_cmpR op_eq (pv 0) pe_str (nomark _)) (pss_one (ps_ret (pe_call G_isexpression hr_isexpression (by rfl) T.m_isexpression T.F_isexpression.kp T.b_isexpression .nil pass0 (pa_cons (pv 1) pa_nil)))) pss_nil)
      (pss_one (ps_ret (pe_call G_isbelow hr_isbelow (by rfl) T.m_isbelow T.F_isbelow.kp T.b_isbelow .nil pass0 (pa_cons (pv 1) (pa_cons (pe_op op_add (pv 2) pe_int) pa_nil))))))), ?_⟩
    refine ⟨_, rfl, rfl, _, rfl, ?_⟩
    rw [str_r, code_eq]
    by_cases h1 : c = 114
    · rw [decide_eq_true h1]
      have q1 := q H (Same.refl H)
      rw [show fitB H m c x = ltV x from if_pos h1] at q1
      exact iteT ⟨_, rfl, x, rfl, hx.kn, q1⟩
    · rw [decide_eq_false h1]
      refine iteF ⟨_, rfl, rfl, _, rfl, ?_⟩
      rw [str_e, code_eq]
      by_cases h2 : c = 101
      · rw [decide_eq_true h2]
        refine iteT ⟨_, rfl, x, rfl, hx.kn, hx.ex hL, fun H' s' => ?_⟩
        have q1 := q H' s'
        rw [show fitB H m c x = exT H x by unfold fitB; rw [if_neg h1, if_pos h2]] at q1
        exact q1
      · rw [decide_eq_false h2]
        have q1 := q H (Same.refl H)
        rw [show fitB H m c x = kkB m x by unfold fitB; rw [if_neg h1, if_neg h2], ← kk_bl] at q1
        exact iteF ⟨_, rfl, _, rfl, _, _, rfl, rfl, x, _, rfl, hx.kn, q1⟩
theorem ok_isrow (T : Txt K w mg f fd ob) : FnOk P w K mg base CX0 5 (f 17) (fd 17) ["thing", "many"] sp_isrow := by
  obtain ⟨es, nn, D_SHAPES⟩ := T.d_SHAPES
  have G_fits := ok_fits (P := P) (base := base) T
  refine T.F_isrow.ok sc_isrow (fun vs H Q E h => ?_) (fun cdv A outer s H vs Q E hr h => ?_)
  · obtain ⟨m, x, L, d, rfl, _⟩ := h
    rfl
  · obtain ⟨m, x, L, d, rfl, hx, hL, q⟩ := h
    have hr_fits := hr
    refine ⟨_, (pss_cons (ps_if (pt_M (PW.pt (pw_or (pt_not (pt_val (pe_callB call_isi (by rfl) T.z_isinstance (by decide +kernel) (pa_cons (pv 0) (pa_cons (pe_bltn (v := .ty "tuple") (by rfl) T.z_tuple (by decide +kernel) rfl) pa_nil))))) (pw_or (pt_not (pt_truth (pv 0) (by intro _; rfl))) (pw_or1 (pt_not (pt_val (pe_callB call_isi (by rfl) T.z_isinstance (by decide +kernel) (pa_cons (pe_ix ix_tup (pv 0) pe_int (fun _ _ => rfl)) (pa_cons (pe_bltn (v := .ty "str") (by rfl) T.z_str (by decide +kernel) rfl) pa_nil)))))))))) (pss_one (ps_ret pe_bl)) pss_nil)
      (C8.pss_cut (ps_set (i := 2) sc_isrow.nd rfl (Or.inl rfl) (pe_kget D_SHAPES (pe_glob (v := .ref (ob 1)) (by rfl) T.m_SHAPES rfl) (pe_ix ix_tup (pv 0) pe_int (fun _ _ => rfl)) pe_str ⟨rfl, rfl, rfl, rfl⟩))
      (pss_cons (ps_if (pt_M (PW.pt (pw_or (pt_cmpR op_eq (pv 2) pe_str (nomark _)) (pw_or1 (pt_cmpR op_ne (pe_callB call_len_seq (by rfl) T.z_len PySem.boot_len (pa_cons (pv 0) pa_nil)) (pe_op op_add (pe_callB call_len_str (by rfl) T.z_len PySem.boot_len (pa_cons (pv 2) pa_nil)) pe_int) (nomark _)))))) (pss_one (ps_ret pe_bl)) pss_nil)
      (pss_one (ps_ret (pe_callB (cr_all rfl) (by rfl) T.z_all (by decide +kernel) (pa_cons (pe_lc (own := [("kind", 3), ("part", 4)]) (g := (gTup K 2 (gCons (gName 3) (gCons (gName 4) gNil)))) (tt := tYes) (te := (tCall (sp_fits) [] E0 (tCons (tVar 3) (tCons (tVar 4) (tCons (tVar 1) tNil))))) (by rfl) sc_isrow.nd (pi_zipST (by rfl) T.z_zip (pa_cons (pv 2) (pa_cons (pe_slice sl_tupA (pv 0) (po_some pe_int) po_none) pa_nil))) (blkOk_by (own := [("kind", 3), ("part", 4)]) (N := N_isrow) (sc := defScope s_isrow) (by decide +kernel)) (fun _ _ _ _ _ => (pg_tup (by rfl) (pgs_cons (pg_name (i := 3) sc_isrow.nd rfl (Or.inl rfl)) (pgs_cons (pg_name (i := 4) sc_isrow.nd rfl (Or.inl rfl)) pgs_nil)))) (fun _ _ _ _ _ => pts_nil) (fun _ _ _ _ _ => (pe_call G_fits hr_fits (by rfl) T.m_fits T.F_fits.kp T.b_fits .nil pass0 (pa_cons (pv 3) (pa_cons (pv 4) (pa_cons (pv 1) pa_nil)))))) pa_nil))))))), ?_⟩
    refine ⟨fun b H' => H = H' ∧ (b = true → tupT (rowV H m) H x = false) ∧ (b = false → ∃ t z ps, x = .ref t ∧ H t = some (.tup (.str z :: ps)) ∧ ps.length ≤ 1000 ∧ z.length ≤ 8000000 ∧ ∀ y ∈ ps, Th H L d y), ?_, ?_⟩
    · obtain ⟨ty1, hty1, hkt1⟩ := isi_tup (K := K) hx.kn
      refine ⟨_, rfl, _, _, _, _, _, rfl, .ty _, hty1, hkt1, _, rfl, ?_⟩
      rcases hx.two with ⟨t, xs, rfl, ht, hl, hxs⟩ | ⟨hl, hf⟩
      · rw [show isTupB H (.ref t) = true from tupT_tup ht]
        refine iteF ⟨_, rfl, _, .inr (.inl ⟨xs, SqT.of ht, rfl⟩), ?_⟩
        cases xs with
        | nil =>
          refine iteT ⟨rfl, fun _ => ?_, fun z => nomatch z⟩
          rw [tupT_tup ht]
          rfl
        | cons x0 ps =>
          have hk0 := hxs x0 List.mem_cons_self
          obtain ⟨ty2, hty2, hkt2⟩ := isi_str (K := K) hk0.kn
          refine iteF ⟨_, rfl, _, _, _, _, rfl, rfl, SqT.of ht, at0 x0 ps, _, _, _, _, _, rfl, .ty _, hty2, hkt2, _, rfl, ?_⟩
          have no : isStrB x0 = false → rowV H m (x0 :: ps) = false := by
            intro e
            cases x0 with
            | str z => cases e
            | _ => rfl
          cases e0 : isStrB x0 with
          | false =>
            refine ⟨rfl, fun _ => ?_, fun z => nomatch z⟩
            rw [tupT_tup ht]
            exact no e0
          | true =>
            cases x0 with
            | str z =>
              refine ⟨rfl, (fun z => nomatch z), fun _ => ⟨t, z, ps, rfl, ht, ?_, hk0.kn, fun y hy => hxs y (List.mem_cons_of_mem _ hy)⟩⟩
              rw [List.length_cons] at hl
              omega
            | _ => cases e0
      · rw [show isTupB H x = false from hf _]
        exact iteT ⟨rfl, fun _ => hf _, fun z => nomatch z⟩
    rintro b _ ⟨rfl, hb1, hb0⟩
    cases b with
    | true =>
      have q1 := q H (Same.refl H)
      rw [hb1 rfl] at q1
      exact iteT q1
    | false =>
      obtain ⟨t, z, ps, rfl, ht, hl, hz, hps⟩ := hb0 rfl
      rw [tupT_tup ht] at q
      obtain ⟨r, hr1, hr2, hr3⟩ := shape_at T z
      refine iteF ⟨fun σ' H' => σ' = [some (.ref t), some (.int (m : Int)), some (.str (shp z)), none, none] ∧ H = H', ?_, ?_⟩
      · exact ⟨rfl, _, rfl, _, _, _, _, rfl, rfl, SqT.of ht, at0 _ ps, z, r, .str (shp z), rfl, hr1, hr2, (fun e => by rw [hr3 e]), rfl, rfl⟩
      rintro _ _ ⟨rfl, rfl⟩
      have hsl := shp_len z
      refine ⟨fun b H' => H = H' ∧ (b = true → rowV H m (.str z :: ps) = false) ∧ (b = false → ps.length = (shp z).length ∧ shp z ≠ ""), ?_, ?_⟩
      · refine ⟨_, rfl, rfl, _, rfl, ?_⟩
        by_cases h1 : shp z = ""
        · rw [decide_eq_true (by rw [h1])]
          refine iteT ⟨rfl, fun _ => ?_, fun z => nomatch z⟩
          show (!decide (shp z = "") && _) = false
          rw [decide_eq_true h1]
          rfl
        · rw [decide_eq_false (fun e => h1 (V.str.inj e))]
          refine iteF ⟨_, rfl, _, _, rfl, .inr (SqT.of ht), _, rfl, _, rfl, Nat.le_trans hsl (by decide), _, _, rfl, rfl, rfl, _, rfl, ?_⟩
          by_cases h2 : ps.length = (shp z).length
          · rw [decide_eq_true (show V.int ((((V.str z :: ps).length : Nat) : Int)) = V.int (((shp z).length : Int) + 1) by rw [List.length_cons, h2]; rfl)]
            exact ⟨rfl, (fun z => nomatch z), fun _ => ⟨h2, h1⟩⟩
          · rw [decide_eq_false (show ¬ V.int ((((V.str z :: ps).length : Nat) : Int)) = V.int (((shp z).length : Int) + 1) from fun e => h2 (by have := V.int.inj e; rw [List.length_cons] at this; omega))]
            refine ⟨rfl, fun _ => ?_, fun z => nomatch z⟩
            show (!decide (shp z = "") && (decide (ps.length = (shp z).length) && _)) = false
            rw [decide_eq_false h2, Bool.false_and, Bool.and_false]
      rintro b _ ⟨rfl, hb1, hb0⟩
      cases b with
      | true =>
        have q1 := q H (Same.refl H)
        rw [hb1 rfl] at q1
        exact iteT q1
      | false =>
        obtain ⟨h2, h1⟩ := hb0 rfl
        have er : rowV H m (.str z :: ps) = ((cp (shp z)).zip ps).all (fun q => fitB H m q.1 q.2) := by
          show (!decide (shp z = "") && (decide (ps.length = (shp z).length) && _)) = _
          rw [decide_eq_false h1, decide_eq_true h2]
          rfl
        rw [er] at q
        refine iteF ⟨_, rfl, _, rfl, 1, rfl, slFrom ht fun r0 H1 s1 hr0 => ?_⟩
        rw [show cutV (V.str z :: ps) (some 1) none = ps from cutFrom (k := 1) _ (by rw [List.length_cons]; omega)] at hr0
        refine ⟨shp z, r0, ps, rfl, SqT.of hr0, fun D nD => ?_⟩
        have sc : (shp z).cps.size = ps.length := h2.symm
        have lz : ((cp (shp z)).zip ps).length = ps.length := by
          rw [List.length_zip, ← cp_len, ← h2, Nat.min_self]
        refine lc_it (walk_zipST (n := ps.length) (by rw [sc, Nat.min_self])) (fun i H' => Same H1 H' ∧ H' D = some (.lst (((((cp (shp z)).zip ps).take i).map (fun q => fitB H m q.1 q.2)).map V.bl))) ⟨Same.new nD, upd_same⟩ (fun i H' _ h => SqT.of (h.1 _ _ hr0)) ?_ ?_
        · rintro i x H2 H3 hi ⟨sm, hD⟩ ⟨t2, u, v, rfl, nt, rfl, gu, gv⟩
          have ci : i < (shp z).cps.size := by omega
          dsimp only at gu gv
          rw [Array.getElem?_eq_getElem ci] at gu
          obtain rfl := Option.some.inj gu
          have hv := hps v (List.mem_of_getElem? gv)
          have sT : Same H2 (upd H2 t2 (.tup [.str ⟨#[(shp z).cps[i]]⟩, v])) := Same.new nt
          refine ⟨t2, _, rfl, SqT.of upd_same, rfl, _, _, rfl, _, _, rfl, rfl, rfl, ?_⟩
          have s13 := (s1.trans sm).trans sT
          refine ⟨_, rfl, _, rfl, _, rfl, (shp z).cps[i], m, v, L, d, rfl, hv.same s13, hL, fun H4 s4 => ?_⟩
          rw [fitB_same s13 hv.kn]
          have ez : ((cp (shp z)).zip ps)[i]? = some ((shp z).cps[i], v) := by
            rw [List.getElem?_zip_eq_some]
            refine ⟨?_, gv⟩
            show (shp z).cps.toList[i]? = _
            rw [Array.getElem?_toList, Array.getElem?_eq_getElem ci]
          refine ⟨_, (sT.trans s4) _ _ hD, ?_, Same.mut (sm.trans (sT.trans s4)) nD, ?_⟩
          · rw [List.length_map, List.length_map, List.length_take]
            exact small1000 (by omega)
          · rw [upd_same, List.take_add_one, ez, List.map_append, List.map_append]
            rfl
        · rintro H2 ⟨sm, hD⟩
          rw [← lz, List.take_length] at hD
          refine ⟨D, _, rfl, SqL.of hD, ?_⟩
          have ea : (((cp (shp z)).zip ps).map (fun q => fitB H m q.1 q.2)).all id = ((cp (shp z)).zip ps).all (fun q => fitB H m q.1 q.2) := by
            rw [List.all_map]
            rfl
          rw [ea]
          exact q _ (s1.trans sm)
theorem ok_isthread (T : Txt K w mg f fd ob) : FnOk P w K mg base CX0 6 (f 18) (fd 18) ["thing"] sp_isthread := by
  obtain ⟨tkR, h_MOST_ROWS⟩ := T.c_MOST_ROWS
  have G_isrow := ok_isrow (P := P) (base := base) T
  refine T.F_isthread.ok sc_isthread (fun vs H Q E h => ?_) (fun cdv A outer s H vs Q E hr h => ?_)
  · obtain ⟨x, L, d, rfl, _⟩ := h
    rfl
  · obtain ⟨x, L, d, rfl, hx, hL, q⟩ := h
    have hr_isrow := hr
    refine ⟨_, (pss_cons (ps_if (PW.pt (pw_or (pt_not (pt_val (pe_callB call_isi (by rfl) T.z_isinstance (by decide +kernel) (pa_cons (pv 0) (pa_cons (pe_bltn (v := .ty "tuple") (by rfl) T.z_tuple (by decide +kernel) rfl) pa_nil))))) (pw_or1 (pt_cmpR op_gt (pe_callB call_len_seq (by rfl) T.z_len PySem.boot_len (pa_cons (pv 0) pa_nil)) (pe_glob (v := .int 40) (by rfl) h_MOST_ROWS ⟨_, rfl⟩) (nomark _))))) (pss_one (ps_ret pe_bl)) pss_nil)
      (pss_one (ps_ret (pe_callB (cr_all rfl) (by rfl) T.z_all (by decide +kernel) (pa_cons (pe_lc (own := [("part", 1)]) (g := (gName 1)) (tt := tYes) (te := (tCall (sp_isrow) [] E0 (tCons (tVar 1) (tCons (tCB (fun xs H Q => ∃ p ys, xs = [V.ref p] ∧ (SqL K H p ys ∨ SqT K H p ys) ∧ Q (V.int ys.length) H) (tCons (tVar 0) tNil)) tNil)))) (by rfl) sc_isthread.nd (pi_tup (pv 0)) (blkOk_by (own := [("part", 1)]) (N := N_isthread) (sc := defScope s_isthread) (by decide +kernel)) (fun _ _ _ _ _ => (pg_name (i := 1) sc_isthread.nd rfl (Or.inl rfl))) (fun _ _ _ _ _ => pts_nil) (fun _ _ _ _ _ => (pe_call G_isrow hr_isrow (by rfl) T.m_isrow T.F_isrow.kp T.b_isrow .nil pass0 (pa_cons (pv 1) (pa_cons (pe_callB call_len_seq (by rfl) T.z_len PySem.boot_len (pa_cons (pv 0) pa_nil)) pa_nil))))) pa_nil))))), ?_⟩
    obtain ⟨ty1, hty1, hkt1⟩ := isi_tup (K := K) hx.kn
    refine ⟨_, rfl, _, _, _, _, _, rfl, .ty _, hty1, hkt1, _, rfl, ?_⟩
    rcases hx.two with ⟨t, xs, rfl, ht, hl, hxs⟩ | ⟨hl, hf⟩
    rotate_left
    · rw [show isTupB H x = false from hf _]
      have q1 := q H (Same.refl H)
      rw [hf] at q1
      exact iteT q1
    · rw [show isTupB H (.ref t) = true from tupT_tup ht]
      rw [tupT_tup ht] at q
      refine iteF ⟨_, rfl, _, _, rfl, .inr (SqT.of ht), _, _, rfl, rfl, _, rfl, ite2 (fun h1 => ?_) (fun h1 => ?_)⟩
      · have h1' : (40 : Int) < ((xs.length : Nat) : Int) := of_decide_eq_true h1
        have q1 := q H (Same.refl H)
        rw [show thrV H xs = false by unfold thrV; rw [decide_eq_false (by omega)]; rfl] at q1
        exact q1
      · have h1' : ¬ (40 : Int) < ((xs.length : Nat) : Int) := fun z => h1 (decide_eq_true z)
        have et : thrV H xs = xs.all (tupT (rowV H xs.length) H) := by
          unfold thrV
          rw [decide_eq_true (by omega)]
          rfl
        rw [et] at q
        refine ⟨_, rfl, t, rfl, ⟨_, SqT.of ht⟩, fun D nD => ?_⟩
        refine lc_tup (K := K) (a := t) (xs := xs) (fun i H' => Same H H' ∧ H' D = some (.lst (((xs.take i).map (tupT (rowV H xs.length) H)).map V.bl))) ⟨Same.new nD, upd_same⟩ (fun i H' _ h => SqT.of (h.1 _ _ ht)) ?_ ?_
        · rintro i x H1 hi ⟨s1, hD⟩
          have hl : i < xs.length := (List.getElem?_eq_some_iff.mp hi).1
          have hT := hxs x (List.mem_of_getElem? hi)
          refine ⟨rfl, _, rfl, _, rfl, _, _, rfl, .inr (SqT.of (s1 _ _ ht)), xs.length, x, L, d, rfl, hT.same s1, hL, fun H2 s2 => ?_⟩
          rw [rowT_same s1 hT]
          refine ⟨_, s2 _ _ hD, ?_, Same.mut (s1.trans s2) nD, ?_⟩
          · rw [List.length_map, List.length_map, List.length_take]
            exact small1000 (by omega)
          · rw [upd_same, List.take_add_one, hi, List.map_append, List.map_append]
            rfl
        · rintro H1 ⟨s1, hD⟩
          rw [List.take_length] at hD
          refine ⟨D, _, rfl, SqL.of hD, ?_⟩
          have ea : (xs.map (tupT (rowV H xs.length) H)).all id = xs.all (tupT (rowV H xs.length) H) := by
            rw [List.all_map]
            rfl
          rw [ea]
          exact q _ s1
theorem ok_isprogram (T : Txt K w mg f fd ob) : FnOk P w K mg base CX0 7 (f 19) (fd 19) ["thing"] sp_isprogram := by
  obtain ⟨tkT, h_MOST_THREADS⟩ := T.c_MOST_THREADS
  have G_isthread := ok_isthread (P := P) (base := base) T
  refine T.F_isprogram.ok sc_isprogram (fun vs H Q E h => ?_) (fun cdv A outer s H vs Q E hr h => ?_)
  · obtain ⟨x, L, d, rfl, _⟩ := h
    rfl
  · obtain ⟨x, L, d, rfl, hx, hL, q⟩ := h
    have hr_isthread := hr
    refine ⟨_, (pss_cons (ps_if (PW.pt (pw_or (pt_not (pt_val (pe_callB call_isi (by rfl) T.z_isinstance (by decide +kernel) (pa_cons (pv 0) (pa_cons (pe_bltn (v := .ty "tuple") (by rfl) T.z_tuple (by decide +kernel) rfl) pa_nil))))) (pw_or1 (pt_not (pt_chain op_le op_le pe_int (pe_callB call_len_seq (by rfl) T.z_len PySem.boot_len (pa_cons (pv 0) pa_nil)) (pe_glob (v := .int 4) (by rfl) h_MOST_THREADS ⟨_, rfl⟩)))))) (pss_one (ps_ret pe_bl)) pss_nil)
      (pss_one (ps_ret (pe_callB (cr_all rfl) (by rfl) T.z_all (by decide +kernel) (pa_cons (pe_lc (own := [("part", 1)]) (g := (gName 1)) (tt := tYes) (te := (tCall (sp_isthread) [] E0 (tCons (tVar 1) tNil))) (by rfl) sc_isprogram.nd (pi_tup (pv 0)) (blkOk_by (own := [("part", 1)]) (N := N_isprogram) (sc := defScope s_isprogram) (by decide +kernel)) (fun _ _ _ _ _ => (pg_name (i := 1) sc_isprogram.nd rfl (Or.inl rfl))) (fun _ _ _ _ _ => pts_nil) (fun _ _ _ _ _ => (pe_call G_isthread hr_isthread (by rfl) T.m_isthread T.F_isthread.kp T.b_isthread .nil pass0 (pa_cons (pv 1) pa_nil)))) pa_nil))))), ?_⟩
    obtain ⟨ty1, hty1, hkt1⟩ := isi_tup (K := K) hx.kn
    refine ⟨_, rfl, _, _, _, _, _, rfl, .ty _, hty1, hkt1, _, rfl, ?_⟩
    rcases hx.two with ⟨t, xs, rfl, ht, hl, hxs⟩ | ⟨hl, hf⟩
    rotate_left
    · rw [show isTupB H x = false from hf _]
      have q1 := q H (Same.refl H)
      rw [hf] at q1
      exact iteT q1
    · rw [show isTupB H (.ref t) = true from tupT_tup ht]
      rw [tupT_tup ht] at q
      have no : ¬ (1 ≤ xs.length ∧ xs.length ≤ 4) → Q (.bl false) H := fun z => by
        have q1 := q H (Same.refl H)
        rw [show prgV H xs = false by unfold prgV; rw [decide_eq_false z]; rfl] at q1
        exact q1
      refine iteF ⟨_, rfl, _, _, rfl, .inr (SqT.of ht), _, _, rfl, rfl, _, rfl, ite2 (fun h1 => ⟨_, _, rfl, rfl, _, rfl, ite2 (fun h2 => ?_) (fun h2 => ?_)⟩) (fun h1 => ?_)⟩
      · have h2' : ¬ ((xs.length : Nat) : Int) ≤ 4 := fun z => by
          rw [decide_eq_true z] at h2
          cases h2
        exact no (fun z => h2' (by omega))
      rotate_left
      · have h1' : ¬ (1 : Int) ≤ ((xs.length : Nat) : Int) := fun z => h1 (decide_eq_true z)
        exact ⟨_, rfl, iteT (no (fun z => h1' (by omega)))⟩
      · have h1' : (1 : Int) ≤ ((xs.length : Nat) : Int) := of_decide_eq_true h1
        have h2' : ((xs.length : Nat) : Int) ≤ 4 := Decidable.byContradiction fun z => h2 (by rw [decide_eq_false z]; rfl)
        have et : prgV H xs = xs.all (tupT (thrV H) H) := by
          unfold prgV
          rw [decide_eq_true (by omega)]
          rfl
        rw [et] at q
        refine ⟨_, rfl, t, rfl, ⟨_, SqT.of ht⟩, fun D nD => ?_⟩
        refine lc_tup (K := K) (a := t) (xs := xs) (fun i H' => Same H H' ∧ H' D = some (.lst (((xs.take i).map (tupT (thrV H) H)).map V.bl))) ⟨Same.new nD, upd_same⟩ (fun i H' _ h => SqT.of (h.1 _ _ ht)) ?_ ?_
        · rintro i x H1 hi ⟨s1, hD⟩
          have hl : i < xs.length := (List.getElem?_eq_some_iff.mp hi).1
          have hT := hxs x (List.mem_of_getElem? hi)
          refine ⟨rfl, _, rfl, x, L, d, rfl, hT.same s1, hL, fun H2 s2 => ?_⟩
          rw [thrT_same s1 hT]
          refine ⟨_, s2 _ _ hD, ?_, Same.mut (s1.trans s2) nD, ?_⟩
          · rw [List.length_map, List.length_map, List.length_take]
            exact small1000 (by omega)
          · rw [upd_same, List.take_add_one, hi, List.map_append, List.map_append]
            rfl
        · rintro H1 ⟨s1, hD⟩
          rw [List.take_length] at hD
          refine ⟨D, _, rfl, SqL.of hD, ?_⟩
          have ea : (xs.map (tupT (thrV H) H)).all id = xs.all (tupT (thrV H) H) := by
            rw [List.all_map]
            rfl
          rw [ea]
          exact q _ s1
theorem ok_showthing (T : Txt K w mg f fd ob) : FnOk P w K mg base CX0 2 (f 20) (fd 20) ["kind", "thing"] sp_showthing := by
  have G_showexpression := ok_showexpression (P := P) (base := base) T
  refine T.F_showthing.ok sc_showthing (fun vs H Q E h => ?_) (fun cdv A outer s H vs Q E hr h => ?_)
  · obtain ⟨c, m, v, g, rfl, _⟩ := h
    rfl
  · obtain ⟨c, m, v, g, rfl, hv, hg, hm, q⟩ := h
    have hr_showexpression := hr
    refine ⟨_, (pss_one (ps_ret (pe_ifExp (pt_cmpR op_eq (pv 0) pe_str (nomark _)) (pe_call G_showexpression hr_showexpression (by rfl) T.m_showexpression T.F_showexpression.kp T.b_showexpression .nil pass0 (pa_cons (pv 1) pa_nil)) (pe_callTy call_strV (by rfl) T.z_str (by decide +kernel) (pa_cons (pv 1) pa_nil))))), ?_⟩
    refine ⟨_, rfl, rfl, _, rfl, ?_⟩
    rw [str_e, code_eq]
    cases g with
    | re k =>
      obtain ⟨rfl, hk⟩ := hg
      rw [show v = .str (lt k) from hv]
      have e : ∀ k, k < 16 → (lt k).length ≤ 10 := by decide +kernel
      exact iteF ⟨_, rfl, _, rfl, Nat.le_trans (e k hk) (by decide), q H (Same.refl H)⟩
    | kk n =>
      obtain ⟨rfl, hn⟩ := hg
      rw [show v = .int (n : Int) from hv]
      exact iteF ⟨_, rfl, _, rfl, few (by omega), q H (Same.refl H)⟩
    | ex xs =>
      obtain ⟨rfl, hx⟩ := hg
      obtain ⟨t, rfl, ht⟩ := hv
      obtain ⟨h1, h2, h3⟩ := exV_facts hx
      refine iteT ⟨_, rfl, t, xs, rfl, SqT.of ht, fun x hx' => (ok_flat (H := H) (L := 0) (d := 0) (h2 x hx')).1, by omega, ?_, fun H' s' => q H' s'⟩
      have hs : ∀ l : List V, (∀ x ∈ l, okV x = true) → ((l.map shV).map (·.length)).sum ≤ 10 * l.length := by
        intro l
        induction l with
        | nil =>
          intro _
          exact Nat.le_refl _
        | cons a r ih =>
          intro hl
          have := ih fun x hx => hl x (List.mem_cons_of_mem _ hx)
          have ha := (ok_flat (H := H) (L := 0) (d := 0) (hl a List.mem_cons_self)).2.1
          rw [List.map_cons, List.map_cons, List.sum_cons, List.length_cons]
          omega
      have := hs xs h2
      omega
theorem shape_kd (T : Txt K w mg f fd ob) {z : Str} (h : z ∈ wds) : KDct K w (ob 1) z (.str (shp z)) := by
  have key : ∀ {a b : Str}, KDct K w (ob 1) a (.str b) → shp a = b → KDct K w (ob 1) a (.str (shp a)) := fun k e => by
    rw [e]
    exact k
  simp only [wds, List.mem_cons, List.not_mem_nil, or_false] at h
  rcases h with rfl | rfl | rfl | rfl | rfl | rfl | rfl | rfl | rfl | rfl | rfl | rfl | rfl
  · exact key T.t_SHAPES_0 (by decide +kernel)
  · exact key T.t_SHAPES_1 (by decide +kernel)
  · exact key T.t_SHAPES_2 (by decide +kernel)
  · exact key T.t_SHAPES_3 (by decide +kernel)
  · exact key T.t_SHAPES_4 (by decide +kernel)
  · exact key T.t_SHAPES_5 (by decide +kernel)
  · exact key T.t_SHAPES_6 (by decide +kernel)
  · exact key T.t_SHAPES_7 (by decide +kernel)
  · exact key T.t_SHAPES_8 (by decide +kernel)
  · exact key T.t_SHAPES_9 (by decide +kernel)
  · exact key T.t_SHAPES_10 (by decide +kernel)
  · exact key T.t_SHAPES_11 (by decide +kernel)
  · exact key T.t_SHAPES_12 (by decide +kernel)
theorem TgsOk.get {m : Nat} : ∀ {cs : List Nat} {ts : List Tg} {i c : Nat} {t : Tg}, TgsOk m cs ts → cs[i]? = some c → ts[i]? = some t → TgOk m c t
  | c0 :: cs, t0 :: ts, 0, c, t, ⟨h, _⟩, e1, e2 => by
    cases (show some c0 = some c from e1)
    cases (show some t0 = some t from e2)
    exact h
  | _ :: _, _ :: _, i + 1, _, _, ⟨_, h⟩, e1, e2 => TgsOk.get (i := i) h e1 e2
  | [], [], i, _, _, _, e1, _ => by simp at e1
  | [], _ :: _, _, _, _, z, _, _ => z.elim
  | _ :: _, [], _, _, _, z, _, _ => z.elim
theorem ok_showrow (T : Txt K w mg f fd ob) : FnOk P w K mg base CX0 3 (f 21) (fd 21) ["row"] sp_showrow := by
  have G_showthing := ok_showthing (P := P) (base := base) T
  refine T.F_showrow.ok sc_showrow (fun vs H Q E h => ?_) (fun cdv A outer s H vs Q E hr h => ?_)
  · obtain ⟨m, v, r, rfl, _⟩ := h
    rfl
  · obtain ⟨m, v, r, rfl, hv, ho, hm, q⟩ := h
    have hr_showthing := hr
    refine ⟨_, (C8.pss_cut (ps_setLc (i := 1) (own := [("kind", 2), ("thing", 3)]) (g := (gTup K 2 (gCons (gName 2) (gCons (gName 3) gNil)))) (tt := tYes) (te := (tCall sp_showthing [] E0 (tCons (tVar 2) (tCons (tVar 3) tNil)))) (by rfl) sc_showrow.nd rfl rfl (sw_true rfl rfl rfl (by decide +kernel)) (pi_zipST (by rfl) T.z_zip (pa_cons (pe_ix ix_kdict (pe_glob (v := .ref (ob 1)) (by rfl) T.m_SHAPES rfl) (pe_ix ix_tup (pv 0) pe_int (fun _ _ => rfl)) (fun _ _ => rfl)) (pa_cons (pe_slice sl_tupA (pv 0) (po_some pe_int) po_none) pa_nil))) (blkOk_by (own := [("kind", 2), ("thing", 3)]) (N := N_showrow) (sc := defScope s_showrow) (by decide +kernel)) (fun _ _ _ _ _ => (pg_tup (by rfl) (pgs_cons (pg_name (i := 2) sc_showrow.nd rfl (Or.inl rfl)) (pgs_cons (pg_name (i := 3) sc_showrow.nd rfl (Or.inl rfl)) pgs_nil)))) (fun _ _ _ _ _ => pts_nil) (fun _ _ _ _ _ => (pe_call G_showthing hr_showthing (by rfl) T.m_showthing T.F_showthing.kp T.b_showthing .nil pass0 (pa_cons (pv 2) (pa_cons (pv 3) pa_nil)))))
      (pss_one (ps_ret (pe_op op_add_str (pe_op op_add_str (pe_ix ix_tup (pv 0) pe_int (fun _ _ => rfl)) pe_str) (pe_join pe_str (pv 1)))))), ?_⟩
    obtain ⟨t, vs, rfl, ht, hA⟩ := hv
    have l1 := hA.len
    have l2 := ho.2.len
    obtain ⟨b1, b2⟩ := tgs_len ho hm
    refine ⟨fun σ' H' => ∃ l : Addr, σ' = [some (.ref t), some (.ref l), none, none] ∧ Same H H' ∧ H' l = some (.lst ((r.tgs.map tgText).map V.str)), ?_, ?_⟩
    · refine ⟨_, rfl, _, _, _, _, rfl, rfl, SqT.of ht, at0 _ vs, _, _, _, rfl, rfl, shape_kd T ho.1, ?_⟩
      refine ⟨_, rfl, 1, rfl, slFrom ht fun r0 H1 s1 hr0 => ?_⟩
      rw [show cutV (V.str r.word :: vs) (some 1) none = vs from cutFrom (k := 1) _ (by rw [List.length_cons]; omega)] at hr0
      refine ⟨shp r.word, r0, vs, rfl, SqT.of hr0, fun D nD => ?_⟩
      have sc : (shp r.word).cps.size = vs.length := by
        have e : (shp r.word).cps.size = (cp (shp r.word)).length := cp_len _
        rw [e, l2, l1]
      refine lc_it (walk_zipST (n := vs.length) (by rw [sc, Nat.min_self])) (fun i H' => Same H1 H' ∧ H' D = some (.lst (((r.tgs.take i).map tgText).map V.str))) ⟨Same.new nD, upd_same⟩ (fun i H' _ h => SqT.of (h.1 _ _ hr0)) ?_ ?_
      · rintro i x H2 H3 hi ⟨sm, hD⟩ ⟨t2, u, v, rfl, nt, rfl, gu, gv⟩
        have ci : i < (shp r.word).cps.size := by omega
        dsimp only at gu gv
        rw [Array.getElem?_eq_getElem ci] at gu
        obtain rfl := Option.some.inj gu
        obtain ⟨g, hg, hgv⟩ := hA.get gv
        have sT : Same H2 (upd H2 t2 (.tup [.str ⟨#[(shp r.word).cps[i]]⟩, v])) := Same.new nt
        refine ⟨t2, _, rfl, SqT.of upd_same, rfl, _, _, rfl, _, _, rfl, rfl, rfl, ?_⟩
        have s13 := (s1.trans sm).trans sT
        have hgo : TgOk m (shp r.word).cps[i] g := by
          refine ho.2.get (i := i) ?_ hg
          show (shp r.word).cps.toList[i]? = _
          rw [Array.getElem?_toList, Array.getElem?_eq_getElem ci]
        refine ⟨_, rfl, _, rfl, (shp r.word).cps[i], m, v, g, rfl, hgv.keep (TKp.same s13), hgo, hm, fun H4 s4 => ?_⟩
        refine ⟨_, (sT.trans s4) _ _ hD, ?_, Same.mut (sm.trans (sT.trans s4)) nD, ?_⟩
        · rw [List.length_map, List.length_map, List.length_take]
          exact small1000 (by omega)
        · rw [upd_same, List.take_add_one, hg, List.map_append, List.map_append]
          rfl
      · rintro H2 ⟨sm, hD⟩
        rw [l1, List.take_length] at hD
        exact ⟨D, rfl, s1.trans sm, hD⟩
    rintro _ H1 ⟨l, rfl, s1, hl⟩
    have w5 := wd_len _ ho.1
    have jl := join_bd ", " 200 b1
    have jm : (200 + 2) * r.tgs.length ≤ 606 := Nat.le_trans (Nat.mul_le_mul_left _ b2) (by decide)
    have e2 : ((", " : Str)).length = 2 := by decide +kernel
    have e1 : ((" " : Str)).length = 1 := by decide +kernel
    have sm := sum_bd 200 b1
    rw [List.length_map] at jl sm
    rw [e2] at jl
    refine ⟨_, rfl, _, _, _, _, rfl, rfl, SqT.of (s1 _ _ ht), at0 _ vs, _, _, rfl, rfl, Nat.le_trans (show r.word.length + (" " : Str).length ≤ 1000 by omega) (by decide), ⟨_, rfl⟩, _, rfl, _, l, r.tgs.map tgText, rfl, rfl, .inl (SqL.of hl), ?_, _, _, rfl, rfl, ?_, q _ s1⟩
    · rw [e2, List.length_map]
      have : 200 * r.tgs.length ≤ 600 := Nat.le_trans (Nat.mul_le_mul_left _ b2) (by decide)
      omega
    · rw [len_app]
      exact Nat.le_trans (show _ ≤ 1000 by omega) (by decide)
theorem ok_showprogram (T : Txt K w mg f fd ob) : FnOk P w K mg base CX0 4 (f 22) (fd 22) ["program"] sp_showprogram := by
  obtain ⟨tkH, h_HEAD⟩ := T.c_HEAD
  have G_showrow := ok_showrow (P := P) (base := base) T
  refine T.F_showprogram.ok sc_showprogram (fun vs H Q E h => ?_) (fun cdv A outer s H vs Q E hr h => ?_)
  · obtain ⟨v, ps, rfl, _⟩ := h
    rfl
  · obtain ⟨v, ps, rfl, hv, ho, q⟩ := h
    have hr_showrow := hr
    refine ⟨_, (pss_cons (ps_set (i := 1) sc_showprogram.nd rfl (Or.inl rfl) (pe_lst pa_nil))
      (pss_cons (ps_for PassesOwn.never rfl (pi_tup (pv 0)) (pg_name (i := 2) sc_showprogram.nd rfl (Or.inl rfl)) (pss_cons (ps_expr (pe_bm PySem.F.plainAttrs_list PySem.F.slot_list_append PySem.F.type_list_append mt_append (pv 1) (pa_cons (pe_glob (v := .str "thread") (by rfl) h_HEAD ⟨_, rfl⟩) pa_nil)))
      (pss_one (ps_expr (pe_bm PySem.F.plainAttrs_list PySem.F.slot_list_extend PySem.F.type_list_extend mt_extend (pv 1) (pa_cons (pe_lc (own := [("row", 3)]) (g := (gName 3)) (tt := tYes) (te := (tCall sp_showrow [] E0 (tCons (tVar 3) tNil))) (by rfl) sc_showprogram.nd (pi_tup (pv 2)) (blkOk_by (own := [("row", 3)]) (N := N_showprogram) (sc := defScope s_showprogram) (by decide +kernel)) (fun _ _ _ _ _ => (pg_name (i := 3) sc_showprogram.nd rfl (Or.inl rfl))) (fun _ _ _ _ _ => pts_nil) (fun _ _ _ _ _ => (pe_call G_showrow hr_showrow (by rfl) T.m_showrow T.F_showrow.kp T.b_showrow .nil pass0 (pa_cons (pv 3) pa_nil)))) pa_nil))))))
      (pss_one (ps_ret (pe_join pe_str (pv 1)))))), ?_⟩
    obtain ⟨t, vs, rfl, ht, hA⟩ := hv
    have lA := hA.len
    obtain ⟨pl1, pl2⟩ := pr_len ho
    have subl : ∀ i, (prLines (ps.take i)).length ≤ 164 := fun i => by
      have : (prLines ps).length = (prLines (ps.take i)).length + (prLines (ps.drop i)).length := by
        unfold prLines
        rw [← List.length_append, ← List.flatten_append, ← List.map_append, List.take_append_drop]
      omega
    refine ⟨Nat.zero_le _, fun l hl => ?_⟩
    have s0 : Same H (upd H l (.lst [])) := Same.new hl
    refine ⟨_, rfl, t, rfl, ⟨_, SqT.of (s0 _ _ ht)⟩, for_tup (xs := vs) (fun i σ' H' => ∃ y2 y3 : Option V, σ' = [some (.ref t), some (.ref l), y2, y3] ∧ Same H H' ∧ H' l = some (.lst ((prLines (ps.take i)).map V.str))) ⟨none, none, rfl, s0, upd_same⟩ (fun i σ' H' _ h => ?_) ?_ ?_⟩
    · obtain ⟨y2, y3, rfl, sm, _⟩ := h
      exact SqT.of (sm _ _ ht)
    · rintro i x _ H1 hx ⟨y2, y3, rfl, s1, hl1⟩
      obtain ⟨rs, hrs, hth⟩ := hA.get hx
      obtain ⟨t2, us, rfl, ht2, hR⟩ := hth
      have hro := ho.2.2 rs (List.mem_of_getElem? hrs)
      have lR := hR.len
      have sb := subl i
      refine ⟨_, rfl, .inl ⟨rfl, _, SqL.of hl1⟩, l, _, _, rfl, rfl, hl1, small1000 (by rw [List.length_map]; omega), ?_⟩
      have s2 : Same H (upd H1 l (.lst ((prLines (ps.take i)).map V.str ++ [.str "thread"]))) := Same.mut s1 hl
      have e2 : (upd H1 l (.lst ((prLines (ps.take i)).map V.str ++ [.str "thread"]))) l = some (.lst ((prLines (ps.take i)).map V.str ++ [.str "thread"])) := upd_same
      generalize (upd H1 l (.lst ((prLines (ps.take i)).map V.str ++ [.str "thread"]))) = H2 at s2 e2
      refine ⟨_, rfl, .inl ⟨rfl, _, SqL.of e2⟩, _, rfl, t2, rfl, ⟨_, SqT.of (s2 _ _ ht2)⟩, fun D nD => ?_⟩
      refine lc_tup (K := K) (a := t2) (xs := us) (fun k H' => Same H2 H' ∧ H' D = some (.lst (((rs.take k).map rwText).map V.str))) ⟨Same.new nD, upd_same⟩ (fun k H' _ h => SqT.of (h.1 _ _ (s2 _ _ ht2))) ?_ ?_
      · rintro k y H3 hk ⟨s3, hD⟩
        obtain ⟨r, hr', hrv⟩ := hR.get hk
        refine ⟨rfl, _, rfl, rs.length, y, r, rfl, hrv.keep (TKp.same (s2.trans s3)), hro.2 r (List.mem_of_getElem? hr'), by have := hro.1; omega, fun H4 s4 => ?_⟩
        refine ⟨_, s4 _ _ hD, ?_, Same.mut (s3.trans s4) nD, ?_⟩
        · rw [List.length_map, List.length_map, List.length_take]
          exact small1000 (by have := hro.1; omega)
        · rw [upd_same, List.take_add_one, hr', List.map_append, List.map_append]
          rfl
      · rintro H3 ⟨s3, hD⟩
        rw [lR, List.take_length] at hD
        refine ⟨l, D, _, _, rfl, rfl, s3 _ _ e2, hD, Nat.le_trans (show _ ≤ 1000 by rw [List.length_append, List.length_map, List.length_map, List.length_map, List.length_singleton]; have := hro.1; omega) (by decide), _, _, rfl, Same.mut (s2.trans s3) hl, ?_⟩
        rw [upd_same, List.take_add_one, hrs]
        show some (HO.lst ((prLines (ps.take i)).map V.str ++ [V.str "thread"] ++ (rs.map rwText).map V.str)) = some (HO.lst ((prLines (ps.take i ++ [rs])).map V.str))
        rw [prLines_snoc, List.map_append, List.append_assoc]
        rfl
    · rintro _ H1 ⟨y2, y3, rfl, s1, hl1⟩
      rw [lA, List.take_length] at hl1
      have sm := sum_bd 700 pl1
      have e1 : (("\n" : Str)).length = 1 := by decide +kernel
      refine ⟨⟨_, rfl⟩, _, rfl, _, l, prLines ps, rfl, rfl, .inl (SqL.of hl1), ?_, q _ s1⟩
      rw [e1]
      omega
/-- a thread that is being read: a list of its own -/
def LtV (H H' : Hp) (th tl : Addr) (v : V) (rs : List Rw) : Prop := ∃ x vs, v = .ref x ∧ H' x = some (.lst vs) ∧ All2 (RwV H') vs rs ∧ H x = none ∧ x ≠ th ∧ x ≠ tl
theorem All2.split {α : Type} {R : V → α → Prop} : ∀ {vs : List V} {xs : List α} {x : α}, All2 R vs (xs ++ [x]) → ∃ us v, vs = us ++ [v] ∧ All2 R us xs ∧ R v x
  | [v], [], x, ⟨h, _⟩ => ⟨[], v, rfl, trivial, h⟩
  | v :: vs, y :: ys, x, ⟨h, t⟩ => by
    obtain ⟨us, w, e, h1, h2⟩ := All2.split (vs := vs) (xs := ys) t
    exact ⟨v :: us, w, by rw [e]; rfl, ⟨h, h1⟩, h2⟩
  | [], [], _, z => z.elim
  | [], _ :: _, _, z => z.elim
  | _ :: _ :: _, [], _, ⟨_, z⟩ => z.elim
theorem prLines_nil {ps : List (List Rw)} (h : prLines ps = []) : ps = [] := by
  cases ps with
  | nil => rfl
  | cons a r => exact nomatch (show ("thread" : Str) :: (a.map rwText ++ prLines r) = [] from h)
theorem prLines_head (rest : List (List Rw)) : prLines rest = [] ∨ (prLines rest).head? = some "thread" := by
  cases rest with
  | nil => exact .inl rfl
  | cons a r => exact .inr rfl
theorem last_of : ∀ {m : Nat} {cs : List Nat} {vs : List V} {gs : List Tg} {H : Hp}, TgsOk m cs gs → All2 (TgV H) vs gs → gs ≠ [] → ∃ cs' c vs' v g, cs = cs' ++ [c] ∧ vs = vs' ++ [v] ∧ TgOk m c g ∧ TgV H v g
  | m, [c], [v], [g], H, ⟨h, _⟩, ⟨h2, _⟩, _ => ⟨[], c, [], v, g, rfl, rfl, h, h2⟩
  | m, c :: cs, v :: vs, g :: g2 :: gs, H, ⟨_, h⟩, ⟨_, h2⟩, _ => by
    obtain ⟨cs', c', vs', v', g', e1, e2, h3, h4⟩ := last_of h h2 (by simp)
    exact ⟨c :: cs', c', v :: vs', v', g', by rw [e1]; rfl, by rw [e2]; rfl, h3, h4⟩
  | _, _, _, [], _, _, _, h => absurd rfl h
  | _, [], _, _ :: _, _, h, _, _ => h.elim
  | _, _, [], _ :: _, _, _, h, _ => h.elim
  | _, _ :: _ :: _, _, [_], _, ⟨_, h⟩, _, _ => h.elim
  | _, _, _ :: _ :: _, [_], _, _, ⟨_, h⟩, _ => h.elim
theorem ixN_last (n : Nat) : ixN (n + 1) (-1) = some n := by
  unfold ixN
  rw [if_neg (by decide), if_pos (by omega)]
  congr 1
  omega
theorem set_last (xs : List V) (v w : V) : (xs ++ [v]).set xs.length w = xs ++ [w] := by
  rw [List.set_append_right _ _ (Nat.le_refl _), Nat.sub_self]
  rfl
theorem im_shw {m : Im} (h : m.ok) : Shw m.toD 20 0 := by
  obtain ⟨a, b, c, d⟩ := im_shown h
  exact ⟨a, b, c, by omega⟩
theorem ex_shw {xs : List V} (h : exV xs = true) : Shw (.tuple (xs.map vD)) 400 1 := by
  obtain ⟨its, rfl, hok, hl⟩ := ex_items h
  rw [vD_ims]
  refine (shw_tup (n := 20) (k := 0) (fun d hd => ?_)).mono (by rw [List.length_map]; omega) (by decide)
  obtain ⟨i, hi, rfl⟩ := List.mem_map.mp hd
  exact im_shw (hok i hi)
theorem cutAny (xs : List V) (k : Nat) : cutV xs (some ((k : Nat) : Int)) none = xs.drop k := by
  by_cases h : k ≤ xs.length
  · exact cutFrom xs h
  · unfold cutV
    rw [HT.sIx_nat, HT.sIx_none, Nat.min_eq_right (by omega), List.drop_length, List.drop_eq_nil_of_le (by omega), List.take_nil]
theorem Rw.ok_mono {m m' : Nat} (h : m ≤ m') {r : Rw} (o : r.ok m) : r.ok m' := by
  refine ⟨o.1, ?_⟩
  have key : ∀ {cs : List Nat} {ts : List Tg}, TgsOk m cs ts → TgsOk m' cs ts := by
    intro cs
    induction cs with
    | nil =>
      intro ts h
      cases ts with
      | nil => trivial
      | cons a r => exact h.elim
    | cons c cs ih =>
      intro ts h2
      cases ts with
      | nil => exact h2.elim
      | cons g ts =>
        refine ⟨?_, ih h2.2⟩
        cases g with
        | re k => exact h2.1
        | ex xs => exact h2.1
        | kk n => exact ⟨h2.1.1, Nat.le_trans h2.1.2 h⟩
  exact key o.2
theorem All2.drop {α : Type} {R : V → α → Prop} : ∀ {vs : List V} {xs : List α} (n : Nat), All2 R vs xs → All2 R (vs.drop n) (xs.drop n)
  | [], [], n, _ => by
    rw [List.drop_nil, List.drop_nil]
    trivial
  | _ :: _, _ :: _, 0, h => h
  | _ :: _, _ :: _, n + 1, ⟨_, b⟩ => b.drop n
  | [], _ :: _, _, z => z.elim
  | _ :: _, [], _, z => z.elim
/-! Unlike programs have unlike texts, and are unlike as data. -/
theorem tg_inj {m c : Nat} {g g' : Tg} (h : TgOk m c g) (h' : TgOk m c g') (hm : m ≤ 40) (e : tgText g = tgText g') : g = g' := by
  cases g with
  | re k =>
    cases g' with
    | re k' => rw [lt_inj e]
    | ex xs =>
      have := h.1
      have := h'.1
      omega
    | kk n =>
      have := h.1
      have := h'.1
      omega
  | ex xs =>
    cases g' with
    | re k' =>
      have := h.1
      have := h'.1
      omega
    | kk n =>
      have := h.1
      have := h'.1
      omega
    | ex ys =>
      obtain ⟨its, rfl, hok, _⟩ := ex_items h.2
      obtain ⟨jts, rfl, hok', _⟩ := ex_items h'.2
      have n1 : its ≠ [] := fun z => (exV_facts h.2).2.2 (by rw [z]; rfl)
      have n2 : jts ≠ [] := fun z => (exV_facts h'.2).2.2 (by rw [z]; rfl)
      have b1 : (Txt.split (tgText (.ex (its.map Im.toV))) " ").map itV = its.map Im.toV := show_back hok n1
      have b2 : (Txt.split (tgText (.ex (jts.map Im.toV))) " ").map itV = jts.map Im.toV := show_back hok' n2
      rw [e, b2] at b1
      rw [b1]
  | kk n =>
    cases g' with
    | re k' =>
      have := h.1
      have := h'.1
      omega
    | ex xs =>
      have := h.1
      have := h'.1
      omega
    | kk n' =>
      have e1 : ∀ n, n ≤ 40 → wholeL (cp (shV (.int ((n : Nat) : Int)))) = some ((n : Nat) : Int) := by decide +kernel
      have a := e1 n (by have := h.2; omega)
      have b := e1 n' (by have := h'.2; omega)
      rw [show shV (.int ((n : Nat) : Int)) = shV (.int ((n' : Nat) : Int)) from e, b] at a
      have := Option.some.inj a
      rw [show n = n' by omega]
theorem tgs_inj {m : Nat} (hm : m ≤ 40) : ∀ {cs : List Nat} {gs gs' : List Tg}, TgsOk m cs gs → TgsOk m cs gs' → gs.map tgText = gs'.map tgText → gs = gs'
  | [], [], [], _, _, _ => rfl
  | c :: cs, g :: gs, g' :: gs', ⟨h, t⟩, ⟨h', t'⟩, e => by
    rw [List.map_cons, List.map_cons] at e
    injection e with e1 e2
    rw [tg_inj h h' hm e1, tgs_inj hm t t' e2]
  | [], _ :: _, _, z, _, _ => z.elim
  | [], [], _ :: _, _, z, _ => z.elim
  | _ :: _, [], _, z, _, _ => z.elim
  | _ :: _, _ :: _, [], _, z, _ => z.elim
theorem rw_inj {r r' : Rw} (h : r.ok 40) (h' : r'.ok 40) (e : rwText r = rwText r') : r = r' := by
  have p1 := part_row h
  have p2 := part_row h'
  rw [e, p2] at p1
  have e1 : r'.word = r.word := (Prod.mk.inj p1).1
  have e2 : Txt.join ", " (r'.tgs.map tgText) = Txt.join ", " (r.tgs.map tgText) := (Prod.mk.inj (Prod.mk.inj p1).2).2
  have s1 := split_row h (by decide)
  have s2 := split_row h' (by decide)
  rw [e2, s1] at s2
  have h3 : TgsOk 40 (cp (shp r.word)) r'.tgs := by
    rw [← e1]
    exact h'.2
  have e3 := tgs_inj (by decide) h.2 h3 s2
  cases r
  cases r'
  simp only at e1 e3
  rw [e1, e3]
theorem cut_head {h : Str} : ∀ {A B R S : List Str}, (∀ w ∈ A, w ≠ h) → (∀ w ∈ B, w ≠ h) → (R = [] ∨ R.head? = some h) → (S = [] ∨ S.head? = some h) → A ++ R = B ++ S → A = B ∧ R = S
  | [], [], _, _, _, _, _, _, e => ⟨rfl, e⟩
  | a :: A, b :: B, R, S, hA, hB, hR, hS, e => by
    rw [List.cons_append, List.cons_append] at e
    injection e with e1 e2
    obtain ⟨h1, h2⟩ := cut_head (fun w hw => hA w (List.mem_cons_of_mem _ hw)) (fun w hw => hB w (List.mem_cons_of_mem _ hw)) hR hS e2
    exact ⟨by rw [e1, h1], h2⟩
  | [], b :: B, R, S, _, hB, hR, _, e => by
    have e2 : R = b :: (B ++ S) := e
    rcases hR with z | z
    · rw [z] at e2
      cases e2
    · rw [e2] at z
      exact absurd (Option.some.inj z) (hB b List.mem_cons_self)
  | a :: A, [], R, S, hA, _, _, hS, e => by
    have e2 : a :: (A ++ R) = S := e
    rcases hS with z | z
    · rw [z] at e2
      cases e2
    · rw [← e2] at z
      exact absurd (Option.some.inj z) (hA a List.mem_cons_self)
theorem map_inj : ∀ {a b : List Rw}, (∀ r ∈ a, r.ok 40) → (∀ r ∈ b, r.ok 40) → a.map rwText = b.map rwText → a = b
  | [], [], _, _, _ => rfl
  | x :: a, y :: b, ha, hb, e => by
    rw [List.map_cons, List.map_cons] at e
    injection e with e1 e2
    rw [rw_inj (ha x List.mem_cons_self) (hb y List.mem_cons_self) e1, map_inj (fun r hr => ha r (List.mem_cons_of_mem _ hr)) (fun r hr => hb r (List.mem_cons_of_mem _ hr)) e2]
  | [], _ :: _, _, _, e => by cases e
  | _ :: _, [], _, _, e => by cases e
theorem ok40 {rs : List Rw} (h : ThOk rs) : ∀ r ∈ rs, r.ok 40 := fun r hr => Rw.ok_mono h.1 (h.2 r hr)
theorem lines_inj : ∀ {ps qs : List (List Rw)}, (∀ t ∈ ps, ThOk t) → (∀ t ∈ qs, ThOk t) → prLines ps = prLines qs → ps = qs
  | [], [], _, _, _ => rfl
  | a :: ps, b :: qs, ha, hb, e => by
    have e2 : ("thread" : Str) :: (a.map rwText ++ prLines ps) = ("thread" : Str) :: (b.map rwText ++ prLines qs) := e
    injection e2 with _ e3
    have nh : ∀ l : List Rw, ∀ w ∈ l.map rwText, w ≠ ("thread" : Str) := fun l w hw => by
      obtain ⟨r, _, rfl⟩ := List.mem_map.mp hw
      exact rw_head
    obtain ⟨h1, h2⟩ := cut_head (nh a) (nh b) (prLines_head ps) (prLines_head qs) e3
    rw [map_inj (ok40 (ha a List.mem_cons_self)) (ok40 (hb b List.mem_cons_self)) h1, lines_inj (fun t ht => ha t (List.mem_cons_of_mem _ ht)) (fun t ht => hb t (List.mem_cons_of_mem _ ht)) h2]
  | [], b :: qs, _, _, e => (nomatch (show ([] : List Str) = ("thread" : Str) :: (b.map rwText ++ prLines qs) from e))
  | a :: ps, [], _, _, e => (nomatch (show ("thread" : Str) :: (a.map rwText ++ prLines ps) = ([] : List Str) from e))
theorem text_inj {ps qs : List (List Rw)} (h : PrOk ps) (h' : PrOk qs) (e : prText ps = prText qs) : ps = qs := by
  have a := split_prog h
  rw [e, split_prog h'] at a
  exact lines_inj h.2.2 h'.2.2 a.symm
def rwD (r : Rw) : PyData := .tuple (.str r.word :: r.tgs.map tgD)
def thD (rs : List Rw) : PyData := .tuple (rs.map rwD)
def prD8 (ps : List (List Rw)) : PyData := .tuple (ps.map thD)
theorem eqvAll_map {α : Type} {f : α → PyData} : ∀ {xs ys : List α}, (∀ x ∈ xs, ∀ y ∈ ys, PyData.eqv (f x) (f y) = true → x = y) → PyData.eqvAll (xs.map f) (ys.map f) = true → xs = ys
  | [], [], _, _ => rfl
  | x :: xs, y :: ys, h, e => by
    have e2 : (PyData.eqv (f x) (f y) && PyData.eqvAll (xs.map f) (ys.map f)) = true := by
      rw [List.map_cons, List.map_cons] at e
      simpa only [PyData.eqvAll] using e
    rw [Bool.and_eq_true] at e2
    rw [h x List.mem_cons_self y List.mem_cons_self e2.1, eqvAll_map (fun a ha b hb => h a (List.mem_cons_of_mem _ ha) b (List.mem_cons_of_mem _ hb)) e2.2]
  | [], _ :: _, _, e => by simp [PyData.eqvAll] at e
  | _ :: _, [], _, e => by simp [PyData.eqvAll] at e
theorem eqvAll_refl {ds : List PyData} : (∀ d ∈ ds, PyData.eqv d d = true) → PyData.eqvAll ds ds = true := by
  induction ds with
  | nil =>
    intro _
    simp [PyData.eqvAll]
  | cons a r ih =>
    intro h
    have h1 := h a List.mem_cons_self
    have h2 := ih fun d hd => h d (List.mem_cons_of_mem _ hd)
    simp [PyData.eqvAll, h1, h2]
theorem im_eqv {i j : Im} (hi : i.ok) (hj : j.ok) (e : PyData.eqv i.toD j.toD = true) : i = j := by
  have nl : ∀ k, k < 16 → ∀ i, i < 9 → lt k ≠ nm i := by decide +kernel
  have nn : ∀ i, i < 9 → ∀ j, j < 9 → nm i = nm j → i = j := by decide +kernel
  cases i with
  | wo a =>
    cases j with
    | wo b => simpa [Im.toD, PyData.eqv] using e
    | re k => simp [Im.toD, PyData.eqv] at e
    | si k => simp [Im.toD, PyData.eqv] at e
  | re k =>
    cases j with
    | wo b => simp [Im.toD, PyData.eqv] at e
    | re k' =>
      have : lt k = lt k' := by simpa [Im.toD, PyData.eqv] using e
      rw [lt_inj this]
    | si i' =>
      have : lt k = nm i' := by simpa [Im.toD, PyData.eqv] using e
      exact absurd this (nl k hi i' hj)
  | si i' =>
    cases j with
    | wo b => simp [Im.toD, PyData.eqv] at e
    | re k =>
      have : nm i' = lt k := by simpa [Im.toD, PyData.eqv] using e
      exact absurd this.symm (nl k hj i' hi)
    | si j' =>
      have : nm i' = nm j' := by simpa [Im.toD, PyData.eqv] using e
      rw [nn i' hi j' hj this]
theorem im_refl (i : Im) : PyData.eqv i.toD i.toD = true := by
  cases i <;> simp [Im.toD, PyData.eqv]
theorem tg_eqv {m m' c c' : Nat} {g g' : Tg} (h : TgOk m c g) (h' : TgOk m' c' g') (e : PyData.eqv (tgD g) (tgD g') = true) : g = g' := by
  cases g with
  | re k =>
    cases g' with
    | re k' =>
      have : lt k = lt k' := by simpa [tgD, PyData.eqv] using e
      rw [lt_inj this]
    | ex xs => simp [tgD, PyData.eqv] at e
    | kk n => simp [tgD, PyData.eqv] at e
  | ex xs =>
    cases g' with
    | re k' => simp [tgD, PyData.eqv] at e
    | kk n => simp [tgD, PyData.eqv] at e
    | ex ys =>
      obtain ⟨its, rfl, hok, _⟩ := ex_items h.2
      obtain ⟨jts, rfl, hok', _⟩ := ex_items h'.2
      have e2 : PyData.eqvAll (its.map Im.toD) (jts.map Im.toD) = true := by
        have e3 : PyData.eqvAll ((its.map Im.toV).map vD) ((jts.map Im.toV).map vD) = true := by simpa only [tgD, PyData.eqv] using e
        rw [vD_ims, vD_ims] at e3
        exact e3
      rw [eqvAll_map (fun i hi j hj => im_eqv (hok i hi) (hok' j hj)) e2]
  | kk n =>
    cases g' with
    | re k' => simp [tgD, PyData.eqv] at e
    | ex xs => simp [tgD, PyData.eqv] at e
    | kk n' =>
      have : ((n : Nat) : Int) = ((n' : Nat) : Int) := by simpa [tgD, PyData.eqv] using e
      rw [show n = n' by omega]
theorem tg_refl {m c : Nat} {g : Tg} (h : TgOk m c g) : PyData.eqv (tgD g) (tgD g) = true := by
  cases g with
  | re k => simp [tgD, PyData.eqv]
  | kk n => simp [tgD, PyData.eqv]
  | ex xs =>
    obtain ⟨its, rfl, hok, _⟩ := ex_items h.2
    show PyData.eqv (.tuple ((its.map Im.toV).map vD)) (.tuple ((its.map Im.toV).map vD)) = true
    rw [vD_ims]
    simp only [PyData.eqv]
    refine eqvAll_refl fun d hd => ?_
    obtain ⟨i, _, rfl⟩ := List.mem_map.mp hd
    exact im_refl i
theorem rw_eqv {r r' : Rw} {m m' : Nat} (h : r.ok m) (h' : r'.ok m') (e : PyData.eqv (rwD r) (rwD r') = true) : r = r' := by
  have e2 : PyData.eqvAll (.str r.word :: r.tgs.map tgD) (.str r'.word :: r'.tgs.map tgD) = true := by simpa only [rwD, PyData.eqv] using e
  have e3 : (PyData.eqv (.str r.word) (.str r'.word) && PyData.eqvAll (r.tgs.map tgD) (r'.tgs.map tgD)) = true := by simpa only [PyData.eqvAll] using e2
  rw [Bool.and_eq_true] at e3
  have e4 : r.word = r'.word := by simpa [PyData.eqv] using e3.1
  have e5 := eqvAll_map (fun x hx y hy => by
    obtain ⟨c, hc⟩ := h.2.mem hx
    obtain ⟨c', hc'⟩ := h'.2.mem hy
    exact tg_eqv hc hc') e3.2
  cases r
  cases r'
  simp only at e4 e5
  rw [e4, e5]
theorem rw_refl {r : Rw} {m : Nat} (h : r.ok m) : PyData.eqv (rwD r) (rwD r) = true := by
  simp only [rwD, PyData.eqv]
  refine eqvAll_refl fun d hd => ?_
  rcases List.mem_cons.mp hd with rfl | hd
  · simp [PyData.eqv]
  · obtain ⟨g, hg, rfl⟩ := List.mem_map.mp hd
    obtain ⟨c, hc⟩ := h.2.mem hg
    exact tg_refl hc
theorem pr_eqv {ps qs : List (List Rw)} (h : PrOk ps) (h' : PrOk qs) : PyData.eqv (prD8 ps) (prD8 qs) = decide (prText ps = prText qs) := by
  cases e : PyData.eqv (prD8 ps) (prD8 qs) with
  | true =>
    have e2 : PyData.eqvAll (ps.map thD) (qs.map thD) = true := by simpa only [prD8, PyData.eqv] using e
    have e3 := eqvAll_map (fun x hx y hy ex => by
      have e4 : PyData.eqvAll (x.map rwD) (y.map rwD) = true := by simpa only [thD, PyData.eqv] using ex
      exact eqvAll_map (fun a ha b hb => rw_eqv ((h.2.2 x hx).2 a ha) ((h'.2.2 y hy).2 b hb)) e4) e2
    rw [e3, decide_eq_true rfl]
  | false =>
    rw [decide_eq_false]
    intro z
    have z2 := text_inj h h' z
    rw [z2] at e
    have : PyData.eqv (prD8 qs) (prD8 qs) = true := by
      simp only [prD8, PyData.eqv]
      refine eqvAll_refl fun d hd => ?_
      obtain ⟨t, ht, rfl⟩ := List.mem_map.mp hd
      simp only [thD, PyData.eqv]
      refine eqvAll_refl fun d2 hd2 => ?_
      obtain ⟨r, hr, rfl⟩ := List.mem_map.mp hd2
      exact rw_refl ((h'.2.2 t ht).2 r hr)
    rw [this] at e
    cases e
/-! A drawn program is a program; as data; shown. -/
theorem tg_fit {H : Hp} {m c : Nat} {v : V} {g : Tg} (h : TgV H v g) (o : TgOk m c g) : fitB H m c v = true := by
  cases g with
  | re k =>
    have e : ∀ k, k < 16 → ltV (.str (lt k)) = true := by decide +kernel
    rw [show v = .str (lt k) from h]
    unfold fitB
    rw [if_pos o.1]
    exact e k o.2
  | ex xs =>
    obtain ⟨t, rfl, ht⟩ := h
    have := o.1
    unfold fitB
    rw [if_neg (by omega), if_pos o.1, exT_tup ht]
    exact o.2
  | kk n =>
    have h1 := o.1
    have h2 := o.2
    rw [show v = .int (n : Int) from h]
    unfold fitB
    rw [if_neg (by omega), if_neg (by omega)]
    exact decide_eq_true (by omega)
theorem tgs_fit {H : Hp} {m : Nat} : ∀ {cs : List Nat} {vs : List V} {gs : List Tg}, All2 (TgV H) vs gs → TgsOk m cs gs → (cs.zip vs).all (fun q => fitB H m q.1 q.2) = true
  | [], [], [], _, _ => rfl
  | c :: cs, v :: vs, g :: gs, ⟨h1, h2⟩, ⟨o1, o2⟩ => by
    rw [List.zip_cons_cons, List.all_cons, tg_fit h1 o1, tgs_fit h2 o2]
    rfl
  | [], _ :: _, _ :: _, _, z => z.elim
  | [], [], _ :: _, z, _ => z.elim
  | [], _ :: _, [], z, _ => z.elim
  | _ :: _, [], [], _, z => z.elim
  | _ :: _, [], _ :: _, z, _ => z.elim
  | _ :: _, _ :: _, [], z, _ => z.elim
theorem rw_good {H : Hp} {m : Nat} {v : V} {r : Rw} (h : RwV H v r) (o : r.ok m) : tupT (rowV H m) H v = true := by
  obtain ⟨t, vs, rfl, ht, hA⟩ := h
  rw [tupT_tup ht]
  have l1 := hA.len
  have l2 := o.2.len
  have e1 := (shp_some _ o.1).1
  have e2 : vs.length = (shp r.word).length := by rw [cp_len, l1, l2]
  show (!decide (shp r.word = "") && (decide (vs.length = (shp r.word).length) && _)) = true
  rw [decide_eq_false e1, decide_eq_true e2, tgs_fit hA o.2]
  rfl
theorem pr_good {H : Hp} {v : V} {ps : List (List Rw)} (h : PrV H v ps) (o : PrOk ps) : tupT (prgV H) H v = true := by
  obtain ⟨t, vs, rfl, ht, hA⟩ := h
  rw [tupT_tup ht]
  have l1 := hA.len
  unfold prgV
  have h1 := o.1
  have h2 := o.2.1
  rw [decide_eq_true (by omega), Bool.true_and, List.all_eq_true]
  intro x hx
  obtain ⟨rs, hrs, t2, us, rfl, ht2, hR⟩ := hA.mem hx
  have ho := o.2.2 rs hrs
  have l2 := hR.len
  rw [tupT_tup ht2]
  unfold thrV
  rw [decide_eq_true (by have := ho.1; omega), Bool.true_and, List.all_eq_true]
  intro y hy
  obtain ⟨r, hr, hrv⟩ := hR.mem hy
  rw [l2]
  exact rw_good hrv (ho.2 r hr)
theorem rw_dp {K : PySem.W.Frag} {H : Hp} {m : Nat} {v : V} {r : Rw} (h : RwV H v r) (o : r.ok m) : Dp K H v (rwD r) := by
  obtain ⟨t, vs, rfl, ht, hA⟩ := h
  exact .tup (SqT.of ht) (.cons (.str _) (tgs_dp hA o.2))
theorem dp_all2 {α : Type} {K : PySem.W.Frag} {H : Hp} {R : V → α → Prop} {d : α → PyData} : ∀ {vs : List V} {xs : List α}, (∀ v x, x ∈ xs → R v x → Dp K H v (d x)) → All2 R vs xs → DpAll K H vs (xs.map d)
  | [], [], _, _ => .nil
  | _ :: _, x :: xs, hd, ⟨a, b⟩ => .cons (hd _ _ List.mem_cons_self a) (dp_all2 (fun v y hy => hd v y (List.mem_cons_of_mem _ hy)) b)
  | [], _ :: _, _, z => z.elim
  | _ :: _, [], _, z => z.elim
theorem pr_dp {K : PySem.W.Frag} {H : Hp} {v : V} {ps : List (List Rw)} (h : PrV H v ps) (o : PrOk ps) : Dp K H v (prD8 ps) := by
  obtain ⟨t, vs, rfl, ht, hA⟩ := h
  refine .tup (SqT.of ht) (dp_all2 (fun v rs hrs hv => ?_) hA)
  obtain ⟨t2, us, rfl, ht2, hR⟩ := hv
  exact .tup (SqT.of ht2) (dp_all2 (fun w r hr hw => rw_dp hw ((o.2.2 rs hrs).2 r hr)) hR)
theorem tup_lay {ds : List PyData} {k : Nat} (h : ∀ d ∈ ds, d.canLay0 = true ∧ d.depth ≤ k) : (PyData.tuple ds).canLay0 = true ∧ (PyData.tuple ds).depth ≤ k + 1 := by
  obtain ⟨h1, h2⟩ := lay_all h
  exact ⟨by simp [PyData.canLay0, h1], by show PyData.depthAll ds + 1 ≤ k + 1; omega⟩
theorem wd_sok : ∀ z ∈ wds, PyData.strOk z = true := by decide +kernel
theorem pr_lay {ps : List (List Rw)} (o : PrOk ps) : (prD8 ps).canLay0 = true ∧ (prD8 ps).depth ≤ 4 := by
  refine tup_lay (k := 3) fun d hd => ?_
  obtain ⟨rs, hrs, rfl⟩ := List.mem_map.mp hd
  refine tup_lay (k := 2) fun d2 hd2 => ?_
  obtain ⟨r, hr, rfl⟩ := List.mem_map.mp hd2
  have ho := (o.2.2 rs hrs).2 r hr
  refine tup_lay (k := 1) fun d3 hd3 => ?_
  rcases List.mem_cons.mp hd3 with rfl | hd3
  · exact ⟨by simp [PyData.canLay0, wd_sok _ ho.1], Nat.zero_le _⟩
  · obtain ⟨g, hg, rfl⟩ := List.mem_map.mp hd3
    obtain ⟨c, hc⟩ := ho.2.mem hg
    exact tg_lay hc
theorem wd_shw : ∀ z ∈ wds, (reprText z).length ≤ 20 := by decide +kernel
theorem pr_shw {ps : List (List Rw)} (o : PrOk ps) : ShowOk (prD8 ps) := by
  have tgs : ∀ {m c : Nat} {g : Tg}, TgOk m c g → m ≤ 1000 → Shw (tgD g) 400 1 := by
    intro m c g h hm
    cases g with
    | re k => exact (im_shw (m := .re k) h.2).mono (by decide) (by decide)
    | kk n =>
      have hw : W ((n : Nat) : Int) := by
        have := h.2
        have h2 : -32768 ≤ ((n : Nat) : Int) ∧ ((n : Nat) : Int) ≤ 32767 := by omega
        exact h2
      exact (im_shw (m := .wo (n : Int)) hw).mono (by decide) (by decide)
    | ex xs => exact ex_shw h.2
  have rows : ∀ {m : Nat} {r : Rw}, r.ok m → m ≤ 1000 → Shw (rwD r) 2000 2 := by
    intro m r h hm
    have hl := (tgs_len h hm).2
    refine (shw_tup (n := 400) (k := 1) (fun d hd => ?_)).mono ?_ (by decide)
    · rcases List.mem_cons.mp hd with rfl | hd
      · exact ⟨Nat.le_trans (wd_shw _ h.1) (by decide), rfl, rfl, Nat.zero_le _⟩
      · obtain ⟨g, hg, rfl⟩ := List.mem_map.mp hd
        obtain ⟨c, hc⟩ := h.2.mem hg
        exact tgs hc hm
    · rw [List.length_cons, List.length_map]
      omega
  have ths : ∀ {rs : List Rw}, ThOk rs → Shw (thD rs) 81000 3 := by
    intro rs h
    have hl := h.1
    refine (shw_tup (n := 2000) (k := 2) (fun d hd => ?_)).mono ?_ (by decide)
    · obtain ⟨r, hr, rfl⟩ := List.mem_map.mp hd
      exact rows (h.2 r hr) (by omega)
    · rw [List.length_map]
      omega
  have hl := o.2.1
  refine (shw_tup (n := 81000) (k := 3) (fun d hd => ?_)).ok ?_ (by decide)
  · obtain ⟨t, ht, rfl⟩ := List.mem_map.mp hd
    exact ths (o.2.2 t ht)
  · rw [List.length_map]
    omega
theorem txt_show {z : Str} (h : ∀ c ∈ cp z, c < 200) (hl : z.length ≤ 130000) : ShowOk (.str z) := by
  refine ⟨rfl, rfl, Nat.zero_le _, ?_⟩
  have := PySem.StrLaws.reprText_len z (fun c hc => Nat.lt_of_lt_of_le (h c hc) (by decide))
  show (reprText z).length ≤ sizeLine
  exact Nat.le_trans (show _ ≤ 3000000 by omega) (by decide)
theorem pr_txt {ps : List (List Rw)} (o : PrOk ps) : ShowOk (.str (prText ps)) := by
  obtain ⟨pl1, pl2⟩ := pr_len o
  refine txt_show (fun c hc => ?_) ?_
  · rcases join_mem (show c ∈ cp (Txt.join "\n" (prLines ps)) from hc) with h | ⟨w, hw, hc2⟩
    · rw [cp_line, List.mem_singleton] at h
      omega
    · exact (line_codes o w hw c hc2).2
  · have := join_bd "\n" 700 pl1
    rw [show (("\n" : Str)).length = 1 by decide +kernel] at this
    have h2 : (700 + 1) * (prLines ps).length ≤ 701 * 164 := Nat.mul_le_mul_left _ pl2
    exact Nat.le_trans (Nat.le_trans this h2) (by decide)
theorem rw_txt {r : Rw} {m : Nat} (o : r.ok m) (hm : m ≤ 1000) : ShowOk (.str (rwText r)) := txt_show (fun c hc => (rw_codes o hm c hc).2) (by have := rw_len o hm; omega)
/-! Numbers in words, as the law reads them. -/
def numR (l : List Nat) : Option Int := if l.head? = some 45 then (if l = [45, 48] then none else (wholeL (l.drop 1)).map (fun a => -a)) else wholeL l
theorem worth_num (l : List Nat) : worthL l = keepW (numR l) := by
  unfold worthL numR
  split
  · split
    · rfl
    · rfl
  · rfl
theorem back_num : ∀ (n : Nat) (l : List Nat), l.length = n → l ≠ [] → (∀ c ∈ l, 48 ≤ c ∧ c ≤ 57) → (l.head? = some 48 → l = [48]) → TL.numL (NumText.digitsVal l) = l
  | 0, l, hl, h, _, _ => absurd (List.length_eq_zero_iff.mp hl) h
  | n + 1, l, hl, h, hd, hz => by
    rcases List.eq_nil_or_concat l with e | ⟨r, c, e⟩
    · exact absurd e h
    have e' : l = r ++ [c] := by simpa using e
    subst e'
    have hc := hd c (List.mem_append_right _ List.mem_cons_self)
    have ev : NumText.digitsVal (r ++ [c]) = NumText.digitsVal r * 10 + (c - 48) := PySem.NumText.digitsVal_snoc r c
    rw [List.length_append, List.length_singleton] at hl
    rw [ev]
    cases r with
    | nil =>
      have e0 : NumText.digitsVal [] = 0 := rfl
      rw [e0, TL.numL_lt (by omega)]
      show [48 + (0 * 10 + (c - 48))] = [c]
      rw [show 48 + (0 * 10 + (c - 48)) = c by omega]
    | cons d r =>
      have hh : d ≠ 48 := fun z => by
        have := hz (by rw [z]; rfl)
        have h2 : (d :: r ++ [c]).length = 1 := by rw [this]; rfl
        rw [List.length_append, List.length_cons, List.length_singleton] at h2
        omega
      have hd1 := hd d (List.mem_append_left _ List.mem_cons_self)
      have hpos : 0 < NumText.digitsVal (d :: r) := PySem.NumText.digitsVal_pos (by omega)
      rw [TL.numL_step (by omega)]
      rw [show (NumText.digitsVal (d :: r) * 10 + (c - 48)) / 10 = NumText.digitsVal (d :: r) by omega, show (NumText.digitsVal (d :: r) * 10 + (c - 48)) % 10 = c - 48 by omega]
      rw [back_num n (d :: r) (by omega) (by simp) (fun x hx => hd x (List.mem_append_left _ hx)) (fun z => absurd (Option.some.inj z) hh), show 48 + (c - 48) = c by omega]
theorem dig_all {l : List Nat} (h : digL l = true) : l ≠ [] ∧ (∀ c ∈ l, 48 ≤ c ∧ c ≤ 57) ∧ l.length ≤ 9 := by
  unfold digL at h
  rw [Bool.and_eq_true, Bool.and_eq_true] at h
  obtain ⟨⟨h1, h2⟩, h3⟩ := h
  refine ⟨(fun z => by rw [z] at h1; cases h1), fun c hc => ?_, of_decide_eq_true h3⟩
  have := List.all_eq_true.mp h2 c hc
  rw [Bool.and_eq_true] at this
  exact ⟨of_decide_eq_true this.1, of_decide_eq_true this.2⟩
/-- a number of figures is written so just where there is no nought ahead -/
theorem num_same {l : List Nat} (h : digL l = true) : decide (TL.numL (NumText.digitsVal l) = l) = !decide (l.head? = some 48 ∧ l ≠ [48]) := by
  obtain ⟨h1, h2, h3⟩ := dig_all h
  by_cases hz : l.head? = some 48 ∧ l ≠ [48]
  · rw [decide_eq_true hz, decide_eq_false]
    · rfl
    · intro e
      have hl := numL_lead _ (by rw [e]; exact hz.1)
      rw [hl, TL.numL_lt (by decide)] at e
      exact hz.2 e.symm
  · rw [decide_eq_false hz, decide_eq_true]
    · rfl
    · refine back_num _ l rfl h1 h2 fun z => ?_
      exact Classical.byContradiction fun g => hz ⟨z, g⟩
def itL (z : Str) : V := if (okV (.str z)) = true then .str z else ov (numR (cp z))
theorem single_none : ∀ c ∈ letters.cps.toList ++ codes, numR [c] = none := by decide +kernel
theorem ok_one {z : Str} (h : okV (.str z) = true) : numR (cp z) = none := by
  have h2 : (ltV (.str z) || sgV (.str z)) = true := h
  by_cases g : z.length = 1
  · obtain ⟨c, rfl⟩ := one_code g
    refine single_none c ?_
    rw [← all_mem] at h2
    have e : ("abcdefghijklmnop+-*/#<=&^" : Str).cps.toList = letters.cps.toList ++ codes := by decide +kernel
    rw [e] at h2
    exact of_decide_eq_true h2
  · rw [lt_len g, sg_len g] at h2
    cases h2
theorem it_same (z : Str) : okV (itL z) = okV (itV z) ∧ (okV (itV z) = true → itL z = itV z) := by
  unfold itL itV
  rw [worth_num]
  by_cases h : okV (.str z) = true
  · rw [if_pos h, ok_one h]
    exact ⟨rfl, fun _ => rfl⟩
  · have hf : okV (.str z) = false := by simpa using h
    rw [if_neg h]
    cases e : numR (cp z) with
    | none => exact ⟨hf.symm, fun g => absurd g h⟩
    | some a =>
      show okV (.int a) = okV (match (if -32768 ≤ a ∧ a ≤ 32767 then some a else none) with | some a => V.int a | none => V.str z) ∧ (okV (match (if -32768 ≤ a ∧ a ≤ 32767 then some a else none) with | some a => V.int a | none => V.str z) = true → V.int a = match (if -32768 ≤ a ∧ a ≤ 32767 then some a else none) with | some a => V.int a | none => V.str z)
      by_cases g : -32768 ≤ a ∧ a ≤ 32767
      · rw [if_pos g]
        exact ⟨rfl, fun _ => rfl⟩
      · rw [if_neg g]
        refine ⟨?_, fun k => absurd k h⟩
        show okV (.int a) = okV (.str z)
        rw [hf]
        show (decide (-32768 ≤ a ∧ a ≤ 32767) || _ || _) = false
        rw [decide_eq_false g]
        rfl
theorem its_same : ∀ ws : List Str, (ws.map itL).all okV = (ws.map itV).all okV ∧ ((ws.map itV).all okV = true → ws.map itL = ws.map itV)
  | [] => ⟨rfl, fun _ => rfl⟩
  | z :: r => by
    obtain ⟨h1, h2⟩ := it_same z
    obtain ⟨h3, h4⟩ := its_same r
    refine ⟨?_, fun h => ?_⟩
    · rw [List.map_cons, List.map_cons, List.all_cons, List.all_cons, h1, h3]
    · rw [List.map_cons, List.all_cons, Bool.and_eq_true] at h
      rw [List.map_cons, List.map_cons, h2 h.1, h4 h.2]
theorem exV_same (ws : List Str) : exV (ws.map itL) = exV (ws.map itV) ∧ (exV (ws.map itV) = true → ws.map itL = ws.map itV) := by
  obtain ⟨h1, h2⟩ := its_same ws
  cases e : (ws.map itV).all okV with
  | true =>
    have := h2 e
    rw [this]
    exact ⟨rfl, fun _ => rfl⟩
  | false =>
    have key : ∀ xs : List V, xs.all okV = false → exV xs = false := fun xs h => by
      unfold exV
      rw [show xs.all (fun x => woV x || ltV x || sgV x) = false from h, Bool.and_false]
      rfl
    rw [key _ e, key _ (by rw [h1, e])]
    exact ⟨rfl, fun g => by cases g⟩
/-! Rows and programs read from any text: what is read, and where it is refused. -/
abbrev BIG : Nat := 1000000000
def tgOf (c : Nat) (z : Str) : Option Tg :=
  if c = 114 then (if ltV (.str z) = true then some (.re ((cp z).headD 0 - 97)) else none)
  else if c = 101 then (if exV ((Txt.split z " ").map itV) = true then some (.ex ((Txt.split z " ").map itV)) else none)
  else (wholeL (cp z)).map fun a => .kk a.toNat
def tgsOf (cs : List Nat) (zs : List Str) : List (Option Tg) := List.zipWith tgOf cs zs
def rowOf (z : Str) : Option Rw :=
  if (Txt.split (Txt.partition z " ").2.2 ", ").length ≠ (cp (shp (Txt.partition z " ").1)).length then none
  else if (tgsOf (cp (shp (Txt.partition z " ").1)) (Txt.split (Txt.partition z " ").2.2 ", ")).any (·.isNone) = true then none
  else some ⟨(Txt.partition z " ").1, (tgsOf (cp (shp (Txt.partition z " ").1)) (Txt.split (Txt.partition z " ").2.2 ", ")).filterMap id⟩
def goesB (m : Nat) (r : Rw) : Bool := match r.tgs.getLast? with
  | some (.kk n) => decide (n ≤ m)
  | _ => true
/-- how many rows stand ahead of the next head -/
def rbeh : List Str → Nat
  | [] => 0
  | w :: r => if w = "thread" then 0 else rbeh r + 1
def addLast : List (List Rw) → Rw → List (List Rw)
  | [], _ => []
  | [b], r => [b ++ [r]]
  | b :: c :: d, r => b :: addLast (c :: d) r
def readL : Nat → Nat → List (List Rw) → List Str → Nat ⊕ List (List Rw)
  | _, _, thr, [] => .inr thr
  | nth, many, thr, w :: r =>
    if w = "thread" then (if thr.length = 4 then .inl nth else readL (nth + 1) (rbeh r) (thr ++ [[]]) r)
    else match rowOf w with
      | none => .inl nth
      | some row => if thr = [] ∨ (thr.getLastD []).length = 40 ∨ goesB many row = false then .inl nth else readL (nth + 1) many (addLast thr row) r
def readP (z : Str) : Nat ⊕ List (List Rw) := readL 0 0 [] (Txt.split z "\n")
theorem addLast_snoc (d : List (List Rw)) (b : List Rw) (r : Rw) : addLast (d ++ [b]) r = d ++ [b ++ [r]] := by
  induction d with
  | nil => rfl
  | cons a d ih =>
    cases d with
    | nil => rfl
    | cons c e =>
      show a :: addLast (c :: e ++ [b]) r = _
      rw [show c :: e ++ [b] = (c :: e) ++ [b] from rfl, ih]
      rfl
theorem last_snoc (d : List (List Rw)) (b : List Rw) : (d ++ [b]).getLastD [] = b := by
  rw [List.getLastD_eq_getLast?, List.getLast?_append]
  rfl
theorem whole_nn {l : List Nat} {a : Int} (h : wholeL l = some a) : 0 ≤ a ∧ a < 1000000000 := by
  unfold wholeL at h
  split at h
  · rename_i hd
    split at h
    · cases h
    · have e := Option.some.inj h
      obtain ⟨_, h2, h3⟩ : l ≠ [] ∧ (∀ c ∈ l, 48 ≤ c ∧ c ≤ 57) ∧ l.length ≤ 9 := by
        unfold digL at hd
        rw [Bool.and_eq_true, Bool.and_eq_true] at hd
        obtain ⟨⟨h1, h2⟩, h3⟩ := hd
        refine ⟨(fun z => by rw [z] at h1; cases h1), fun c hc => ?_, of_decide_eq_true h3⟩
        have := List.all_eq_true.mp h2 c hc
        rw [Bool.and_eq_true] at this
        exact ⟨of_decide_eq_true this.1, of_decide_eq_true this.2⟩
      have key : ∀ (n : Nat) (l : List Nat), l.length = n → (∀ c ∈ l, 48 ≤ c ∧ c ≤ 57) → NumText.digitsVal l < 10 ^ n := by
        intro n
        induction n with
        | zero =>
          intro l hl _
          rw [List.length_eq_zero_iff.mp hl]
          decide
        | succ n ih =>
          intro l hl hd
          rcases List.eq_nil_or_concat l with e | ⟨r, c, e⟩
          · rw [e] at hl
            cases hl
          · have e' : l = r ++ [c] := by simpa using e
            subst e'
            rw [List.length_append, List.length_singleton] at hl
            have := ih r (by omega) fun x hx => hd x (List.mem_append_left _ hx)
            have hc := hd c (List.mem_append_right _ List.mem_cons_self)
            rw [PySem.NumText.digitsVal_snoc r c, Nat.pow_succ]
            omega
      have k := key l.length l rfl h2
      have k2 : 10 ^ l.length ≤ 10 ^ 9 := Nat.pow_le_pow_right (by decide) h3
      have : (10 : Nat) ^ 9 = 1000000000 := by decide
      omega
  · cases h
theorem tgOf_ok {c : Nat} {z : Str} {g : Tg} (hc : c = 114 ∨ c = 101 ∨ c = 107) (h : tgOf c z = some g) : TgOk BIG c g := by
  unfold tgOf at h
  split at h
  · rename_i h1
    split at h
    · rename_i h2
      obtain rfl := Option.some.inj h
      refine ⟨h1, ?_⟩
      have h3 : (decide (z.length = 1) && decide (∀ c ∈ cp z, 97 ≤ c ∧ c ≤ 112)) = true := h2
      rw [Bool.and_eq_true] at h3
      obtain ⟨d, rfl⟩ := one_code (of_decide_eq_true h3.1)
      have := (of_decide_eq_true h3.2) d List.mem_cons_self
      show d - 97 < 16
      omega
    · cases h
  · rename_i h1
    split at h
    · rename_i h2
      split at h
      · rename_i h3
        obtain rfl := Option.some.inj h
        exact ⟨h2, h3⟩
      · cases h
    · rename_i h2
      cases e : wholeL (cp z) with
      | none =>
        rw [e] at h
        cases h
      | some a =>
        rw [e] at h
        obtain rfl := Option.some.inj h
        have := whole_nn e
        refine ⟨by omega, ?_⟩
        show a.toNat ≤ 1000000000
        omega
theorem shp_kinds : ∀ z ∈ wds, ∀ c ∈ cp (shp z), c = 114 ∨ c = 101 ∨ c = 107 := by decide +kernel
theorem shp_kind {z : Str} {c : Nat} (h : c ∈ cp (shp z)) : c = 114 ∨ c = 101 ∨ c = 107 := by
  by_cases hz : z ∈ wds
  · exact shp_kinds z hz c h
  · rw [shp_no hz] at h
    exact absurd h (by rw [show cp ("" : Str) = [] by decide +kernel]; exact fun z => nomatch z)
theorem tgs_all : ∀ {cs : List Nat} {zs : List Str}, cs.length = zs.length → (∀ c ∈ cs, c = 114 ∨ c = 101 ∨ c = 107) → (tgsOf cs zs).any (·.isNone) = false → TgsOk BIG cs ((tgsOf cs zs).filterMap id) ∧ (tgsOf cs zs) = ((tgsOf cs zs).filterMap id).map some
  | [], [], _, _, _ => ⟨trivial, rfl⟩
  | c :: cs, z :: zs, hl, hk, hn => by
    rw [List.length_cons, List.length_cons] at hl
    have e : tgsOf (c :: cs) (z :: zs) = tgOf c z :: tgsOf cs zs := rfl
    rw [e, List.any_cons, Bool.or_eq_false_iff] at hn
    cases g : tgOf c z with
    | none =>
      rw [g] at hn
      exact absurd hn.1 (by decide)
    | some t =>
      obtain ⟨h1, h2⟩ := tgs_all (show cs.length = zs.length by omega) (fun x hx => hk x (List.mem_cons_of_mem _ hx)) hn.2
      rw [e, g]
      refine ⟨⟨tgOf_ok (hk c List.mem_cons_self) g, h1⟩, ?_⟩
      show some t :: tgsOf cs zs = some t :: ((tgsOf cs zs).filterMap id).map some
      rw [← h2]
  | [], _ :: _, h, _, _ => nomatch h
  | _ :: _, [], h, _, _ => nomatch h
theorem tgOf_empty {c : Nat} (hc : c = 114 ∨ c = 101 ∨ c = 107) : tgOf c "" = none := by
  rcases hc with rfl | rfl | rfl
  · decide +kernel
  · decide +kernel
  · decide +kernel
theorem part_two (z : Str) : (z = (Txt.partition z " ").1 ++ " " ++ (Txt.partition z " ").2.2) ∨ (Txt.partition z " ").2.2 = Str.empty := by
  have h := PySem.StrLaws.partition_sum z " "
  by_cases g : 32 ∈ TL.tl z
  · left
    have key : (Txt.partition z " ").2.1 = " " ∨ (Txt.partition z " ").2.1 = Str.empty ∧ (Txt.partition z " ").1 = z := by
      unfold Txt.partition
      cases Builtin.Str.occurrences z " " 0 z.length 1 with
      | nil => exact .inr ⟨rfl, rfl⟩
      | cons i r => exact .inl rfl
    rcases key with k | ⟨k1, k2⟩
    · rw [k] at h
      exact h.symm
    · exfalso
      obtain ⟨a, b, e, ha⟩ := List.append_of_mem g |>.elim fun a hb => hb.elim fun b e => (⟨a, b, e, trivial⟩ : ∃ a b, TL.tl z = a ++ 32 :: b ∧ True)
      have hmin : ∃ a b, TL.tl z = a ++ 32 :: b ∧ 32 ∉ a := by
        clear ha e a b h k1 k2
        generalize TL.tl z = l at g
        induction l with
        | nil => cases g
        | cons c r ih =>
          by_cases hc : c = 32
          · exact ⟨[], r, by rw [hc]; rfl, fun z => nomatch z⟩
          · obtain ⟨a, b, e, hn⟩ := ih (by
              rcases List.mem_cons.mp g with e | e
              · exact absurd e.symm hc
              · exact e)
            refine ⟨c :: a, b, by rw [e]; rfl, fun z => ?_⟩
            rcases List.mem_cons.mp z with e | e
            · exact hc e.symm
            · exact hn e
      obtain ⟨a, b, e, hn⟩ := hmin
      have e2 : z = (⟨a.toArray⟩ : Str) ++ " " ++ (⟨b.toArray⟩ : Str) := by
        refine TL.ext_tl ?_
        rw [TL.tl_append, TL.tl_append, e, show TL.tl (" " : Str) = [32] from cp_blank]
        show _ = a ++ [32] ++ b
        simp
      rw [e2, TL.partition_app (show TL.tl (" " : Str) = 32 :: [] from cp_blank) hn] at k1
      have := congrArg TL.tl k1
      rw [show TL.tl (" " : Str) = [32] from cp_blank] at this
      exact nomatch this
  · right
    rw [TL.partition_none (show TL.tl (" " : Str) = 32 :: [] from cp_blank) g]
/-- what is read of a row -/
theorem rowOf_facts {z : Str} {r : Rw} (h : rowOf z = some r) : r.ok BIG ∧ r.word = (Txt.partition z " ").1 ∧ (tgsOf (cp (shp r.word)) (Txt.split (Txt.partition z " ").2.2 ", ")) = r.tgs.map some ∧ (Txt.split (Txt.partition z " ").2.2 ", ").length = (cp (shp r.word)).length ∧ z = r.word ++ " " ++ (Txt.partition z " ").2.2 := by
  unfold rowOf at h
  split at h
  · cases h
  · rename_i h1
    split at h
    · cases h
    · rename_i h2
      obtain rfl := Option.some.inj h
      have h1 := Decidable.of_not_not h1
      have h2 := eq_false_of_ne_true h2
      obtain ⟨a, b⟩ := tgs_all h1.symm (fun c hc => shp_kind hc) h2
      have hne : (Txt.split (Txt.partition z " ").2.2 ", ") ≠ [] := by
        intro e
        have := TL.split_spl (Txt.partition z " ").2.2 ", " (by rw [show TL.tl (", " : Str) = [44, 32] from cp_comma]; simp) (TL.kind_ok (by decide +kernel))
        rw [e] at this
        have k : ∀ (S : List Nat) (l acc : List Nat) (k : Nat), TL.spl S k acc l ≠ [] := by
          intro S l
          induction l with
          | nil =>
            intro acc k
            rw [TL.spl_nil]
            exact fun z => nomatch z
          | cons c r ih =>
            intro acc k
            cases k with
            | succ k => exact ih acc k
            | zero =>
              cases g : TL.pre S (c :: r) with
              | true =>
                rw [TL.spl_hit g]
                exact fun z => nomatch z
              | false =>
                rw [TL.spl_miss g]
                exact ih _ 0
        exact k _ _ _ _ this.symm
      have hw : (Txt.partition z " ").1 ∈ wds := by
        refine Decidable.byContradiction fun hw => ?_
        rw [shp_no hw] at h1
        exact hne (List.eq_nil_of_length_eq_zero (by rw [h1]; decide +kernel))
      refine ⟨⟨hw, a⟩, rfl, b, h1, ?_⟩
      rcases part_two z with e | e
      · exact e
      · exfalso
        rw [e] at h1 h2
        have es : Txt.split (Str.empty) ", " = [("" : Str)] := by decide +kernel
        rw [es] at h1 h2
        have hl : ∃ c, cp (shp (Txt.partition z " ").1) = [c] := List.length_eq_one_iff.mp h1.symm
        obtain ⟨c, hc⟩ := hl
        rw [hc] at h2
        have hk := shp_kind (z := (Txt.partition z " ").1) (c := c) (by rw [hc]; exact List.mem_cons_self)
        have : tgsOf [c] [""] = [tgOf c ""] := rfl
        rw [this, tgOf_empty hk] at h2
        exact absurd h2 (by decide)
def sp_iNoText (K : PySem.W.Frag) : Sp := fun vs H Q _ => ∃ (a C : Addr) (v : V), vs = [.ref a, v] ∧ OexC K C ∧ PySem.W.findIn K (.ref C) "nth" = some none ∧ H a = some (exo a C none) ∧
  ∀ dx, H dx = none → dx ≠ a → Q .non (upd (upd H dx (exd dx [("nth", v)])) a (exo a C (some dx)))
theorem ok_iNoText (T : Txt K w mg f fd ob) : FnOk P w K mg base CX0 1 (f 3) (fd 3) ["self", "nth"] (sp_iNoText K) := by
  refine T.F_iNoText.ok sc_iNoText (fun vs H Q E h => ?_) (fun cdv A outer s H vs Q E hr h => ?_)
  · obtain ⟨a, C, v, rfl, _⟩ := h
    rfl
  · obtain ⟨a, C, v, rfl, hC, hn, ha, q⟩ := h
    refine ⟨_, (pss_one (ps_ost (pv 0) (pv 1))), ?_⟩
    exact ⟨_, rfl, _, rfl, a, C, rfl, hC, hn, .inl ⟨ha, fun dx h1 h2 => q dx h1 h2⟩⟩
def TgoV (H : Hp) (v : V) : Option Tg → Prop
  | none => v = .non
  | some g => TgV H v g
def RwoV (H : Hp) (v : V) : Option Rw → Prop
  | none => v = .non
  | some r => RwV H v r
def tgoD : Option Tg → PyData
  | none => .none
  | some g => tgD g
theorem TgoV.keep {H H' : Hp} (k : TKp H H') {v : V} : ∀ {o : Option Tg}, TgoV H v o → TgoV H' v o
  | none, h => h
  | some _, h => TgV.keep k h
theorem tgo_mem : ∀ {cs : List Nat} {zs : List Str} {o : Option Tg}, o ∈ tgsOf cs zs → ∃ c ∈ cs, ∃ z, o = tgOf c z
  | c :: cs, z :: zs, o, h => by
    have h2 : o ∈ tgOf c z :: tgsOf cs zs := h
    rcases List.mem_cons.mp h2 with e | h3
    · exact ⟨c, List.mem_cons_self, z, e⟩
    · obtain ⟨d, hd, y, e⟩ := tgo_mem h3
      exact ⟨d, List.mem_cons_of_mem _ hd, y, e⟩
  | [], _, _, h => nomatch h
  | _ :: _, [], _, h => nomatch h
def sp_thingG : Sp := fun vs H Q _ => ∃ (c : Nat) (z : Str), vs = [.str ⟨#[c]⟩, .str z] ∧ (c = 114 ∨ c = 101 ∨ c = 107) ∧ z.length ≤ 7900000 ∧ ∀ (H' : Hp) (v : V), Same H H' → TgoV H' v (tgOf c z) → Q v H'
def sp_rowG : Sp := fun vs H Q _ => ∃ z : Str, vs = [.str z] ∧ z.length ≤ 7900000 ∧ ∀ (H' : Hp) (v : V), Same H H' → RwoV H' v (rowOf z) → Q v H'
theorem ok_thingG (T : Txt K w mg f fd ob) : FnOk P w K mg base CX0 6 (f 23) (fd 23) ["kind", "text"] sp_thingG := by
  have G_isletter := ok_isletter (P := P) (base := base) T
  have G_expressionof := ok_expressionof (P := P) (base := base) T
  have G_wholeof := ok_wholeof (P := P) (base := base) T
  refine T.F_thingof.ok sc_thingof (fun vs H Q E h => ?_) (fun cdv A outer s H vs Q E hr h => ?_)
  · obtain ⟨c, z, rfl, _⟩ := h
    rfl
  · obtain ⟨c, z, rfl, hc, hz, q⟩ := h
    have hr_expressionof := hr
    have hr_isletter : Room 1 _ := hr.mono (by decide)
    have hr_wholeof : Room 1 _ := hr.mono (by decide)
    refine ⟨_, (pss_cons (ps_if (pt_cmpR op_eq (pv 0) pe_str (nomark _)) (pss_one (ps_ret (pe_ifExp (pt_val (pe_call G_isletter hr_isletter (by rfl) T.m_isletter T.F_isletter.kp T.b_isletter .nil pass0 (pa_cons (pv 1) pa_nil))) (pv 1) pe_non))) pss_nil)
      (pss_cons (ps_if (pt_cmpR op_eq (pv 0) pe_str (nomark _)) (pss_one (ps_ret (pe_call G_expressionof hr_expressionof (by rfl) T.m_expressionof T.F_expressionof.kp T.b_expressionof .nil pass0 (pa_cons (pv 1) pa_nil)))) pss_nil)
      (pss_one (ps_ret (pe_call G_wholeof hr_wholeof (by rfl) T.m_wholeof T.F_wholeof.kp T.b_wholeof .nil pass0 (pa_cons (pv 1) pa_nil)))))), ?_⟩
    refine ⟨_, rfl, rfl, _, rfl, ?_⟩
    rw [str_r, code_eq]
    by_cases h1 : c = 114
    · refine iteB1 (decide_eq_true h1) ⟨_, rfl, _, rfl, Nat.le_trans hz (by decide), _, rfl, ?_⟩
      show if ltV (.str z) = true then _ else _
      cases e : ltV (.str z) with
      | true =>
        refine iteT ⟨_, rfl, q H _ (Same.refl H) ?_⟩
        unfold tgOf
        rw [if_pos h1, if_pos e]
        have h3 : (decide (z.length = 1) && decide (∀ c ∈ cp z, 97 ≤ c ∧ c ≤ 112)) = true := e
        rw [Bool.and_eq_true] at h3
        obtain ⟨d, rfl⟩ := one_code (of_decide_eq_true h3.1)
        have := (of_decide_eq_true h3.2) d List.mem_cons_self
        show V.str ⟨#[d]⟩ = V.str ⟨#[97 + (d - 97)]⟩
        rw [show 97 + (d - 97) = d by omega]
      | false =>
        refine iteF (q H _ (Same.refl H) ?_)
        unfold tgOf
        rw [if_pos h1, if_neg (by rw [e]; exact Bool.false_ne_true)]
        rfl
    · refine iteB0 (decide_eq_false h1) ⟨_, rfl, rfl, _, rfl, ?_⟩
      rw [str_e, code_eq]
      by_cases h2 : c = 101
      · refine iteB1 (decide_eq_true h2) ⟨_, rfl, _, rfl, hz, fun H' t e s' _ ht => q H' _ s' ?_, fun H' e s' => q H' _ s' ?_⟩
        · unfold tgOf
          rw [if_neg h1, if_pos h2, if_pos e]
          exact ⟨t, rfl, ht⟩
        · unfold tgOf
          rw [if_neg h1, if_pos h2, if_neg (by rw [e]; exact Bool.false_ne_true)]
          rfl
      · refine iteB0 (decide_eq_false h2) ⟨_, rfl, _, rfl, Nat.le_trans hz (by decide), q H _ (Same.refl H) ?_⟩
        unfold tgOf
        rw [if_neg h1, if_neg h2]
        cases e : wholeL (cp z) with
        | none => rfl
        | some a =>
          have := whole_nn e
          show V.int a = V.int ((a.toNat : Nat) : Int)
          rw [Int.toNat_of_nonneg this.1]
theorem hu65_of {k : Nat} {A : Around} (hr : Room k A) : A.units + 65 < cLine := by
  have := hr.un
  omega
theorem spl_len {S : List Nat} : ∀ (l acc : List Nat) (k : Nat), (TL.spl S k acc l).length ≤ l.length + 1 ∧ ∀ w ∈ TL.spl S k acc l, w.length ≤ acc.length + l.length := by
  intro l
  induction l with
  | nil =>
    intro acc k
    rw [TL.spl_nil]
    refine ⟨Nat.le_refl _, fun w hw => ?_⟩
    rw [List.mem_singleton] at hw
    rw [hw]
    exact Nat.le_refl _
  | cons c r ih =>
    intro acc k
    cases k with
    | succ k =>
      obtain ⟨h1, h2⟩ := ih acc k
      rw [List.length_cons]
      exact ⟨Nat.le_succ_of_le h1, fun w hw => by have := h2 w hw; omega⟩
    | zero =>
      cases hc : TL.pre S (c :: r) with
      | true =>
        rw [TL.spl_hit hc]
        obtain ⟨h1, h2⟩ := ih [] (S.length - 1)
        refine ⟨by rw [List.length_cons, List.length_cons]; exact Nat.succ_le_succ h1, fun w hw => ?_⟩
        rcases List.mem_cons.mp hw with rfl | hw
        · omega
        · have := h2 w hw
          rw [List.length_nil] at this
          rw [List.length_cons]
          omega
      | false =>
        rw [TL.spl_miss hc]
        obtain ⟨h1, h2⟩ := ih (acc ++ [c]) 0
        refine ⟨by rw [List.length_cons]; omega, fun w hw => ?_⟩
        have := h2 w hw
        rw [List.length_append, List.length_singleton] at this
        rw [List.length_cons]
        omega
theorem split_lens (z y : Str) (hy : TL.tl y ≠ []) (hk : y.cps.all (· < 256) = true) : (Txt.split z y).length ≤ z.length + 1 ∧ ∀ w ∈ Txt.split z y, w.length ≤ z.length := by
  have h := TL.split_spl z y hy (TL.kind_ok hk)
  obtain ⟨h1, h2⟩ := spl_len (S := TL.tl y) (TL.tl z) [] 0
  rw [← h, List.length_map, ← TL.len_tl] at h1
  refine ⟨h1, fun w hw => ?_⟩
  have := h2 (TL.tl w) (by rw [← h]; exact List.mem_map_of_mem hw)
  rw [List.length_nil, Nat.zero_add, ← TL.len_tl, ← TL.len_tl] at this
  exact this
theorem tgo_lay {cs : List Nat} {zs : List Str} (hk : ∀ c ∈ cs, c = 114 ∨ c = 101 ∨ c = 107) : ∀ o ∈ tgsOf cs zs, (tgoD o).canLay0 = true ∧ (tgoD o).depth ≤ 1 := by
  intro o ho
  obtain ⟨c, hc, z, e⟩ := tgo_mem ho
  cases o with
  | none => exact ⟨rfl, Nat.zero_le _⟩
  | some g => exact tg_lay (tgOf_ok (hk c hc) e.symm)
theorem tgo_dps {K : PySem.W.Frag} {H : Hp} : ∀ {vs : List V} {os : List (Option Tg)}, (∀ o ∈ os, ∀ g, o = some g → ∃ c, TgOk BIG c g) → All2 (TgoV H) vs os → DpAll K H vs (os.map tgoD)
  | [], [], _, _ => .nil
  | v :: vs, o :: os, ho, ⟨a, b⟩ => by
    refine .cons ?_ (tgo_dps (fun x hx => ho x (List.mem_cons_of_mem _ hx)) b)
    cases o with
    | none =>
      rw [show v = .non from a]
      exact .non
    | some g =>
      obtain ⟨c, hc⟩ := ho (some g) List.mem_cons_self g rfl
      exact tg_dp a hc
  | [], _ :: _, _, z => z.elim
  | _ :: _, [], _, z => z.elim
theorem tgo_some {H : Hp} : ∀ {vs : List V} {gs : List Tg}, All2 (TgoV H) vs (gs.map some) → All2 (TgV H) vs gs
  | [], [], _ => trivial
  | _ :: _, _ :: _, ⟨a, b⟩ => ⟨a, tgo_some b⟩
  | [], _ :: _, z => z.elim
  | _ :: _, [], z => z.elim
theorem ok_rowG (T : Txt K w mg f fd ob) : FnOk P w K mg base CX0 7 (f 24) (fd 24) ["text"] sp_rowG := by
  obtain ⟨es, nn, D_SHAPES⟩ := T.d_SHAPES
  have G_thingof := ok_thingG (P := P) (base := base) T
  refine T.F_rowof.ok sc_rowof (fun vs H Q E h => ?_) (fun cdv A outer s H vs Q E hr h => ?_)
  · obtain ⟨z, rfl, _⟩ := h
    rfl
  · obtain ⟨z, rfl, hz, q⟩ := h
    have hr_thingof := hr
    have hu65 := hu65_of hr
    refine ⟨_, (C8.pss_cut (ps_asg (pe_partition (pv 0) pe_str) (pg_tup (by rfl) (pgs_cons (pg_name (i := 1) sc_rowof.nd rfl (Or.inl rfl)) (pgs_cons (pg_name (i := 2) sc_rowof.nd rfl (Or.inl rfl)) (pgs_cons (pg_name (i := 3) sc_rowof.nd rfl (Or.inl rfl)) pgs_nil)))))
      (C8.pss_cut (ps_set (i := 4) sc_rowof.nd rfl (Or.inl rfl) (pe_kget D_SHAPES (pe_glob (v := .ref (ob 1)) (by rfl) T.m_SHAPES rfl) (pv 1) pe_str ⟨rfl, rfl, rfl, rfl⟩))
      (C8.pss_cut (ps_set (i := 5) sc_rowof.nd rfl (Or.inl rfl) (pe_split (pv 3) pe_str))
      (C8.pss_cut (ps_if (pt_cmpR op_ne (pe_callB call_len_seq (by rfl) T.z_len PySem.boot_len (pa_cons (pv 5) pa_nil)) (pe_callB call_len_str (by rfl) T.z_len PySem.boot_len (pa_cons (pv 4) pa_nil)) (nomark _)) (pss_one (ps_ret pe_non)) pss_nil)
      (C8.pss_cut (ps_setLc (i := 6) (own := [("kind", 7), ("part", 8)]) (g := (gTup K 2 (gCons (gName 7) (gCons (gName 8) gNil)))) (tt := tYes) (te := (tCall sp_thingG [] E0 (tCons (tVar 7) (tCons (tVar 8) tNil)))) (by rfl) sc_rowof.nd rfl rfl (sw_true rfl rfl rfl (by decide +kernel)) (pi_zipSL (by rfl) T.z_zip (pa_cons (pv 4) (pa_cons (pv 5) pa_nil))) (blkOk_by (own := [("kind", 7), ("part", 8)]) (N := N_rowof) (sc := defScope s_rowof) (by decide +kernel)) (fun _ _ _ _ _ => (pg_tup (by rfl) (pgs_cons (pg_name (i := 7) sc_rowof.nd rfl (Or.inl rfl)) (pgs_cons (pg_name (i := 8) sc_rowof.nd rfl (Or.inl rfl)) pgs_nil)))) (fun _ _ _ _ _ => pts_nil) (fun _ _ _ _ _ => (pe_call G_thingof hr_thingof (by rfl) T.m_thingof T.F_thingof.kp T.b_thingof .nil pass0 (pa_cons (pv 7) (pa_cons (pv 8) pa_nil)))))
      (pss_one (ps_ret (pe_ifExp (pt_cmpR (op_inD hu65) pe_non (pv 6) (by rfl)) pe_non (pe_tup (pa_cons (pv 1) (StX.pa_star (pv 6) pa_nil))))))))))), ?_⟩
    obtain ⟨fl1, fl2, fl3⟩ := PyProof.Rows.fact_partition z " "
    unfold rowOf at q
    rcases ep : Txt.partition z " " with ⟨wd, bl, bh⟩
    rw [ep] at q fl1 fl2 fl3
    dsimp only at q fl1 fl2 fl3
    obtain ⟨sl1, sl2⟩ := split_lens bh ", " (by rw [show TL.tl (", " : Str) = [44, 32] from cp_comma]; simp) (by decide +kernel)
    have hk : ∀ c ∈ cp (shp wd), c = 114 ∨ c = 101 ∨ c = 107 := fun c hc => shp_kind hc
    have l3 := shp_len wd
    generalize eT : Txt.split bh ", " = ts at *
    -- word, blank, behind
    refine ⟨fun σ' H' => σ' = [some (.str z), some (.str wd), some (.str bl), some (.str bh), none, none, none, none, none] ∧ Same H H', ?_, ?_⟩
    · refine ⟨_, rfl, ⟨_, rfl⟩, _, _, rfl, rfl, by decide +kernel, Nat.le_trans hz (by decide), fun p hp => ?_⟩
      refine ⟨p, _, rfl, SqT.of upd_same, rfl, _, _, rfl, _, _, rfl, _, _, rfl, rfl, ?_⟩
      rw [ep]
      exact ⟨rfl, Same.new hp⟩
    rintro _ H1 ⟨rfl, s1⟩
    obtain ⟨rr, hr1, hr2, hr3⟩ := shape_at T wd
    refine ⟨fun σ' H' => σ' = [some (.str z), some (.str wd), some (.str bl), some (.str bh), some (.str (shp wd)), none, none, none, none] ∧ H1 = H', ?_, ?_⟩
    · exact ⟨rfl, _, rfl, _, rr, .str (shp wd), rfl, hr1, hr2, (fun e => by rw [hr3 e]), rfl, rfl⟩
    rintro _ _ ⟨rfl, rfl⟩
    refine ⟨fun σ' H' => ∃ l : Addr, σ' = [some (.str z), some (.str wd), some (.str bl), some (.str bh), some (.str (shp wd)), some (.ref l), none, none, none] ∧ Same H H' ∧ H' l = some (.lst (ts.map V.str)), ?_, ?_⟩
    · refine ⟨_, rfl, ⟨_, rfl⟩, _, _, rfl, rfl, by decide +kernel, Nat.le_trans (show bh.length + 2 ≤ 8000000 by omega) (by decide), fun l hl => ?_⟩
      refine ⟨l, rfl, s1.trans (Same.new hl), ?_⟩
      rw [upd_same, eT]
    rintro _ H2 ⟨l, rfl, s2, hl⟩
    refine ⟨fun σ' H' => σ' = [some (.str z), some (.str wd), some (.str bl), some (.str bh), some (.str (shp wd)), some (.ref l), none, none, none] ∧ H2 = H' ∧ ts.length = (cp (shp wd)).length, ?_, ?_⟩
    · refine ⟨_, rfl, _, _, rfl, .inl (SqL.of hl), _, rfl, _, rfl, Nat.le_trans (shp_len wd) (by decide), rfl, _, rfl, ?_⟩
      by_cases h1 : ts.length = (cp (shp wd)).length
      · exact iteNS (by rw [List.length_map, h1, ← cp_len]) ⟨rfl, rfl, h1⟩
      · refine iteB1 ?_ (q H2 _ s2 ?_)
        · rw [List.length_map, decide_eq_false]
          · rfl
          · intro e
            have := V.int.inj e
            rw [cp_len] at this
            exact h1 (by omega)
        · rw [if_pos h1]
          rfl
    rintro _ _ ⟨rfl, rfl, hlen⟩
    rw [if_neg (not_not_intro hlen)] at q
    -- things
    have ol : (tgsOf (cp (shp wd)) ts).length = ts.length := by
      unfold tgsOf
      rw [List.length_zipWith, hlen, Nat.min_self]
    have tl3 : ts.length ≤ 3 := by
      rw [hlen, ← cp_len]
      exact l3
    refine ⟨fun σ' H' => ∃ (D : Addr) (vs : List V), σ' = [some (.str z), some (.str wd), some (.str bl), some (.str bh), some (.str (shp wd)), some (.ref l), some (.ref D), none, none] ∧ Same H H' ∧ H' D = some (.lst vs) ∧ All2 (TgoV H') vs (tgsOf (cp (shp wd)) ts), ?_, ?_⟩
    · refine ⟨_, rfl, _, rfl, shp wd, l, _, rfl, SqL.of hl, fun D nD => ?_⟩
      have sc : (shp wd).cps.size = ts.length := by
        have e : (shp wd).cps.size = (cp (shp wd)).length := cp_len _
        rw [e, hlen]
      refine lc_it (walk_zipSL (n := ts.length) (by rw [sc, List.length_map, Nat.min_self])) (fun i H' => ∃ vs : List V, Same H2 H' ∧ H' D = some (.lst vs) ∧ All2 (TgoV H') vs ((tgsOf (cp (shp wd)) ts).take i)) ⟨[], Same.new nD, upd_same, trivial⟩ (fun i H' _ ⟨_, h, _⟩ => SqL.of (h _ _ hl)) ?_ ?_
      · rintro i x H3 H4 hi ⟨vs, sm, hD, hA⟩ ⟨t2, u, v, rfl, nt, rfl, gu, gv⟩
        have ci : i < (shp wd).cps.size := by omega
        dsimp only at gu gv
        rw [Array.getElem?_eq_getElem ci] at gu
        obtain rfl := Option.some.inj gu
        have gi : ts[i]? = some ts[i] := List.getElem?_eq_getElem hi
        rw [List.getElem?_map, gi] at gv
        obtain rfl := Option.some.inj gv
        have gc : (cp (shp wd))[i]? = some (shp wd).cps[i] := by
          rw [Array.getElem?_toList, Array.getElem?_eq_getElem ci]
        have go : (tgsOf (cp (shp wd)) ts)[i]? = some (tgOf (shp wd).cps[i] ts[i]) := by
          unfold tgsOf
          rw [List.getElem?_zipWith, gc, gi]
        have sT : Same H3 (upd H3 t2 (.tup [.str ⟨#[(shp wd).cps[i]]⟩, .str ts[i]])) := Same.new nt
        refine ⟨t2, _, rfl, SqT.of upd_same, rfl, _, _, rfl, _, _, rfl, rfl, rfl, ?_⟩
        refine ⟨_, rfl, _, rfl, (shp wd).cps[i], ts[i], rfl, hk _ (List.mem_of_getElem? gc), ?_, fun H5 v s5 hv => ?_⟩
        · have := sl2 _ (List.getElem_mem hi)
          omega
        have hD5 := (sT.trans s5) _ _ hD
        have lv := hA.len
        rw [List.length_take] at lv
        have kk : TKp H5 (upd H5 D (.lst (vs ++ [v]))) := TKp.updL hD5
        refine ⟨vs, hD5, small1000 (by omega), vs ++ [v], Same.mut (sm.trans (sT.trans s5)) nD, upd_same, ?_⟩
        rw [List.take_add_one, go]
        exact (hA.mono fun _ _ z => z.keep ((TKp.same (sT.trans s5)).trans kk)).snoc (hv.keep kk)
      · rintro H3 ⟨vs, sm, hD, hA⟩
        rw [← ol, List.take_length] at hA
        exact ⟨D, vs, rfl, s2.trans sm, hD, hA⟩
    rintro _ H3 ⟨D, vs, rfl, s3, hD, hA⟩
    have tsg : ∀ o ∈ tgsOf (cp (shp wd)) ts, ∀ g, o = some g → ∃ c, TgOk BIG c g := fun o ho g e => by
      obtain ⟨c, hc, y, e2⟩ := tgo_mem ho
      exact ⟨c, tgOf_ok (hk c hc) (e2.symm.trans e)⟩
    have dl : Dp K H3 (.ref D) (.list ((tgsOf (cp (shp wd)) ts).map tgoD)) := .lst (SqL.of hD) (tgo_dps tsg hA)
    have ll := lst_lay (ds := (tgsOf (cp (shp wd)) ts).map tgoD) (k := 1) (fun d hd => by
      obtain ⟨o, ho, rfl⟩ := List.mem_map.mp hd
      exact tgo_lay hk o ho)
    refine ⟨_, rfl, .none, (tgsOf (cp (shp wd)) ts).map tgoD, .non, dl, shaped_of rfl (by decide), shaped_of ll.1 (by have := ll.2; omega), _, rfl, ?_⟩
    have no : ((tgsOf (cp (shp wd)) ts).map tgoD).any (fun z => PyData.eqv z .none) = (tgsOf (cp (shp wd)) ts).any (·.isNone) := by
      rw [List.any_map]
      congr 1
      funext o
      cases o with
      | none => rfl
      | some g => cases g <;> rfl
    rw [no]
    cases en : (tgsOf (cp (shp wd)) ts).any (·.isNone) with
    | true =>
      rw [if_pos en] at q
      exact iteT (q _ _ s3 rfl)
    | false =>
      rw [if_neg (by rw [en]; exact Bool.false_ne_true)] at q
      obtain ⟨_, hsome⟩ := tgs_all hlen.symm hk en
      have hA2 := hA
      rw [hsome] at hA2
      have hB := tgo_some hA2
      refine iteF ⟨_, rfl, _, rfl, D, vs, rfl, .inr (SqL.of hD), ?_, fun t ht => ?_⟩
      · have := hA.len
        exact Nat.le_trans (show (V.str wd :: (vs ++ [])).length ≤ 1000 by rw [List.append_nil, List.length_cons]; omega) (by decide)
      · have st : Same H3 (upd H3 t (.tup (.str wd :: (vs ++ [])))) := Same.new ht
        refine q _ _ (s3.trans st) ⟨t, vs, rfl, ?_, hB.mono fun _ _ z => z.keep (TKp.same st)⟩
        rw [upd_same, List.append_nil]
theorem last_of2 : ∀ {m : Nat} {cs : List Nat} {vs : List V} {gs : List Tg} {H : Hp}, TgsOk m cs gs → All2 (TgV H) vs gs → gs ≠ [] → ∃ cs' c vs' v gs' g, cs = cs' ++ [c] ∧ vs = vs' ++ [v] ∧ gs = gs' ++ [g] ∧ TgOk m c g ∧ TgV H v g
  | m, [c], [v], [g], H, ⟨h, _⟩, ⟨h2, _⟩, _ => ⟨[], c, [], v, [], g, rfl, rfl, rfl, h, h2⟩
  | m, c :: cs, v :: vs, g :: g2 :: gs, H, ⟨_, h⟩, ⟨_, h2⟩, _ => by
    obtain ⟨cs', c', vs', v', gs', g', e1, e2, e3, h3, h4⟩ := last_of2 h h2 (by simp)
    exact ⟨c :: cs', c', v :: vs', v', g :: gs', g', by rw [e1]; rfl, by rw [e2]; rfl, by rw [e3]; rfl, h3, h4⟩
  | _, _, _, [], _, _, _, h => absurd rfl h
  | _, [], _, _ :: _, _, h, _, _ => h.elim
  | _, _, [], _ :: _, _, _, h, _ => h.elim
  | _, _ :: _ :: _, _, [_], _, ⟨_, h⟩, _, _ => h.elim
  | _, _, _ :: _ :: _, [_], _, _, ⟨_, h⟩, _ => h.elim
def sp_goesG : Sp := fun vs H Q _ => ∃ (m M : Nat) (v : V) (r : Rw), vs = [v, .int (m : Int)] ∧ RwV H v r ∧ r.ok M ∧ Q (.bl (goesB m r)) H
theorem ok_goesG (T : Txt K w mg f fd ob) : FnOk P w K mg base CX0 1 (f 25) (fd 25) ["row", "many"] sp_goesG := by
  refine T.F_goeswithin.ok sc_goeswithin (fun vs H Q E h => ?_) (fun cdv A outer s H vs Q E hr h => ?_)
  · obtain ⟨m, M, v, r, rfl, _⟩ := h
    rfl
  · obtain ⟨m, M, v, r, rfl, hv, ho, q⟩ := h
    refine ⟨_, (pss_one (ps_ret (pe_or (pe_cmpR op_ne (pe_ix ix_str (pe_ix ix_kdict (pe_glob (v := .ref (ob 1)) (by rfl) T.m_SHAPES rfl) (pe_ix ix_tup (pv 0) pe_int (fun _ _ => rfl)) (fun _ _ => rfl)) (pe_un un_neg pe_int) (fun _ _ => rfl)) pe_str (nomark _)) (pe_one (pe_cmpR op_le (pe_ix ix_tup (pv 0) (pe_un un_neg pe_int) (fun _ _ => rfl)) (pv 1) (nomark _)))))), ?_⟩
    obtain ⟨t, vs, rfl, ht, hA⟩ := hv
    obtain ⟨cs', c, vs', v, gs', g, e1, e2, e3, hgo, hgv⟩ := last_of2 ho.2 hA (tgs_ne ho)
    have el : r.tgs.getLast? = some g := by
      rw [e3, List.getLast?_append]
      rfl
    unfold goesB at q
    rw [el] at q
    have ea : atI (shp r.word).cps.toList (-1) = some c := by
      rw [show (shp r.word).cps.toList = cs' ++ [c] from e1]
      exact atI_last _ _
    refine ⟨_, rfl, _, _, _, _, rfl, rfl, SqT.of ht, at0 _ vs, _, _, _, rfl, rfl, shape_kd T ho.1, _, rfl, _, _, c, rfl, rfl, Nat.le_trans (shp_len r.word) (by decide), ea, rfl, _, rfl, ?_⟩
    rw [str_k, code_eq]
    by_cases h1 : c = 107
    · rw [decide_eq_true h1]
      refine iteF ?_
      have ev : atI (V.str r.word :: vs) (-1) = some v := by
        rw [e2, ← List.cons_append]
        exact atI_last _ _
      cases g with
      | re k =>
        have := hgo.1
        omega
      | ex xs =>
        have := hgo.1
        omega
      | kk n =>
        rw [show v = .int (n : Int) from hgv] at ev
        refine ⟨_, rfl, _, rfl, _, _, _, _, rfl, rfl, SqT.of ht, ev, _, rfl, _, _, rfl, rfl, ?_⟩
        show Q (.bl (decide (((n : Nat) : Int) ≤ ((m : Nat) : Int)))) H
        have e : decide (((n : Nat) : Int) ≤ ((m : Nat) : Int)) = decide (n ≤ m) := by
          by_cases h : n ≤ m
          · rw [decide_eq_true h, decide_eq_true (by omega)]
          · rw [decide_eq_false h, decide_eq_false (by omega)]
        rw [e]
        exact q
    · rw [decide_eq_false h1]
      cases g with
      | re k => exact iteT q
      | ex xs => exact iteT q
      | kk n => exact absurd hgo.1 h1
def sp_rowsbehind (K : PySem.W.Frag) : Sp := fun vs H Q _ => ∃ (l : Addr) (i : Nat) (L a b : List Str), vs = [.ref l, .int (i : Int)] ∧ SqL K H l (L.map V.str) ∧ i < L.length ∧ L.length ≤ 8000000 ∧ L.drop (i + 1) = a ++ b ∧ (∀ w ∈ a, w ≠ "thread") ∧ (b = [] ∨ b.head? = some "thread") ∧ Q (.int (a.length : Int)) H
theorem ok_rowsbehind (T : Txt K w mg f fd ob) : FnOk P w K mg base CX0 1 (f 26) (fd 26) ["texts", "nth"] (sp_rowsbehind K) := by
  obtain ⟨tkH, h_HEAD⟩ := T.c_HEAD
  refine T.F_rowsbehind.ok sc_rowsbehind (fun vs H Q E h => ?_) (fun cdv A outer s H vs Q E hr h => ?_)
  · obtain ⟨l, i, L, a, b, rfl, _⟩ := h
    rfl
  · obtain ⟨l, i, L, a, b, rfl, hS, hi, hL, hd, ha, hb, q⟩ := h
    refine ⟨_, (pss_cons (ps_set (i := 2) sc_rowsbehind.nd rfl (Or.inl rfl) pe_int)
      (pss_cons (ps_while PassesOwn.never (PW.pt (pw_and (pt_cmpR op_lt (pe_op op_add (pe_op op_add (pv 1) (pv 2)) pe_int) (pe_callB call_len_seq (by rfl) T.z_len PySem.boot_len (pa_cons (pv 0) pa_nil)) (nomark _)) (pw_and1 (pt_cmpR op_ne (pe_ix ix_list (pv 0) (pe_op op_add (pe_op op_add (pv 1) (pv 2)) pe_int) (fun _ _ => rfl)) (pe_glob (v := .str "thread") (by rfl) h_HEAD ⟨_, rfl⟩) (nomark _))))) (pss_one (ps_aug (i := 2) sc_rowsbehind.nd rfl (Or.inl rfl) pe_int ip_add)))
      (pss_one (ps_ret (pv 2))))), ?_⟩
    have hlen : L.length = i + 1 + a.length + b.length := by
      have := congrArg List.length hd
      rw [List.length_drop, List.length_append] at this
      omega
    refine ⟨fun μ σ' H' => ∃ k : Nat, μ = a.length - k ∧ k ≤ a.length ∧ σ' = [some (.ref l), some (.int (i : Int)), some (.int (k : Int))] ∧ H = H', ⟨a.length, 0, rfl, Nat.zero_le _, rfl, rfl⟩, ?_⟩
    rintro _ _ _ ⟨k, rfl, hk, rfl, rfl⟩
    refine ⟨_, rfl, _, rfl, _, _, rfl, rfl, _, _, rfl, rfl, _, rfl, _, _, rfl, .inl hS, _, _, rfl, rfl, _, rfl, ite2 (fun h1 => ?_) (fun h1 => ?_)⟩
    · have h1' : (i : Int) + (k : Int) + 1 < ((L.length : Nat) : Int) := by
        have := of_decide_eq_true h1
        rw [List.length_map] at this
        exact this
      have hk2 : i + k + 1 < L.length := by omega
      have gL : L[i + k + 1]? = (a ++ b)[k]? := by
        rw [← hd, List.getElem?_drop]
        congr 1
        omega
      have hat : atI (L.map V.str) ((i : Int) + (k : Int) + 1) = some (.str L[i + k + 1]) := by
        rw [show (i : Int) + (k : Int) + 1 = ((i + k + 1 : Nat) : Int) by omega]
        refine atI_nat ?_
        rw [List.getElem?_map, List.getElem?_eq_getElem hk2]
        rfl
      refine ⟨_, rfl, _, rfl, _, rfl, _, _, rfl, rfl, _, _, rfl, rfl, _, _, _, _, rfl, rfl, hS, hat, rfl, _, rfl, ?_⟩
      rw [List.getElem?_eq_getElem hk2] at gL
      rcases Nat.lt_or_ge k a.length with hka | hka
      · rw [List.getElem?_append_left hka, List.getElem?_eq_getElem hka] at gL
        have e := Option.some.inj gL
        have hne : L[i + k + 1] ≠ "thread" := by
          rw [e]
          exact ha _ (List.getElem_mem hka)
        rw [decide_eq_false (fun z => hne (V.str.inj z))]
        refine iteT ⟨fun σ' H' => σ' = [some (.ref l), some (.int (i : Int)), some (.int ((k + 1 : Nat) : Int))] ∧ H = H', fun σ' H' h => ⟨a.length - (k + 1), by omega, k + 1, rfl, by omega, h.1, h.2⟩, ?_⟩
        exact ⟨_, rfl, _, _, rfl, rfl, rfl, rfl⟩
      · obtain rfl : k = a.length := by omega
        have hbn : b ≠ [] := fun z => by
          rw [z] at hlen
          rw [List.length_nil] at hlen
          omega
        have hb2 : b.head? = some "thread" := by
          rcases hb with z | z
          · exact absurd z hbn
          · exact z
        rw [List.getElem?_append_right (Nat.le_refl _), Nat.sub_self, ← List.head?_eq_getElem?, hb2] at gL
        have e := Option.some.inj gL
        rw [decide_eq_true (by rw [e])]
        exact iteF ⟨_, rfl, q⟩
    · have h1' : ¬ (i : Int) + (k : Int) + 1 < ((L.length : Nat) : Int) := fun z => h1 (decide_eq_true (by rw [List.length_map]; exact z))
      obtain rfl : k = a.length := by omega
      exact iteF ⟨_, rfl, q⟩
theorem rbeh_cut : ∀ l : List Str, ∃ a b, l = a ++ b ∧ (∀ w ∈ a, w ≠ "thread") ∧ (b = [] ∨ b.head? = some "thread") ∧ a.length = rbeh l
  | [] => ⟨[], [], rfl, (fun _ h => nomatch h), .inl rfl, rfl⟩
  | w :: r => by
    by_cases h : w = "thread"
    · refine ⟨[], w :: r, rfl, (fun _ h => nomatch h), .inr (by rw [h]; rfl), ?_⟩
      unfold rbeh
      rw [if_pos h]
      rfl
    · obtain ⟨a, b, e, ha, hb, hl⟩ := rbeh_cut r
      refine ⟨w :: a, b, by rw [e]; rfl, fun x hx => ?_, hb, ?_⟩
      · rcases List.mem_cons.mp hx with rfl | hx
        · exact h
        · exact ha x hx
      · show a.length + 1 = if w = "thread" then 0 else rbeh r + 1
        rw [if_neg h, hl]
def sp_readX (C : Addr) : Sp := fun vs H Q E => ∃ z : Str, vs = [.str z] ∧ z.length ≤ 7800000 ∧
  (∀ ps, readP z = .inr ps → ∀ (H' : Hp) (v : V), Same H H' → PrV H' v ps → Q v H') ∧
  (∀ n, readP z = .inl n → ∀ (H' : Hp) (d : Addr), Same H H' → H' d = some (.xd [("nth", .int (n : Int))]) → E (.ref C) (some d) H')
theorem ok_readX (T : Txt K w mg f fd ob) : FnOk P w K mg base (L2.CX P w) 8 (f 27) (fd 27) ["text"] (sp_readX (ob 2)) := by
  obtain ⟨tkH, h_HEAD⟩ := T.c_HEAD
  obtain ⟨tkT, h_MOST_THREADS⟩ := T.c_MOST_THREADS
  obtain ⟨tkR, h_MOST_ROWS⟩ := T.c_MOST_ROWS
  have G_rowof := ok_rowG (P := P) (base := base) T
  have G_goeswithin := ok_goesG (P := P) (base := base) T
  have G_rowsbehind := ok_rowsbehind (P := P) (base := base) T
  have G_iNoText := ok_iNoText (P := P) (base := base) T
  refine T.F_readprogram.okX sc_readprogram (fun vs H Q E h => ?_) (fun cdv A outer s H vs Q E hr h => ?_)
  · obtain ⟨z, rfl, _⟩ := h
    rfl
  · obtain ⟨z, rfl, hz, q1, q2⟩ := h
    have hr_rowof := hr
    have hr_goeswithin : Room 1 _ := hr.mono (by decide)
    have hr_rowsbehind : Room 1 _ := hr.mono (by decide)
    have hr_iNoText : Room 2 _ := hr.mono (by decide)
    refine ⟨_, (C8.pss_cut (ps_set (i := 1) sc_readprogram.nd rfl (Or.inl rfl) (pe_split (pv 0) pe_str))
      (pss_cons (ps_set (i := 2) sc_readprogram.nd rfl (Or.inl rfl) (pe_lst pa_nil))
      (pss_cons (ps_set (i := 3) sc_readprogram.nd rfl (Or.inl rfl) pe_int)
      (pss_cons (ps_for (passes_of rfl) rfl (pi_enum (by rfl) T.z_enumerate (pa_cons (pv 1) pa_nil)) (pg_tup (by rfl) (pgs_cons (pg_name (i := 4) sc_readprogram.nd rfl (Or.inl rfl)) (pgs_cons (pg_name (i := 5) sc_readprogram.nd rfl (Or.inl rfl)) pgs_nil))) (pss_one (ps_if (pt_cmpR op_eq (pv 5) (pe_glob (v := .str "thread") (by rfl) h_HEAD ⟨_, rfl⟩) (nomark _)) (pss_cons (ps_if (pt_cmpR op_eq (pe_callB call_len_seq (by rfl) T.z_len PySem.boot_len (pa_cons (pv 2) pa_nil)) (pe_glob (v := .int 4) (by rfl) h_MOST_THREADS ⟨_, rfl⟩) (nomark _)) (pss_one (ps_raise rfl (takes_of rfl rfl rfl rfl) (pmk_oex T.X_NoText T.XI_NoText T.XT_NoText G_iNoText hr_iNoText T.b_iNoText .nil pass0 (by rfl) T.m_NoText (pa_cons (pv 4) pa_nil)))) pss_nil)
      (pss_cons (ps_expr (pe_bm PySem.F.plainAttrs_list PySem.F.slot_list_append PySem.F.type_list_append mt_append (pv 2) (pa_cons (pe_lst pa_nil) pa_nil)))
      (pss_one (ps_set (i := 3) sc_readprogram.nd rfl (Or.inl rfl) (pe_call G_rowsbehind hr_rowsbehind (by rfl) T.m_rowsbehind T.F_rowsbehind.kp T.b_rowsbehind .nil pass0 (pa_cons (pv 1) (pa_cons (pv 4) pa_nil))))))) (pss_cons (ps_set (i := 6) sc_readprogram.nd rfl (Or.inl rfl) (pe_call G_rowof hr_rowof (by rfl) T.m_rowof T.F_rowof.kp T.b_rowof .nil pass0 (pa_cons (pv 5) pa_nil)))
      (pss_cons (ps_if (PW.pt (pw_or (pt_cmpR op_isN (pv 6) pe_non (nomark _)) (pw_or (pt_not (pt_truth (pv 2) (by intro _; rfl))) (pw_or (pt_cmpR op_eq (pe_callB call_len_seq (by rfl) T.z_len PySem.boot_len (pa_cons (pe_ix ix_list (pv 2) (pe_un un_neg pe_int) (fun _ _ => rfl)) pa_nil)) (pe_glob (v := .int 40) (by rfl) h_MOST_ROWS ⟨_, rfl⟩) (nomark _)) (pw_or1 (pt_not (pt_val (pe_call G_goeswithin hr_goeswithin (by rfl) T.m_goeswithin T.F_goeswithin.kp T.b_goeswithin .nil pass0 (pa_cons (pv 6) (pa_cons (pv 3) pa_nil)))))))))) (pss_one (ps_raise rfl (takes_of rfl rfl rfl rfl) (pmk_oex T.X_NoText T.XI_NoText T.XT_NoText G_iNoText hr_iNoText T.b_iNoText .nil pass0 (by rfl) T.m_NoText (pa_cons (pv 4) pa_nil)))) pss_nil)
      (pss_one (ps_expr (pe_bm PySem.F.plainAttrs_list PySem.F.slot_list_append PySem.F.type_list_append mt_append (pe_ix ix_list (pv 2) (pe_un un_neg pe_int) (fun _ _ => rfl)) (pa_cons (pv 6) pa_nil)))))))))
      (pss_one (ps_ret (pe_callTy call_tuple_of (by rfl) T.z_tuple (by decide +kernel) (pa_cons (pe_lc (own := [("rows", 7)]) (g := (gName 7)) (tt := tYes) (te := (tCB (fun xs H Q => ∃ p ys, xs = [V.ref p] ∧ ((SqL K H p ys ∧ ∀ l, H l = none → Q (.ref l) (upd H l (.tup ys))) ∨ (SqT K H p ys ∧ Q (.ref p) H))) (tCons (tVar 7) tNil))) (by rfl) sc_readprogram.nd (pi_list (pv 2)) (blkOk_by (own := [("rows", 7)]) (N := N_readprogram) (sc := defScope s_readprogram) (by decide +kernel)) (fun _ _ _ _ _ => (pg_name (i := 7) sc_readprogram.nd rfl (Or.inl rfl))) (fun _ _ _ _ _ => pts_nil) (fun _ _ _ _ _ => (pe_callTy call_tuple_of (by rfl) T.z_tuple (by decide +kernel) (pa_cons (pv 7) pa_nil)))) pa_nil)))))))), ?_⟩
    obtain ⟨sl1, sl2⟩ := split_lens z "\n" (by rw [show TL.tl ("\n" : Str) = [10] from cp_line]; simp) (by decide +kernel)
    have eR : readP z = readL 0 0 [] (Txt.split z "\n") := rfl
    rw [eR] at q1 q2
    generalize eL : Txt.split z "\n" = L at *
    have sky : ∀ {H1 H' : Hp} {a dx : Addr} {o1 o2 o3 o4 : HO}, Same H H1 → H1 a = none → (upd H1 a o1) dx = none → dx ≠ a → H' = upd (del (upd (upd (upd H1 a o1) dx o2) a o3) a) dx o4 → Same H H' := by
      intro H1 H' a dx o1 o2 o3 o4 s1 ha hdx hne e b o hb
      have hb1 := s1 b o hb
      have hba : b ≠ a := ne_of_none hb1 ha
      have hbd : b ≠ dx := by
        rw [upd_ne hne] at hdx
        exact ne_of_none hb1 hdx
      rw [e, upd_ne hbd, del_ne hba, upd_ne hba, upd_ne hbd, upd_ne hba]
      exact hb1
    refine ⟨fun σ' H' => ∃ tl : Addr, σ' = [some (.str z), some (.ref tl), none, none, none, none, none, none] ∧ Same H H' ∧ H tl = none ∧ H' tl = some (.lst (L.map V.str)), ?_, ?_⟩
    · refine ⟨_, rfl, ⟨_, rfl⟩, _, _, rfl, rfl, by decide +kernel, Nat.le_trans (show z.length + 2 ≤ 8000000 by omega) (by decide), fun l hl => ?_⟩
      refine ⟨l, rfl, Same.new hl, hl, ?_⟩
      rw [upd_same, eL]
    rintro _ H1 ⟨tl, rfl, s1, ntl, htl⟩
    refine ⟨Nat.zero_le _, fun th hth => ?_⟩
    have s2 : Same H (upd H1 th (.lst [])) := s1.trans (Same.new hth)
    have nth : H th = none := s1.free hth
    have ntt : th ≠ tl := (ne_of_none htl hth).symm
    have htl2 := (Same.new (o := .lst []) hth) _ _ htl
    refine ⟨_, rfl, tl, _, rfl, SqL.of htl2, for_it (walk_enum (xs := L.map V.str)) (fun i σ' H' => ∃ (many : Nat) (y4 y5 y6 : Option V) (all : List V) (thr : List (List Rw)),
        σ' = [some (.str z), some (.ref tl), some (.ref th), some (.int (many : Int)), y4, y5, y6, none] ∧ Same H H' ∧ H' tl = some (.lst (L.map V.str)) ∧ H' th = some (.lst all) ∧ All2 (LtV H H' th tl) all thr ∧ all.Nodup ∧ readL 0 0 [] L = readL i many thr (L.drop i) ∧ thr.length ≤ 4 ∧ ∀ t ∈ thr, t.length ≤ 40)
      ⟨0, none, none, none, [], [], rfl, s2, htl2, upd_same, trivial, List.nodup_nil, rfl, Nat.zero_le _, (fun _ h => nomatch h)⟩ (fun i σ' H' _ h => ?_) ?_ ?_⟩
    · obtain ⟨many, y4, y5, y6, all, thr, rfl, sm, h1, _⟩ := h
      exact SqL.of h1
    · rintro i x _ H2 H3 hi ⟨many, y4, y5, y6, all, thr, rfl, sm, htl', hth', hA, hnd, hrd, h4, h40⟩ ⟨t2, u, v, rfl, nt, rfl, gu, gv⟩
      dsimp only at gu gv
      obtain rfl := Option.some.inj gu
      rw [List.length_map] at hi
      rw [List.getElem?_map, List.getElem?_eq_getElem hi] at gv
      obtain rfl := Option.some.inj gv
      have sT : Same H2 (upd H2 t2 (.tup [.int ((i : Nat) : Int), .str L[i]])) := Same.new nt
      refine ⟨t2, _, rfl, SqT.of upd_same, rfl, _, _, rfl, _, _, rfl, rfl, ?_⟩
      generalize (upd H2 t2 (.tup [.int ((i : Nat) : Int), .str L[i]])) = H4 at sT
      have s4 := sm.trans sT
      have htl4 := sT _ _ htl'
      have hth4 := sT _ _ hth'
      have keep : ∀ {G : Hp}, (∀ x vs, H x = none → x ≠ th → x ≠ tl → H2 x = some (.lst vs) → G x = some (.lst vs)) → TKp H2 G → ∀ v rs, LtV H H2 th tl v rs → LtV H G th tl v rs := fun kx kt v rs => by
        rintro ⟨x, vs, e, h1, h2, h3, h4, h5⟩
        exact ⟨x, vs, e, kx x vs h3 h4 h5 h1, h2.mono fun _ _ z => z.keep kt, h3, h4, h5⟩
      have dc : L.drop i = L[i] :: L.drop (i + 1) := List.drop_eq_getElem_cons hi
      have lA := hA.len
      rw [dc] at hrd
      refine ⟨_, rfl, rfl, _, rfl, ?_⟩
      by_cases hh : L[i] = "thread"
      · -- a head
        rw [decide_eq_true (by rw [hh])]
        have hrd2 : readL 0 0 [] L = if thr.length = 4 then .inl i else readL (i + 1) (rbeh (L.drop (i + 1))) (thr ++ [[]]) (L.drop (i + 1)) := by
          rw [hrd]
          show (if L[i] = "thread" then _ else _) = _
          rw [if_pos hh]
        refine iteT ⟨_, rfl, _, _, rfl, .inl (SqL.of hth4), rfl, _, rfl, ?_⟩
        by_cases h4e : thr.length = 4
        · rw [decide_eq_true (show V.int ((all.length : Nat) : Int) = V.int 4 by rw [lA, h4e]; rfl)]
          rw [if_pos h4e] at hrd2
          refine iteT ⟨_, rfl, (show 1 ≤ 1000 by decide), fun a ha => ⟨a, (ob 2), _, rfl, T.X_NoText, T.XN_NoText_nth, upd_same, fun dx hdx hne => ⟨rfl, dx, _, upd_same, ?_, ?_, q2 i hrd2 _ dx ?_ upd_same⟩⟩⟩
          · rw [upd_ne hne, upd_same]
          · rw [upd_ne hne] at hdx
            exact hdx
          · exact sky s4 ha hdx hne rfl
        rw [decide_eq_false (show ¬ V.int ((all.length : Nat) : Int) = V.int 4 from fun z => by have := V.int.inj z; omega)]
        rw [if_neg h4e] at hrd2
        refine iteF ⟨_, rfl, .inl ⟨rfl, _, SqL.of hth4⟩, Nat.zero_le _, fun x nx => ?_⟩
        have s5 : Same H4 (upd H4 x (.lst [])) := Same.new nx
        have e5 : (upd H4 x (.lst [])) x = some (.lst []) := upd_same
        generalize (upd H4 x (.lst [])) = H5 at s5 e5
        refine ⟨th, all, _, rfl, rfl, s5 _ _ hth4, small1000 (by omega), ?_⟩
        have hth5 := s5 _ _ hth4
        have nxh : H x = none := (s4).free nx
        have nxth : x ≠ th := (ne_of_none hth4 nx).symm
        have nxtl : x ≠ tl := (ne_of_none htl4 nx).symm
        have s6 : Same H (upd H5 th (.lst (all ++ [.ref x]))) := Same.mut (s4.trans s5) nth
        have htl6 : (upd H5 th (.lst (all ++ [.ref x]))) tl = some (.lst (L.map V.str)) := (upd_ne ntt.symm).trans (s5 _ _ htl4)
        have hth6 : (upd H5 th (.lst (all ++ [.ref x]))) th = some (.lst (all ++ [.ref x])) := upd_same
        have e6 : (upd H5 th (.lst (all ++ [.ref x]))) x = some (.lst []) := (upd_ne nxth).trans e5
        have k6 : TKp H2 (upd H5 th (.lst (all ++ [.ref x]))) := (TKp.same (sT.trans s5)).trans (TKp.updL hth5)
        have kx : ∀ y vs, H y = none → y ≠ th → y ≠ tl → H2 y = some (.lst vs) → (upd H5 th (.lst (all ++ [.ref x]))) y = some (.lst vs) := fun y vs _ h2 _ h4 => (upd_ne h2).trans (s5 _ _ (sT _ _ h4))
        generalize (upd H5 th (.lst (all ++ [.ref x]))) = H6 at s6 htl6 hth6 e6 k6 kx
        obtain ⟨ca, cb, ec, hca, hcb, hcl⟩ := rbeh_cut (L.drop (i + 1))
        refine ⟨_, rfl, _, rfl, tl, i, L, ca, cb, rfl, SqL.of htl6, hi, by omega, ec, hca, hcb, ?_⟩
        refine ⟨ca.length, _, _, _, all ++ [.ref x], thr ++ [[]], rfl, s6, htl6, hth6, (hA.mono (keep kx k6)).snoc ⟨x, [], rfl, e6, trivial, nxh, nxth, nxtl⟩, ?_, by rw [hrd2, hcl], ?_, fun t ht => ?_⟩
        · rw [List.nodup_append]
          refine ⟨hnd, by simp, fun a ha b hb => ?_⟩
          rw [List.mem_singleton] at hb
          rw [hb]
          obtain ⟨rs', _, y, vs, e, h1, _⟩ := hA.mem ha
          rw [e]
          intro z
          have z2 := V.ref.inj z
          rw [z2] at h1
          rw [sT _ _ h1] at nx
          cases nx
        · rw [List.length_append, List.length_singleton]
          omega
        · rcases List.mem_append.mp ht with h | h
          · exact h40 t h
          · rw [List.mem_singleton.mp h]
            exact Nat.zero_le _
      · -- a row
        rw [decide_eq_false (fun z => hh (V.str.inj z))]
        have hrd2 : readL 0 0 [] L = match rowOf L[i] with
            | none => .inl i
            | some row => if thr = [] ∨ (thr.getLastD []).length = 40 ∨ goesB many row = false then .inl i else readL (i + 1) many (addLast thr row) (L.drop (i + 1)) := by
          rw [hrd]
          show (if L[i] = "thread" then _ else _) = _
          rw [if_neg hh]
          all_goals (cases rowOf L[i] <;> rfl)
        have hwl : L[i].length ≤ 7900000 := by
          have := sl2 _ (List.getElem_mem hi)
          omega
        refine iteF ⟨_, rfl, L[i], rfl, hwl, fun H5 rv s5 hrv => ?_⟩
        have hth5 := s5 _ _ hth4
        refine ⟨_, rfl, rfl, _, rfl, ?_⟩
        cases ero : rowOf L[i] with
        | none =>
          rw [ero] at hrv hrd2
          rw [decide_eq_true (show rv = .non from hrv)]
          refine iteT ⟨_, rfl, (show 1 ≤ 1000 by decide), fun a ha => ⟨a, (ob 2), _, rfl, T.X_NoText, T.XN_NoText_nth, upd_same, fun dx hdx hne => ⟨rfl, dx, _, upd_same, ?_, ?_, q2 i hrd2 _ dx ?_ upd_same⟩⟩⟩
          · rw [upd_ne hne, upd_same]
          · rw [upd_ne hne] at hdx
            exact hdx
          · exact sky (s4.trans s5) ha hdx hne rfl
        | some r =>
          rw [ero] at hrv hrd2
          have hrv : RwV H5 rv r := hrv
          have hro := (rowOf_facts ero).1
          have hrn : rv ≠ .non := by
            obtain ⟨t, _, e, _⟩ := hrv
            rw [e]
            exact fun z => nomatch z
          rw [decide_eq_false hrn]
          refine iteF ⟨_, rfl, _, .inl ⟨_, SqL.of hth5, rfl⟩, ?_⟩
          rcases List.eq_nil_or_concat thr with et | ⟨d, b, et⟩
          · have ea : all = [] := List.eq_nil_of_length_eq_zero (by rw [lA, et]; rfl)
            rw [ea]
            have hrd3 : readL 0 0 [] L = .inl i := by
              rw [hrd2]
              exact if_pos (.inl et)
            refine iteT ⟨_, rfl, (show 1 ≤ 1000 by decide), fun a ha => ⟨a, (ob 2), _, rfl, T.X_NoText, T.XN_NoText_nth, upd_same, fun dx hdx hne => ⟨rfl, dx, _, upd_same, ?_, ?_, q2 i hrd3 _ dx ?_ upd_same⟩⟩⟩
            · rw [upd_ne hne, upd_same]
            · rw [upd_ne hne] at hdx
              exact hdx
            · exact sky (s4.trans s5) ha hdx hne rfl
          have et : thr = d ++ [b] := by simpa using et
          subst et
          obtain ⟨us, lv, rfl, hU, x, vs, rfl, hx, hV, nx, nxth, nxtl⟩ := hA.split
          have hx5 : H5 x = some (.lst vs) := s5 _ _ (sT _ _ hx)
          have lV := hV.len
          have hat : atI (us ++ [V.ref x]) (-1) = some (.ref x) := atI_last _ _
          have hb40 : b.length ≤ 40 := h40 b (List.mem_append_right _ List.mem_cons_self)
          have hgl : (d ++ [b]).getLastD [] = b := last_snoc d b
          rw [show (us ++ [V.ref x]).isEmpty = false by cases us <;> rfl]
          refine iteF ⟨_, rfl, _, rfl, _, _, _, _, rfl, rfl, SqL.of hth5, hat, _, _, rfl, .inl (SqL.of hx5), rfl, _, rfl, ?_⟩
          by_cases h40e : b.length = 40
          · rw [decide_eq_true (show V.int ((vs.length : Nat) : Int) = V.int 40 by rw [lV, h40e]; rfl)]
            have hrd3 : readL 0 0 [] L = .inl i := by
              rw [hrd2]
              exact if_pos (.inr (.inl (by rw [hgl]; exact h40e)))
            refine iteT ⟨_, rfl, (show 1 ≤ 1000 by decide), fun a ha => ⟨a, (ob 2), _, rfl, T.X_NoText, T.XN_NoText_nth, upd_same, fun dx hdx hne => ⟨rfl, dx, _, upd_same, ?_, ?_, q2 i hrd3 _ dx ?_ upd_same⟩⟩⟩
            · rw [upd_ne hne, upd_same]
            · rw [upd_ne hne] at hdx
              exact hdx
            · exact sky (s4.trans s5) ha hdx hne rfl
          rw [decide_eq_false (show ¬ V.int ((vs.length : Nat) : Int) = V.int 40 from fun z => by have := V.int.inj z; omega)]
          refine iteF ⟨_, rfl, _, rfl, many, BIG, rv, r, rfl, hrv, hro, _, rfl, ?_⟩
          cases eg : goesB many r with
          | false =>
            have hrd3 : readL 0 0 [] L = .inl i := by
              rw [hrd2]
              exact if_pos (.inr (.inr eg))
            refine iteT ⟨_, rfl, (show 1 ≤ 1000 by decide), fun a ha => ⟨a, (ob 2), _, rfl, T.X_NoText, T.XN_NoText_nth, upd_same, fun dx hdx hne => ⟨rfl, dx, _, upd_same, ?_, ?_, q2 i hrd3 _ dx ?_ upd_same⟩⟩⟩
            · rw [upd_ne hne, upd_same]
            · rw [upd_ne hne] at hdx
              exact hdx
            · exact sky (s4.trans s5) ha hdx hne rfl
          | true =>
            refine iteF ?_
            have hrd3 : readL 0 0 [] L = readL (i + 1) many (d ++ [b ++ [r]]) (L.drop (i + 1)) := by
              rw [hrd2, ← addLast_snoc]
              refine if_neg ?_
              rintro (h | h | h)
              · cases d <;> cases h
              · rw [hgl] at h
                exact h40e h
              · rw [eg] at h
                cases h
            refine ⟨_, rfl, _, rfl, _, _, _, _, rfl, rfl, SqL.of hth5, hat, .inl ⟨rfl, _, SqL.of hx5⟩, _, rfl, x, vs, _, rfl, rfl, hx5, small1000 (by omega), ?_⟩
            have k5 : TKp H5 (upd H5 x (.lst (vs ++ [rv]))) := TKp.updL hx5
            have k6 : TKp H2 (upd H5 x (.lst (vs ++ [rv]))) := (TKp.same (sT.trans s5)).trans k5
            refine ⟨many, _, _, _, us ++ [.ref x], d ++ [b ++ [r]], rfl, Same.mut (s4.trans s5) nx, (upd_ne nxtl.symm).trans (s5 _ _ htl4), (upd_ne nxth.symm).trans hth5, ?_, hnd, hrd3, ?_, fun t ht => ?_⟩
            · have hne : ∀ v ∈ us, v ≠ .ref x := by
                rw [List.nodup_append] at hnd
                exact fun v hv => hnd.2.2 v hv _ (List.mem_singleton.mpr rfl)
              have hU2 : All2 (LtV H (upd H5 x (.lst (vs ++ [rv]))) th tl) us d := by
                have key : ∀ {us : List V} {d : List (List Rw)}, (∀ v ∈ us, v ≠ .ref x) → All2 (LtV H H2 th tl) us d → All2 (LtV H (upd H5 x (.lst (vs ++ [rv]))) th tl) us d := by
                  intro us
                  induction us with
                  | nil =>
                    intro d _ h
                    cases d with
                    | nil => trivial
                    | cons a r => exact h.elim
                  | cons v us ih =>
                    intro d hv h
                    cases d with
                    | nil => exact h.elim
                    | cons a r =>
                      refine ⟨?_, ih (fun w hw => hv w (List.mem_cons_of_mem _ hw)) h.2⟩
                      obtain ⟨y, ws, e, h1, h2, h3, h4, h5⟩ := h.1
                      have hy : y ≠ x := fun z => hv v List.mem_cons_self (by rw [e, z])
                      exact ⟨y, ws, e, (upd_ne hy).trans (s5 _ _ (sT _ _ h1)), h2.mono fun _ _ z => z.keep k6, h3, h4, h5⟩
                exact key hne hU
              exact hU2.snoc ⟨x, vs ++ [rv], rfl, upd_same, (hV.mono fun _ _ z => z.keep k6).snoc (hrv.keep k5), nx, nxth, nxtl⟩
            · rw [List.length_append, List.length_singleton] at h4 ⊢
              exact h4
            · rcases List.mem_append.mp ht with h | h
              · exact h40 t (List.mem_append_left _ h)
              · rw [List.mem_singleton.mp h, List.length_append, List.length_singleton]
                omega
    · rintro _ H2 ⟨many, y4, y5, y6, all, thr, rfl, sm, htl', hth', hA, hnd, hrd, h4, h40⟩
      rw [List.length_map, List.drop_length] at hrd
      have lA := hA.len
      refine ⟨_, rfl, th, rfl, ⟨_, SqL.of hth'⟩, fun D nD => ?_⟩
      refine lc_list (K := K) (a := th) (xs := all) (fun i H' => ∃ ws : List V, Same H2 H' ∧ H' D = some (.lst ws) ∧ All2 (ThV H') ws (thr.take i)) ⟨[], Same.new nD, upd_same, trivial⟩ (fun i H' _ ⟨_, h, _⟩ => SqL.of (h _ _ hth')) ?_ ?_
      · rintro i x H3 hx ⟨ws, s3, hD, hW⟩
        obtain ⟨rs, hrs, y, vs, rfl, hy, hV, _⟩ := hA.get hx
        refine ⟨rfl, _, rfl, y, vs, rfl, .inl ⟨SqL.of (s3 _ _ hy), fun t ht => ?_⟩⟩
        have st : Same H3 (upd H3 t (.tup vs)) := Same.new ht
        have et : (upd H3 t (.tup vs)) t = some (.tup vs) := upd_same
        generalize (upd H3 t (.tup vs)) = H4 at st et
        have hD4 := st _ _ hD
        have kk : TKp H4 (upd H4 D (.lst (ws ++ [.ref t]))) := TKp.updL hD4
        have lw := hW.len
        rw [List.length_take] at lw
        refine ⟨ws, hD4, small1000 (by omega), ws ++ [.ref t], Same.mut (s3.trans st) nD, upd_same, ?_⟩
        rw [List.take_add_one, hrs]
        exact (hW.mono fun _ _ z => z.keep ((TKp.same st).trans kk)).snoc ⟨t, vs, rfl, kk _ _ et, hV.mono fun _ _ z => z.keep ((TKp.same (s3.trans st)).trans kk)⟩
      · rintro H3 ⟨ws, s3, hD, hW⟩
        rw [lA, List.take_length] at hW
        refine ⟨D, ws, rfl, .inl ⟨SqL.of hD, fun t ht => ?_⟩⟩
        have st : Same H3 (upd H3 t (.tup ws)) := Same.new ht
        exact q1 thr hrd _ _ ((sm.trans s3).trans st) ⟨t, ws, rfl, upd_same, hW.mono fun _ _ z => z.keep (TKp.same st)⟩
def sp_read0 : Sp := fun vs H Q _ => ∃ (z : Str) (ps : List (List Rw)), vs = [.str z] ∧ z.length ≤ 7800000 ∧ readP z = .inr ps ∧ ∀ (H' : Hp) (v : V), Same H H' → PrV H' v ps → Q v H'
theorem ok_read0 (T : Txt K w mg f fd ob) : FnOk P w K mg base CX0 8 (f 27) (fd 27) ["text"] sp_read0 := by
  obtain ⟨tkH, h_HEAD⟩ := T.c_HEAD
  obtain ⟨tkT, h_MOST_THREADS⟩ := T.c_MOST_THREADS
  obtain ⟨tkR, h_MOST_ROWS⟩ := T.c_MOST_ROWS
  have G_rowof := ok_rowG (P := P) (base := base) T
  have G_goeswithin := ok_goesG (P := P) (base := base) T
  have G_rowsbehind := ok_rowsbehind (P := P) (base := base) T
  refine T.F_readprogram.ok sc_readprogram (fun vs H Q E h => ?_) (fun cdv A outer s H vs Q E hr h => ?_)
  · obtain ⟨z, ps, rfl, _⟩ := h
    rfl
  · obtain ⟨z, ps, rfl, hz, eP, q⟩ := h
    have hr_rowof := hr
    have hr_goeswithin : Room 1 _ := hr.mono (by decide)
    have hr_rowsbehind : Room 1 _ := hr.mono (by decide)
    refine ⟨_, (C8.pss_cut (ps_set (i := 1) sc_readprogram.nd rfl (Or.inl rfl) (pe_split (pv 0) pe_str))
      (pss_cons (ps_set (i := 2) sc_readprogram.nd rfl (Or.inl rfl) (pe_lst pa_nil))
      (pss_cons (ps_set (i := 3) sc_readprogram.nd rfl (Or.inl rfl) pe_int)
      (pss_cons (ps_for PassesOwn.never rfl (pi_enum (by rfl) T.z_enumerate (pa_cons (pv 1) pa_nil)) (pg_tup (by rfl) (pgs_cons (pg_name (i := 4) sc_readprogram.nd rfl (Or.inl rfl)) (pgs_cons (pg_name (i := 5) sc_readprogram.nd rfl (Or.inl rfl)) pgs_nil))) (pss_one (ps_if (pt_cmpR op_eq (pv 5) (pe_glob (v := .str "thread") (by rfl) h_HEAD ⟨_, rfl⟩) (nomark _)) (pss_cons (ps_if (pt_cmpR op_eq (pe_callB call_len_seq (by rfl) T.z_len PySem.boot_len (pa_cons (pv 2) pa_nil)) (pe_glob (v := .int 4) (by rfl) h_MOST_THREADS ⟨_, rfl⟩) (nomark _)) (pss_one ps_never) pss_nil)
      (pss_cons (ps_expr (pe_bm PySem.F.plainAttrs_list PySem.F.slot_list_append PySem.F.type_list_append mt_append (pv 2) (pa_cons (pe_lst pa_nil) pa_nil)))
      (pss_one (ps_set (i := 3) sc_readprogram.nd rfl (Or.inl rfl) (pe_call G_rowsbehind hr_rowsbehind (by rfl) T.m_rowsbehind T.F_rowsbehind.kp T.b_rowsbehind .nil pass0 (pa_cons (pv 1) (pa_cons (pv 4) pa_nil))))))) (pss_cons (ps_set (i := 6) sc_readprogram.nd rfl (Or.inl rfl) (pe_call G_rowof hr_rowof (by rfl) T.m_rowof T.F_rowof.kp T.b_rowof .nil pass0 (pa_cons (pv 5) pa_nil)))
      (pss_cons (ps_if (PW.pt (pw_or (pt_cmpR op_isN (pv 6) pe_non (nomark _)) (pw_or (pt_not (pt_truth (pv 2) (by intro _; rfl))) (pw_or (pt_cmpR op_eq (pe_callB call_len_seq (by rfl) T.z_len PySem.boot_len (pa_cons (pe_ix ix_list (pv 2) (pe_un un_neg pe_int) (fun _ _ => rfl)) pa_nil)) (pe_glob (v := .int 40) (by rfl) h_MOST_ROWS ⟨_, rfl⟩) (nomark _)) (pw_or1 (pt_not (pt_val (pe_call G_goeswithin hr_goeswithin (by rfl) T.m_goeswithin T.F_goeswithin.kp T.b_goeswithin .nil pass0 (pa_cons (pv 6) (pa_cons (pv 3) pa_nil)))))))))) (pss_one ps_never) pss_nil)
      (pss_one (ps_expr (pe_bm PySem.F.plainAttrs_list PySem.F.slot_list_append PySem.F.type_list_append mt_append (pe_ix ix_list (pv 2) (pe_un un_neg pe_int) (fun _ _ => rfl)) (pa_cons (pv 6) pa_nil)))))))))
      (pss_one (ps_ret (pe_callTy call_tuple_of (by rfl) T.z_tuple (by decide +kernel) (pa_cons (pe_lc (own := [("rows", 7)]) (g := (gName 7)) (tt := tYes) (te := (tCB (fun xs H Q => ∃ p ys, xs = [V.ref p] ∧ ((SqL K H p ys ∧ ∀ l, H l = none → Q (.ref l) (upd H l (.tup ys))) ∨ (SqT K H p ys ∧ Q (.ref p) H))) (tCons (tVar 7) tNil))) (by rfl) sc_readprogram.nd (pi_list (pv 2)) (blkOk_by (own := [("rows", 7)]) (N := N_readprogram) (sc := defScope s_readprogram) (by decide +kernel)) (fun _ _ _ _ _ => (pg_name (i := 7) sc_readprogram.nd rfl (Or.inl rfl))) (fun _ _ _ _ _ => pts_nil) (fun _ _ _ _ _ => (pe_callTy call_tuple_of (by rfl) T.z_tuple (by decide +kernel) (pa_cons (pv 7) pa_nil)))) pa_nil)))))))), ?_⟩
    obtain ⟨sl1, sl2⟩ := split_lens z "\n" (by rw [show TL.tl ("\n" : Str) = [10] from cp_line]; simp) (by decide +kernel)
    have eR : readP z = readL 0 0 [] (Txt.split z "\n") := rfl
    rw [eR] at eP
    generalize eL : Txt.split z "\n" = L at *
    refine ⟨fun σ' H' => ∃ tl : Addr, σ' = [some (.str z), some (.ref tl), none, none, none, none, none, none] ∧ Same H H' ∧ H tl = none ∧ H' tl = some (.lst (L.map V.str)), ?_, ?_⟩
    · refine ⟨_, rfl, ⟨_, rfl⟩, _, _, rfl, rfl, by decide +kernel, Nat.le_trans (show z.length + 2 ≤ 8000000 by omega) (by decide), fun l hl => ?_⟩
      refine ⟨l, rfl, Same.new hl, hl, ?_⟩
      rw [upd_same, eL]
    rintro _ H1 ⟨tl, rfl, s1, ntl, htl⟩
    refine ⟨Nat.zero_le _, fun th hth => ?_⟩
    have s2 : Same H (upd H1 th (.lst [])) := s1.trans (Same.new hth)
    have nth : H th = none := s1.free hth
    have ntt : th ≠ tl := (ne_of_none htl hth).symm
    have htl2 := (Same.new (o := .lst []) hth) _ _ htl
    refine ⟨_, rfl, tl, _, rfl, SqL.of htl2, for_it (walk_enum (xs := L.map V.str)) (fun i σ' H' => ∃ (many : Nat) (y4 y5 y6 : Option V) (all : List V) (thr : List (List Rw)),
        σ' = [some (.str z), some (.ref tl), some (.ref th), some (.int (many : Int)), y4, y5, y6, none] ∧ Same H H' ∧ H' tl = some (.lst (L.map V.str)) ∧ H' th = some (.lst all) ∧ All2 (LtV H H' th tl) all thr ∧ all.Nodup ∧ readL 0 0 [] L = readL i many thr (L.drop i) ∧ thr.length ≤ 4 ∧ ∀ t ∈ thr, t.length ≤ 40)
      ⟨0, none, none, none, [], [], rfl, s2, htl2, upd_same, trivial, List.nodup_nil, rfl, Nat.zero_le _, (fun _ h => nomatch h)⟩ (fun i σ' H' _ h => ?_) ?_ ?_⟩
    · obtain ⟨many, y4, y5, y6, all, thr, rfl, sm, h1, _⟩ := h
      exact SqL.of h1
    · rintro i x _ H2 H3 hi ⟨many, y4, y5, y6, all, thr, rfl, sm, htl', hth', hA, hnd, hrd, h4, h40⟩ ⟨t2, u, v, rfl, nt, rfl, gu, gv⟩
      dsimp only at gu gv
      obtain rfl := Option.some.inj gu
      rw [List.length_map] at hi
      rw [List.getElem?_map, List.getElem?_eq_getElem hi] at gv
      obtain rfl := Option.some.inj gv
      have sT : Same H2 (upd H2 t2 (.tup [.int ((i : Nat) : Int), .str L[i]])) := Same.new nt
      refine ⟨t2, _, rfl, SqT.of upd_same, rfl, _, _, rfl, _, _, rfl, rfl, ?_⟩
      generalize (upd H2 t2 (.tup [.int ((i : Nat) : Int), .str L[i]])) = H4 at sT
      have s4 := sm.trans sT
      have htl4 := sT _ _ htl'
      have hth4 := sT _ _ hth'
      have keep : ∀ {G : Hp}, (∀ x vs, H x = none → x ≠ th → x ≠ tl → H2 x = some (.lst vs) → G x = some (.lst vs)) → TKp H2 G → ∀ v rs, LtV H H2 th tl v rs → LtV H G th tl v rs := fun kx kt v rs => by
        rintro ⟨x, vs, e, h1, h2, h3, h4, h5⟩
        exact ⟨x, vs, e, kx x vs h3 h4 h5 h1, h2.mono fun _ _ z => z.keep kt, h3, h4, h5⟩
      have dc : L.drop i = L[i] :: L.drop (i + 1) := List.drop_eq_getElem_cons hi
      have lA := hA.len
      rw [dc] at hrd
      refine ⟨_, rfl, rfl, _, rfl, ?_⟩
      by_cases hh : L[i] = "thread"
      · -- a head
        rw [decide_eq_true (by rw [hh])]
        have hrd2 : readL 0 0 [] L = if thr.length = 4 then .inl i else readL (i + 1) (rbeh (L.drop (i + 1))) (thr ++ [[]]) (L.drop (i + 1)) := by
          rw [hrd]
          show (if L[i] = "thread" then _ else _) = _
          rw [if_pos hh]
        refine iteT ⟨_, rfl, _, _, rfl, .inl (SqL.of hth4), rfl, _, rfl, ?_⟩
        by_cases h4e : thr.length = 4
        · rw [decide_eq_true (show V.int ((all.length : Nat) : Int) = V.int 4 by rw [lA, h4e]; rfl)]
          rw [if_pos h4e] at hrd2
          rw [hrd2] at eP
          cases eP
        rw [decide_eq_false (show ¬ V.int ((all.length : Nat) : Int) = V.int 4 from fun z => by have := V.int.inj z; omega)]
        rw [if_neg h4e] at hrd2
        refine iteF ⟨_, rfl, .inl ⟨rfl, _, SqL.of hth4⟩, Nat.zero_le _, fun x nx => ?_⟩
        have s5 : Same H4 (upd H4 x (.lst [])) := Same.new nx
        have e5 : (upd H4 x (.lst [])) x = some (.lst []) := upd_same
        generalize (upd H4 x (.lst [])) = H5 at s5 e5
        refine ⟨th, all, _, rfl, rfl, s5 _ _ hth4, small1000 (by omega), ?_⟩
        have hth5 := s5 _ _ hth4
        have nxh : H x = none := (s4).free nx
        have nxth : x ≠ th := (ne_of_none hth4 nx).symm
        have nxtl : x ≠ tl := (ne_of_none htl4 nx).symm
        have s6 : Same H (upd H5 th (.lst (all ++ [.ref x]))) := Same.mut (s4.trans s5) nth
        have htl6 : (upd H5 th (.lst (all ++ [.ref x]))) tl = some (.lst (L.map V.str)) := (upd_ne ntt.symm).trans (s5 _ _ htl4)
        have hth6 : (upd H5 th (.lst (all ++ [.ref x]))) th = some (.lst (all ++ [.ref x])) := upd_same
        have e6 : (upd H5 th (.lst (all ++ [.ref x]))) x = some (.lst []) := (upd_ne nxth).trans e5
        have k6 : TKp H2 (upd H5 th (.lst (all ++ [.ref x]))) := (TKp.same (sT.trans s5)).trans (TKp.updL hth5)
        have kx : ∀ y vs, H y = none → y ≠ th → y ≠ tl → H2 y = some (.lst vs) → (upd H5 th (.lst (all ++ [.ref x]))) y = some (.lst vs) := fun y vs _ h2 _ h4 => (upd_ne h2).trans (s5 _ _ (sT _ _ h4))
        generalize (upd H5 th (.lst (all ++ [.ref x]))) = H6 at s6 htl6 hth6 e6 k6 kx
        obtain ⟨ca, cb, ec, hca, hcb, hcl⟩ := rbeh_cut (L.drop (i + 1))
        refine ⟨_, rfl, _, rfl, tl, i, L, ca, cb, rfl, SqL.of htl6, hi, by omega, ec, hca, hcb, ?_⟩
        refine ⟨ca.length, _, _, _, all ++ [.ref x], thr ++ [[]], rfl, s6, htl6, hth6, (hA.mono (keep kx k6)).snoc ⟨x, [], rfl, e6, trivial, nxh, nxth, nxtl⟩, ?_, by rw [hrd2, hcl], ?_, fun t ht => ?_⟩
        · rw [List.nodup_append]
          refine ⟨hnd, by simp, fun a ha b hb => ?_⟩
          rw [List.mem_singleton] at hb
          rw [hb]
          obtain ⟨rs', _, y, vs, e, h1, _⟩ := hA.mem ha
          rw [e]
          intro z
          have z2 := V.ref.inj z
          rw [z2] at h1
          rw [sT _ _ h1] at nx
          cases nx
        · rw [List.length_append, List.length_singleton]
          omega
        · rcases List.mem_append.mp ht with h | h
          · exact h40 t h
          · rw [List.mem_singleton.mp h]
            exact Nat.zero_le _
      · -- a row
        rw [decide_eq_false (fun z => hh (V.str.inj z))]
        have hrd2 : readL 0 0 [] L = match rowOf L[i] with
            | none => .inl i
            | some row => if thr = [] ∨ (thr.getLastD []).length = 40 ∨ goesB many row = false then .inl i else readL (i + 1) many (addLast thr row) (L.drop (i + 1)) := by
          rw [hrd]
          show (if L[i] = "thread" then _ else _) = _
          rw [if_neg hh]
          all_goals (cases rowOf L[i] <;> rfl)
        have hwl : L[i].length ≤ 7900000 := by
          have := sl2 _ (List.getElem_mem hi)
          omega
        refine iteF ⟨_, rfl, L[i], rfl, hwl, fun H5 rv s5 hrv => ?_⟩
        have hth5 := s5 _ _ hth4
        refine ⟨_, rfl, rfl, _, rfl, ?_⟩
        cases ero : rowOf L[i] with
        | none =>
          rw [ero] at hrv hrd2
          rw [decide_eq_true (show rv = .non from hrv)]
          rw [hrd2] at eP
          cases eP
        | some r =>
          rw [ero] at hrv hrd2
          have hrv : RwV H5 rv r := hrv
          have hro := (rowOf_facts ero).1
          have hrn : rv ≠ .non := by
            obtain ⟨t, _, e, _⟩ := hrv
            rw [e]
            exact fun z => nomatch z
          rw [decide_eq_false hrn]
          refine iteF ⟨_, rfl, _, .inl ⟨_, SqL.of hth5, rfl⟩, ?_⟩
          rcases List.eq_nil_or_concat thr with et | ⟨d, b, et⟩
          · have ea : all = [] := List.eq_nil_of_length_eq_zero (by rw [lA, et]; rfl)
            rw [ea]
            have hrd3 : readL 0 0 [] L = .inl i := by
              rw [hrd2]
              exact if_pos (.inl et)
            rw [hrd3] at eP
            cases eP
          have et : thr = d ++ [b] := by simpa using et
          subst et
          obtain ⟨us, lv, rfl, hU, x, vs, rfl, hx, hV, nx, nxth, nxtl⟩ := hA.split
          have hx5 : H5 x = some (.lst vs) := s5 _ _ (sT _ _ hx)
          have lV := hV.len
          have hat : atI (us ++ [V.ref x]) (-1) = some (.ref x) := atI_last _ _
          have hb40 : b.length ≤ 40 := h40 b (List.mem_append_right _ List.mem_cons_self)
          have hgl : (d ++ [b]).getLastD [] = b := last_snoc d b
          rw [show (us ++ [V.ref x]).isEmpty = false by cases us <;> rfl]
          refine iteF ⟨_, rfl, _, rfl, _, _, _, _, rfl, rfl, SqL.of hth5, hat, _, _, rfl, .inl (SqL.of hx5), rfl, _, rfl, ?_⟩
          by_cases h40e : b.length = 40
          · rw [decide_eq_true (show V.int ((vs.length : Nat) : Int) = V.int 40 by rw [lV, h40e]; rfl)]
            have hrd3 : readL 0 0 [] L = .inl i := by
              rw [hrd2]
              exact if_pos (.inr (.inl (by rw [hgl]; exact h40e)))
            rw [hrd3] at eP
            cases eP
          rw [decide_eq_false (show ¬ V.int ((vs.length : Nat) : Int) = V.int 40 from fun z => by have := V.int.inj z; omega)]
          refine iteF ⟨_, rfl, _, rfl, many, BIG, rv, r, rfl, hrv, hro, _, rfl, ?_⟩
          cases eg : goesB many r with
          | false =>
            have hrd3 : readL 0 0 [] L = .inl i := by
              rw [hrd2]
              exact if_pos (.inr (.inr eg))
            rw [hrd3] at eP
            cases eP
          | true =>
            refine iteF ?_
            have hrd3 : readL 0 0 [] L = readL (i + 1) many (d ++ [b ++ [r]]) (L.drop (i + 1)) := by
              rw [hrd2, ← addLast_snoc]
              refine if_neg ?_
              rintro (h | h | h)
              · cases d <;> cases h
              · rw [hgl] at h
                exact h40e h
              · rw [eg] at h
                cases h
            refine ⟨_, rfl, _, rfl, _, _, _, _, rfl, rfl, SqL.of hth5, hat, .inl ⟨rfl, _, SqL.of hx5⟩, _, rfl, x, vs, _, rfl, rfl, hx5, small1000 (by omega), ?_⟩
            have k5 : TKp H5 (upd H5 x (.lst (vs ++ [rv]))) := TKp.updL hx5
            have k6 : TKp H2 (upd H5 x (.lst (vs ++ [rv]))) := (TKp.same (sT.trans s5)).trans k5
            refine ⟨many, _, _, _, us ++ [.ref x], d ++ [b ++ [r]], rfl, Same.mut (s4.trans s5) nx, (upd_ne nxtl.symm).trans (s5 _ _ htl4), (upd_ne nxth.symm).trans hth5, ?_, hnd, hrd3, ?_, fun t ht => ?_⟩
            · have hne : ∀ v ∈ us, v ≠ .ref x := by
                rw [List.nodup_append] at hnd
                exact fun v hv => hnd.2.2 v hv _ (List.mem_singleton.mpr rfl)
              have hU2 : All2 (LtV H (upd H5 x (.lst (vs ++ [rv]))) th tl) us d := by
                have key : ∀ {us : List V} {d : List (List Rw)}, (∀ v ∈ us, v ≠ .ref x) → All2 (LtV H H2 th tl) us d → All2 (LtV H (upd H5 x (.lst (vs ++ [rv]))) th tl) us d := by
                  intro us
                  induction us with
                  | nil =>
                    intro d _ h
                    cases d with
                    | nil => trivial
                    | cons a r => exact h.elim
                  | cons v us ih =>
                    intro d hv h
                    cases d with
                    | nil => exact h.elim
                    | cons a r =>
                      refine ⟨?_, ih (fun w hw => hv w (List.mem_cons_of_mem _ hw)) h.2⟩
                      obtain ⟨y, ws, e, h1, h2, h3, h4, h5⟩ := h.1
                      have hy : y ≠ x := fun z => hv v List.mem_cons_self (by rw [e, z])
                      exact ⟨y, ws, e, (upd_ne hy).trans (s5 _ _ (sT _ _ h1)), h2.mono fun _ _ z => z.keep k6, h3, h4, h5⟩
                exact key hne hU
              exact hU2.snoc ⟨x, vs ++ [rv], rfl, upd_same, (hV.mono fun _ _ z => z.keep k6).snoc (hrv.keep k5), nx, nxth, nxtl⟩
            · rw [List.length_append, List.length_singleton] at h4 ⊢
              exact h4
            · rcases List.mem_append.mp ht with h | h
              · exact h40 t (List.mem_append_left _ h)
              · rw [List.mem_singleton.mp h, List.length_append, List.length_singleton]
                omega
    · rintro _ H2 ⟨many, y4, y5, y6, all, thr, rfl, sm, htl', hth', hA, hnd, hrd, h4, h40⟩
      rw [List.length_map, List.drop_length] at hrd
      have lA := hA.len
      refine ⟨_, rfl, th, rfl, ⟨_, SqL.of hth'⟩, fun D nD => ?_⟩
      refine lc_list (K := K) (a := th) (xs := all) (fun i H' => ∃ ws : List V, Same H2 H' ∧ H' D = some (.lst ws) ∧ All2 (ThV H') ws (thr.take i)) ⟨[], Same.new nD, upd_same, trivial⟩ (fun i H' _ ⟨_, h, _⟩ => SqL.of (h _ _ hth')) ?_ ?_
      · rintro i x H3 hx ⟨ws, s3, hD, hW⟩
        obtain ⟨rs, hrs, y, vs, rfl, hy, hV, _⟩ := hA.get hx
        refine ⟨rfl, _, rfl, y, vs, rfl, .inl ⟨SqL.of (s3 _ _ hy), fun t ht => ?_⟩⟩
        have st : Same H3 (upd H3 t (.tup vs)) := Same.new ht
        have et : (upd H3 t (.tup vs)) t = some (.tup vs) := upd_same
        generalize (upd H3 t (.tup vs)) = H4 at st et
        have hD4 := st _ _ hD
        have kk : TKp H4 (upd H4 D (.lst (ws ++ [.ref t]))) := TKp.updL hD4
        have lw := hW.len
        rw [List.length_take] at lw
        refine ⟨ws, hD4, small1000 (by omega), ws ++ [.ref t], Same.mut (s3.trans st) nD, upd_same, ?_⟩
        rw [List.take_add_one, hrs]
        exact (hW.mono fun _ _ z => z.keep ((TKp.same st).trans kk)).snoc ⟨t, vs, rfl, kk _ _ et, hV.mono fun _ _ z => z.keep ((TKp.same (s3.trans st)).trans kk)⟩
      · rintro H3 ⟨ws, s3, hD, hW⟩
        rw [lA, List.take_length] at hW
        refine ⟨D, ws, rfl, .inl ⟨SqL.of hD, fun t ht => ?_⟩⟩
        have st : Same H3 (upd H3 t (.tup ws)) := Same.new ht
        rw [hrd] at eP
        obtain rfl := Sum.inr.inj eP
        exact q _ _ ((sm.trans s3).trans st) ⟨t, ws, rfl, upd_same, hW.mono fun _ _ z => z.keep (TKp.same st)⟩
/-! What is read, written again; what is written, read again. -/
theorem back_worth {z : Str} {a : Int} (h : worthL (cp z) = some a) : Str.ofString (toString a) = z := by
  have wh : ∀ {l : List Nat} {b : Int}, wholeL l = some b → TL.numL b.toNat = l ∧ 0 ≤ b := by
    intro l b hb
    have nn := whole_nn hb
    unfold wholeL at hb
    split at hb
    · rename_i hd
      split at hb
      · cases hb
      · rename_i hz
        have e := Option.some.inj hb
        obtain ⟨h1, h2, h3⟩ := dig_all hd
        refine ⟨?_, nn.1⟩
        rw [← e]
        show TL.numL (NumText.digitsVal l) = l
        exact back_num l.length l rfl h1 h2 fun hh => Decidable.byContradiction fun hn => hz ⟨hh, hn⟩
    · cases hb
  unfold worthL at h
  refine cp_ext ?_
  split at h
  · rename_i h45
    split at h
    · cases h
    · rename_i hm0
      cases e : wholeL ((cp z).drop 1) with
      | none =>
        rw [e] at h
        cases h
      | some b =>
        rw [e] at h
        have h2 : (if -32768 ≤ -b ∧ -b ≤ 32767 then some (-b) else none) = some a := h
        split at h2
        · obtain rfl := Option.some.inj h2
          obtain ⟨w1, w2⟩ := wh e
          have hz : cp z = 45 :: (cp z).drop 1 := by
            cases ez : cp z with
            | nil =>
              rw [ez] at h45
              cases h45
            | cons c r =>
              rw [ez] at h45
              rw [show c = 45 from Option.some.inj h45]
              rfl
          have hb0 : b ≠ 0 := by
            intro z0
            rw [z0] at w1
            apply hm0
            rw [hz, ← w1]
            rfl
          obtain ⟨k, hk⟩ : ∃ k : Nat, b = ((k + 1 : Nat) : Int) := ⟨b.toNat - 1, by omega⟩
          rw [hk, show -(((k + 1 : Nat) : Nat) : Int) = Int.negSucc k from rfl, cp_neg, hz]
          rw [hk] at w1
          rw [← w1]
          rfl
        · cases h2
  · cases e : wholeL (cp z) with
    | none =>
      rw [e] at h
      cases h
    | some b =>
      rw [e] at h
      have h2 : (if -32768 ≤ b ∧ b ≤ 32767 then some b else none) = some a := h
      split at h2
      · obtain rfl := Option.some.inj h2
        obtain ⟨w1, w2⟩ := wh e
        obtain ⟨k, rfl⟩ := Int.eq_ofNat_of_zero_le w2
        rw [cp_nat]
        exact w1
      · cases h2
theorem back_item (z : Str) : shV (itV z) = z := by
  unfold itV
  cases e : worthL (cp z) with
  | none => rfl
  | some a => exact back_worth e
theorem join_split (z y : Str) : Txt.join y (Txt.split z y) = z := by
  rw [TL.join_eq]
  exact PySem.StrLaws.join_split z y
theorem tgOf_back {c : Nat} {z : Str} {g : Tg} (h : tgOf c z = some g) : tgText g = z := by
  unfold tgOf at h
  split at h
  · split at h
    · rename_i h2
      obtain rfl := Option.some.inj h
      have h3 : (decide (z.length = 1) && decide (∀ c ∈ cp z, 97 ≤ c ∧ c ≤ 112)) = true := h2
      rw [Bool.and_eq_true] at h3
      obtain ⟨d, rfl⟩ := one_code (of_decide_eq_true h3.1)
      have := (of_decide_eq_true h3.2) d List.mem_cons_self
      show (⟨#[97 + (d - 97)]⟩ : Str) = ⟨#[d]⟩
      rw [show 97 + (d - 97) = d by omega]
    · cases h
  · split at h
    · split at h
      · obtain rfl := Option.some.inj h
        show Txt.join " " (((Txt.split z " ").map itV).map shV) = z
        rw [List.map_map]
        have e : (Txt.split z " ").map (shV ∘ itV) = Txt.split z " " := by
          have : ∀ l : List Str, l.map (shV ∘ itV) = l := by
            intro l
            induction l with
            | nil => rfl
            | cons a r ih =>
              rw [List.map_cons, ih]
              show shV (itV a) :: r = a :: r
              rw [back_item]
          exact this _
        rw [e, join_split]
      · cases h
    · cases e : wholeL (cp z) with
      | none =>
        rw [e] at h
        cases h
      | some a =>
        rw [e] at h
        obtain rfl := Option.some.inj h
        have nn := whole_nn e
        show Str.ofString (toString ((a.toNat : Nat) : Int)) = z
        refine cp_ext ?_
        rw [cp_nat]
        unfold wholeL at e
        split at e
        · rename_i hd
          split at e
          · cases e
          · rename_i hz
            have e := Option.some.inj e
            obtain ⟨h1, h2, h3⟩ := dig_all hd
            rw [← e]
            show TL.numL (NumText.digitsVal (cp z)) = cp z
            exact back_num (cp z).length (cp z) rfl h1 h2 fun hh => Decidable.byContradiction fun hn => hz ⟨hh, hn⟩
        · cases e
theorem tgs_back : ∀ {cs : List Nat} {zs : List Str} {gs : List Tg}, cs.length = zs.length → tgsOf cs zs = gs.map some → gs.map tgText = zs
  | [], [], [], _, _ => rfl
  | c :: cs, z :: zs, g :: gs, hl, h => by
    have h2 : tgOf c z :: tgsOf cs zs = some g :: gs.map some := h
    injection h2 with h3 h4
    rw [List.map_cons, tgOf_back h3, tgs_back (by simpa using hl) h4]
  | [], [], _ :: _, _, h => nomatch h
  | _ :: _, _ :: _, [], _, h => nomatch h
  | [], _ :: _, _, h, _ => nomatch h
  | _ :: _, [], _, h, _ => nomatch h
theorem rowOf_back {z : Str} {r : Rw} (h : rowOf z = some r) : rwText r = z := by
  obtain ⟨_, _, h3, h4, h5⟩ := rowOf_facts h
  unfold rwText
  rw [tgs_back h4.symm h3, join_split]
  exact h5.symm
theorem tgOf_text {m c : Nat} {g : Tg} (h : TgOk m c g) (hm : m < 1000000000) : tgOf c (tgText g) = some g := by
  unfold tgOf
  cases g with
  | re k =>
    obtain ⟨h1, h2⟩ := h
    rw [if_pos h1, if_pos (show ltV (.str (tgText (.re k))) = true from lt_lt k h2)]
    show some (Tg.re (97 + k - 97)) = some (.re k)
    rw [Nat.add_sub_cancel_left]
  | ex xs =>
    obtain ⟨h1, h2⟩ := h
    obtain ⟨its, rfl, hok, _⟩ := ex_items h2
    have hne : its ≠ [] := fun z => (exV_facts h2).2.2 (by rw [z]; rfl)
    have back : (Txt.split (tgText (.ex (its.map Im.toV))) " ").map itV = its.map Im.toV := show_back hok hne
    rw [if_neg (by omega), if_pos h1, back, if_pos h2]
  | kk n =>
    obtain ⟨h1, h2⟩ := h
    rw [if_neg (by omega), if_neg (by omega)]
    have e : wholeL (cp (tgText (.kk n))) = some ((n : Nat) : Int) := by
      show wholeL (cp (Str.ofString (toString ((n : Nat) : Int)))) = _
      rw [cp_nat]
      exact wholeL_num (by omega)
    rw [e]
    rfl
theorem tgs_text {m : Nat} (hm : m < 1000000000) : ∀ {cs : List Nat} {gs : List Tg}, TgsOk m cs gs → tgsOf cs (gs.map tgText) = gs.map some
  | [], [], _ => rfl
  | c :: cs, g :: gs, ⟨h, t⟩ => by
    show tgOf c (tgText g) :: tgsOf cs (gs.map tgText) = some g :: gs.map some
    rw [tgOf_text h hm, tgs_text hm t]
  | [], _ :: _, z => z.elim
  | _ :: _, [], z => z.elim
theorem some_any : ∀ gs : List Tg, (gs.map some).any (·.isNone) = false ∧ (gs.map some).filterMap id = gs
  | [] => ⟨rfl, rfl⟩
  | g :: gs => by
    obtain ⟨h1, h2⟩ := some_any gs
    exact ⟨by rw [List.map_cons, List.any_cons, h1]; rfl, by rw [List.map_cons]; show g :: (gs.map some).filterMap id = _; rw [h2]⟩
theorem rowOf_text {r : Rw} {m : Nat} (h : r.ok m) (hm : m ≤ 1000) : rowOf (rwText r) = some r := by
  have hl := h.2.len
  unfold rowOf
  rw [part_row h]
  dsimp only
  rw [split_row h hm, tgs_text (by omega) h.2, if_neg (by rw [List.length_map, hl]; exact fun z => z rfl), if_neg (by rw [(some_any r.tgs).1]; exact Bool.false_ne_true), (some_any r.tgs).2]
theorem shp_lastk : ∀ z ∈ wds, ∀ c ∈ (cp (shp z)).dropLast, c ≠ 107 := by decide +kernel
theorem tgs_goes {M m : Nat} : ∀ {cs : List Nat} {gs : List Tg}, TgsOk M cs gs → (∀ c ∈ cs.dropLast, c ≠ 107) → (∀ n, gs.getLast? = some (.kk n) → n ≤ m) → TgsOk m cs gs
  | [], [], _, _, _ => trivial
  | [c], [g], ⟨h, _⟩, _, hk => by
    refine ⟨?_, trivial⟩
    cases g with
    | re k => exact h
    | ex xs => exact h
    | kk n => exact ⟨h.1, hk n rfl⟩
  | c :: c2 :: cs, g :: g2 :: gs, ⟨h, t⟩, hd, hk => by
    refine ⟨?_, tgs_goes t (fun x hx => hd x (List.mem_cons_of_mem _ hx)) fun n e => hk n (by rw [List.getLast?_cons_cons]; exact e)⟩
    cases g with
    | re k => exact h
    | ex xs => exact h
    | kk n => exact absurd h.1 (hd c List.mem_cons_self)
  | [], _ :: _, z, _, _ => z.elim
  | _ :: _, [], z, _, _ => z.elim
  | [_], _ :: _ :: _, ⟨_, z⟩, _, _ => z.elim
  | _ :: _ :: _, [_], ⟨_, z⟩, _, _ => z.elim
theorem ok_goes {r : Rw} {M m : Nat} (h : r.ok M) (hg : goesB m r = true) : r.ok m := by
  refine ⟨h.1, tgs_goes h.2 (shp_lastk _ h.1) fun n e => ?_⟩
  unfold goesB at hg
  rw [e] at hg
  exact of_decide_eq_true hg
theorem goes_ok {r : Rw} {m : Nat} (h : r.ok m) : goesB m r = true := by
  unfold goesB
  cases e : r.tgs.getLast? with
  | none => rfl
  | some g =>
    cases g with
    | re k => rfl
    | ex xs => rfl
    | kk n =>
      obtain ⟨c, hc⟩ := h.2.mem (List.mem_of_getLast? e)
      exact decide_eq_true hc.2
theorem goes_mono {r : Rw} {m m' : Nat} (h : m' ≤ m) (hg : goesB m r = false) : goesB m' r = false := by
  unfold goesB at hg ⊢
  split
  · rename_i n e
    rw [e] at hg
    have := of_decide_eq_false hg
    exact decide_eq_false (by omega)
  · rename_i hn
    split at hg
    · rename_i n e
      exact absurd e (hn n)
    · cases hg
/-! Programs. -/
theorem prLines_addLast (d : List (List Rw)) (b : List Rw) (r : Rw) : prLines (d ++ [b ++ [r]]) = prLines (d ++ [b]) ++ [rwText r] := by
  rw [prLines_snoc, prLines_snoc]
  unfold thLines
  rw [List.map_append, List.append_assoc]
  rfl
theorem read_inv : ∀ (l : List Str) (i many : Nat) (thr ps : List (List Rw)), readL i many thr l = .inr ps → thr.length ≤ 4 →
    (thr = [] ∨ ∃ d b, thr = d ++ [b] ∧ (∀ t ∈ d, ThOk t) ∧ b.length ≤ 40 ∧ (∀ r ∈ b, r.ok many) ∧ many = b.length + rbeh l) →
    ps.length ≤ 4 ∧ (∀ t ∈ ps, ThOk t) ∧ prLines ps = prLines thr ++ l := by
  intro l
  have close : ∀ {many : Nat} {thr : List (List Rw)} {l : List Str}, rbeh l = 0 → (thr = [] ∨ ∃ d b, thr = d ++ [b] ∧ (∀ t ∈ d, ThOk t) ∧ b.length ≤ 40 ∧ (∀ r ∈ b, r.ok many) ∧ many = b.length + rbeh l) → ∀ t ∈ thr, ThOk t := by
    rintro many thr l h0 (rfl | ⟨d, b, rfl, h1, h2, h3, h4⟩) t ht
    · cases ht
    · rw [h0, Nat.add_zero] at h4
      rcases List.mem_append.mp ht with h | h
      · exact h1 t h
      · rw [List.mem_singleton.mp h]
        exact ⟨h2, fun r hr => by rw [← h4]; exact h3 r hr⟩
  induction l with
  | nil =>
    intro i many thr ps h h4 hi
    obtain rfl := Sum.inr.inj h
    exact ⟨h4, close rfl hi, (List.append_nil _).symm⟩
  | cons w l ih =>
    intro i many thr ps h h4 hi
    by_cases hw : w = "thread"
    · have h2 : (if thr.length = 4 then Sum.inl i else readL (i + 1) (rbeh l) (thr ++ [[]]) l) = .inr ps := by
        rw [← h]
        show _ = (if w = "thread" then _ else _)
        rw [if_pos hw]
      by_cases h4e : thr.length = 4
      · rw [if_pos h4e] at h2
        cases h2
      · rw [if_neg h4e] at h2
        have hr0 : rbeh (w :: l) = 0 := by
          unfold rbeh
          rw [if_pos hw]
        have := ih (i + 1) (rbeh l) (thr ++ [[]]) ps h2 (by rw [List.length_append, List.length_singleton]; omega) (.inr ⟨thr, [], rfl, close hr0 hi, Nat.zero_le _, (fun _ z => nomatch z), by rw [List.length_nil, Nat.zero_add]⟩)
        refine ⟨this.1, this.2.1, ?_⟩
        rw [this.2.2, prLines_snoc, hw]
        show prLines thr ++ [("thread" : Str)] ++ l = _
        rw [List.append_assoc]
        rfl
    · have hr1 : rbeh (w :: l) = rbeh l + 1 := by
        show (if w = "thread" then 0 else rbeh l + 1) = _
        rw [if_neg hw]
      cases er : rowOf w with
      | none =>
        have h2 : (Sum.inl i : Nat ⊕ List (List Rw)) = .inr ps := by
          rw [← h]
          show _ = (if w = "thread" then _ else _)
          rw [if_neg hw, er]
        cases h2
      | some row =>
        have h2 : (if thr = [] ∨ (thr.getLastD []).length = 40 ∨ goesB many row = false then Sum.inl i else readL (i + 1) many (addLast thr row) l) = .inr ps := by
          rw [← h]
          show _ = (if w = "thread" then _ else _)
          rw [if_neg hw, er]
        split at h2
        · cases h2
        · rename_i hn
          rcases hi with rfl | ⟨d, b, rfl, h1, hb, h3, hm⟩
          · exact absurd (.inl rfl) hn
          · rw [last_snoc] at hn
            rw [addLast_snoc] at h2
            have hg : goesB many row = true := by
              cases e : goesB many row with
              | true => rfl
              | false => exact absurd (.inr (.inr e)) hn
            have hb40 : b.length ≠ 40 := fun e => hn (.inr (.inl e))
            have := ih (i + 1) many (d ++ [b ++ [row]]) ps h2 (by rw [List.length_append, List.length_singleton] at h4 ⊢; exact h4) (.inr ⟨d, b ++ [row], rfl, h1, by rw [List.length_append, List.length_singleton]; omega, fun r hr => by
              rcases List.mem_append.mp hr with h | h
              · exact h3 r h
              · rw [List.mem_singleton.mp h]
                exact ok_goes (rowOf_facts er).1 hg, by rw [List.length_append, List.length_singleton]; omega⟩)
            refine ⟨this.1, this.2.1, ?_⟩
            rw [this.2.2, prLines_addLast, rowOf_back er, List.append_assoc]
            rfl
theorem split_ne (z y : Str) (hy : TL.tl y ≠ []) (hk : y.cps.all (· < 256) = true) : Txt.split z y ≠ [] := by
  intro e
  have := TL.split_spl z y hy (TL.kind_ok hk)
  rw [e] at this
  have k : ∀ (S : List Nat) (l acc : List Nat) (k : Nat), TL.spl S k acc l ≠ [] := by
    intro S l
    induction l with
    | nil =>
      intro acc k
      rw [TL.spl_nil]
      exact fun z => nomatch z
    | cons c r ih =>
      intro acc k
      cases k with
      | succ k => exact ih acc k
      | zero =>
        cases g : TL.pre S (c :: r) with
        | true =>
          rw [TL.spl_hit g]
          exact fun z => nomatch z
        | false =>
          rw [TL.spl_miss g]
          exact ih _ 0
  exact k _ _ _ _ this.symm
theorem readP_ok {z : Str} {ps : List (List Rw)} (h : readP z = .inr ps) : PrOk ps ∧ prText ps = z ∧ prLines ps = Txt.split z "\n" := by
  obtain ⟨h1, h2, h3⟩ := read_inv _ _ _ _ _ h (Nat.zero_le _) (.inl rfl)
  have h3 : prLines ps = Txt.split z "\n" := h3
  have hne := split_ne z "\n" (by rw [show TL.tl ("\n" : Str) = [10] from cp_line]; simp) (by decide +kernel)
  refine ⟨⟨?_, h1, h2⟩, ?_, h3⟩
  · cases ps with
    | nil => exact absurd h3.symm hne
    | cons a r => exact Nat.succ_le_succ (Nat.zero_le _)
  · unfold prText
    rw [h3, join_split]
theorem rbeh_rows {l : List Str} (hl : l = [] ∨ l.head? = some "thread") : ∀ rs : List Rw, rbeh (rs.map rwText ++ l) = rs.length
  | [] => by
    rcases hl with rfl | h
    · rfl
    · cases l with
      | nil => rfl
      | cons w r =>
        show (if w = "thread" then 0 else _) = 0
        rw [if_pos (Option.some.inj h)]
  | r :: rs => by
    show (if rwText r = "thread" then 0 else rbeh (rs.map rwText ++ l) + 1) = _
    rw [if_neg rw_head, rbeh_rows hl rs]
    rfl
theorem read_rows {m : Nat} (hm : m ≤ 1000) (l : List Str) (d : List (List Rw)) : ∀ (rs : List Rw) (i : Nat) (b : List Rw), b.length + rs.length ≤ 40 → (∀ r ∈ rs, r.ok m) → readL i m (d ++ [b]) (rs.map rwText ++ l) = readL (i + rs.length) m (d ++ [b ++ rs]) l
  | [], i, b, _, _ => by
    rw [List.append_nil]
    rfl
  | r :: rs, i, b, hb, ho => by
    rw [List.length_cons] at hb
    have h1 : readL i m (d ++ [b]) (rwText r :: (rs.map rwText ++ l)) = readL (i + 1) m (d ++ [b ++ [r]]) (rs.map rwText ++ l) := by
      show (if rwText r = "thread" then _ else _) = _
      rw [if_neg rw_head, rowOf_text (ho r List.mem_cons_self) hm]
      show (if _ then _ else _) = _
      rw [if_neg, addLast_snoc]
      rintro (h | h | h)
      · cases d <;> cases h
      · rw [last_snoc] at h
        omega
      · rw [goes_ok (ho r List.mem_cons_self)] at h
        cases h
    show readL i m (d ++ [b]) (rwText r :: (rs.map rwText ++ l)) = _
    rw [h1, read_rows hm l d rs (i + 1) (b ++ [r]) (by rw [List.length_append, List.length_singleton]; omega) fun x hx => ho x (List.mem_cons_of_mem _ hx), List.length_cons, List.append_assoc]
    show readL (i + 1 + rs.length) m (d ++ [b ++ (r :: rs)]) l = _
    rw [show i + 1 + rs.length = i + (rs.length + 1) by omega]
theorem read_threads (l : List Str) (hl : l = [] ∨ l.head? = some "thread") : ∀ (ps : List (List Rw)) (i many : Nat) (thr : List (List Rw)), thr.length + ps.length ≤ 4 → (∀ t ∈ ps, ThOk t) → ∃ many', readL i many thr (prLines ps ++ l) = readL (i + (prLines ps).length) many' (thr ++ ps) l
  | [], i, many, thr, _, _ => ⟨many, by rw [List.append_nil]; rfl⟩
  | a :: ps, i, many, thr, h4, ho => by
    rw [List.length_cons] at h4
    have ha := ho a List.mem_cons_self
    have hl2 : prLines ps ++ l = [] ∨ (prLines ps ++ l).head? = some "thread" := by
      cases ps with
      | nil => exact hl
      | cons b r => exact .inr rfl
    have e : prLines (a :: ps) ++ l = ("thread" : Str) :: (a.map rwText ++ (prLines ps ++ l)) := by
      show (("thread" : Str) :: (a.map rwText ++ prLines ps)) ++ l = _
      rw [List.cons_append, List.append_assoc]
    have h1 : readL i many thr (("thread" : Str) :: (a.map rwText ++ (prLines ps ++ l))) = readL (i + 1) a.length (thr ++ [[]]) (a.map rwText ++ (prLines ps ++ l)) := by
      show (if ("thread" : Str) = "thread" then _ else _) = _
      rw [if_pos rfl, if_neg (by omega), rbeh_rows hl2 a]
    obtain ⟨m2, h2⟩ := read_threads l hl ps (i + 1 + a.length) a.length (thr ++ [a]) (by rw [List.length_append, List.length_singleton]; omega) fun t ht => ho t (List.mem_cons_of_mem _ ht)
    refine ⟨m2, ?_⟩
    rw [e, h1, read_rows (by have := ha.1; omega) _ _ a (i + 1) [] (by rw [List.length_nil, Nat.zero_add]; exact ha.1) ha.2, List.nil_append, h2, List.append_assoc]
    have e2 : (prLines (a :: ps)).length = a.length + 1 + (prLines ps).length := by
      show (("thread" : Str) :: (a.map rwText ++ prLines ps)).length = _
      rw [List.length_cons, List.length_append, List.length_map]
      omega
    rw [e2, show i + 1 + a.length + (prLines ps).length = i + (a.length + 1 + (prLines ps).length) by omega]
    rfl
theorem readP_text {ps : List (List Rw)} (h : PrOk ps) : readP (prText ps) = .inr ps := by
  unfold readP
  rw [split_prog h]
  obtain ⟨m, e⟩ := read_threads [] (.inl rfl) ps 0 0 [] (by rw [List.length_nil, Nat.zero_add]; exact h.2.1) h.2.2
  rw [List.append_nil] at e
  rw [e]
  rfl
/-! Where a text is refused: its rows up to there, and ahead of it. -/
theorem rbeh_take {tail : List Str} (ht : tail = [] ∨ tail.head? = some "thread") : ∀ (l : List Str) (k : Nat), rbeh (l.take k ++ tail) ≤ rbeh l := by
  have h0 : rbeh tail = 0 := by
    rcases ht with rfl | h
    · rfl
    · cases tail with
      | nil => rfl
      | cons w r =>
        show (if w = "thread" then 0 else _) = 0
        rw [if_pos (Option.some.inj h)]
  intro l
  induction l with
  | nil =>
    intro k
    rw [List.take_nil, List.nil_append, h0]
    exact Nat.zero_le _
  | cons w r ih =>
    intro k
    cases k with
    | zero =>
      rw [List.take_zero, List.nil_append, h0]
      exact Nat.zero_le _
    | succ k =>
      show (if w = "thread" then 0 else rbeh (r.take k ++ tail) + 1) ≤ (if w = "thread" then 0 else rbeh r + 1)
      split
      · exact Nat.le_refl _
      · exact Nat.succ_le_succ (ih k)
theorem read_head (i many : Nat) (thr : List (List Rw)) (r : List Str) {w : Str} (h : w = "thread") : readL i many thr (w :: r) = if thr.length = 4 then .inl i else readL (i + 1) (rbeh r) (thr ++ [[]]) r := by
  show (if w = "thread" then _ else _) = _
  rw [if_pos h]
theorem read_none (i many : Nat) (thr : List (List Rw)) (r : List Str) {w : Str} (h : w ≠ "thread") (h2 : rowOf w = none) : readL i many thr (w :: r) = .inl i := by
  show (if w = "thread" then _ else _) = _
  rw [if_neg h, h2]
theorem read_row (i many : Nat) (thr : List (List Rw)) (r : List Str) {w : Str} {row : Rw} (h : w ≠ "thread") (h2 : rowOf w = some row) : readL i many thr (w :: r) = if thr = [] ∨ (thr.getLastD []).length = 40 ∨ goesB many row = false then .inl i else readL (i + 1) many (addLast thr row) r := by
  show (if w = "thread" then _ else _) = _
  rw [if_neg h, h2]
theorem read_at : ∀ (l : List Str) (i many : Nat) (thr : List (List Rw)) (n : Nat), readL i many thr l = .inl n → i ≤ n ∧ n < i + l.length := by
  intro l
  induction l with
  | nil =>
    intro i many thr n h
    cases h
  | cons w r ih =>
    intro i many thr n h
    have here : (Sum.inl i : Nat ⊕ List (List Rw)) = .inl n → i ≤ n ∧ n < i + (w :: r).length := fun e => by
      have := Sum.inl.inj e
      rw [List.length_cons]
      omega
    have there : ∀ m t, readL (i + 1) m t r = .inl n → i ≤ n ∧ n < i + (w :: r).length := fun m t e => by
      have := ih (i + 1) m t n e
      rw [List.length_cons]
      omega
    by_cases hw : w = "thread"
    · rw [read_head _ _ _ _ hw] at h
      split at h
      · exact here h
      · exact there _ _ h
    · cases er : rowOf w with
      | none =>
        rw [read_none _ _ _ _ hw er] at h
        exact here h
      | some row =>
        rw [read_row _ _ _ _ hw er] at h
        split at h
        · exact here h
        · exact there _ _ h
/-- the rows up to the refused one, and a tail: refused there or earlier -/
theorem read_upto {tail : List Str} (ht : tail = [] ∨ tail.head? = some "thread") : ∀ (l : List Str) (i many many' : Nat) (thr : List (List Rw)) (n : Nat), many' ≤ many → readL i many thr l = .inl n → ∃ m, readL i many' thr (l.take (n + 1 - i) ++ tail) = .inl m ∧ m ≤ n := by
  intro l
  induction l with
  | nil =>
    intro i many many' thr n _ h
    cases h
  | cons w r ih =>
    intro i many many' thr n hm h
    have hin := (read_at _ _ _ _ _ h).1
    rw [show n + 1 - i = (n - i) + 1 by omega, List.take_succ_cons, List.cons_append]
    have e2 : n + 1 - (i + 1) = n - i := by omega
    by_cases hw : w = "thread"
    · rw [read_head _ _ _ _ hw] at h ⊢
      by_cases h4 : thr.length = 4
      · rw [if_pos h4]
        exact ⟨i, rfl, hin⟩
      · rw [if_neg h4] at h ⊢
        have := ih (i + 1) (rbeh r) (rbeh (r.take (n - i) ++ tail)) (thr ++ [[]]) n (rbeh_take ht r _) h
        rw [e2] at this
        exact this
    · cases er : rowOf w with
      | none =>
        rw [read_none _ _ _ _ hw er]
        exact ⟨i, rfl, hin⟩
      | some row =>
        rw [read_row _ _ _ _ hw er] at h ⊢
        by_cases hc : thr = [] ∨ (thr.getLastD []).length = 40 ∨ goesB many' row = false
        · rw [if_pos hc]
          exact ⟨i, rfl, hin⟩
        · rw [if_neg hc]
          have hc2 : ¬ (thr = [] ∨ (thr.getLastD []).length = 40 ∨ goesB many row = false) := by
            rintro (z | z | z)
            · exact hc (.inl z)
            · exact hc (.inr (.inl z))
            · exact hc (.inr (.inr (goes_mono hm z)))
          rw [if_neg hc2] at h
          have := ih (i + 1) many many' (addLast thr row) n hm h
          rw [e2] at this
          exact this
/-- the rows ahead of the refused one: read, or refused earlier -/
theorem read_ahead : ∀ (l : List Str) (i many many' : Nat) (thr : List (List Rw)) (n : Nat), many' ≤ many → readL i many thr l = .inl n → (∃ ps, readL i many' thr (l.take (n - i)) = .inr ps) ∨ ∃ m, readL i many' thr (l.take (n - i)) = .inl m ∧ i ≤ m ∧ m < n := by
  intro l
  induction l with
  | nil =>
    intro i many many' thr n _ h
    cases h
  | cons w r ih =>
    intro i many many' thr n hm h
    have hin := (read_at _ _ _ _ _ h).1
    rcases Nat.eq_or_lt_of_le hin with e0 | hlt
    · rw [← e0, Nat.sub_self, List.take_zero]
      exact .inl ⟨thr, rfl⟩
    rw [show n - i = (n - (i + 1)) + 1 by omega, List.take_succ_cons]
    by_cases hw : w = "thread"
    · rw [read_head _ _ _ _ hw] at h ⊢
      by_cases h4 : thr.length = 4
      · rw [if_pos h4] at h
        have := Sum.inl.inj h
        omega
      · rw [if_neg h4] at h ⊢
        have hb := rbeh_take (tail := []) (.inl rfl) r (n - (i + 1))
        rw [List.append_nil] at hb
        rcases ih (i + 1) (rbeh r) (rbeh (r.take (n - (i + 1)))) (thr ++ [[]]) n hb h with h1 | ⟨m, h1, h2, h3⟩
        · exact .inl h1
        · exact .inr ⟨m, h1, by omega, h3⟩
    · cases er : rowOf w with
      | none =>
        rw [read_none _ _ _ _ hw er] at h
        have := Sum.inl.inj h
        omega
      | some row =>
        rw [read_row _ _ _ _ hw er] at h ⊢
        by_cases hc : thr = [] ∨ (thr.getLastD []).length = 40 ∨ goesB many' row = false
        · rw [if_pos hc]
          exact .inr ⟨i, rfl, Nat.le_refl _, hlt⟩
        · rw [if_neg hc]
          have hc2 : ¬ (thr = [] ∨ (thr.getLastD []).length = 40 ∨ goesB many row = false) := by
            rintro (z | z | z)
            · exact hc (.inl z)
            · exact hc (.inr (.inl z))
            · exact hc (.inr (.inr (goes_mono hm z)))
          rw [if_neg hc2] at h
          rcases ih (i + 1) many many' (addLast thr row) n hm h with h1 | ⟨m, h1, h2, h3⟩
          · exact .inl h1
          · exact .inr ⟨m, h1, by omega, h3⟩
theorem split_free (z : Str) : ∀ w ∈ Txt.split z "\n", 10 ∉ cp w := by
  have h := TL.split_spl z "\n" (by rw [show TL.tl ("\n" : Str) = [10] from cp_line]; simp) (TL.kind_ok (by decide +kernel))
  rw [show TL.tl ("\n" : Str) = [10] from cp_line] at h
  have key : ∀ (l acc : List Nat), 10 ∉ acc → ∀ w ∈ TL.spl [10] 0 acc l, 10 ∉ w := by
    intro l
    induction l with
    | nil =>
      intro acc ha w hw
      rw [TL.spl_nil, List.mem_singleton] at hw
      rw [hw]
      exact ha
    | cons c r ih =>
      intro acc ha
      cases hc : TL.pre [10] (c :: r) with
      | true =>
        rw [show TL.spl [10] 0 acc (c :: r) = acc :: TL.spl [10] 0 [] r from TL.spl_hit hc]
        intro w hw
        rcases List.mem_cons.mp hw with rfl | hw
        · exact ha
        · exact ih [] (fun z => nomatch z) w hw
      | false =>
        rw [TL.spl_miss hc]
        refine ih (acc ++ [c]) fun hm => ?_
        rcases List.mem_append.mp hm with h | h
        · exact ha h
        · rw [← List.mem_singleton.mp h] at hc
          exact absurd hc (by
            show ¬ (((10 : Nat) :: r).take 1 == [10]) = false
            simp)
  intro w hw
  exact key (TL.tl z) [] (fun z => nomatch z) (TL.tl w) (by rw [← h]; exact List.mem_map_of_mem hw)
theorem split_lines {L : List Str} (hne : L ≠ []) (h : ∀ w ∈ L, 10 ∉ cp w) : Txt.split (Txt.join "\n" L) "\n" = L :=
  TL.split_join (show TL.tl ("\n" : Str) = 10 :: [] from cp_line) (by decide +kernel) hne fun p hp => h p hp
theorem readP_lines {L : List Str} (hne : L ≠ []) (h : ∀ w ∈ L, 10 ∉ cp w) : readP (Txt.join "\n" L) = readL 0 0 [] L := by
  unfold readP
  rw [split_lines hne h]
/-- what the law asks of a refused text -/
theorem upto_right {z : Str} {n : Nat} (h : readP z = .inl n) {tail : List Str} (ht : tail = [] ∨ tail.head? = some "thread") (hf : ∀ w ∈ tail, 10 ∉ cp w) : ∃ m, readP (Txt.join "\n" ((Txt.split z "\n").take (n + 1) ++ tail)) = .inl m ∧ m ≤ n := by
  have hn := (read_at _ _ _ _ _ h).2
  rw [Nat.zero_add] at hn
  rw [readP_lines]
  · exact read_upto ht _ 0 0 0 [] n (Nat.le_refl _) h
  · intro e
    have := congrArg List.length e
    rw [List.length_append, List.length_take, List.length_nil] at this
    omega
  · intro w hw
    rcases List.mem_append.mp hw with h2 | h2
    · exact split_free z w (List.mem_of_mem_take h2)
    · exact hf w h2
theorem ahead_right {z : Str} {n : Nat} (h : readP z = .inl n) (h0 : 0 < n) : (∃ ps, readP (Txt.join "\n" ((Txt.split z "\n").take n)) = .inr ps) ∨ ∃ m, readP (Txt.join "\n" ((Txt.split z "\n").take n)) = .inl m ∧ 0 < m ∧ m < n := by
  have hn := (read_at _ _ _ _ _ h).2
  rw [Nat.zero_add] at hn
  have hne : (Txt.split z "\n").take n ≠ [] := by
    intro e
    have := congrArg List.length e
    rw [List.length_take, List.length_nil] at this
    omega
  rw [readP_lines hne fun w hw => split_free z w (List.mem_of_mem_take hw)]
  unfold readP at h
  generalize Txt.split z "\n" = L at *
  cases L with
  | nil => exact absurd (by rw [List.take_nil]) hne
  | cons w r =>
    by_cases hw : w = "thread"
    · rw [read_head _ _ _ _ hw, if_neg (by decide)] at h
      obtain ⟨k, rfl⟩ : ∃ k, n = k + 1 := ⟨n - 1, by omega⟩
      rw [List.take_succ_cons, read_head _ _ _ _ hw, if_neg (by decide)]
      have hb := rbeh_take (tail := []) (.inl rfl) r k
      rw [List.append_nil] at hb
      have := read_ahead r (0 + 1) (rbeh r) (rbeh (r.take k)) ([] ++ [[]]) (k + 1) hb h
      rw [show k + 1 - (0 + 1) = k by omega] at this
      rcases this with h1 | ⟨m, h1, h2, h3⟩
      · exact .inl h1
      · exact .inr ⟨m, h1, by omega, h3⟩
    · exfalso
      cases er : rowOf w with
      | none =>
        rw [read_none _ _ _ _ hw er] at h
        have := Sum.inl.inj h
        omega
      | some row =>
        rw [read_row _ _ _ _ hw er, if_pos (.inl rfl)] at h
        have := Sum.inl.inj h
        omega
/-- two programs' rows in one text -/
theorem prLines_app (a b : List (List Rw)) : prLines (a ++ b) = prLines a ++ prLines b := by
  unfold prLines
  rw [List.map_append, List.flatten_append]
theorem join_app (y : Str) {a b : List Str} (ha : a ≠ []) (hb : b ≠ []) : Txt.join y a ++ y ++ Txt.join y b = Txt.join y (a ++ b) := by
  refine TL.ext_tl ?_
  rw [TL.tl_append, TL.tl_append, TL.join_eq, TL.join_eq, TL.join_eq, TL.tl_join, TL.tl_join, TL.tl_join, List.map_append]
  have key : ∀ (S : List Nat) (p q : List (List Nat)), p ≠ [] → q ≠ [] → TL.joinL S p ++ S ++ TL.joinL S q = TL.joinL S (p ++ q) := by
    intro S p
    induction p with
    | nil =>
      intro q h
      exact absurd rfl h
    | cons x r ih =>
      intro q _ hq
      cases r with
      | nil =>
        cases q with
        | nil => exact absurd rfl hq
        | cons y s =>
          show x ++ S ++ TL.joinL S (y :: s) = x ++ (S ++ TL.joinL S (y :: s))
          rw [List.append_assoc]
      | cons y s =>
        show x ++ (S ++ TL.joinL S (y :: s)) ++ S ++ TL.joinL S q = x ++ (S ++ TL.joinL S (y :: s ++ q))
        have := ih q (by simp) hq
        rw [← this]
        simp only [List.append_assoc]
  exact key _ _ _ (by simpa using ha) (by simpa using hb)
theorem prLines_ne {ps : List (List Rw)} (h : PrOk ps) : prLines ps ≠ [] := fun e => by
  have := prLines_nil e
  rw [this] at h
  exact absurd h.1 (by decide)
theorem text_app {a b : List (List Rw)} (ha : PrOk a) (hb : PrOk b) : prText a ++ "\n" ++ prText b = prText (a ++ b) := by
  unfold prText
  rw [join_app "\n" (prLines_ne ha) (prLines_ne hb), prLines_app]
theorem both_many {a b : List (List Rw)} (ha : PrOk a) (hb : PrOk b) (h : 4 < (a ++ b).length) : readP (prText (a ++ b)) = .inl (prLines ((a ++ b).take 4)).length := by
  have hall : ∀ t ∈ a ++ b, ThOk t := fun t ht => by
    rcases List.mem_append.mp ht with h | h
    · exact ha.2.2 t h
    · exact hb.2.2 t h
  have hfree : ∀ w ∈ prLines (a ++ b), 10 ∉ cp w := fun w hw => by
    rw [prLines_app] at hw
    rcases List.mem_append.mp hw with h | h
    · exact fun z => (line_codes ha w h 10 z).1 rfl
    · exact fun z => (line_codes hb w h 10 z).1 rfl
  have hne : prLines (a ++ b) ≠ [] := fun e => by
    have := prLines_nil e
    rw [this] at h
    exact absurd h (by decide)
  unfold prText
  rw [readP_lines hne hfree]
  generalize a ++ b = ps at *
  cases ed : ps.drop 4 with
  | nil =>
    have := congrArg List.length ed
    rw [List.length_drop, List.length_nil] at this
    omega
  | cons t r =>
    have e : prLines ps = prLines (ps.take 4) ++ (("thread" : Str) :: (t.map rwText ++ prLines r)) := by
      have : ps = ps.take 4 ++ (t :: r) := by rw [← ed, List.take_append_drop]
      rw [congrArg prLines this, prLines_app]
      rfl
    rw [e]
    obtain ⟨m, h2⟩ := read_threads (("thread" : Str) :: (t.map rwText ++ prLines r)) (.inr rfl) (ps.take 4) 0 0 [] (by rw [List.length_nil, List.length_take]; omega) fun t ht => hall t (List.mem_of_mem_take ht)
    rw [h2, read_head _ _ _ _ rfl, if_pos (by rw [List.nil_append, List.length_take]; omega), Nat.zero_add]
theorem ok_lextext (T : Txt K w mg f fd ob) : FnOk P w K mg base CX0 1 (f 38) (fd 38) ["_law_e"] (sp_showexpression K) := by
  refine T.F_lextext.ok sc_lextext (fun vs H Q E h => ?_) (fun cdv A outer s H vs Q E hr h => ?_)
  · obtain ⟨t, xs, rfl, _⟩ := h
    rfl
  · obtain ⟨t, xs, rfl, ht, hx, hlen, hsz, q⟩ := h
    refine ⟨_, (pss_one (ps_ret (pe_join pe_str (pe_lc (own := [("_law_item_here", 1)]) (g := (gName 1)) (tt := tYes) (te := (tCB rStrV (tCons (tVar 1) tNil))) (by rfl) sc_lextext.nd (pi_tup (pv 0)) (blkOk_by (own := [("_law_item_here", 1)]) (N := N_lextext) (sc := defScope s_lextext) (by decide +kernel)) (fun _ _ _ _ _ => (pg_name (i := 1) sc_lextext.nd rfl (Or.inl rfl))) (fun _ _ _ _ _ => pts_nil) (fun _ _ _ _ _ => (pe_callTy call_strV (by rfl) T.z_str (by decide +kernel) (pa_cons (pv 1) pa_nil))))))), ?_⟩
    refine ⟨⟨_, rfl⟩, _, rfl, t, rfl, ⟨_, ht⟩, fun D nD => ?_⟩
    refine lc_tup (K := K) (a := t) (xs := xs) (fun i H' => Same H H' ∧ H' D = some (.lst (((xs.take i).map shV).map V.str))) ⟨Same.new nD, upd_same⟩ (fun i H' _ h => ex_t h.1 ht) ?_ ?_
    · rintro i x H1 hi ⟨s1, hD⟩
      have hl : i < xs.length := (List.getElem?_eq_some_iff.mp hi).1
      have et : xs.take (i + 1) = xs.take i ++ [x] := by
        rw [List.take_add_one, hi]
        rfl
      refine ⟨rfl, _, rfl, x, rfl, hx x (List.mem_of_getElem? hi), _, hD, ?_, Same.mut s1 nD, ?_⟩
      · rw [List.length_map, List.length_map, List.length_take]
        exact small1000 (by omega)
      · rw [upd_same, et, List.map_append, List.map_append]
        rfl
    · rintro H1 ⟨s1, hD⟩
      rw [List.take_length] at hD
      refine ⟨_, D, xs.map shV, rfl, rfl, .inl (SqL.of hD), ?_, q _ s1⟩
      rw [show ((" " : Str)).length = 1 by decide +kernel, Nat.mul_one, List.length_map]
      omega
def sp_llong : Sp := fun vs H Q _ => ∃ (p c : Addr) (ns : List Int) (n : Int), vs = [.ref p] ∧ Pen H p c ns n ∧ n < 880000 ∧
  ∀ (H' : Hp) (t : Addr) (its : List Im) (n' : Int), Kp p H H' → Pen H' p c ns n' → n ≤ n' → n' ≤ n + 80 → H' t = some (.tup (its.map Im.toV)) → (∀ m ∈ its, m.ok) → its.length = 15 → ht 0 its = some 1 → Q (.ref t) H'
theorem ok_llong (T : Txt K w mg f fd ob) : FnOk P w K mg base CX0 4 (f 41) (fd 41) ["_law_feed_here"] sp_llong := by
  have G_ldraw := ok_ldraw (P := P) (base := base) T
  have G_litem := ok_litem (P := P) (base := base) T
  refine T.F_llong.ok sc_llong (fun vs H Q E h => ?_) (fun cdv A outer s H vs Q E hr h => ?_)
  · obtain ⟨p, c, ns, n, rfl, _⟩ := h
    rfl
  · obtain ⟨p, c, ns, n, rfl, hP, hn, q⟩ := h
    have hr_litem := hr
    have hr_ldraw : Room 1 _ := hr.mono (by decide)
    have hn0 := hP.nn
    refine ⟨_, (C8.pss_cut (ps_set (i := 1) sc_llong.nd rfl (Or.inl rfl) (pe_lst (pa_cons (pe_call G_litem hr_litem (by rfl) T.m_litem T.F_litem.kp T.b_litem .nil pass0 (pa_cons (pv 0) pa_nil)) pa_nil)))
      (pss_cons (ps_asg (pe_tup (pa_cons pe_int (pa_cons pe_int pa_nil))) (pg_tup (by rfl) (pgs_cons (pg_name (i := 2) sc_llong.nd rfl (Or.inl rfl)) (pgs_cons (pg_name (i := 3) sc_llong.nd rfl (Or.inl rfl)) pgs_nil))))
      (pss_cons (ps_for PassesOwn.never rfl (pi_range1 (by rfl) T.z_range (pa_cons pe_int pa_nil)) (pg_name (i := 4) sc_llong.nd rfl (Or.inl rfl)) (pss_one (ps_if (pt_M (PW.pt (pw_or (pt_cmpR op_lt (pv 2) pe_int (nomark _)) (pw_or1 (PW.pt (pw_and (pt_cmpR op_gt (pv 3) pe_int (nomark _)) (pw_and1 (pt_cmpR op_eq (pe_call G_ldraw hr_ldraw (by rfl) T.m_ldraw T.F_ldraw.kp T.b_ldraw .nil pass0 (pa_cons (pv 0) (pa_cons pe_int pa_nil))) pe_int (nomark _))))))))) (C8.pss_cut (ps_set (i := 5) sc_llong.nd rfl (Or.inl rfl) (pe_lst (pa_cons (pe_ix ix_list (pe_lst (pa_cons (pe_un un_neg pe_int) (pa_cons pe_int pa_nil))) (pe_call G_ldraw hr_ldraw (by rfl) T.m_ldraw T.F_ldraw.kp T.b_ldraw .nil pass0 (pa_cons (pv 0) (pa_cons pe_int pa_nil))) (fun _ _ => rfl)) (pa_cons (pe_ix ix_str pe_str (pe_call G_ldraw hr_ldraw (by rfl) T.m_ldraw T.F_ldraw.kp T.b_ldraw .nil pass0 (pa_cons (pv 0) (pa_cons pe_int pa_nil))) (fun _ _ => rfl)) pa_nil))))
      (pss_cons (ps_expr (pe_bm PySem.F.plainAttrs_list PySem.F.slot_list_append PySem.F.type_list_append mt_append (pv 1) (pa_cons (pe_ix ix_list (pv 5) (pe_call G_ldraw hr_ldraw (by rfl) T.m_ldraw T.F_ldraw.kp T.b_ldraw .nil pass0 (pa_cons (pv 0) (pa_cons pe_int pa_nil))) (fun _ _ => rfl)) pa_nil)))
      (pss_one (ps_par (i := 2) (j := 3) (by rfl) sc_llong.nd rfl rfl (by decide) rfl rfl (pa_cons (pe_op op_add (pv 2) pe_int) (pa_cons (pe_op op_sub (pv 3) pe_int) pa_nil)) (by rfl))))) (pss_cons (ps_expr (pe_bm PySem.F.plainAttrs_list PySem.F.slot_list_append PySem.F.type_list_append mt_append (pv 1) (pa_cons (pe_ix ix_str pe_str (pe_call G_ldraw hr_ldraw (by rfl) T.m_ldraw T.F_ldraw.kp T.b_ldraw .nil pass0 (pa_cons (pv 0) (pa_cons pe_int pa_nil))) (fun _ _ => rfl)) pa_nil)))
      (pss_one (ps_set (i := 2) sc_llong.nd rfl (Or.inl rfl) (pe_op op_sub (pv 2) pe_int)))))))
      (pss_one (ps_ret (pe_callTy call_tuple_of (by rfl) T.z_tuple (by decide +kernel) (pa_cons (pv 1) pa_nil))))))), ?_⟩
    refine ⟨fun σ' H' => ∃ (l : Addr) (m : Im) (n' : Int), σ' = [some (.ref p), some (.ref l), none, none, none, none] ∧ Kp p H H' ∧ Pen H' p c ns n' ∧ n ≤ n' ∧ n' ≤ n + 5 ∧ H' l = some (.lst [m.toV]) ∧ m.ok ∧ m.sgn = false ∧ l ≠ p ∧ H l = none, ?_, ?_⟩
    · refine ⟨_, rfl, p, c, ns, n, rfl, hP, by omega, fun H1 m n1 k1 P1 n1a n1b hm hs => ⟨(show 1 ≤ sizeLine by decide), fun l hl => ?_⟩⟩
      have np := P1.ni hl
      exact ⟨l, m, n1, rfl, k1.trans (Kp.new hl), P1.new hl, by omega, by omega, upd_same, hm, hs, np, k1.free np hl⟩
    rintro _ H1 ⟨l, m0, n1, rfl, k1, P1, n1a, n1b, hl1, hm0, hs0, nlp, hHl⟩
    have nlc : c ≠ l := fun z => by
      obtain ⟨_, _, h2, _⟩ := hP
      rw [z, hHl] at h2
      cases h2
    have pmut : ∀ {G : Hp} {n : Int} {xs : List V}, Pen G p c ns n → Pen (upd G l (.lst xs)) p c ns n := fun hp => by
      obtain ⟨r, g1, g2, g3, g4⟩ := hp
      exact ⟨r, (upd_ne nlp.symm).trans g1, (upd_ne nlc).trans g2, g3, g4⟩
    refine ⟨(show 2 ≤ sizeLine by decide), fun tt htt => ⟨tt, _, rfl, SqT.of upd_same, rfl, _, _, rfl, _, _, rfl, rfl, ?_⟩⟩
    refine ⟨14, rfl, by decide, by decide, for_range (lo := 0) (n := 14) (fun j σ' H' => ∃ (its : List Im) (h pu : Nat) (y4 y5 : Option V) (n' : Int),
        σ' = [some (.ref p), some (.ref l), some (.int (h : Int)), some (.int (8 - (pu : Int))), y4, y5] ∧ Kp p H H' ∧ Pen H' p c ns n' ∧ n ≤ n' ∧ n' ≤ n + 5 + 5 * j ∧ H' l = some (.lst (its.map Im.toV)) ∧
        (∀ m ∈ its, m.ok) ∧ its.length = j + 1 ∧ ht 0 its = some h ∧ (h : Int) = 2 * pu - (j + 1) ∧ pu ≤ 8 ∧ 1 ≤ h)
      ⟨[m0], 1, 1, none, none, n1, rfl, k1.trans (Kp.new htt), P1.new htt, by omega, by omega, Same.new htt _ _ hl1, (fun m hm => by rw [List.mem_singleton.mp hm]; exact hm0), rfl, ?_, rfl, by omega, by omega⟩ ?_ ?_⟩
    · show (if m0.sgn = true then _ else ht 1 []) = some 1
      rw [hs0]
      rfl
    · rintro j _ H2 hj ⟨its, h, pu, y4, y5, n2, rfl, k2, P2, n2a, n2b, hl2, hok, hlen, hht, hh, hpu, hj1⟩
      have hsz : (its.map Im.toV).length < sizeLine := by
        rw [List.length_map]
        exact small1000 (by omega)
      refine ⟨fun b H' => ∃ n' : Int, Kp p H2 H' ∧ Pen H' p c ns n' ∧ n2 ≤ n' ∧ n' ≤ n2 + 1 ∧ (b = true → pu < 8) ∧ (b = false → 2 ≤ h), ?_, ?_⟩
      · refine ⟨_, rfl, _, _, rfl, rfl, _, rfl, ite2 (fun h1 => ?_) (fun h1 => ?_)⟩
        · have h1' : (h : Int) < 2 := of_decide_eq_true h1
          exact ⟨n2, Kp.refl _ _, P2, by omega, by omega, (fun _ => by omega), (fun z => nomatch z)⟩
        · have h1' : ¬ (h : Int) < 2 := fun z => h1 (decide_eq_true z)
          refine ⟨_, rfl, _, _, rfl, rfl, _, rfl, ite2 (fun h2 => ?_) (fun h2 => ⟨n2, Kp.refl _ _, P2, by omega, by omega, (fun z => nomatch z), (fun _ => by omega)⟩)⟩
          have h2' : 0 < 8 - (pu : Int) := of_decide_eq_true h2
          refine ⟨_, rfl, p, c, ns, n2, 2, rfl, P2, by decide, by decide, by omega, fun H3 d3 n3 k3 P3 d3a d3b n3a n3b => ?_⟩
          exact ⟨rfl, _, rfl, n3, k3, P3, by omega, by omega, (fun _ => by omega), (fun _ => by omega)⟩
      · rintro b H3 ⟨n3, k3, P3, n3a, n3b, hb1, hb2⟩
        have hl3 := k3 _ _ nlp hl2
        cases b with
        | true =>
          have hpu' := hb1 rfl
          refine iteT ?_
          refine ⟨fun σ' H' => ∃ (ss : Addr) (a : Int) (k : Nat) (n' : Int), σ' = [some (.ref p), some (.ref l), some (.int (h : Int)), some (.int (8 - (pu : Int))), some (.int (0 + (j : Int))), some (.ref ss)] ∧ Kp p H3 H' ∧ Pen H' p c ns n' ∧ n3 ≤ n' ∧ n' ≤ n3 + 2 ∧ H' ss = some (.lst [V.int a, V.str (lt k)]) ∧ W a ∧ k < 16 ∧ ss ≠ p, ?_, ?_⟩
          · refine ⟨_, rfl, (show 2 ≤ sizeLine by decide), fun l1 hl1' => ?_⟩
            refine ⟨_, rfl, p, c, ns, n3, 2, rfl, P3.new hl1', by decide, by decide, by omega, fun H4 d4 n4 k4 P4 d4a d4b n4a n4b => ?_⟩
            have e4 : H4 l1 = some (.lst [V.int (-32768), V.int 32767]) := k4 _ _ (P3.ni hl1') upd_same
            obtain ⟨a, ha, haW⟩ : ∃ a : Int, atI [V.int (-32768), V.int 32767] d4 = some (.int a) ∧ W a := by
              have hd : d4 = 0 ∨ d4 = 1 := by omega
              rcases hd with rfl | rfl
              · exact ⟨-32768, atI_nat (j := 0) rfl, ⟨by decide, by decide⟩⟩
              · exact ⟨32767, atI_nat (j := 1) rfl, ⟨by decide, by decide⟩⟩
            refine ⟨_, _, _, _, rfl, rfl, SqL.of e4, ha, ?_⟩
            refine ⟨_, rfl, p, c, ns, n4, 16, rfl, P4, by decide, by decide, by omega, fun H5 d5 n5 k5 P5 d5a d5b n5a n5b => ?_⟩
            obtain ⟨k, rfl⟩ := Int.eq_ofNat_of_zero_le d5a
            have hk : k < 16 := by omega
            refine ⟨_, _, 97 + k, rfl, rfl, (by decide +kernel), lt_at k hk, (show 2 ≤ sizeLine by decide), fun ss hss => ?_⟩
            exact ⟨ss, a, k, n5, rfl, (((Kp.new hl1').trans k4).trans k5).trans (Kp.new hss), P5.new hss, by omega, by omega, upd_same, haW, hk, P5.ni hss⟩
          rintro _ H4 ⟨ss, a, k, n4, rfl, k4, P4, n4a, n4b, hss, haW, hk, ssp⟩
          have hl4 := k4 _ _ nlp hl3
          refine ⟨_, rfl, .inl ⟨rfl, _, SqL.of hl4⟩, _, rfl, _, rfl, p, c, ns, n4, 2, rfl, P4, by decide, by decide, by omega, fun H5 d5 n5 k5 P5 d5a d5b n5a n5b => ?_⟩
          have hl5 := k5 _ _ nlp hl4
          obtain ⟨m, hm1, hm, hs⟩ : ∃ m : Im, atI [V.int a, V.str (lt k)] d5 = some m.toV ∧ m.ok ∧ m.sgn = false := by
            have hd : d5 = 0 ∨ d5 = 1 := by omega
            rcases hd with rfl | rfl
            · exact ⟨.wo a, atI_nat (j := 0) rfl, haW, rfl⟩
            · exact ⟨.re k, atI_nat (j := 1) rfl, hk, rfl⟩
          refine ⟨_, _, _, _, rfl, rfl, SqL.of (k5 _ _ ssp hss), hm1, l, _, _, rfl, rfl, hl5, hsz, ?_⟩
          refine ⟨_, rfl, _, _, rfl, rfl, _, rfl, _, _, rfl, rfl, _, _, rfl, ?_⟩
          refine ⟨its ++ [m], h + 1, pu + 1, some (.int (0 + (j : Int))), some (.ref ss), n5, ?_, Kp.mut (((k2.trans k3).trans k4).trans k5) hHl, pmut P5, by omega, by omega, ?_, ?_, ?_, ?_, by omega, by omega, by omega⟩
          · show [some (V.ref p), some (V.ref l), some (V.int ((h : Int) + 1)), some (V.int (8 - (pu : Int) - 1)), some (V.int (0 + (j : Int))), some (V.ref ss)] = _
            rw [show 8 - (pu : Int) - 1 = 8 - ((pu + 1 : Nat) : Int) by omega]
            rfl
          · rw [upd_same, List.map_append]
            rfl
          · intro x hx
            rcases List.mem_append.mp hx with hx | hx
            · exact hok x hx
            · rw [List.mem_singleton.mp hx]
              exact hm
          · rw [List.length_append, hlen]
            rfl
          · rw [ht_snoc, hht]
            show (if m.sgn = true then _ else some (h + 1)) = _
            rw [hs]
            rfl
        | false =>
          have hh2 := hb2 rfl
          refine iteF ⟨_, rfl, .inl ⟨rfl, _, SqL.of hl3⟩, _, rfl, p, c, ns, n3, 9, rfl, P3, by decide, by decide, by omega, fun H4 d4 n4 k4 P4 d4a d4b n4a n4b => ?_⟩
          obtain ⟨i, rfl⟩ := Int.eq_ofNat_of_zero_le d4a
          have hi9 : i < 9 := by omega
          have hl4 := k4 _ _ nlp hl3
          refine ⟨_, _, _, rfl, rfl, (by decide +kernel), sg_at i hi9, l, _, _, rfl, rfl, hl4, hsz, ?_⟩
          refine ⟨_, rfl, _, _, rfl, rfl, ?_⟩
          refine ⟨its ++ [.si i], h - 1, pu, some (.int (0 + (j : Int))), y5, n4, ?_, Kp.mut ((k2.trans k3).trans k4) hHl, pmut P4, by omega, by omega, ?_, ?_, ?_, ?_, by omega, by omega, by omega⟩
          · show [some (V.ref p), some (V.ref l), some (V.int ((h : Int) - 1)), some (V.int (8 - (pu : Int))), some (V.int (0 + (j : Int))), y5] = _
            rw [show (h : Int) - 1 = ((h - 1 : Nat) : Int) by omega]
          · rw [upd_same, List.map_append, List.map_singleton]
            show some (HO.lst (its.map Im.toV ++ [V.str ⟨#[codes.getD i 0]⟩])) = some (HO.lst (its.map Im.toV ++ [V.str (nm i)]))
            rw [nm_code i hi9]
          · intro x hx
            rcases List.mem_append.mp hx with hx | hx
            · exact hok x hx
            · rw [List.mem_singleton.mp hx]
              exact hi9
          · rw [List.length_append, hlen]
            rfl
          · rw [ht_snoc, hht]
            show (if 2 ≤ h then some (h - 1) else none) = _
            rw [if_pos hh2]
    · rintro _ H2 ⟨its, h, pu, y4, y5, n2, rfl, k2, P2, n2a, n2b, hl2, hok, hlen, hht, hh, hpu, hj1⟩
      obtain rfl : h = 1 := by omega
      refine ⟨_, rfl, _, _, rfl, .inl ⟨SqL.of hl2, fun t ht' => ?_⟩⟩
      exact q _ t its n2 (k2.trans (Kp.new ht')) (P2.new ht') (by omega) (by omega) upd_same hok hlen hht
def sp_llongrow : Sp := fun vs H Q _ => ∃ (p c : Addr) (ns : List Int) (n : Int), vs = [.ref p] ∧ Pen H p c ns n ∧ n < 870000 ∧
  ∀ (H' : Hp) (v : V) (r : Rw) (n' : Int), Kp p H H' → Pen H' p c ns n' → n ≤ n' → n' ≤ n + 170 → RwV H' v r → r.ok 40 → Q v H'
theorem ok_llongrow (T : Txt K w mg f fd ob) : FnOk P w K mg base CX0 5 (f 42) (fd 42) ["_law_feed_here"] sp_llongrow := by
  have G_ldraw := ok_ldraw (P := P) (base := base) T
  have G_llong := ok_llong (P := P) (base := base) T
  refine T.F_llongrow.ok sc_llongrow (fun vs H Q E h => ?_) (fun cdv A outer s H vs Q E hr h => ?_)
  · obtain ⟨p, c, ns, n, rfl, _⟩ := h
    rfl
  · obtain ⟨p, c, ns, n, rfl, hP, hn, q⟩ := h
    have hr_llong := hr
    have hr_ldraw : Room 1 _ := hr.mono (by decide)
    have hn0 := hP.nn
    refine ⟨_, (C8.pss_cut (ps_par3 (i := 1) (j := 2) (l := 3) (by rfl) sc_llongrow.nd rfl rfl rfl (by decide) (by decide) (by decide) rfl rfl rfl (pa_cons (pe_call G_llong hr_llong (by rfl) T.m_llong T.F_llong.kp T.b_llong .nil pass0 (pa_cons (pv 0) pa_nil)) (pa_cons (pe_call G_llong hr_llong (by rfl) T.m_llong T.F_llong.kp T.b_llong .nil pass0 (pa_cons (pv 0) pa_nil)) (pa_cons (pe_ix ix_list (pe_lst (pa_cons pe_int (pa_cons pe_int pa_nil))) (pe_call G_ldraw hr_ldraw (by rfl) T.m_ldraw T.F_ldraw.kp T.b_ldraw .nil pass0 (pa_cons (pv 0) (pa_cons pe_int pa_nil))) (fun _ _ => rfl)) pa_nil))) (by rfl))
      (pss_one (ps_ret (pe_ix ix_list (pe_lst (pa_cons (pe_tup (pa_cons pe_str (pa_cons pe_str (pa_cons (pv 1) (pa_cons (pv 2) pa_nil))))) (pa_cons (pe_tup (pa_cons pe_str (pa_cons (pv 1) (pa_cons (pv 3) pa_nil)))) (pa_cons (pe_tup (pa_cons pe_str (pa_cons (pv 3) pa_nil))) (pa_cons (pe_tup (pa_cons pe_str (pa_cons (pv 1) (pa_cons (pv 2) pa_nil)))) (pa_cons (pe_tup (pa_cons pe_str (pa_cons pe_str (pa_cons (pv 1) pa_nil)))) pa_nil)))))) (pe_call G_ldraw hr_ldraw (by rfl) T.m_ldraw T.F_ldraw.kp T.b_ldraw .nil pass0 (pa_cons (pv 0) (pa_cons pe_int pa_nil))) (fun _ _ => rfl))))), ?_⟩
    refine ⟨fun σ' H' => ∃ (te tf : Addr) (es fs : List Im) (j : Nat) (n' : Int), σ' = [some (.ref p), some (.ref te), some (.ref tf), some (.int (j : Int))] ∧ Kp p H H' ∧ Pen H' p c ns n' ∧ n ≤ n' ∧ n' ≤ n + 161 ∧ H' te = some (.tup (es.map Im.toV)) ∧ exV (es.map Im.toV) = true ∧ H' tf = some (.tup (fs.map Im.toV)) ∧ exV (fs.map Im.toV) = true ∧ j ≤ 40, ?_, ?_⟩
    · refine ⟨_, rfl, p, c, ns, n, rfl, hP, by omega, fun H1 te es n1 k1 P1 n1a n1b he eok el eh => ?_⟩
      refine ⟨_, rfl, p, c, ns, n1, rfl, P1, by omega, fun H2 tf fs n2 k2 P2 n2a n2b hf fok fl fh => ?_⟩
      refine ⟨(show 2 ≤ sizeLine by decide), fun l hl => ?_⟩
      refine ⟨_, rfl, p, c, ns, n2, 2, rfl, P2.new hl, by decide, by decide, by omega, fun H3 d3 n3 k3 P3 d3a d3b n3a n3b => ?_⟩
      have e3 : H3 l = some (.lst [V.int 0, V.int 40]) := k3 _ _ (P2.ni hl) upd_same
      obtain ⟨j, hj, hj40⟩ : ∃ j : Nat, atI [V.int 0, V.int 40] d3 = some (.int (j : Int)) ∧ j ≤ 40 := by
        have hd : d3 = 0 ∨ d3 = 1 := by omega
        rcases hd with rfl | rfl
        · exact ⟨0, atI_nat (j := 0) rfl, by decide⟩
        · exact ⟨40, atI_nat (j := 1) rfl, by decide⟩
      have tep : te ≠ p := P1.nt he (fun _ z => nomatch z)
      have tfp : tf ≠ p := P2.nt hf (fun _ z => nomatch z)
      have xe : exV (es.map Im.toV) = true := by rw [exV_map eok eh, decide_eq_true (by omega)]
      have xf : exV (fs.map Im.toV) = true := by rw [exV_map fok fh, decide_eq_true (by omega)]
      exact ⟨_, _, _, _, rfl, rfl, SqL.of e3, hj, _, _, _, rfl, te, tf, es, fs, j, n3, rfl, ((k1.trans k2).trans (Kp.new hl)).trans k3, P3, by omega, by omega, k3 _ _ tep (Same.new hl _ _ (k2 _ _ tep he)), xe, k3 _ _ tfp (Same.new hl _ _ hf), xf, hj40⟩
    rintro _ H1 ⟨te, tf, es, fs, j, n1, rfl, k1, P1, n1a, n1b, he, xe, hf, xf, hj⟩
    refine ⟨_, rfl, _, rfl, (show 4 ≤ sizeLine by decide), fun t1 h1 => ?_⟩
    refine ⟨_, rfl, _, rfl, (show 3 ≤ sizeLine by decide), fun t2 h2 => ?_⟩
    refine ⟨_, rfl, (show 2 ≤ sizeLine by decide), fun t3 h3 => ?_⟩
    refine ⟨_, rfl, _, rfl, (show 3 ≤ sizeLine by decide), fun t4 h4 => ?_⟩
    refine ⟨_, rfl, (show 3 ≤ sizeLine by decide), fun t5 h5 => ?_⟩
    refine ⟨(show 5 ≤ sizeLine by decide), fun l hl => ?_⟩
    have s1 := Same.new (o := .tup [.str "swap", .str "p", .ref te, .ref tf]) h1
    have s2 := Same.new (o := .tup [.str "if", .ref te, .int (j : Int)]) h2
    have s3 := Same.new (o := .tup [.str "go", .int (j : Int)]) h3
    have s4 := Same.new (o := .tup [.str "store", .ref te, .ref tf]) h4
    have s5 := Same.new (o := .tup [.str "take", .str "a", .ref te]) h5
    have s6 := Same.new (o := .lst [.ref t1, .ref t2, .ref t3, .ref t4, .ref t5]) hl
    have sA := s1.trans (s2.trans (s3.trans (s4.trans (s5.trans s6))))
    have g5 := s6 t5 _ upd_same
    have g4 := (s5.trans s6) t4 _ upd_same
    have g3 := (s4.trans (s5.trans s6)) t3 _ upd_same
    have g2 := (s3.trans (s4.trans (s5.trans s6))) t2 _ upd_same
    have g1 := (s2.trans (s3.trans (s4.trans (s5.trans s6)))) t1 _ upd_same
    have he2 := sA _ _ he
    have hf2 := sA _ _ hf
    have P2 := P1.same sA
    have k2 := k1.trans (Same.kp sA)
    have lp : l ≠ p := by
      have := P2.nn
      intro e
      rw [e] at hl
      obtain ⟨r, g, _⟩ := ((((P1.same s1).same s2).same s3).same s4).same s5
      rw [g] at hl
      cases hl
    refine ⟨_, rfl, p, c, ns, n1, 5, rfl, P2, by decide, by decide, by omega, fun H3 d3 n3 k3 P3 d3a d3b n3a n3b => ?_⟩
    have kt : TKp _ H3 := P2.tkp k3
    have el3 := k3 _ _ lp upd_same
    have oe : TgOk 40 101 (.ex (es.map Im.toV)) := ⟨rfl, xe⟩
    have of' : TgOk 40 101 (.ex (fs.map Im.toV)) := ⟨rfl, xf⟩
    have ve : TgV H3 (.ref te) (.ex (es.map Im.toV)) := ⟨te, rfl, kt _ _ he2⟩
    have vf : TgV H3 (.ref tf) (.ex (fs.map Im.toV)) := ⟨tf, rfl, kt _ _ hf2⟩
    have ep : ("p" : Str) = lt 15 := by decide +kernel
    have ea : ("a" : Str) = lt 0 := by decide +kernel
    have told : ∀ (t : Addr) (z : Str) (us : List V) (gs : List Tg) (cs : List Nat), H3 t = some (.tup (.str z :: us)) → z ∈ wds → cp (shp z) = cs → All2 (TgV H3) us gs → TgsOk 40 cs gs → Q (.ref t) H3 := fun t z us gs cs ht hz hc hA ho =>
      q H3 _ ⟨z, gs⟩ n3 (k2.trans k3) P3 (by omega) (by omega) ⟨t, us, rfl, ht, hA⟩ ⟨hz, by show TgsOk 40 (cp (shp z)) gs; rw [hc]; exact ho⟩
    have hd : d3 = 0 ∨ d3 = 1 ∨ d3 = 2 ∨ d3 = 3 ∨ d3 = 4 := by omega
    rcases hd with rfl | rfl | rfl | rfl | rfl
    · exact ⟨_, _, _, _, rfl, rfl, SqL.of el3, atI_nat (j := 0) rfl, told t1 "swap" _ [.re 15, .ex (es.map Im.toV), .ex (fs.map Im.toV)] [114, 101, 101] (kt _ _ g1) (by decide +kernel) (by decide +kernel) ⟨congrArg V.str ep, ve, vf, trivial⟩ ⟨⟨rfl, by decide⟩, oe, of', trivial⟩⟩
    · exact ⟨_, _, _, _, rfl, rfl, SqL.of el3, atI_nat (j := 1) rfl, told t2 "if" _ [.ex (es.map Im.toV), .kk j] [101, 107] (kt _ _ g2) (by decide +kernel) (by decide +kernel) ⟨ve, rfl, trivial⟩ ⟨oe, ⟨rfl, hj⟩, trivial⟩⟩
    · exact ⟨_, _, _, _, rfl, rfl, SqL.of el3, atI_nat (j := 2) rfl, told t3 "go" _ [.kk j] [107] (kt _ _ g3) (by decide +kernel) (by decide +kernel) ⟨rfl, trivial⟩ ⟨⟨rfl, hj⟩, trivial⟩⟩
    · exact ⟨_, _, _, _, rfl, rfl, SqL.of el3, atI_nat (j := 3) rfl, told t4 "store" _ [.ex (es.map Im.toV), .ex (fs.map Im.toV)] [101, 101] (kt _ _ g4) (by decide +kernel) (by decide +kernel) ⟨ve, vf, trivial⟩ ⟨oe, of', trivial⟩⟩
    · exact ⟨_, _, _, _, rfl, rfl, SqL.of el3, atI_nat (j := 4) rfl, told t5 "take" _ [.re 0, .ex (es.map Im.toV)] [114, 101] (kt _ _ g5) (by decide +kernel) (by decide +kernel) ⟨congrArg V.str ea, ve, trivial⟩ ⟨⟨rfl, by decide⟩, oe, trivial⟩⟩
def sp_lrefused : Sp := fun vs H Q _ => ∃ z : Str, vs = [.str z] ∧ z.length ≤ 7800000 ∧
  ∃ n, readP z = .inl n ∧ ∀ H' : Hp, Same H H' → Q (.int (n : Int)) H'
theorem ok_lrefused (T : Txt K w mg f fd ob) : FnOk P w K mg base CX0 9 (f 43) (fd 43) ["_law_text"] sp_lrefused := by
  have G_readX := ok_readX (P := P) (base := base) T
  refine T.F_lrefused.ok sc_lrefused (fun vs H Q E h => ?_) (fun cdv A outer s H vs Q E hr h => ?_)
  · obtain ⟨z, rfl, _⟩ := h
    rfl
  · obtain ⟨z, rfl, hz, n, eN, q⟩ := h
    refine ⟨_, (pss_cons (ps_set (i := 1) sc_lrefused.nd rfl (Or.inl rfl) pe_non)
      (pss_try_keep (i := 2) (tb := fun W => tDrop (tCallS (sp_readX (ob 2)) (WE W) (tCons (tVar 0) tNil))) (ts := fun a cls d => tAsg (tXf a cls d (ob 2) "nth" (tVar 2)) (gName 1)) (t1 := fun _ _ _ => tRet (tVar 1)) (Wout := fun _ _ _ _ => False) rfl rfl sc_lrefused.nd rfl rfl ⟨rfl, by decide, Or.inl T.m_NoText⟩ takes0
        (fun W pn xe tk _ => pss_one (ps_expr (by exact (pe_callS G_readX hr rfl T.m_readprogram T.F_readprogram.kp T.b_readprogram (fun σ => passAt tk σ) (by exact (pa_cons (pv 0) pa_nil))))))
        (fun a oe cls d pn hz hf => pss_one (ps_set (i := 1) sc_lrefused.nd rfl (Or.inl rfl) (pe_xf T.XF_NoText T.XN_NoText_nth hz hf (pv 2))))
        (pss_one (ps_ret (pv 1)))
        (fun a oe cls d hz hf => pss_one (ps_ret (pv 1))))), ?_⟩
    refine ⟨_, rfl, z, rfl, hz, fun ps he => ?_, fun k he H1 d s1 h1 => ?_⟩
    · rw [eN] at he
      cases he
    · rw [eN] at he
      obtain rfl := Sum.inl.inj he
      refine ⟨true, T.XE_NoText, fun _ a na => ?_, fun e => by cases e⟩
      exact ⟨_, rfl, rfl, rfl, d, _, _, rfl, h1, rfl, _, rfl, q _ s1⟩
/-! Rows that can be shown, right ones or not. -/
def ItS (x : V) : Prop := ∃ m : Im, x = m.toV ∧ match m with
  | .wo a => a.natAbs < 10 ^ 5
  | .re k => k < 16
  | .si i => i < 9
theorem ItS.facts {x : V} (h : ItS x) : Flat x ∧ (shV x).length ≤ 10 ∧ Shw (vD x) 20 0 ∧ (∀ {K : PySem.W.Frag} {H : Hp}, Dp K H x (vD x)) ∧ ∀ {H : Hp} {L d : Nat}, Th H L d x := by
  obtain ⟨m, rfl, hm⟩ := h
  cases m with
  | wo a =>
    have hm : a.natAbs < 10 ^ 5 := hm
    have hs := shw_int hm
    refine ⟨?_, Nat.le_trans hs.len (by decide), hs.mono (by decide) (by decide), .int _, fun {H L d} => Low.th (L := L) (show Low H (.int a) from trivial) d⟩
    exact Nat.lt_of_lt_of_le (PySem.Flt.log2_lt_of (k := 17) (by decide) (Nat.lt_trans hm (by decide))) (by decide)
  | re k =>
    have hm : k < 16 := hm
    have e : ∀ k, k < 16 → (lt k).length ≤ 10 := by decide +kernel
    exact ⟨Nat.le_trans (e k hm) (by decide), e k hm, im_shw (m := .re k) hm, .str _, thS (Nat.le_trans (e k hm) (by decide))⟩
  | si i =>
    have hm : i < 9 := hm
    have e : ∀ i, i < 9 → (nm i).length ≤ 10 := by decide +kernel
    exact ⟨Nat.le_trans (e i hm) (by decide), e i hm, im_shw (m := .si i) hm, .str _, thS (Nat.le_trans (e i hm) (by decide))⟩
theorem ItS.of {x : V} (h : okV x = true) : ItS x := by
  obtain ⟨m, rfl, hm⟩ := ok_item h
  refine ⟨m, rfl, ?_⟩
  cases m with
  | wo a =>
    have hw : -32768 ≤ a ∧ a ≤ 32767 := hm
    show a.natAbs < 10 ^ 5
    have : (10 : Nat) ^ 5 = 100 * 1000 := by decide
    omega
  | re k => exact hm
  | si i => exact hm
def TgS : Tg → Prop
  | .re k => k < 16
  | .ex xs => xs.length ≤ 20 ∧ ∀ x ∈ xs, ItS x
  | .kk n => n ≤ 1000
theorem TgS.of {m c : Nat} {g : Tg} (h : TgOk m c g) (hm : m ≤ 1000) : TgS g := by
  cases g with
  | re k => exact h.2
  | ex xs =>
    obtain ⟨h1, h2, _⟩ := exV_facts h.2
    exact ⟨by omega, fun x hx => ItS.of (h2 x hx)⟩
  | kk n =>
    have := h.2
    show n ≤ 1000
    omega
theorem tgS_th {H : Hp} {v : V} {g : Tg} (h : TgV H v g) (o : TgS g) : Th H 20 1 v := by
  cases g with
  | re k =>
    have e : ∀ k, k < 16 → (lt k).length ≤ 10 := by decide +kernel
    rw [show v = .str (lt k) from h]
    exact thS (Nat.le_trans (e k o) (by decide))
  | ex xs =>
    obtain ⟨a, e, h⟩ := h
    subst e
    exact thT h o.1 fun y hy => (o.2 y hy).facts.2.2.2.2
  | kk n =>
    rw [show v = .int (n : Int) from h]
    exact .inl trivial
theorem dpI {K : PySem.W.Frag} {H : Hp} : ∀ {xs : List V}, (∀ x ∈ xs, ItS x) → DpAll K H xs (xs.map vD)
  | [], _ => .nil
  | x :: xs, h => .cons (h x List.mem_cons_self).facts.2.2.2.1 (dpI fun y hy => h y (List.mem_cons_of_mem _ hy))
theorem exS_shw {xs : List V} (h : xs.length ≤ 20 ∧ ∀ x ∈ xs, ItS x) : Shw (.tuple (xs.map vD)) 500 1 := by
  have h1 := h.1
  refine (shw_tup (n := 20) (k := 0) (fun d hd => ?_)).mono (by rw [List.length_map]; omega) (by decide)
  obtain ⟨x, hx, rfl⟩ := List.mem_map.mp hd
  exact (h.2 x hx).facts.2.2.1
theorem tgS_len {g : Tg} (h : TgS g) : (tgText g).length ≤ 300 := by
  cases g with
  | re k =>
    have e : ∀ k, k < 16 → (lt k).length ≤ 300 := by decide +kernel
    exact e k h
  | ex xs =>
    have h1 := h.1
    have := join_bd " " 10 (ws := xs.map shV) (fun w hw => by
      obtain ⟨x, hx, rfl⟩ := List.mem_map.mp hw
      exact (h.2 x hx).facts.2.1)
    rw [List.length_map, show ((" " : Str)).length = 1 by decide +kernel] at this
    show (Txt.join " " (xs.map shV)).length ≤ 300
    omega
  | kk n =>
    have h : n ≤ 1000 := h
    have : (10 : Nat) ^ 5 = 100 * 1000 := by decide
    exact Nat.le_trans (shw_int (a := (n : Int)) (by omega)).len (by decide)
def RwS (r : Rw) : Prop := r.word ∈ wds ∧ r.tgs.length ≤ 3 ∧ ∀ g ∈ r.tgs, TgS g
theorem RwS.of {r : Rw} {m : Nat} (h : r.ok m) (hm : m ≤ 1000) : RwS r := by
  refine ⟨h.1, (tgs_len h hm).2, fun g hg => ?_⟩
  obtain ⟨c, hc⟩ := h.2.mem hg
  exact TgS.of hc hm
theorem tgsS_len {r : Rw} (h : RwS r) : (∀ w ∈ r.tgs.map tgText, w.length ≤ 300) ∧ r.tgs.length ≤ 3 := by
  refine ⟨fun w hw => ?_, h.2.1⟩
  obtain ⟨g, hg, rfl⟩ := List.mem_map.mp hw
  exact tgS_len (h.2.2 g hg)
theorem rwS_len {r : Rw} (h : RwS r) : (rwText r).length ≤ 1000 := by
  obtain ⟨h1, h2⟩ := tgsS_len h
  have := join_bd ", " 300 h1
  rw [List.length_map, show ((", " : Str)).length = 2 by decide +kernel] at this
  have hw := wd_len _ h.1
  unfold rwText
  rw [len_app, len_app, show ((" " : Str)).length = 1 by decide +kernel]
  have : (300 + 2) * r.tgs.length ≤ 906 := Nat.le_trans (Nat.mul_le_mul_left _ h2) (by decide)
  omega
def PrS (ps : List (List Rw)) : Prop := ps.length ≤ 5 ∧ ∀ t ∈ ps, t.length ≤ 41 ∧ ∀ r ∈ t, RwS r
theorem PrS.of {ps : List (List Rw)} (h : PrOk ps) : PrS ps := by
  have := h.2.1
  refine ⟨by omega, fun t ht => ?_⟩
  have h2 := h.2.2 t ht
  have := h2.1
  exact ⟨by omega, fun r hr => RwS.of (h2.2 r hr) (by omega)⟩
theorem prS_len {ps : List (List Rw)} (h : PrS ps) : (∀ w ∈ prLines ps, w.length ≤ 1000) ∧ (prLines ps).length ≤ 210 := by
  have e6 : (("thread" : Str)).length ≤ 1000 := by decide +kernel
  refine ⟨fun w hw => ?_, ?_⟩
  · obtain ⟨l, hl, hwl⟩ := List.mem_flatten.mp hw
    obtain ⟨rs, hrs, rfl⟩ := List.mem_map.mp hl
    rcases List.mem_cons.mp hwl with rfl | hwl
    · exact e6
    · obtain ⟨r, hr, rfl⟩ := List.mem_map.mp hwl
      exact rwS_len ((h.2 rs hrs).2 r hr)
  · have key : ∀ l : List (List Rw), (∀ t ∈ l, t.length ≤ 41) → ((l.map thLines).flatten).length ≤ 42 * l.length := by
      intro l
      induction l with
      | nil =>
        intro _
        exact Nat.le_refl _
      | cons a r ih =>
        intro hl
        have := ih fun x hx => hl x (List.mem_cons_of_mem _ hx)
        have ha := hl a List.mem_cons_self
        rw [List.map_cons, List.flatten_cons, List.length_append, List.length_cons]
        have : (thLines a).length = a.length + 1 := by
          unfold thLines
          rw [List.length_cons, List.length_map]
        omega
    have := key ps fun t ht => (h.2 t ht).1
    have := h.1
    unfold prLines
    omega
def sp_lrowtext : Sp := fun vs H Q _ => ∃ (v : V) (r : Rw), vs = [v] ∧ RwV H v r ∧ RwS r ∧ ∀ H', Same H H' → Q (.str (rwText r)) H'
theorem ok_lrowtext (T : Txt K w mg f fd ob) : FnG P w K mg base CX0 2 (f 39) (fd 39) ["_law_row"] sp_lrowtext := by
  have G_lextext := ok_lextext (P := P) (base := base) T
  refine Fun.okG T.F_lrowtext sc_lrowtext (fun vs H Q E h => ?_) (fun cdv A outer s H vs Q E hg hr h => ?_)
  · obtain ⟨v, r, rfl, _⟩ := h
    rfl
  · obtain ⟨v, r, rfl, hv, ho, q⟩ := h
    have hr_lextext := hr
    have hu64 := hr.units
    refine ⟨_, (pss_cons (ps_set (i := 1) sc_lrowtext.nd rfl (Or.inl rfl) (pe_lst pa_nil))
      (pss_cons (ps_for PassesOwn.never rfl (pi_tup (pe_slice sl_tupA (pv 0) (po_some pe_int) po_none)) (pg_name (i := 2) sc_lrowtext.nd rfl (Or.inl rfl)) (C8.pss_cut (ps_expr (pe_bm PySem.F.plainAttrs_list PySem.F.slot_list_append PySem.F.type_list_append mt_append (pv 1) (pa_cons (pe_ix ix_list (pe_lst (pa_cons (pe_callTy (call_strD hg hu64) (by rfl) T.z_str (by decide +kernel) (pa_cons (pv 2) pa_nil)) (pa_cons pe_str pa_nil))) (pe_callTy call_int1 (by rfl) T.z_int (by decide +kernel) (pa_cons (pe_callB call_isi (by rfl) T.z_isinstance (by decide +kernel) (pa_cons (pv 2) (pa_cons (pe_bltn (v := .ty "tuple") (by rfl) T.z_tuple (by decide +kernel) rfl) pa_nil))) pa_nil)) (fun _ _ => rfl)) pa_nil)))
      (pss_one (ps_if (pt_val (pe_callB call_isi (by rfl) T.z_isinstance (by decide +kernel) (pa_cons (pv 2) (pa_cons (pe_bltn (v := .ty "tuple") (by rfl) T.z_tuple (by decide +kernel) rfl) pa_nil)))) (pss_one (ps_asg (pe_call G_lextext hr_lextext (by rfl) T.m_lextext T.F_lextext.kp T.b_lextext .nil pass0 (pa_cons (pv 2) pa_nil)) (pg_sub (pv 1) (pe_un un_neg pe_int) set_list))) pss_nil))))
      (pss_one (ps_ret (pe_op op_add_str (pe_op op_add_str (pe_ix ix_tup (pv 0) pe_int (fun _ _ => rfl)) pe_str) (pe_join pe_str (pv 1))))))), ?_⟩
    obtain ⟨t, vs, rfl, ht, hA⟩ := hv
    have l1 := hA.len
    obtain ⟨b1, b2⟩ := tgsS_len ho
    refine ⟨Nat.zero_le _, fun l hl => ?_⟩
    have s0 : Same H (upd H l (.lst [])) := Same.new hl
    refine ⟨_, rfl, 1, rfl, slFrom (s0 _ _ ht) fun r0 H1 s1 hr0 => ?_⟩
    rw [show cutV (V.str r.word :: vs) (some 1) none = vs from cutFrom (k := 1) _ (by rw [List.length_cons]; omega)] at hr0
    have s01 := s0.trans s1
    refine ⟨r0, rfl, ⟨_, SqT.of hr0⟩, for_tup (xs := vs) (fun i σ' H' => ∃ y2 : Option V, σ' = [some (.ref t), some (.ref l), y2] ∧ Same H H' ∧ H' r0 = some (.tup vs) ∧ H' l = some (.lst (((r.tgs.take i).map tgText).map V.str))) ⟨none, rfl, s01, hr0, s1 _ _ upd_same⟩ (fun i σ' H' _ h => ?_) ?_ ?_⟩
    · obtain ⟨y2, rfl, sm, h1, _⟩ := h
      exact SqT.of h1
    · rintro i x _ H2 hx ⟨y2, rfl, s2, h2r, h2l⟩
      obtain ⟨g, hg', hgv⟩ := hA.get hx
      have hgo := ho.2.2 g (List.mem_of_getElem? hg')
      have hi : i < r.tgs.length := (List.getElem?_eq_some_iff.mp hg').1
      have hgv2 := hgv.keep (TKp.same s2)
      have et : r.tgs.take (i + 1) = r.tgs.take i ++ [g] := by
        rw [List.take_add_one, hg']
        rfl
      have ltl : (((r.tgs.take i).map tgText).map V.str).length = i := by
        rw [List.length_map, List.length_map, List.length_take]
        omega
      have nl : l ≠ r0 := fun z => by
        rw [z, h2r] at h2l
        cases h2l
      -- things.append(..)
      refine ⟨fun σ' H' => ∃ z : Str, σ' = [some (.ref t), some (.ref l), some x] ∧ Same H H' ∧ H' r0 = some (.tup vs) ∧ H' l = some (.lst (((r.tgs.take i).map tgText).map V.str ++ [.str z])) ∧ (isTupB H' x = false → z = tgText g), ?_, ?_⟩
      · refine ⟨_, rfl, .inl ⟨rfl, _, SqL.of h2l⟩, _, rfl, ?_⟩
        -- whatever str tells
        have fin : ∀ z0 : Str, (isTupB H2 x = false → z0 = tgText g) → (∀ l3, H2 l3 = none → Same H2 (upd H2 l3 (.lst [.str z0, .str ""]))) → ∀ (l3 : Addr), H2 l3 = none → ∃ z : Str, atI [V.str z0, V.str ""] (if isTupB H2 x = true then 1 else 0) = some (.str z) ∧ (isTupB H2 x = false → z = tgText g) := by
          intro z0 h0 _ l3 _
          cases e : isTupB H2 x with
          | false => exact ⟨z0, rfl, fun _ => h0 e⟩
          | true => exact ⟨"", rfl, fun z => nomatch z⟩
        have hkn : Kn H2 x := (tgS_th hgv2 hgo).kn
        have go : ∀ z0 : Str, (isTupB H2 x = false → z0 = tgText g) → ∀ l3, H2 l3 = none → Kn (upd H2 l3 (.lst [.str z0, .str ""])) x ∧ isTupB (upd H2 l3 (.lst [.str z0, .str ""])) x = isTupB H2 x := by
          intro z0 _ l3 h3
          have ss : Same H2 (upd H2 l3 (.lst [.str z0, .str ""])) := Same.new h3
          exact ⟨hkn.same ss, tupT_same ss (tgS_th hgv2 hgo) fun _ _ _ _ _ => rfl⟩
        have core : ∀ z0 : Str, (isTupB H2 x = false → z0 = tgText g) → ∀ l3, H2 l3 = none → ∃ ty1, TyX K (upd H2 l3 (.lst [.str z0, .str ""])) x ty1 ∧ PySem.W.kitOne K ty1 (.type "tuple") = some (isTupB H2 x) := by
          intro z0 h0 l3 h3
          obtain ⟨k1, k2⟩ := go z0 h0 l3 h3
          obtain ⟨ty1, a, b⟩ := isi_tup (K := K) k1
          rw [k2] at b
          exact ⟨ty1, a, b⟩
        have last : ∀ (z0 z : Str) (l3 : Addr), H2 l3 = none → (isTupB H2 x = false → z = tgText g) → Same H (upd (upd H2 l3 (.lst [.str z0, .str ""])) l (.lst (((r.tgs.take i).map tgText).map V.str ++ [.str z]))) ∧ (upd (upd H2 l3 (.lst [.str z0, .str ""])) l (.lst (((r.tgs.take i).map tgText).map V.str ++ [.str z]))) r0 = some (.tup vs) ∧
            (isTupB (upd (upd H2 l3 (.lst [.str z0, .str ""])) l (.lst (((r.tgs.take i).map tgText).map V.str ++ [.str z]))) x = false → z = tgText g) := by
          intro z0 z l3 h3 hz
          have ss : Same H2 (upd H2 l3 (.lst [.str z0, .str ""])) := Same.new h3
          refine ⟨Same.mut (s2.trans ss) hl, (upd_ne nl.symm).trans (ss _ _ h2r), fun e => hz ?_⟩
          cases g with
          | re k => rw [show x = .str (lt k) from hgv]; rfl
          | kk n => rw [show x = .int (n : Int) from hgv]; rfl
          | ex xs =>
            obtain ⟨a, rfl, ha⟩ := hgv2
            have h5 : (upd (upd H2 l3 (.lst [.str z0, .str ""])) l (.lst (((r.tgs.take i).map tgText).map V.str ++ [.str z]))) a = some (.tup xs) := TKp.updL (ss _ _ h2l) _ _ (ss _ _ ha)
            rw [show isTupB _ (.ref a) = true from tupT_tup h5] at e
            cases e
        have rest : ∀ z0 : Str, (isTupB H2 x = false → z0 = tgText g) → ∀ l3, H2 l3 = none → ∃ z ty1, TyX K (upd H2 l3 (.lst [.str z0, .str ""])) x ty1 ∧ PySem.W.kitOne K ty1 (.type "tuple") = some (isTupB H2 x) ∧ atI [V.str z0, V.str ""] (if isTupB H2 x = true then 1 else 0) = some (.str z) ∧ (isTupB H2 x = false → z = tgText g) := by
          intro z0 h0 l3 h3
          obtain ⟨ty1, a, b⟩ := core z0 h0 l3 h3
          obtain ⟨z, c, d⟩ := fin z0 h0 (fun _ => Same.new) l3 h3
          exact ⟨z, ty1, a, b, c, d⟩
        cases g with
        | re k =>
          obtain rfl := (show x = .str (lt k) from hgv)
          have e : ∀ k, k < 16 → (lt k).length ≤ 10 := by decide +kernel
          refine ⟨_, rfl, .inl ⟨Nat.le_trans (e k hgo) (by decide), (show 2 ≤ sizeLine by decide), fun l3 h3 => ?_⟩⟩
          obtain ⟨z, ty1, hty, hkt, hat, hz⟩ := rest (shV (.str (lt k))) (fun _ => rfl) l3 h3
          obtain ⟨a1, a2, a3⟩ := last (shV (.str (lt k))) z l3 h3 hz
          exact ⟨_, rfl, _, _, _, _, _, rfl, .ty _, hty, hkt, .inr ⟨_, rfl, _, _, _, _, rfl, rfl, SqL.of upd_same, hat, l, _, _, rfl, rfl, Same.new h3 _ _ h2l, small1000 (by omega), z, rfl, a1, a2, upd_same, a3⟩⟩
        | kk n =>
          obtain rfl := (show x = .int (n : Int) from hgv)
          refine ⟨_, rfl, .inl ⟨few (by have : n ≤ 1000 := hgo; omega), (show 2 ≤ sizeLine by decide), fun l3 h3 => ?_⟩⟩
          obtain ⟨z, ty1, hty, hkt, hat, hz⟩ := rest (shV (.int (n : Int))) (fun _ => rfl) l3 h3
          obtain ⟨a1, a2, a3⟩ := last (shV (.int (n : Int))) z l3 h3 hz
          exact ⟨_, rfl, _, _, _, _, _, rfl, .ty _, hty, hkt, .inr ⟨_, rfl, _, _, _, _, rfl, rfl, SqL.of upd_same, hat, l, _, _, rfl, rfl, Same.new h3 _ _ h2l, small1000 (by omega), z, rfl, a1, a2, upd_same, a3⟩⟩
        | ex xs =>
          have dp : Dp K H2 x (tgD (.ex xs)) := by
            obtain ⟨a, rfl, ha⟩ := id hgv2
            exact .tup (SqT.of ha) (dpI hgo.2)
          obtain ⟨a, rfl, ha⟩ := hgv2
          have ht' : isTupB H2 (.ref a) = true := tupT_tup ha
          refine ⟨_, rfl, .inr ⟨a, _, rfl, dp, (exS_shw hgo).ok (by decide) (by decide), (show 2 ≤ sizeLine by decide), fun l3 h3 => ?_⟩⟩
          obtain ⟨z, ty1, hty, hkt, hat, hz⟩ := rest (PyData.shown (tgD (.ex xs))) (fun e => by rw [ht'] at e; cases e) l3 h3
          obtain ⟨a1, a2, a3⟩ := last (PyData.shown (tgD (.ex xs))) z l3 h3 hz
          exact ⟨_, rfl, _, _, _, _, _, rfl, .ty _, hty, hkt, .inr ⟨_, rfl, _, _, _, _, rfl, rfl, SqL.of upd_same, hat, l, _, _, rfl, rfl, Same.new h3 _ _ h2l, small1000 (by omega), z, rfl, a1, a2, upd_same, a3⟩⟩
      · rintro _ H3 ⟨z, rfl, s3, h3r, h3l, hz⟩
        have hgv3 := hgv.keep (TKp.same s3)
        have hkn3 : Kn H3 x := (tgS_th hgv3 hgo).kn
        obtain ⟨ty1, hty, hkt⟩ := isi_tup (K := K) hkn3
        refine ⟨_, rfl, _, _, _, _, _, rfl, .ty _, hty, hkt, _, rfl, ?_⟩
        cases eb : isTupB H3 x with
        | false =>
          refine iteF ⟨_, rfl, s3, h3r, ?_⟩
          rw [h3l, hz eb, et, List.map_append, List.map_append]
          rfl
        | true =>
          cases g with
          | re k =>
            rw [show x = .str (lt k) from hgv] at eb
            cases eb
          | kk n =>
            rw [show x = .int (n : Int) from hgv] at eb
            cases eb
          | ex xs =>
            obtain ⟨a, rfl, ha⟩ := hgv3
            obtain ⟨c1, c2⟩ := id hgo
            have hs : ((xs.map shV).map (·.length)).sum + xs.length ≤ 1000000 := by
              have := sum_bd 10 (ws := xs.map shV) (fun w hw => by
                obtain ⟨y, hy, rfl⟩ := List.mem_map.mp hw
                exact (c2 y hy).facts.2.1)
              rw [List.length_map] at this
              omega
            refine iteT ⟨_, rfl, a, xs, rfl, SqT.of ha, fun y hy => (c2 y hy).facts.1, by omega, hs, fun H4 s4 => ?_⟩
            have h4l := s4 _ _ h3l
            refine ⟨_, rfl, _, rfl, l, _, -1, i, rfl, rfl, h4l, ?_, ?_⟩
            · rw [List.length_append, ltl, List.length_singleton]
              exact ixN_last i
            · refine ⟨_, rfl, Same.mut (s3.trans s4) hl, (upd_ne nl.symm).trans (s4 _ _ h3r), ?_⟩
              rw [upd_same, et, List.map_append, List.map_append]
              have := set_last (((r.tgs.take i).map tgText).map V.str) (.str z) (.str (Txt.join " " (xs.map shV)))
              rw [ltl] at this
              rw [this]
              rfl
    · rintro _ H2 ⟨y2, rfl, s2, h2r, h2l⟩
      rw [l1, List.take_length] at h2l
      have w5 := wd_len _ ho.1
      have jl := join_bd ", " 300 b1
      have jm : (300 + 2) * r.tgs.length ≤ 906 := Nat.le_trans (Nat.mul_le_mul_left _ b2) (by decide)
      have e2 : ((", " : Str)).length = 2 := by decide +kernel
      have e1 : ((" " : Str)).length = 1 := by decide +kernel
      have sm := sum_bd 300 b1
      rw [List.length_map] at jl sm
      rw [e2] at jl
      refine ⟨_, rfl, _, _, _, _, rfl, rfl, SqT.of (s2 _ _ ht), at0 _ vs, _, _, rfl, rfl, Nat.le_trans (show r.word.length + (" " : Str).length ≤ 2000 by omega) (by decide), ⟨_, rfl⟩, _, rfl, _, l, r.tgs.map tgText, rfl, rfl, .inl (SqL.of h2l), ?_, _, _, rfl, rfl, ?_, q _ s2⟩
      · rw [e2, List.length_map]
        have : 300 * r.tgs.length ≤ 900 := Nat.le_trans (Nat.mul_le_mul_left _ b2) (by decide)
        omega
      · rw [len_app]
        exact Nat.le_trans (show _ ≤ 2000 by omega) (by decide)
def sp_lprogtext : Sp := fun vs H Q _ => ∃ (v : V) (ps : List (List Rw)), vs = [v] ∧ PrV H v ps ∧ PrS ps ∧ ∀ H', Same H H' → Q (.str (prText ps)) H'
theorem ok_lprogtext (T : Txt K w mg f fd ob) : FnG P w K mg base CX0 3 (f 40) (fd 40) ["_law_program"] sp_lprogtext := by
  have G_lrowtext := ok_lrowtext (P := P) (base := base) T
  refine Fun.okG T.F_lprogtext sc_lprogtext (fun vs H Q E h => ?_) (fun cdv A outer s H vs Q E hg hr h => ?_)
  · obtain ⟨v, ps, rfl, _⟩ := h
    rfl
  · obtain ⟨v, ps, rfl, hv, ho, q⟩ := h
    have hr_lrowtext := hr
    refine ⟨_, (pss_cons (ps_set (i := 1) sc_lprogtext.nd rfl (Or.inl rfl) (pe_lst pa_nil))
      (C8.pss_cut (ps_for PassesOwn.never rfl (pi_tup (pv 0)) (pg_name (i := 2) sc_lprogtext.nd rfl (Or.inl rfl)) (pss_one (ps_set (i := 1) sc_lprogtext.nd rfl (Or.inl rfl) (pe_op op_cat (pe_op op_cat (pv 1) (pe_lst (pa_cons pe_str pa_nil))) (pe_lc (own := [("_law_row", 3)]) (g := (gName 3)) (tt := tYes) (te := (tCall sp_lrowtext [] E0 (tCons (tVar 3) tNil))) (by rfl) sc_lprogtext.nd (pi_tup (pv 2)) (blkOk_by (own := [("_law_row", 3)]) (N := N_lprogtext) (sc := defScope s_lprogtext) (by decide +kernel)) (fun _ _ _ _ _ => (pg_name (i := 3) sc_lprogtext.nd rfl (Or.inl rfl))) (fun _ _ _ _ _ => pts_nil) (fun _ _ _ _ _ => (callG G_lrowtext hg hr_lrowtext (by rfl) T.m_lrowtext T.F_lrowtext.kp T.b_lrowtext .nil pass0 (pa_cons (pv 3) pa_nil))))))))
      (pss_one (ps_ret (pe_join pe_str (pv 1)))))), ?_⟩
    obtain ⟨t, vs, rfl, ht, hA⟩ := hv
    have lA := hA.len
    obtain ⟨pl1, pl2⟩ := prS_len ho
    have subl : ∀ i, (prLines (ps.take i)).length ≤ 210 := fun i => by
      have : (prLines ps).length = (prLines (ps.take i)).length + (prLines (ps.drop i)).length := by
        unfold prLines
        rw [← List.length_append, ← List.flatten_append, ← List.map_append, List.take_append_drop]
      omega
    refine ⟨Nat.zero_le _, fun l hl => ?_⟩
    have s0 : Same H (upd H l (.lst [])) := Same.new hl
    refine ⟨fun σ' H' => ∃ (l : Addr) (y2 y3 : Option V), σ' = [some (.ref t), some (.ref l), y2, y3] ∧ Same H H' ∧ H' l = some (.lst ((prLines ps).map V.str)), ?_, ?_⟩
    · refine ⟨_, rfl, t, rfl, ⟨_, SqT.of (s0 _ _ ht)⟩, for_tup (xs := vs) (fun i σ' H' => ∃ (l : Addr) (y2 y3 : Option V), σ' = [some (.ref t), some (.ref l), y2, y3] ∧ Same H H' ∧ H' l = some (.lst ((prLines (ps.take i)).map V.str))) ⟨l, none, none, rfl, s0, upd_same⟩ (fun i σ' H' _ h => ?_) ?_ ?_⟩
      · obtain ⟨l, y2, y3, rfl, sm, _⟩ := h
        exact SqT.of (sm _ _ ht)
      · rintro i x _ H1 hx ⟨l, y2, y3, rfl, s1, hl1⟩
        obtain ⟨rs, hrs, hth⟩ := hA.get hx
        obtain ⟨t2, us, rfl, ht2, hR⟩ := hth
        have hro := ho.2 rs (List.mem_of_getElem? hrs)
        have lR := hR.len
        have sb := subl i
        refine ⟨_, rfl, (show 1 ≤ sizeLine by decide), fun l1 h1 => ?_⟩
        have sa : Same H1 (upd H1 l1 (.lst [.str "thread"])) := Same.new h1
        refine ⟨_, _, _, _, rfl, rfl, sa _ _ hl1, upd_same, Nat.le_trans (show _ ≤ 1000 by rw [List.length_map, List.length_singleton]; omega) (by decide), fun l2 h2 => ?_⟩
        have s2 : Same H1 (upd (upd H1 l1 (.lst [.str "thread"])) l2 (.lst ((prLines (ps.take i)).map V.str ++ [.str "thread"]))) := sa.trans (Same.new h2)
        have e2 : (upd (upd H1 l1 (.lst [.str "thread"])) l2 (.lst ((prLines (ps.take i)).map V.str ++ [.str "thread"]))) l2 = some (.lst ((prLines (ps.take i)).map V.str ++ [.str "thread"])) := upd_same
        generalize (upd (upd H1 l1 (.lst [.str "thread"])) l2 (.lst ((prLines (ps.take i)).map V.str ++ [.str "thread"]))) = H2 at s2 e2
        have s12 := s1.trans s2
        refine ⟨_, rfl, t2, rfl, ⟨_, SqT.of (s12 _ _ ht2)⟩, fun D nD => ?_⟩
        refine lc_tup (K := K) (a := t2) (xs := us) (fun k H' => Same H2 H' ∧ H' D = some (.lst (((rs.take k).map rwText).map V.str))) ⟨Same.new nD, upd_same⟩ (fun k H' _ h => SqT.of (h.1 _ _ (s12 _ _ ht2))) ?_ ?_
        · rintro k y H3 hk ⟨s3, hD⟩
          obtain ⟨r, hr', hrv⟩ := hR.get hk
          refine ⟨rfl, _, rfl, y, r, rfl, hrv.keep (TKp.same (s12.trans s3)), hro.2 r (List.mem_of_getElem? hr'), fun H4 s4 => ?_⟩
          refine ⟨_, s4 _ _ hD, ?_, Same.mut (s3.trans s4) nD, ?_⟩
          · rw [List.length_map, List.length_map, List.length_take]
            exact small1000 (by have := hro.1; omega)
          · rw [upd_same, List.take_add_one, hr', List.map_append, List.map_append]
            rfl
        · rintro H3 ⟨s3, hD⟩
          rw [lR, List.take_length] at hD
          refine ⟨_, _, _, _, rfl, rfl, s3 _ _ e2, hD, Nat.le_trans (show _ ≤ 1000 by rw [List.length_append, List.length_map, List.length_map, List.length_map, List.length_singleton]; have := hro.1; omega) (by decide), fun l3 h3 => ?_⟩
          refine ⟨l3, _, _, rfl, (s12.trans s3).trans (Same.new h3), ?_⟩
          rw [upd_same, List.take_add_one, hrs]
          show some (HO.lst ((prLines (ps.take i)).map V.str ++ [V.str "thread"] ++ (rs.map rwText).map V.str)) = some (HO.lst ((prLines (ps.take i ++ [rs])).map V.str))
          rw [prLines_snoc, List.map_append, List.append_assoc]
          rfl
      · rintro _ H1 ⟨l, y2, y3, rfl, s1, hl1⟩
        rw [lA, List.take_length] at hl1
        exact ⟨l, y2, y3, rfl, s1, hl1⟩
    rintro _ H1 ⟨l, y2, y3, rfl, s1, hl1⟩
    have sm := sum_bd 1000 pl1
    have e1 : (("\n" : Str)).length = 1 := by decide +kernel
    refine ⟨⟨_, rfl⟩, _, rfl, _, l, prLines ps, rfl, rfl, .inl (SqL.of hl1), ?_, q _ s1⟩
    rw [e1]
    omega
/-! Programs with one more of something. -/
theorem All2.got {α : Type} {R : V → α → Prop} : ∀ {vs : List V} {xs : List α} {i : Nat} {x : α}, All2 R vs xs → xs[i]? = some x → ∃ v, vs[i]? = some v ∧ R v x
  | [], [], i, x, _, e => by simp at e
  | a :: _, y :: _, 0, x, ⟨h, _⟩, e => by
    cases (show some y = some x from e)
    exact ⟨a, rfl, h⟩
  | _ :: _, _ :: _, i + 1, x, ⟨_, b⟩, e => b.got (i := i) e
  | [], _ :: _, _, _, z, _ => z.elim
  | _ :: _, [], _, _, z, _ => z.elim
structure BadRow (r : Rw) : Prop where
  sh : RwS r
  free : 10 ∉ cp (rwText r)
  no : rowOf (rwText r) = none ∨ ∃ r', rowOf (rwText r) = some r' ∧ goesB 40 r' = false
  is : ∀ {H : Hp} {v : V}, RwV H v r → tupT (rowV H 40) H v = false
def NoP (qs : List (List Rw)) : Prop := ∀ {H : Hp} {v : V}, PrV H v qs → tupT (prgV H) H v = false
theorem nop_len {qs : List (List Rw)} (h : 4 < qs.length) : NoP qs := by
  rintro H v ⟨t, vs, rfl, ht, hA⟩
  have := hA.len
  rw [tupT_tup ht]
  unfold prgV
  rw [decide_eq_false (by omega), Bool.false_and]
theorem nop_thread {qs : List (List Rw)} {i : Nat} {th : List Rw} (hi : qs[i]? = some th) (hb : ∀ {H : Hp} {v : V}, ThV H v th → tupT (thrV H) H v = false) : NoP qs := by
  rintro H v ⟨t, vs, rfl, ht, hA⟩
  rw [tupT_tup ht]
  unfold prgV
  obtain ⟨x, hx, hv⟩ := hA.got hi
  have e : vs.all (tupT (thrV H) H) = false := List.all_eq_false.mpr ⟨x, List.mem_of_getElem? hx, by rw [hb hv]; exact Bool.false_ne_true⟩
  rw [e, Bool.and_false]
theorem noth_len {th : List Rw} (h : 40 < th.length) {H : Hp} {v : V} (hv : ThV H v th) : tupT (thrV H) H v = false := by
  obtain ⟨t, vs, rfl, ht, hA⟩ := hv
  have := hA.len
  rw [tupT_tup ht]
  unfold thrV
  rw [decide_eq_false (by omega), Bool.false_and]
theorem noth_row {th : List Rw} {k : Nat} {r : Rw} (hl : th.length = 40) (hk : th[k]? = some r) (hb : BadRow r) {H : Hp} {v : V} (hv : ThV H v th) : tupT (thrV H) H v = false := by
  obtain ⟨t, vs, rfl, ht, hA⟩ := hv
  have hl2 := hA.len
  rw [tupT_tup ht]
  unfold thrV
  obtain ⟨x, hx, hrv⟩ := hA.got hk
  have e : vs.all (tupT (rowV H vs.length) H) = false := List.all_eq_false.mpr ⟨x, List.mem_of_getElem? hx, by rw [hl2, hl, hb.is hrv]; exact Bool.false_ne_true⟩
  rw [e, Bool.and_false]
theorem lines40 : ∀ {ps : List (List Rw)}, (∀ t ∈ ps, t.length = 40) → (prLines ps).length = 41 * ps.length
  | [], _ => rfl
  | a :: ps, h => by
    have ih := lines40 (ps := ps) fun t ht => h t (List.mem_cons_of_mem _ ht)
    have ha := h a List.mem_cons_self
    show (("thread" : Str) :: (a.map rwText ++ prLines ps)).length = _
    rw [List.length_cons, List.length_append, List.length_map, List.length_cons, ih, ha]
    omega
theorem prLines_free {ps : List (List Rw)} (h : ∀ t ∈ ps, ∀ r ∈ t, 10 ∉ cp (rwText r)) : ∀ w ∈ prLines ps, 10 ∉ cp w := by
  intro w hw
  obtain ⟨l, hl, hwl⟩ := List.mem_flatten.mp hw
  obtain ⟨rs, hrs, rfl⟩ := List.mem_map.mp hl
  rcases List.mem_cons.mp hwl with rfl | hwl
  · decide +kernel
  · obtain ⟨r, hr, rfl⟩ := List.mem_map.mp hwl
    exact h rs hrs r hr
theorem ok_free {r : Rw} {m : Nat} (h : r.ok m) (hm : m ≤ 1000) : 10 ∉ cp (rwText r) := fun z => (rw_codes h hm 10 z).1 rfl
def Full (ps : List (List Rw)) : Prop := ps.length = 4 ∧ ∀ t ∈ ps, t.length = 40 ∧ ∀ r ∈ t, r.ok 40
theorem Full.ok {ps : List (List Rw)} (h : Full ps) : PrOk ps := ⟨by rw [h.1]; decide, by rw [h.1]; decide, fun t ht => ⟨by rw [(h.2 t ht).1]; decide, fun r hr => by rw [(h.2 t ht).1]; exact (h.2 t ht).2 r hr⟩⟩
/-- a fifth thread -/
theorem bad_head {ps : List (List Rw)} (h : Full ps) : readP (prText (ps ++ [[]])) = .inl 164 := by
  have hok := h.ok
  unfold prText
  have e : prLines (ps ++ [[]]) = prLines ps ++ [("thread" : Str)] := prLines_snoc ps []
  rw [e, readP_lines (by simp) (fun w hw => by
    rcases List.mem_append.mp hw with h1 | h1
    · exact fun z => (line_codes hok w h1 10 z).1 rfl
    · rw [List.mem_singleton.mp h1]
      decide +kernel)]
  obtain ⟨m, h2⟩ := read_threads [("thread" : Str)] (.inr rfl) ps 0 0 [] (by rw [List.length_nil, h.1]; decide) hok.2.2
  have l4 : (prLines ps).length = 164 := by rw [lines40 fun t ht => (h.2 t ht).1, h.1]
  rw [h2, read_head _ _ _ _ rfl, if_pos (by rw [List.nil_append, h.1]), l4]
/-- what stands ahead of a thread of a full program -/
theorem read_to {ps qs : List (List Rw)} {at_ : Nat} {t' : List Rw} (h : Full ps) (ha : at_ < 4) (hq : qs = ps.take at_ ++ [t'] ++ ps.drop (at_ + 1)) (hf : ∀ r ∈ t', 10 ∉ cp (rwText r)) :
    readP (prText qs) = readL (41 * at_ + 1) t'.length (ps.take at_ ++ [[]]) (t'.map rwText ++ prLines (ps.drop (at_ + 1))) := by
  have hok := h.ok
  have e : prLines qs = prLines (ps.take at_) ++ (("thread" : Str) :: (t'.map rwText ++ prLines (ps.drop (at_ + 1)))) := by
    rw [hq, prLines_app, prLines_snoc, List.append_assoc]
    rfl
  have rowf : ∀ t ∈ ps, ∀ r ∈ t, 10 ∉ cp (rwText r) := fun t ht r hr => ok_free ((h.2 t ht).2 r hr) (by decide)
  have hne : prLines qs ≠ [] := by
    rw [e]
    simp
  have free : ∀ w ∈ prLines qs, 10 ∉ cp w := by
    refine prLines_free fun t ht r hr => ?_
    rw [hq] at ht
    rcases List.mem_append.mp ht with h1 | h1
    · rcases List.mem_append.mp h1 with h2 | h2
      · exact rowf t (List.mem_of_mem_take h2) r hr
      · rw [List.mem_singleton.mp h2] at hr
        exact hf r hr
    · exact rowf t (List.mem_of_mem_drop h1) r hr
  unfold prText
  rw [readP_lines hne free, e]
  have l1 : (ps.take at_).length = at_ := by
    have := h.1
    rw [List.length_take]
    omega
  obtain ⟨m, h2⟩ := read_threads (("thread" : Str) :: (t'.map rwText ++ prLines (ps.drop (at_ + 1)))) (.inr rfl) (ps.take at_) 0 0 [] (by rw [List.length_nil, l1]; omega) (fun t ht => hok.2.2 t (List.mem_of_mem_take ht))
  have l4 : (prLines (ps.take at_)).length = 41 * at_ := by rw [lines40 fun t ht => (h.2 t (List.mem_of_mem_take ht)).1, l1]
  rw [h2, read_head _ _ _ _ rfl, if_neg (by rw [List.nil_append, l1]; omega), l4, rbeh_rows (prLines_head _) t', Nat.zero_add, List.nil_append]
/-- a forty-first row -/
theorem bad_more {ps qs : List (List Rw)} {at_ : Nat} {th : List Rw} {r : Rw} (h : Full ps) (ha : at_ < 4) (hth : th ∈ ps) (hr : r.ok 41) (hq : qs = ps.take at_ ++ [th ++ [r]] ++ ps.drop (at_ + 1)) : readP (prText qs) = .inl (41 * at_ + 1 + 40) := by
  obtain ⟨l40, hok⟩ := h.2 th hth
  rw [read_to h ha hq (fun x hx => by
    rcases List.mem_append.mp hx with h1 | h1
    · exact ok_free (hok x h1) (by decide)
    · rw [List.mem_singleton.mp h1]
      exact ok_free hr (by decide)), List.length_append, l40, List.map_append, List.append_assoc]
  show readL (41 * at_ + 1) 41 _ _ = _
  rw [read_rows (m := 41) (by decide) _ _ th _ [] (by rw [List.length_nil, l40]; decide) (fun x hx => Rw.ok_mono (by decide) (hok x hx)), l40, List.nil_append]
  show readL (41 * at_ + 1 + 40) 41 (ps.take at_ ++ [th]) (rwText r :: _) = _
  rw [read_row _ _ _ _ rw_head (rowOf_text hr (by decide)), if_pos (.inr (.inl (by rw [last_snoc, l40])))]
/-- a row that can't stand -/
theorem bad_row {ps qs : List (List Rw)} {at_ k : Nat} {th : List Rw} {r : Rw} (h : Full ps) (ha : at_ < 4) (hth : th ∈ ps) (hk : k < 40) (hr : BadRow r) (hq : qs = ps.take at_ ++ [th.take k ++ [r] ++ th.drop (k + 1)] ++ ps.drop (at_ + 1)) : readP (prText qs) = .inl (41 * at_ + 1 + k) := by
  obtain ⟨l40, hok⟩ := h.2 th hth
  have lt : (th.take k).length = k := by
    rw [List.length_take]
    omega
  have ll : (th.take k ++ [r] ++ th.drop (k + 1)).length = 40 := by
    rw [List.length_append, List.length_append, lt, List.length_singleton, List.length_drop]
    omega
  rw [read_to h ha hq (fun x hx => by
    rcases List.mem_append.mp hx with h1 | h1
    · rcases List.mem_append.mp h1 with h2 | h2
      · exact ok_free (hok x (List.mem_of_mem_take h2)) (by decide)
      · rw [List.mem_singleton.mp h2]
        exact hr.free
    · exact ok_free (hok x (List.mem_of_mem_drop h1)) (by decide)), ll, List.map_append, List.map_append, List.append_assoc, List.append_assoc]
  rw [read_rows (m := 40) (by decide) _ _ (th.take k) _ [] (by rw [List.length_nil, lt]; omega) (fun x hx => hok x (List.mem_of_mem_take hx)), lt, List.nil_append]
  show readL (41 * at_ + 1 + k) 40 (ps.take at_ ++ [th.take k]) (rwText r :: _) = _
  rcases hr.no with e | ⟨r', e, hg⟩
  · rw [read_none _ _ _ _ rw_head e]
  · rw [read_row _ _ _ _ rw_head e, if_pos (.inr (.inr hg))]
theorem fit_no {H : Hp} {m : Nat} {t : Addr} {z : Str} {us : List V} {i c : Nat} {x : V} (ht : H t = some (.tup (.str z :: us))) (hc : (cp (shp z))[i]? = some c) (hx : us[i]? = some x) (hf : fitB H m c x = false) : tupT (rowV H m) H (.ref t) = false := by
  rw [tupT_tup ht]
  show (!decide (shp z = "") && (decide (us.length = (shp z).length) && ((cp (shp z)).zip us).all (fun q => fitB H m q.1 q.2))) = false
  have e : ((cp (shp z)).zip us).all (fun q => fitB H m q.1 q.2) = false := by
    refine List.all_eq_false.mpr ⟨(c, x), ?_, by rw [hf]; exact Bool.false_ne_true⟩
    refine List.mem_of_getElem? (i := i) ?_
    rw [List.getElem?_zip_eq_some]
    exact ⟨hc, hx⟩
  rw [e, Bool.and_false, Bool.and_false]
theorem bad_tell {its : List Im} (hok : ∀ m ∈ its, m.ok) (hl : its.length = 17) : BadRow ⟨"tell", [.ex (its.map Im.toV)]⟩ := by
  have hne : its ≠ [] := fun e => by rw [e] at hl; cases hl
  have back : (Txt.split (tgText (.ex (its.map Im.toV))) " ").map itV = its.map Im.toV := show_back hok hne
  have hx : exV (its.map Im.toV) = false := by
    unfold exV
    rw [List.length_map, hl]
    rfl
  have cods : ∀ d ∈ cp (tgText (.ex (its.map Im.toV))), d ≠ 44 ∧ d ≠ 10 ∧ d < 200 := by
    intro d hd
    rcases join_mem (show d ∈ cp (Txt.join " " ((its.map Im.toV).map shV)) from hd) with h2 | ⟨w, hw, hc⟩
    · rw [cp_blank, List.mem_singleton] at h2
      omega
    · rw [List.map_map] at hw
      obtain ⟨i, hi, rfl⟩ := List.mem_map.mp hw
      have := im_codes2 (hok i hi) d hc
      omega
  have etl : rwText ⟨"tell", [.ex (its.map Im.toV)]⟩ = "tell" ++ " " ++ tgText (.ex (its.map Im.toV)) := by
    unfold rwText
    congr 1
  have hs : cp (shp ("tell" : Str)) = [101] := by decide +kernel
  refine ⟨⟨(by decide +kernel : ("tell" : Str) ∈ wds), (show 1 ≤ 3 by decide), fun g hg => ?_⟩, ?_, .inl ?_, ?_⟩
  · rw [List.mem_singleton.mp hg]
    refine ⟨by rw [List.length_map, hl]; decide, fun x hx => ?_⟩
    obtain ⟨m, hm, rfl⟩ := List.mem_map.mp hx
    refine ⟨m, rfl, ?_⟩
    have := hok m hm
    cases m with
    | wo a =>
      have hw : -32768 ≤ a ∧ a ≤ 32767 := this
      show a.natAbs < 10 ^ 5
      have : (10 : Nat) ^ 5 = 100 * 1000 := by decide
      omega
    | re k => exact this
    | si i => exact this
  · rw [etl]
    intro z
    have z2 : 10 ∈ TL.tl (("tell" : Str) ++ " " ++ tgText (.ex (its.map Im.toV))) := z
    rw [TL.tl_append] at z2
    rcases List.mem_append.mp z2 with h1 | h1
    · have : 10 ∉ TL.tl (("tell" : Str) ++ " ") := by decide +kernel
      exact this h1
    · exact (cods 10 h1).2.1 rfl
  · rw [etl]
    unfold rowOf
    rw [TL.partition_app (show TL.tl (" " : Str) = 32 :: [] from cp_blank) (show 32 ∉ TL.tl ("tell" : Str) by decide +kernel)]
    dsimp only
    have es : Txt.split (tgText (.ex (its.map Im.toV))) ", " = [tgText (.ex (its.map Im.toV))] := by
      have := TL.split_join (show TL.tl (", " : Str) = 44 :: [32] from cp_comma) (by decide +kernel) (parts := [tgText (.ex (its.map Im.toV))]) (by simp) (fun p hp => by
        rw [List.mem_singleton.mp hp]
        exact fun z => (cods 44 z).1 rfl)
      exact this
    rw [es, hs, if_neg (fun z => z rfl)]
    have et : tgsOf [101] [tgText (.ex (its.map Im.toV))] = [none] := by
      show [tgOf 101 (tgText (.ex (its.map Im.toV)))] = _
      unfold tgOf
      rw [if_neg (by decide), if_pos rfl, back, hx, if_neg Bool.false_ne_true]
    rw [et]
    rfl
  · rintro H v ⟨t, us, rfl, ht, hA⟩
    obtain ⟨x, hx1, a, rfl, ha⟩ := hA.got (i := 0) rfl
    refine fit_no ht (i := 0) (c := 101) (by show (cp (shp ("tell" : Str)))[0]? = _; rw [hs]; rfl) hx1 ?_
    unfold fitB
    rw [if_neg (by decide), if_pos rfl, exT_tup ha]
    exact hx
theorem bad_set {a : Int} (h : a = 32768 ∨ a = -32769) : BadRow ⟨"set", [.re 0, .ex [.int a]]⟩ := by
  have hs : cp (shp ("set" : Str)) = [114, 101] := by decide +kernel
  have hx : exV [.int a] = false := by rcases h with rfl | rfl <;> decide +kernel
  refine ⟨⟨(by decide +kernel : ("set" : Str) ∈ wds), (show 2 ≤ 3 by decide), fun g hg => ?_⟩, ?_, .inl ?_, ?_⟩
  · rcases List.mem_cons.mp hg with rfl | hg
    · show 0 < 16
      decide
    · rw [List.mem_singleton.mp hg]
      refine ⟨(show 1 ≤ 20 by decide), fun x hx => ?_⟩
      rw [List.mem_singleton.mp hx]
      refine ⟨.wo a, rfl, ?_⟩
      rcases h with rfl | rfl <;> (show _ < 10 ^ 5; decide)
  · rcases h with rfl | rfl <;> decide +kernel
  · rcases h with rfl | rfl <;> decide +kernel
  · rintro H v ⟨t, us, rfl, ht, hA⟩
    obtain ⟨x, hx1, b, rfl, hb⟩ := hA.got (i := 1) rfl
    refine fit_no ht (i := 1) (c := 101) (by show (cp (shp ("set" : Str)))[1]? = _; rw [hs]; rfl) hx1 ?_
    unfold fitB
    rw [if_neg (by decide), if_pos rfl, exT_tup hb]
    exact hx
theorem bad_if {es : List V} (h : exV es = true) : BadRow ⟨"if", [.ex es, .kk 41]⟩ := by
  have hs : cp (shp ("if" : Str)) = [101, 107] := by decide +kernel
  have hok : (⟨"if", [.ex es, .kk 41]⟩ : Rw).ok 41 := ⟨(by decide +kernel : ("if" : Str) ∈ wds), by
    show TgsOk 41 (cp (shp ("if" : Str))) _
    rw [hs]
    exact ⟨⟨rfl, h⟩, ⟨rfl, Nat.le_refl _⟩, trivial⟩⟩
  refine ⟨RwS.of hok (by decide), ok_free hok (by decide), .inr ⟨_, rowOf_text hok (by decide), rfl⟩, ?_⟩
  rintro H v ⟨t, us, rfl, ht, hA⟩
  obtain ⟨x, hx1, hx2⟩ := hA.got (i := 1) rfl
  obtain rfl : x = .int 41 := hx2
  exact fit_no ht (i := 1) (c := 107) (by show (cp (shp ("if" : Str)))[1]? = _; rw [hs]; rfl) hx1 rfl
theorem bad_go : BadRow ⟨"go", [.kk 41]⟩ := by
  have hs : cp (shp ("go" : Str)) = [107] := by decide +kernel
  have hok : (⟨"go", [.kk 41]⟩ : Rw).ok 41 := ⟨(by decide +kernel : ("go" : Str) ∈ wds), by
    show TgsOk 41 (cp (shp ("go" : Str))) _
    rw [hs]
    exact ⟨⟨rfl, Nat.le_refl _⟩, trivial⟩⟩
  refine ⟨RwS.of hok (by decide), ok_free hok (by decide), .inr ⟨_, rowOf_text hok (by decide), rfl⟩, ?_⟩
  rintro H v ⟨t, us, rfl, ht, hA⟩
  obtain ⟨x, hx1, hx2⟩ := hA.got (i := 0) rfl
  obtain rfl : x = .int 41 := hx2
  exact fit_no ht (i := 0) (c := 107) (by show (cp (shp ("go" : Str)))[0]? = _; rw [hs]; rfl) hx1 rfl
def sp_lonemore : Sp := fun vs H Q _ => ∃ (p c : Addr) (ns : List Int) (n : Int) (v : V) (ps : List (List Rw)), vs = [.ref p, v] ∧ Pen H p c ns n ∧ n < 860000 ∧ PrV H v ps ∧ Full ps ∧
  ∀ (H' : Hp) (t : Addr) (qv : V) (qs : List (List Rw)) (nth : Nat) (n' : Int), Kp p H H' → Pen H' p c ns n' → n ≤ n' → n' ≤ n + 90 → H' t = some (.tup [qv, .int (nth : Int)]) → PrV H' qv qs → PrS qs → readP (prText qs) = .inl nth → NoP qs → Q (.ref t) H'
theorem ok_lonemore (T : Txt K w mg f fd ob) : FnOk P w K mg base CX0 5 (f 44) (fd 44) ["_law_feed_here", "_law_program"] sp_lonemore := by
  have G_ldraw := ok_ldraw (P := P) (base := base) T
  have G_llong := ok_llong (P := P) (base := base) T
  refine T.F_lonemore.ok sc_lonemore (fun vs H Q E h => ?_) (fun cdv A outer s H vs Q E hr h => ?_)
  · obtain ⟨p, c, ns, n, v, ps, rfl, _⟩ := h
    rfl
  · obtain ⟨p, c, ns, n, v, ps, rfl, hP, hn, hv, hF, q⟩ := h
    have hr_llong := hr
    have hr_ldraw : Room 1 _ := hr.mono (by decide)
    have hn0 := hP.nn
    have big : ∀ {k : Nat}, k ≤ 1000 → k ≤ sizeLine := fun h => Nat.le_trans h (by decide)
    refine ⟨_, (C8.pss_cut (ps_par (i := 2) (j := 3) (by rfl) sc_lonemore.nd rfl rfl (by decide) rfl rfl (pa_cons (pe_call G_ldraw hr_ldraw (by rfl) T.m_ldraw T.F_ldraw.kp T.b_ldraw .nil pass0 (pa_cons (pv 0) (pa_cons pe_int pa_nil))) (pa_cons (pe_call G_ldraw hr_ldraw (by rfl) T.m_ldraw T.F_ldraw.kp T.b_ldraw .nil pass0 (pa_cons (pv 0) (pa_cons pe_int pa_nil))) pa_nil)) (by rfl))
      (C8.pss_cut (ps_set (i := 4) sc_lonemore.nd rfl (Or.inl rfl) (pe_op op_add (pe_op op_mul pe_int (pv 2)) pe_int))
      (C8.pss_cut (ps_set (i := 5) sc_lonemore.nd rfl (Or.inl rfl) (pe_ix ix_tup (pv 1) (pv 2) (fun _ _ => rfl)))
      (C8.pss_cut (ps_set (i := 6) sc_lonemore.nd rfl (Or.inl rfl) (pe_call G_llong hr_llong (by rfl) T.m_llong T.F_llong.kp T.b_llong .nil pass0 (pa_cons (pv 0) pa_nil)))
      (C8.pss_cut (ps_set (i := 7) sc_lonemore.nd rfl (Or.inl rfl) (pe_lst (pa_cons (pe_tup (pa_cons pe_str (pa_cons (pe_op op_catA (pv 6) (pe_tup (pa_cons pe_int (pa_cons pe_str pa_nil)))) pa_nil))) (pa_cons (pe_tup (pa_cons pe_str (pa_cons pe_str (pa_cons (pe_tup (pa_cons pe_int pa_nil)) pa_nil)))) (pa_cons (pe_tup (pa_cons pe_str (pa_cons pe_str (pa_cons (pe_tup (pa_cons (pe_un un_neg pe_int) pa_nil)) pa_nil)))) (pa_cons (pe_tup (pa_cons pe_str (pa_cons (pv 6) (pa_cons pe_int pa_nil)))) (pa_cons (pe_tup (pa_cons pe_str (pa_cons pe_int pa_nil))) pa_nil)))))))
      (C8.pss_cut (ps_set (i := 8) sc_lonemore.nd rfl (Or.inl rfl) (pe_call G_ldraw hr_ldraw (by rfl) T.m_ldraw T.F_ldraw.kp T.b_ldraw .nil pass0 (pa_cons (pv 0) (pa_cons pe_int pa_nil))))
      (C8.pss_cut (ps_if (pt_cmpR op_eq (pv 8) pe_int (nomark _)) (pss_one (ps_ret (pe_tup (pa_cons (pe_op op_catA (pv 1) (pe_tup (pa_cons (pe_tup pa_nil) pa_nil))) (pa_cons pe_int pa_nil))))) pss_nil)
      (C8.pss_cut (ps_if (pt_cmpR op_eq (pv 8) pe_int (nomark _)) (pss_one (ps_ret (pe_tup (pa_cons (pe_op op_catA (pe_op op_catA (pe_slice sl_tupA (pv 1) po_none (po_some (pv 2))) (pe_tup (pa_cons (pe_op op_catA (pv 5) (pe_tup (pa_cons (pe_tup (pa_cons pe_str (pa_cons pe_int pa_nil))) pa_nil))) pa_nil))) (pe_slice sl_tupA (pv 1) (po_some (pe_op op_add (pv 2) pe_int)) po_none)) (pa_cons (pe_op op_add (pv 4) pe_int) pa_nil))))) pss_nil)
      (C8.pss_cut (ps_set (i := 9) sc_lonemore.nd rfl (Or.inl rfl) (pe_ix ix_list (pv 7) (pe_op op_sub (pv 8) pe_int) (fun _ _ => rfl)))
      (pss_one (ps_ret (pe_tup (pa_cons (pe_op op_catA (pe_op op_catA (pe_slice sl_tupA (pv 1) po_none (po_some (pv 2))) (pe_tup (pa_cons (pe_op op_catA (pe_op op_catA (pe_slice sl_tupA (pv 5) po_none (po_some (pv 3))) (pe_tup (pa_cons (pv 9) pa_nil))) (pe_slice sl_tupA (pv 5) (po_some (pe_op op_add (pv 3) pe_int)) po_none)) pa_nil))) (pe_slice sl_tupA (pv 1) (po_some (pe_op op_add (pv 2) pe_int)) po_none)) (pa_cons (pe_op op_add (pv 4) (pv 3)) pa_nil)))))))))))))), ?_⟩
    obtain ⟨t, vs, rfl, ht, hA⟩ := hv
    have lA := hA.len
    have l4 := hF.1
    refine ⟨fun σ' H' => ∃ (i k : Nat) (n' : Int), σ' = [some (.ref p), some (.ref t), some (.int (i : Int)), some (.int (k : Int)), none, none, none, none, none, none] ∧ Kp p H H' ∧ Pen H' p c ns n' ∧ n ≤ n' ∧ n' ≤ n + 2 ∧ i < 4 ∧ k < 40, ?_, ?_⟩
    · refine ⟨_, rfl, p, c, ns, n, 4, rfl, hP, by decide, by decide, by omega, fun H1 d1 n1 k1 P1 d1a d1b n1a n1b => ?_⟩
      refine ⟨_, rfl, p, c, ns, n1, 40, rfl, P1, by decide, by decide, by omega, fun H2 d2 n2 k2 P2 d2a d2b n2a n2b => ⟨_, _, rfl, ?_⟩⟩
      obtain ⟨i, rfl⟩ := Int.eq_ofNat_of_zero_le d1a
      obtain ⟨k, rfl⟩ := Int.eq_ofNat_of_zero_le d2a
      exact ⟨i, k, n2, rfl, k1.trans k2, P2, by omega, by omega, by omega, by omega⟩
    rintro _ H1 ⟨i, k, n1, rfl, k1, P1, n1a, n1b, hi, hk⟩
    refine ⟨fun σ' H' => σ' = [some (.ref p), some (.ref t), some (.int (i : Int)), some (.int (k : Int)), some (.int ((41 * i + 1 : Nat) : Int)), none, none, none, none, none] ∧ H1 = H', ?_, ?_⟩
    · refine ⟨_, rfl, _, _, rfl, rfl, .inl ⟨by decide, by decide⟩, _, _, rfl, rfl, ?_, rfl⟩
      show [some (V.ref p), some (V.ref t), some (V.int (i : Int)), some (V.int (k : Int)), some (V.int (41 * (i : Int) + 1)), none, none, none, none, none] = _
      rw [show 41 * (i : Int) + 1 = ((41 * i + 1 : Nat) : Int) by omega]
    rintro _ _ ⟨rfl, rfl⟩
    have hi4 : i < vs.length := by omega
    obtain ⟨th, hth, hthv⟩ := hA.get (List.getElem?_eq_getElem hi4)
    have hmem : th ∈ ps := List.mem_of_getElem? hth
    obtain ⟨l40, hrok⟩ := hF.2 th hmem
    have hat : atI vs ((i : Nat) : Int) = some vs[i] := atI_nat (List.getElem?_eq_getElem hi4)
    generalize vs[i] = thv at hat hthv
    obtain ⟨t2, us, rfl, ht2, hU⟩ := hthv
    have lU := hU.len
    have kt1 := hP.tkp k1
    refine ⟨fun σ' H' => σ' = [some (.ref p), some (.ref t), some (.int (i : Int)), some (.int (k : Int)), some (.int ((41 * i + 1 : Nat) : Int)), some (.ref t2), none, none, none, none] ∧ H1 = H', ?_, ?_⟩
    · exact ⟨_, rfl, _, rfl, _, _, _, _, rfl, rfl, SqT.of (kt1 _ _ ht), hat, rfl, rfl⟩
    rintro _ _ ⟨rfl, rfl⟩
    refine ⟨fun σ' H' => ∃ (te : Addr) (es : List Im) (n' : Int), σ' = [some (.ref p), some (.ref t), some (.int (i : Int)), some (.int (k : Int)), some (.int ((41 * i + 1 : Nat) : Int)), some (.ref t2), some (.ref te), none, none, none] ∧ Kp p H H' ∧ Pen H' p c ns n' ∧ n ≤ n' ∧ n' ≤ n + 82 ∧ H' te = some (.tup (es.map Im.toV)) ∧ (∀ m ∈ es, m.ok) ∧ es.length = 15 ∧ Kw.ht 0 es = some 1, ?_, ?_⟩
    · exact ⟨_, rfl, p, c, ns, n1, rfl, P1, by omega, fun H2 te es n2 k2 P2 n2a n2b he eok el eh => ⟨te, es, n2, rfl, k1.trans k2, P2, by omega, by omega, he, eok, el, eh⟩⟩
    rintro _ H2 ⟨te, es, n2, rfl, k2, P2, n2a, n2b, he, eok, el, eh⟩
    have xe : exV (es.map Im.toV) = true := by rw [exV_map eok eh, decide_eq_true (by omega)]
    -- the rows that can't stand
    refine ⟨fun σ' H' => ∃ (lr : Addr) (qv : List V) (rs : List Rw), σ' = [some (.ref p), some (.ref t), some (.int (i : Int)), some (.int (k : Int)), some (.int ((41 * i + 1 : Nat) : Int)), some (.ref t2), some (.ref te), some (.ref lr), none, none] ∧ Same H2 H' ∧ H' lr = some (.lst qv) ∧ All2 (RwV H') qv rs ∧ rs.length = 5 ∧ (∀ r ∈ rs, BadRow r) ∧ lr ≠ p, ?_, ?_⟩
    · refine ⟨_, rfl, (show 2 ≤ sizeLine by decide), fun a1 g1 => ?_⟩
      have s1 := Same.new (o := .tup [V.int 1, V.str "+"]) g1
      refine catAny (s1 _ _ he) upd_same (big (by rw [List.length_map]; show _ + 2 ≤ _; omega)) fun r1 H3 s3 hr1 => ?_
      refine ⟨(show 2 ≤ sizeLine by decide), fun q0 g0 => ?_⟩
      refine ⟨(show 1 ≤ sizeLine by decide), fun b1 h1 => ⟨(show 3 ≤ sizeLine by decide), fun q1 g1' => ?_⟩⟩
      refine ⟨_, rfl, (show 1 ≤ sizeLine by decide), fun b2 h2 => ⟨(show 3 ≤ sizeLine by decide), fun q2 g2' => ?_⟩⟩
      refine ⟨_, rfl, (show 3 ≤ sizeLine by decide), fun q3 g3' => ?_⟩
      refine ⟨(show 2 ≤ sizeLine by decide), fun q4 g4' => ?_⟩
      refine ⟨(show 5 ≤ sizeLine by decide), fun lr glr => ?_⟩
      have z0 := Same.new (o := .tup [.str "tell", .ref r1]) g0
      have z1 := Same.new (o := .tup [.int 32768]) h1
      have z2 := Same.new (o := .tup [.str "set", .str "a", .ref b1]) g1'
      have z3 := Same.new (o := .tup [.int (-32769)]) h2
      have z4 := Same.new (o := .tup [.str "set", .str "a", .ref b2]) g2'
      have z5 := Same.new (o := .tup [.str "if", .ref te, .int 41]) g3'
      have z6 := Same.new (o := .tup [.str "go", .int 41]) g4'
      have z7 := Same.new (o := .lst [.ref q0, .ref q1, .ref q2, .ref q3, .ref q4]) glr
      have w6 := z6.trans z7
      have w5 := z5.trans w6
      have w4 := z4.trans w5
      have w3 := z3.trans w4
      have w2 := z2.trans w3
      have w1 := z1.trans w2
      have w0 := z0.trans w1
      have sA := (s1.trans s3).trans w0
      have e17 : (es.map Im.toV) ++ [V.int 1, V.str "+"] = (es ++ [Im.wo 1, Im.si 0]).map Im.toV := by
        rw [List.map_append]
        rfl
      rw [e17] at hr1
      have ea : ("a" : Str) = lt 0 := by decide +kernel
      have lrp : lr ≠ p := by
        intro e
        rw [e] at glr
        obtain ⟨r, g, _⟩ := P2
        rw [z6 _ _ (z5 _ _ (z4 _ _ (z3 _ _ (z2 _ _ (z1 _ _ (z0 _ _ (s3 _ _ (s1 _ _ g))))))))] at glr
        cases glr
      refine ⟨lr, _, [⟨"tell", [.ex ((es ++ [Im.wo 1, Im.si 0]).map Im.toV)]⟩, ⟨"set", [.re 0, .ex [.int 32768]]⟩, ⟨"set", [.re 0, .ex [.int (-32769)]]⟩, ⟨"if", [.ex (es.map Im.toV), .kk 41]⟩, ⟨"go", [.kk 41]⟩], rfl, sA, upd_same, ?_, rfl, ?_, lrp⟩
      · refine ⟨⟨q0, [.ref r1], rfl, w1 _ _ upd_same, ⟨r1, rfl, w0 _ _ hr1⟩, trivial⟩, ⟨q1, [.str "a", .ref b1], rfl, w3 _ _ upd_same, congrArg V.str ea, ⟨b1, rfl, w2 _ _ upd_same⟩, trivial⟩, ⟨q2, [.str "a", .ref b2], rfl, w5 _ _ upd_same, congrArg V.str ea, ⟨b2, rfl, w4 _ _ upd_same⟩, trivial⟩, ⟨q3, [.ref te, .int 41], rfl, w6 _ _ upd_same, ⟨te, rfl, sA _ _ he⟩, rfl, trivial⟩, ⟨q4, [.int 41], rfl, z7 _ _ upd_same, rfl, trivial⟩, trivial⟩
      · intro r hr
        simp only [List.mem_cons, List.not_mem_nil, or_false] at hr
        rcases hr with rfl | rfl | rfl | rfl | rfl
        · refine bad_tell (fun m hm => ?_) (by rw [List.length_append, el]; rfl)
          rcases List.mem_append.mp hm with h | h
          · exact eok m h
          · simp only [List.mem_cons, List.not_mem_nil, or_false] at h
            rcases h with rfl | rfl
            · exact (show W 1 from ⟨by decide, by decide⟩)
            · exact (show 0 < 9 by decide)
        · exact bad_set (.inl rfl)
        · exact bad_set (.inr rfl)
        · exact bad_if xe
        · exact bad_go
    rintro _ H3 ⟨lr, qv, rs, rfl, s3, hlr, hB, hl5, hbad, lrp⟩
    have P3 := P2.same s3
    refine ⟨fun σ' H' => ∃ (wy : Int) (n' : Int), σ' = [some (.ref p), some (.ref t), some (.int (i : Int)), some (.int (k : Int)), some (.int ((41 * i + 1 : Nat) : Int)), some (.ref t2), some (.ref te), some (.ref lr), some (.int wy), none] ∧ Kp p H3 H' ∧ Pen H' p c ns n' ∧ n ≤ n' ∧ n' ≤ n + 83 ∧ 0 ≤ wy ∧ wy < 7, ?_, ?_⟩
    · exact ⟨_, rfl, p, c, ns, n2, 7, rfl, P3, by decide, by decide, by omega, fun H4 wy n4 k4 P4 d4a d4b n4a n4b => ⟨wy, n4, rfl, k4, P4, by omega, by omega, d4a, d4b⟩⟩
    rintro _ H4 ⟨wy, n4, rfl, k4, P4, n4a, n4b, wya, wyb⟩
    have kH4 : Kp p H H4 := (k2.trans (Same.kp s3)).trans k4
    have kt4 := hP.tkp kH4
    have ht4 := kt4 _ _ ht
    have ht24 := kt4 _ _ ht2
    have hB4 : All2 (RwV H4) qv rs := hB.mono fun _ _ z => z.keep (P3.tkp k4)
    have hlr4 := k4 _ _ lrp hlr
    have qs : ∀ (H' : Hp) (a : Addr) (w : V) (ws : List (List Rw)) (nth : Nat), Same H4 H' → H' a = some (.tup [w, .int (nth : Int)]) → PrV H' w ws → PrS ws → readP (prText ws) = .inl nth → NoP ws → Q (.ref a) H' := fun H' a w ws nth s' ha hw h1 h2 h3 =>
      q H' a w ws nth n4 (kH4.trans (Same.kp s')) (P4.same s') (by omega) (by omega) ha hw h1 h2 h3
    have prs : ∀ t' : List Rw, t'.length ≤ 41 → (∀ r ∈ t', RwS r) → PrS (ps.take i ++ [t'] ++ ps.drop (i + 1)) := fun t' h1 h2 => by
      have h0 := PrS.of hF.ok
      refine ⟨?_, fun x hx => ?_⟩
      · rw [List.length_append, List.length_append, List.length_take, List.length_singleton, List.length_drop]
        omega
      · rcases List.mem_append.mp hx with h | h
        · rcases List.mem_append.mp h with h | h
          · exact h0.2 x (List.mem_of_mem_take h)
          · rw [List.mem_singleton.mp h]
            exact ⟨h1, h2⟩
        · exact h0.2 x (List.mem_of_mem_drop h)
    have hgot : ∀ t' : List Rw, (ps.take i ++ [t'] ++ ps.drop (i + 1))[i]? = some t' := fun t' => by
      have e : (ps.take i).length = i := by
        rw [List.length_take]
        omega
      rw [List.append_assoc, List.getElem?_append_right (by omega), e, Nat.sub_self]
      rfl
    have c1 : cutV vs none (some ((i : Nat) : Int)) = vs.take i := cutTo vs i
    have c4 : cutV vs (some (((i : Nat) : Int) + 1)) none = vs.drop (i + 1) := cutAny vs (i + 1)
    have b1 : (vs.take i).length ≤ 4 := by rw [List.length_take]; omega
    have b4 : (vs.drop (i + 1)).length ≤ 4 := by rw [List.length_drop]; omega
    have hA4 : All2 (ThV H4) vs ps := hA.mono fun _ _ z => z.keep kt4
    have hU4 : All2 (RwV H4) us th := hU.mono fun _ _ z => z.keep kt4
    -- a fifth thread
    refine ⟨fun σ' H' => σ' = [some (.ref p), some (.ref t), some (.int (i : Int)), some (.int (k : Int)), some (.int ((41 * i + 1 : Nat) : Int)), some (.ref t2), some (.ref te), some (.ref lr), some (.int wy), none] ∧ H4 = H' ∧ wy ≠ 0, ?_, ?_⟩
    · refine ⟨_, rfl, rfl, _, rfl, ?_⟩
      by_cases h0 : wy = 0
      · refine iteB1 (decide_eq_true (by rw [h0])) ⟨_, rfl, Nat.zero_le _, fun a0 g0 => ⟨(show 1 ≤ sizeLine by decide), fun a1 g1 => ?_⟩⟩
        have s5 := (Same.new (o := .tup []) g0).trans (Same.new (o := .tup [.ref a0]) g1)
        refine catAny (s5 _ _ ht4) upd_same (big (by rw [List.length_singleton]; omega)) fun r2 H6 s6 hr2 => ?_
        refine ⟨(show 2 ≤ sizeLine by decide), fun a3 g3 => ?_⟩
        have s7 := Same.new (o := .tup [.ref r2, .int 164]) g3
        have sA := (s5.trans s6).trans s7
        refine qs _ a3 (.ref r2) (ps ++ [[]]) 164 sA upd_same ⟨r2, _, rfl, s7 _ _ hr2, (hA4.mono fun _ _ z => z.keep (TKp.same sA)).snoc ⟨a0, [], rfl, s7 _ _ (s6 _ _ (Same.new g1 _ _ upd_same)), trivial⟩⟩ ?_ (bad_head hF) (nop_len (by rw [List.length_append, List.length_singleton]; omega))
        have h0 := PrS.of hF.ok
        refine ⟨by rw [List.length_append, List.length_singleton]; omega, fun x hx => ?_⟩
        rcases List.mem_append.mp hx with h | h
        · exact h0.2 x h
        · rw [List.mem_singleton.mp h]
          exact ⟨Nat.zero_le _, fun _ z => nomatch z⟩
      · exact iteB0 (decide_eq_false (fun e => h0 (V.int.inj e))) ⟨rfl, rfl, h0⟩
    rintro _ _ ⟨rfl, rfl, wy0⟩
    -- a forty-first row
    refine ⟨fun σ' H' => σ' = [some (.ref p), some (.ref t), some (.int (i : Int)), some (.int (k : Int)), some (.int ((41 * i + 1 : Nat) : Int)), some (.ref t2), some (.ref te), some (.ref lr), some (.int wy), none] ∧ H4 = H' ∧ wy ≠ 1, ?_, ?_⟩
    · refine ⟨_, rfl, rfl, _, rfl, ?_⟩
      by_cases h1 : wy = 1
      · refine iteB1 (decide_eq_true (by rw [h1])) ⟨_, rfl, _, rfl, _, rfl, slAny ht4 fun r1 H5 s5 hr1 => ?_⟩
        rw [c1] at hr1
        refine ⟨_, rfl, (show 2 ≤ sizeLine by decide), fun a1 g1 => ⟨(show 1 ≤ sizeLine by decide), fun a2 g2 => ?_⟩⟩
        have s6 := (Same.new (o := .tup [.str "go", .int 0]) g1).trans (Same.new (o := .tup [.ref a1]) g2)
        refine catAny (s6 _ _ (s5 _ _ ht24)) upd_same (big (by rw [List.length_singleton]; omega)) fun r3 H7 s7 hr3 => ?_
        refine ⟨(show 1 ≤ sizeLine by decide), fun a4 g4 => ?_⟩
        have s8 := Same.new (o := .tup [.ref r3]) g4
        have s57 := s6.trans s7
        refine catAny (s8 _ _ (s57 _ _ hr1)) upd_same (big (by rw [List.length_singleton]; omega)) fun r5 H9 s9 hr5 => ?_
        have s79 := s8.trans s9
        have s49 := (s5.trans s57).trans s79
        refine ⟨_, rfl, _, rfl, _, _, rfl, rfl, _, rfl, slFrom (s49 _ _ ht4) fun r6 H10 s10 hr6 => ?_⟩
        rw [c4] at hr6
        refine catAny (s10 _ _ hr5) hr6 (big (by rw [List.length_append, List.length_singleton]; omega)) fun r7 H11 s11 hr7 => ?_
        refine ⟨_, rfl, _, _, rfl, rfl, (show 2 ≤ sizeLine by decide), fun a8 g8 => ?_⟩
        have s12 := Same.new (o := .tup [.ref r7, .int (((41 * i + 1 : Nat) : Int) + 40)]) g8
        have sA := ((s49.trans s10).trans s11).trans s12
        have sB := ((s79.trans s10).trans s11).trans s12
        have hgo : (⟨"go", [.kk 0]⟩ : Rw).ok 41 := ⟨(by decide +kernel : ("go" : Str) ∈ wds), by
          show TgsOk 41 (cp (shp ("go" : Str))) _
          rw [show cp (shp ("go" : Str)) = [107] by decide +kernel]
          exact ⟨⟨rfl, Nat.zero_le _⟩, trivial⟩⟩
        have hth' : ThV _ (.ref r3) (th ++ [⟨"go", [.kk 0]⟩]) := ⟨r3, _, rfl, sB _ _ hr3, (hU4.mono fun _ _ z => z.keep (TKp.same sA)).snoc ⟨a1, [.int 0], rfl, sB _ _ (s7 _ _ (Same.new g2 _ _ upd_same)), rfl, trivial⟩⟩
        have hAs : All2 (ThV _) vs ps := hA4.mono fun _ _ z => z.keep (TKp.same sA)
        refine qs _ a8 (.ref r7) (ps.take i ++ [th ++ [⟨"go", [.kk 0]⟩]] ++ ps.drop (i + 1)) (41 * i + 1 + 40) sA ?_ ⟨r7, _, rfl, s12 _ _ hr7, ((hAs.take i).snoc hth').app (hAs.drop (i + 1))⟩ (prs _ (by rw [List.length_append, List.length_singleton]; omega) fun r hr => ?_) (bad_more hF hi hmem hgo rfl) (nop_thread (hgot _) (noth_len (by rw [List.length_append, List.length_singleton]; omega)))
        · rw [upd_same]
          rfl
        · rcases List.mem_append.mp hr with h | h
          · exact RwS.of (hrok r h) (by decide)
          · rw [List.mem_singleton.mp h]
            exact RwS.of hgo (by decide)
      · exact iteB0 (decide_eq_false (fun e => h1 (V.int.inj e))) ⟨rfl, rfl, h1⟩
    rintro _ _ ⟨rfl, rfl, wy1⟩
    -- a row that can't stand
    obtain ⟨j, hj⟩ : ∃ j : Nat, wy - 2 = (j : Int) := ⟨(wy - 2).toNat, by omega⟩
    have lB := hB4.len
    have hj5 : j < qv.length := by omega
    obtain ⟨r, hr1, hrv⟩ := hB4.get (List.getElem?_eq_getElem hj5)
    have hbr := hbad r (List.mem_of_getElem? hr1)
    refine ⟨fun σ' H' => ∃ rv : V, σ' = [some (.ref p), some (.ref t), some (.int (i : Int)), some (.int (k : Int)), some (.int ((41 * i + 1 : Nat) : Int)), some (.ref t2), some (.ref te), some (.ref lr), some (.int wy), some rv] ∧ H4 = H' ∧ RwV H4 rv r, ?_, ?_⟩
    · exact ⟨_, rfl, _, rfl, _, _, rfl, rfl, _, _, _, _, rfl, rfl, SqL.of hlr4, (by rw [hj]; exact atI_nat (List.getElem?_eq_getElem hj5)), _, rfl, rfl, hrv⟩
    rintro _ _ ⟨rv, rfl, rfl, hrv⟩
    have c2 : cutV us none (some ((k : Nat) : Int)) = us.take k := cutTo us k
    have c3 : cutV us (some (((k : Nat) : Int) + 1)) none = us.drop (k + 1) := cutAny us (k + 1)
    have b2 : (us.take k).length = k := by rw [List.length_take]; omega
    have b3 : (us.drop (k + 1)).length = us.length - (k + 1) := List.length_drop
    refine ⟨_, rfl, _, rfl, _, rfl, slAny ht4 fun r1 H5 s4 hr1 => ?_⟩
    rw [c1] at hr1
    refine ⟨_, rfl, _, rfl, _, rfl, slAny (s4 _ _ ht24) fun r2 H6 s5 hr2 => ?_⟩
    rw [c2] at hr2
    refine ⟨_, rfl, (show 1 ≤ sizeLine by decide), fun a1 g1 => ?_⟩
    have s6 : Same H6 (upd H6 a1 (.tup [rv])) := Same.new g1
    refine catAny (s6 _ _ hr2) upd_same (big (by rw [b2, List.length_singleton]; omega)) fun r3 H7 s7 hr3 => ?_
    have s67 := s6.trans s7
    refine ⟨_, rfl, _, rfl, _, _, rfl, rfl, _, rfl, slFrom (s67 _ _ (s5 _ _ (s4 _ _ ht24))) fun r4 H8 s8 hr4 => ?_⟩
    rw [c3] at hr4
    refine catAny (s8 _ _ hr3) hr4 (big (by rw [List.length_append, b2, b3, List.length_singleton]; omega)) fun r5 H9 s9 hr5 => ?_
    refine ⟨(show 1 ≤ sizeLine by decide), fun a6 g6 => ?_⟩
    have s10 : Same H9 (upd H9 a6 (.tup [.ref r5])) := Same.new g6
    have s59 := (s67.trans s8).trans s9
    refine catAny (s10 _ _ (s59 _ _ (s5 _ _ hr1))) upd_same (big (by rw [List.length_singleton]; omega)) fun r7 H11 s11 hr7 => ?_
    have s911 := s10.trans s11
    have s311 : Same H4 H11 := ((s4.trans s5).trans s59).trans s911
    refine ⟨_, rfl, _, rfl, _, _, rfl, rfl, _, rfl, slFrom (s311 _ _ ht4) fun r8 H12 s12 hr8 => ?_⟩
    rw [c4] at hr8
    refine catAny (s12 _ _ hr7) hr8 (big (by rw [List.length_append, List.length_singleton]; omega)) fun r9 H13 s13 hr9 => ?_
    refine ⟨_, rfl, _, rfl, _, _, rfl, rfl, (show 2 ≤ sizeLine by decide), fun a14 g14 => ?_⟩
    have s14 := Same.new (o := .tup [.ref r9, .int (((41 * i + 1 : Nat) : Int) + (k : Int))]) g14
    have sA := ((s311.trans s12).trans s13).trans s14
    have sB := ((s911.trans s12).trans s13).trans s14
    have hUs : All2 (RwV _) us th := hU4.mono fun _ _ z => z.keep (TKp.same sA)
    have hth' : ThV _ (.ref r5) (th.take k ++ [r] ++ th.drop (k + 1)) := ⟨r5, _, rfl, sB _ _ hr5, ((hUs.take k).snoc (hrv.keep (TKp.same sA))).app (hUs.drop (k + 1))⟩
    have hAs : All2 (ThV _) vs ps := hA4.mono fun _ _ z => z.keep (TKp.same sA)
    have ll : (th.take k ++ [r] ++ th.drop (k + 1)).length = 40 := by
      rw [List.length_append, List.length_append, List.length_take, List.length_singleton, List.length_drop]
      omega
    have gk : (th.take k ++ [r] ++ th.drop (k + 1))[k]? = some r := by
      have e : (th.take k).length = k := by
        rw [List.length_take]
        omega
      rw [List.append_assoc, List.getElem?_append_right (by omega), e, Nat.sub_self]
      rfl
    refine qs _ a14 (.ref r9) (ps.take i ++ [th.take k ++ [r] ++ th.drop (k + 1)] ++ ps.drop (i + 1)) (41 * i + 1 + k) sA ?_ ⟨r9, _, rfl, s14 _ _ hr9, ((hAs.take i).snoc hth').app (hAs.drop (i + 1))⟩ (prs _ (by omega) fun x hx => ?_) (bad_row hF hi hmem hk hbr rfl) (nop_thread (hgot _) (noth_row ll gk hbr))
    · rw [upd_same]
      rfl
    · rcases List.mem_append.mp hx with h | h
      · rcases List.mem_append.mp h with h | h
        · exact RwS.of (hrok x (List.mem_of_mem_take h)) (by decide)
        · rw [List.mem_singleton.mp h]
          exact hbr.sh
      · exact RwS.of (hrok x (List.mem_of_mem_drop h)) (by decide)
--SPLIT
def stAt (i : Nat) : Stmt := (defBody s_law).getD i (.Pass ⟨0, 0, 0, 0⟩)
def lcOut : Stmt → Scope
  | .Assign _ (.Call _ (.ListComp _ _ sc _ :: _) _ _) _ => sc
  | _ => defScope s_law
def rlSc (sc scope : Scope) : Scope := { scope with names := scope.names.map fun (n, k) => if (k == .free && sc.kind == .function && sc.names.lookup n == some .cell) then (n, .cell) else (n, k) }
abbrev tupR (K : PySem.W.Frag) : List V → Hp → VK → Prop := fun xs H Q => ∃ p ys, xs = [V.ref p] ∧ ((SqL K H p ys ∧ ∀ l, H l = none → Q (.ref l) (upd H l (.tup ys))) ∨ (SqT K H p ys ∧ Q (.ref p) H))
theorem ItS.im {m : Im} (h : m.ok) : ItS m.toV := by
  refine ⟨m, rfl, ?_⟩
  cases m with
  | wo a =>
    have hw : -32768 ≤ a ∧ a ≤ 32767 := h
    show a.natAbs < 10 ^ 5
    have : (10 : Nat) ^ 5 = 100 * 1000 := by decide
    omega
  | re k => exact h
  | si i => exact h
theorem Pen.mut11 {H H' : Hp} {p c D : Addr} {ns : List Int} {n n' : Int} {xs : List V} (h : Pen H p c ns n) (nD : H D = none) (h' : Pen H' p c ns n') : Pen (upd H' D (.lst xs)) p c ns n' := by
  obtain ⟨r0, c1, c2, _⟩ := h
  obtain ⟨r, g1, g2, g3, g4⟩ := h'
  have np : p ≠ D := ne_of_none c1 nD
  have nc : c ≠ D := ne_of_none c2 nD
  exact ⟨r, (upd_ne np).trans g1, (upd_ne nc).trans g2, g3, g4⟩
theorem All2.rep {α : Type} {R : V → α → Prop} {v : V} {x : α} (h : R v x) : ∀ k : Nat, All2 R (List.replicate k [v]).flatten (List.replicate k x)
  | 0 => trivial
  | k + 1 => by
    rw [List.replicate_succ, List.replicate_succ, List.flatten_cons]
    exact ⟨h, All2.rep h k⟩
theorem rwS_th {H : Hp} {v : V} {r : Rw} (h : RwV H v r) (o : RwS r) : Th H 41 2 v := by
  obtain ⟨t, vs, rfl, ht, hv⟩ := h
  have l1 := hv.len
  have l2 := o.2.1
  refine thT ht (by rw [List.length_cons]; omega) fun y hy => ?_
  rcases List.mem_cons.mp hy with rfl | hy
  · exact thS (by have := wd_len _ o.1; omega)
  · obtain ⟨x, hx, hr⟩ := hv.mem hy
    exact (tgS_th hr (o.2.2 x hx)).mono (by decide) (by decide)
theorem pvS_th {H : Hp} {v : V} {ps : List (List Rw)} (h : PrV H v ps) (o : PrS ps) : Th H 41 4 v := by
  obtain ⟨t, vs, rfl, ht, hv⟩ := h
  refine thT ht (by rw [hv.len]; have := o.1; omega) fun y hy => ?_
  obtain ⟨x, hx, t2, us, rfl, ht2, hU⟩ := hv.mem hy
  obtain ⟨h1, h2⟩ := o.2 x hx
  refine thT ht2 (by rw [hU.len]; exact h1) fun z hz => ?_
  obtain ⟨r, hr, hrv⟩ := hU.mem hz
  exact rwS_th hrv (h2 r hr)
def goP (k : Nat) : List (List Rw) := [[⟨"go", [.kk k]⟩]]
theorem goP_ok {k : Nat} (h : k ≤ 1) : PrOk (goP k) := by
  refine ⟨(show 1 ≤ 1 by decide), (show 1 ≤ 4 by decide), fun t ht => ?_⟩
  rw [List.mem_singleton.mp ht]
  refine ⟨(show 1 ≤ 40 by decide), fun r hr => ?_⟩
  rw [List.mem_singleton.mp hr]
  refine ⟨(by decide +kernel : ("go" : Str) ∈ wds), ?_⟩
  show TgsOk 1 (cp (shp ("go" : Str))) [.kk k]
  rw [show cp (shp ("go" : Str)) = [107] by decide +kernel]
  exact ⟨⟨rfl, h⟩, trivial⟩
theorem four_ok : PrOk (List.replicate 4 []) := ⟨by decide, by decide, fun t ht => by
  rw [List.eq_of_mem_replicate ht]
  exact ⟨by decide, fun _ h => nomatch h⟩⟩
theorem ok_law (T : Txt K w mg f fd ob) : FnG P w K mg base CX0 10 (f 45) (fd 45) ["_law_script"] (sp_law K) := by
  have G_isprogram := ok_isprogram (P := P) (base := base) T
  have G_isexpression := ok_isexpression (P := P) (base := base) T
  have G_showprogram := ok_showprogram (P := P) (base := base) T
  have G_readprogram := ok_read0 (P := P) (base := base) T
  have G_reckoned := ok_reckoned (P := P) (base := base) T
  have G_lreck := ok_lreck (P := P) (base := base) T
  have G_lregs := ok_lregs (P := P) (base := base) T
  have G_lprogtext := ok_lprogtext (P := P) (base := base) T
  have G_lrefused := ok_lrefused (P := P) (base := base) T
  have G_lonemore := ok_lonemore (P := P) (base := base) T
  have G_llong := ok_llong (P := P) (base := base) T
  have G_llongrow := ok_llongrow (P := P) (base := base) T
  have G_lfeed := ok_lfeed (P := P) (base := base) T
  refine Fun.okG T.F_law sc_law (fun vs H Q E h => ?_) (fun cdv A outer s H vs Q E hg hr h => ?_)
  · obtain ⟨a, ns, rfl, _⟩ := h
    rfl
  · obtain ⟨a, ns, rfl, hsq, hlen, q⟩ := h
    have hr_lrefused := hr
    have hr_readprogram : Room 8 _ := hr.mono (by decide)
    have hr_isprogram : Room 7 _ := hr.mono (by decide)
    have hr_isexpression : Room 3 _ := hr.mono (by decide)
    have hr_showprogram : Room 4 _ := hr.mono (by decide)
    have hr_lprogtext : Room 3 _ := hr.mono (by decide)
    have hr_reckoned : Room 3 _ := hr.mono (by decide)
    have hr_lreck : Room 2 _ := hr.mono (by decide)
    have hr_lregs : Room 3 _ := hr.mono (by decide)
    have hr_lonemore : Room 5 _ := hr.mono (by decide)
    have hr_llong : Room 4 _ := hr.mono (by decide)
    have hr_llongrow : Room 5 _ := hr.mono (by decide)
    have hr_lfeed : Room 1 _ := hr.mono (by decide)
    have hu64 := hr.units
    refine ⟨_, (pss_cons (ps_set (i := 1) sc_law.nd rfl (Or.inr rfl) (pe_call G_lfeed hr_lfeed (by rfl) T.m_lfeed T.F_lfeed.kp T.b_lfeed .nil pass0 (pa_cons (pv 0) pa_nil)))
      (C8.pss_cut (ps_set (i := 2) sc_law.nd rfl (Or.inl rfl) (pe_callTy call_tuple_of (by rfl) T.z_tuple (by decide +kernel) (pa_cons (pe_lc (own := [("_law_thread", 4)]) (g := (gName 4)) (tt := tYes) (te := (tCB (tupR K) (tCons (tLc (iRng1 (tCons (tC (.int 40)) tNil)) (gName 3) tYes (tCall sp_llongrow [] E0 (tCons (tVar 1) tNil)) [3]) tNil))) (by rfl) sc_law.nd (pi_range1 (by rfl) T.z_range (pa_cons pe_int pa_nil)) (blkOk_by (own := [("_law_thread", 4)]) (N := N_law) (sc := defScope s_law) (by decide +kernel)) (fun _ _ _ _ _ => (pg_name (i := 4) sc_law.nd rfl (Or.inl rfl))) (fun _ _ _ _ _ => pts_nil) (fun _ _ _ _ _ => (pe_callTy call_tuple_of (by rfl) T.z_tuple (by decide +kernel) (pa_cons (pe_lc (own := [("_law_k", 3)]) (g := (gName 3)) (tt := tYes) (te := (tCall sp_llongrow [] E0 (tCons (tVar 1) tNil))) (by rfl) sc_law.nd (pi_range1 (by rfl) T.z_range (pa_cons pe_int pa_nil)) (blkOk_by (own := [("_law_k", 3)]) (N := N_law) (sc := rlSc (defScope s_law) (lcOut (stAt 1))) (by decide +kernel)) (fun _ _ _ _ _ => (pg_name (i := 3) sc_law.nd rfl (Or.inl rfl))) (fun _ _ _ _ _ => pts_nil) (fun _ _ _ _ _ => (pe_call G_llongrow hr_llongrow (by rfl) T.m_llongrow T.F_llongrow.kp T.b_llongrow .nil pass0 (pa_cons (pv 1) pa_nil)))) pa_nil)))) pa_nil)))
      (C8.pss_cut (ps_for PassesOwn.never rfl (pi_tup (pe_M (pe_tup (pa_cons (pv 2) (pa_cons (pe_op op_repA (pe_tup (pa_cons (pe_tup pa_nil) pa_nil)) pe_int) (pa_cons (pe_tup (pa_cons (pe_tup (pa_cons (pe_tup (pa_cons pe_str (pa_cons pe_int pa_nil))) pa_nil)) pa_nil)) (pa_cons (pe_tup (pa_cons (pe_tup (pa_cons (pe_tup (pa_cons pe_str (pa_cons pe_int pa_nil))) pa_nil)) pa_nil)) pa_nil))))))) (pg_name (i := 5) sc_law.nd rfl (Or.inl rfl)) (C8.pss_cut (ps_set (i := 6) sc_law.nd rfl (Or.inl rfl) (callG G_lprogtext hg hr_lprogtext (by rfl) T.m_lprogtext T.F_lprogtext.kp T.b_lprogtext .nil pass0 (pa_cons (pv 5) pa_nil)))
      (pss_one (ps_if (PW.pt (pw_or (pt_not (pt_val (pe_call G_isprogram hr_isprogram (by rfl) T.m_isprogram T.F_isprogram.kp T.b_isprogram .nil pass0 (pa_cons (pv 5) pa_nil)))) (pw_or (pt_cmpR op_ne (pe_call G_showprogram hr_showprogram (by rfl) T.m_showprogram T.F_showprogram.kp T.b_showprogram .nil pass0 (pa_cons (pv 5) pa_nil)) (pv 6) (nomark _)) (pw_or1 (pt_cmpR op_ne (pe_callB (call_reprD hg hu64) (by rfl) T.z_repr (by decide +kernel) (pa_cons (pe_call G_readprogram hr_readprogram (by rfl) T.m_readprogram T.F_readprogram.kp T.b_readprogram .nil pass0 (pa_cons (pv 6) pa_nil)) pa_nil)) (pe_callB (call_reprD hg hu64) (by rfl) T.z_repr (by decide +kernel) (pa_cons (pv 5) pa_nil)) (nomark _)))))) (pss_one (ps_ret pe_bl)) pss_nil))))
      (pss_cons (ps_for PassesOwn.never rfl (pi_range1 (by rfl) T.z_range (pa_cons pe_int pa_nil)) (pg_name (i := 7) sc_law.nd rfl (Or.inl rfl)) (C8.pss_cut (ps_asg (pe_call G_lonemore hr_lonemore (by rfl) T.m_lonemore T.F_lonemore.kp T.b_lonemore .nil pass0 (pa_cons (pv 1) (pa_cons (pv 2) pa_nil))) (pg_tup (by rfl) (pgs_cons (pg_name (i := 8) sc_law.nd rfl (Or.inl rfl)) (pgs_cons (pg_name (i := 9) sc_law.nd rfl (Or.inl rfl)) pgs_nil))))
      (C8.pss_cut (ps_if (PW.pt (pw_or (pt_val (pe_call G_isprogram hr_isprogram (by rfl) T.m_isprogram T.F_isprogram.kp T.b_isprogram .nil pass0 (pa_cons (pv 8) pa_nil))) (pw_or1 (pt_cmpR op_ne (pe_call G_lrefused hr_lrefused (by rfl) T.m_lrefused T.F_lrefused.kp T.b_lrefused .nil pass0 (pa_cons (callG G_lprogtext hg hr_lprogtext (by rfl) T.m_lprogtext T.F_lprogtext.kp T.b_lprogtext .nil pass0 (pa_cons (pv 8) pa_nil)) pa_nil)) (pv 9) (nomark _))))) (pss_one (ps_ret pe_bl)) pss_nil)
      (C8.pss_cut (ps_par (i := 10) (j := 11) (by rfl) sc_law.nd rfl rfl (by decide) rfl rfl (pa_cons (pe_call G_llong hr_llong (by rfl) T.m_llong T.F_llong.kp T.b_llong .nil pass0 (pa_cons (pv 1) pa_nil)) (pa_cons (pe_call G_lregs hr_lregs (by rfl) T.m_lregs T.F_lregs.kp T.b_lregs .nil pass0 (pa_cons (pv 1) pa_nil)) pa_nil)) (by rfl))
      (pss_one (ps_if (PW.pt (pw_or (pt_not (pt_val (pe_call G_isexpression hr_isexpression (by rfl) T.m_isexpression T.F_isexpression.kp T.b_isexpression .nil pass0 (pa_cons (pv 10) pa_nil)))) (pw_or (pt_val (pe_call G_isexpression hr_isexpression (by rfl) T.m_isexpression T.F_isexpression.kp T.b_isexpression .nil pass0 (pa_cons (pe_op op_catA (pv 10) (pe_tup (pa_cons pe_int (pa_cons pe_str pa_nil)))) pa_nil))) (pw_or1 (pt_cmpR op_ne (pe_call G_reckoned hr_reckoned (by rfl) T.m_reckoned T.F_reckoned.kp T.b_reckoned .nil pass0 (pa_cons (pv 10) (pa_cons (pv 11) pa_nil))) (pe_call G_lreck hr_lreck (by rfl) T.m_lreck T.F_lreck.kp T.b_lreck .nil pass0 (pa_cons (pv 10) (pa_cons (pv 11) pa_nil))) (nomark _)))))) (pss_one (ps_ret pe_bl)) pss_nil))))))
      (pss_one (ps_ret pe_bl)))))), ?_⟩
    refine ⟨_, rfl, a, ns, rfl, hsq, hlen, fun H1 p c P1 => ?_⟩
    refine ⟨fun σ' H' => ∃ (t : Addr) (ps : List (List Rw)) (n' : Int), σ' = [some (.ref a), some (.ref p), some (.ref t), none, none, none, none, none, none, none, none, none] ∧ Pen H' p c ns n' ∧ n' ≤ 28000 ∧ PrV H' (.ref t) ps ∧ Full ps, ?_, ?_⟩
    · refine ⟨4, rfl, by decide, by decide, fun D nD => ?_⟩
      have Dp : D ≠ p := P1.ni nD
      refine lc_it walk_range (fun i H' => ∃ (ws : List V) (pss : List (List Rw)) (n' : Int), Kp p H1 H' ∧ Pen H' p c ns n' ∧ n' ≤ 6900 * i ∧ H' D = some (.lst ws) ∧ All2 (ThV H') ws pss ∧ pss.length = i ∧ ∀ t ∈ pss, t.length = 40 ∧ ∀ r ∈ t, r.ok 40)
        ⟨[], [], 0, Kp.new nD, P1.new nD, by omega, upd_same, trivial, rfl, fun r hr => nomatch hr⟩ (fun _ _ _ _ => trivial) ?_ ?_
      · rintro i x _ H2 hi ⟨ws, pss, n2, k2, P2, n2b, hD, hW, hpl, hok⟩ ⟨rfl, rfl⟩
        have hi4 : i < 4 := hi
        refine ⟨rfl, 40, rfl, by decide, by decide, fun D2 nD2 => ?_⟩
        have D2p : D2 ≠ p := P2.ni nD2
        refine lc_it walk_range (fun k H' => ∃ (us : List V) (rs : List Rw) (n' : Int), Kp p H2 H' ∧ Pen H' p c ns n' ∧ n' ≤ n2 + 170 * k ∧ H' D2 = some (.lst us) ∧ All2 (RwV H') us rs ∧ rs.length = k ∧ ∀ r ∈ rs, r.ok 40)
          ⟨[], [], n2, Kp.new nD2, P2.new nD2, by omega, upd_same, trivial, rfl, fun r hr => nomatch hr⟩ (fun _ _ _ _ => trivial) ?_ ?_
        · rintro k x _ H3 hk ⟨us, rs, n3, k3, P3, n3b, hD2, hU, hrl, hro⟩ ⟨rfl, rfl⟩
          have hk40 : k < 40 := hk
          have lu := hU.len
          refine ⟨rfl, _, rfl, p, c, ns, n3, rfl, P3, by omega, fun H4 v r n4 k4 P4 n4a n4b hv hr4 => ?_⟩
          have hD24 := k4 _ _ D2p hD2
          have kk : TKp H3 (upd H4 D2 (.lst (us ++ [v]))) := (P3.tkp k4).trans (TKp.updL hD24)
          refine ⟨us, hD24, small1000 (by omega), us ++ [v], rs ++ [r], n4, Kp.mut (k3.trans k4) nD2, Pen.mut11 P2 nD2 P4, by omega, upd_same, (hU.mono fun _ _ z => z.keep kk).snoc (hv.keep (TKp.updL hD24)), by rw [List.length_append, List.length_singleton, hrl], fun r' hr' => ?_⟩
          rcases List.mem_append.mp hr' with hr' | hr'
          · exact hro _ hr'
          · rw [List.mem_singleton.mp hr']
            exact hr4
        · rintro H3 ⟨us, rs, n3, k3, P3, n3b, hD2, hU, hrl, hro⟩
          have hrl40 : rs.length = 40 := hrl
          have n3c : n3 ≤ n2 + 6800 := by
            have : ((40 : Int).toNat : Int) = 40 := rfl
            omega
          refine ⟨D2, _, rfl, .inl ⟨SqL.of hD2, fun t ht => ?_⟩⟩
          have st : Same H3 (upd H3 t (.tup us)) := Same.new ht
          have et : (upd H3 t (.tup us)) t = some (.tup us) := upd_same
          generalize (upd H3 t (.tup us)) = H4 at st et
          have hD4 : H4 D = some (.lst ws) := st _ _ (k3 _ _ Dp hD)
          have kt : TKp H4 (upd H4 D (.lst (ws ++ [.ref t]))) := TKp.updL hD4
          have k24 : TKp H2 H4 := (P2.tkp k3).trans (TKp.same st)
          have lw := hW.len
          refine ⟨ws, hD4, small1000 (by omega), ws ++ [.ref t], pss ++ [rs], n3, Kp.mut ((k2.trans k3).trans (Same.kp st)) nD, Pen.mut11 P1 nD (P3.same st), by omega, upd_same, ?_, by rw [List.length_append, List.length_singleton, hpl], fun t' ht' => ?_⟩
          · exact (hW.mono fun _ _ z => z.keep (k24.trans kt)).snoc ⟨t, us, rfl, kt _ _ et, hU.mono fun _ _ z => z.keep ((TKp.same st).trans kt)⟩
          · rcases List.mem_append.mp ht' with h | h
            · exact hok _ h
            · rw [List.mem_singleton.mp h]
              exact ⟨hrl40, hro⟩
      · rintro H2 ⟨ws, pss, n2, k2, P2, n2b, hD, hW, hpl, hok⟩
        have hpl4 : pss.length = 4 := hpl
        have n2c : n2 ≤ 27600 := by
          have : ((4 : Int).toNat : Int) = 4 := rfl
          omega
        refine ⟨D, _, rfl, .inl ⟨SqL.of hD, fun t ht => ?_⟩⟩
        have st : Same H2 (upd H2 t (.tup ws)) := Same.new ht
        exact ⟨t, pss, n2, rfl, P2.same st, by omega, ⟨t, ws, rfl, upd_same, hW.mono fun _ _ z => z.keep (TKp.same st)⟩, hpl4, hok⟩
    rintro _ H2 ⟨t, ps, n2, rfl, P2, n2b, hPr, hF⟩
    have txl : ∀ {ps : List (List Rw)}, PrS ps → (prText ps).length ≤ 220000 := fun {ps} ho => by
      obtain ⟨pl1, pl2⟩ := prS_len ho
      have := join_bd "\n" 1000 pl1
      rw [show (("\n" : Str)).length = 1 by decide +kernel] at this
      have h2 : (1000 + 1) * (prLines ps).length ≤ 1001 * 210 := Nat.mul_le_mul_left _ pl2
      exact Nat.le_trans (Nat.le_trans this h2) (by decide)
    refine ⟨fun σ' H' => ∃ (y5 y6 : Option V), σ' = [some (.ref a), some (.ref p), some (.ref t), none, none, y5, y6, none, none, none, none, none] ∧ Same H2 H', ?_, ?_⟩
    · refine ⟨fun v H' => ∃ (tt : Addr) (xs : List V), v = .ref tt ∧ Same H2 H' ∧ H' tt = some (.tup xs) ∧ ∀ x ∈ xs, ∃ qs, PrV H' x qs ∧ PrOk qs, ?_, ?_⟩
      · refine ⟨_, rfl, Nat.zero_le _, fun e0 g0 => ⟨(show 1 ≤ sizeLine by decide), fun e1 g1 => ?_⟩⟩
        have s1 := (Same.new (o := .tup []) g0).trans (Same.new (o := .tup [.ref e0]) g1)
        refine ⟨e1, 4, _, rfl, rfl, upd_same, (fun z => nomatch z), by decide, (show 1 ≤ 1000 by decide), fun r1 H3 s3 hr1 => ?_⟩
        have he0 : H3 e0 = some (.tup []) := s3 _ _ (Same.new g1 _ _ upd_same)
        have s13 := s1.trans s3
        refine ⟨(show 2 ≤ sizeLine by decide), fun a1 h1 => ⟨(show 1 ≤ sizeLine by decide), fun a2 h2 => ⟨(show 1 ≤ sizeLine by decide), fun a3 h3 => ?_⟩⟩⟩
        refine ⟨(show 2 ≤ sizeLine by decide), fun b1 k1 => ⟨(show 1 ≤ sizeLine by decide), fun b2 k2 => ⟨(show 1 ≤ sizeLine by decide), fun b3 k3 => ?_⟩⟩⟩
        refine ⟨(show 4 ≤ sizeLine by decide), fun tt htt => ?_⟩
        have z1 := Same.new (o := .tup [.str "go", .int 1]) h1
        have z2 := Same.new (o := .tup [.ref a1]) h2
        have z3 := Same.new (o := .tup [.ref a2]) h3
        have z4 := Same.new (o := .tup [.str "go", .int 0]) k1
        have z5 := Same.new (o := .tup [.ref b1]) k2
        have z6 := Same.new (o := .tup [.ref b2]) k3
        have z7 := Same.new (o := .tup [.ref t, .ref r1, .ref a3, .ref b3]) htt
        have w6 := z6.trans z7
        have w5 := z5.trans w6
        have w4 := z4.trans w5
        have w3 := z3.trans w4
        have w2 := z2.trans w3
        have w1 := z1.trans w2
        have sA := s13.trans w1
        refine ⟨tt, _, rfl, sA, upd_same, fun x hx => ?_⟩
        simp only [List.mem_cons, List.not_mem_nil, or_false] at hx
        rcases hx with rfl | rfl | rfl | rfl
        · exact ⟨ps, hPr.keep (TKp.same sA), hF.ok⟩
        · exact ⟨List.replicate 4 [], ⟨r1, _, rfl, w1 _ _ hr1, All2.rep ⟨e0, [], rfl, w1 _ _ he0, trivial⟩ 4⟩, four_ok⟩
        · exact ⟨goP 1, ⟨a3, _, rfl, w4 _ _ upd_same, ⟨a2, _, rfl, w3 _ _ upd_same, ⟨a1, [.int 1], rfl, w2 _ _ upd_same, rfl, trivial⟩, trivial⟩, trivial⟩, goP_ok (by decide)⟩
        · exact ⟨goP 0, ⟨b3, _, rfl, z7 _ _ upd_same, ⟨b2, _, rfl, w6 _ _ upd_same, ⟨b1, [.int 0], rfl, w5 _ _ upd_same, rfl, trivial⟩, trivial⟩, trivial⟩, goP_ok (by decide)⟩
      rintro _ H3 ⟨tt, xs, rfl, s3, htt, hxs⟩
      refine ⟨tt, rfl, ⟨_, SqT.of htt⟩, for_tup (xs := xs) (fun j σ' H' => ∃ (y5 y6 : Option V), σ' = [some (.ref a), some (.ref p), some (.ref t), none, none, y5, y6, none, none, none, none, none] ∧ Same H3 H') ⟨none, none, rfl, Same.refl H3⟩ (fun j σ' H' _ h => ?_) ?_ ?_⟩
      · obtain ⟨y5, y6, rfl, sm⟩ := h
        exact SqT.of (sm _ _ htt)
      · rintro j x _ H4 hx ⟨y5, y6, rfl, s4⟩
        obtain ⟨qs, hX, hoX⟩ := hxs x (List.mem_of_getElem? hx)
        have hX4 := hX.keep (TKp.same s4)
        have hl := txl (PrS.of hoX)
        refine ⟨fun σ' H' => σ' = [some (.ref a), some (.ref p), some (.ref t), none, none, some x, some (.str (prText qs)), none, none, none, none, none] ∧ Same H4 H', ?_, ?_⟩
        · exact ⟨_, rfl, x, qs, rfl, hX4, PrS.of hoX, fun H5 s5 => ⟨rfl, s5⟩⟩
        rintro _ H5 ⟨rfl, s5⟩
        have hX5 := hX4.keep (TKp.same s5)
        refine ⟨_, rfl, x, 40, 4, rfl, pv_th hX5 hoX, by decide, fun H6 s6 => ⟨_, rfl, ?_⟩⟩
        rw [pr_good hX5 hoX]
        have hX6 := hX5.keep (TKp.same s6)
        refine iteF ⟨_, rfl, x, qs, rfl, hX6, hoX, fun H7 s7 => ⟨_, rfl, rfl, _, rfl, iteNS rfl ?_⟩⟩
        have hX7 := hX6.keep (TKp.same s7)
        refine ⟨_, rfl, _, qs, rfl, by omega, readP_text hoX, fun H8 v8 s8 hv8 => ?_⟩
        exact ⟨_, _, rfl, pr_dp hv8 hoX, pr_shw hoX, _, rfl, _, _, rfl, pr_dp (hX7.keep (TKp.same s8)) hoX, pr_shw hoX, rfl, _, rfl, iteNS rfl ⟨_, _, rfl, (((s4.trans s5).trans s6).trans s7).trans s8⟩⟩
      · rintro _ H4 ⟨y5, y6, rfl, s4⟩
        exact ⟨_, _, rfl, s3.trans s4⟩
    rintro _ H3 ⟨y5, y6, rfl, s3⟩
    have P3 := P2.same s3
    have hPr3 := hPr.keep (TKp.same s3)
    refine ⟨4, rfl, by decide, by decide, for_range (lo := 0) (n := 4) (fun i σ' H' => ∃ (y7 y8 y9 y10 y11 : Option V) (n : Int), σ' = [some (.ref a), some (.ref p), some (.ref t), none, none, y5, y6, y7, y8, y9, y10, y11] ∧ Pen H' p c ns n ∧ n ≤ 28000 + 400 * i ∧ PrV H' (.ref t) ps)
      ⟨none, none, none, none, none, n2, rfl, P3, by omega, hPr3⟩ ?_ ?_⟩
    · rintro i _ H4 hi ⟨y7, y8, y9, y10, y11, n4, rfl, P4, n4b, hPr4⟩
      have hn0 := P4.nn
      refine ⟨fun σ' H' => ∃ (qv : V) (qs : List (List Rw)) (nth : Nat) (n' : Int), σ' = [some (.ref a), some (.ref p), some (.ref t), none, none, y5, y6, some (.int (0 + (i : Int))), some qv, some (.int (nth : Int)), y10, y11] ∧ Pen H' p c ns n' ∧ n' ≤ n4 + 90 ∧ PrV H' (.ref t) ps ∧ PrV H' qv qs ∧ PrS qs ∧ readP (prText qs) = .inl nth ∧ NoP qs, ?_, ?_⟩
      · refine ⟨_, rfl, _, rfl, p, c, ns, n4, .ref t, ps, rfl, P4, by omega, hPr4, hF, fun H5 t5 qv qs nth n5 k5 P5 n5a n5b h5 hqv hS hrd hno => ?_⟩
        exact ⟨t5, _, rfl, SqT.of h5, rfl, _, _, rfl, _, _, rfl, rfl, qv, qs, nth, n5, rfl, P5, n5b, hPr4.keep (P4.tkp k5), hqv, hS, hrd, hno⟩
      rintro _ H5 ⟨qv, qs, nth, n5, rfl, P5, n5b, hPr5, hqv, hS, hrd, hno⟩
      have hl := txl hS
      refine ⟨fun σ' H' => σ' = [some (.ref a), some (.ref p), some (.ref t), none, none, y5, y6, some (.int (0 + (i : Int))), some qv, some (.int (nth : Int)), y10, y11] ∧ Same H5 H', ?_, ?_⟩
      · refine ⟨_, rfl, qv, 41, 4, rfl, pvS_th hqv hS, by decide, fun H6 s6 => ⟨_, rfl, ?_⟩⟩
        rw [hno hqv]
        refine iteF ⟨_, rfl, qv, qs, rfl, hqv.keep (TKp.same s6), hS, fun H7 s7 => ?_⟩
        exact ⟨_, rfl, by omega, nth, hrd, fun H8 s8 => ⟨_, rfl, rfl, _, rfl, iteNS rfl ⟨rfl, (s6.trans s7).trans s8⟩⟩⟩
      rintro _ H6 ⟨rfl, s6⟩
      have P6 := P5.same s6
      have hPr6 := hPr5.keep (TKp.same s6)
      refine ⟨fun σ' H' => ∃ (te d : Addr) (es : List Im) (kv : List (Key × V)) (n' : Int), σ' = [some (.ref a), some (.ref p), some (.ref t), none, none, y5, y6, some (.int (0 + (i : Int))), some qv, some (.int (nth : Int)), some (.ref te), some (.ref d)] ∧ Pen H' p c ns n' ∧ n' ≤ n5 + 300 ∧ PrV H' (.ref t) ps ∧ H' te = some (.tup (es.map Im.toV)) ∧ (∀ m ∈ es, m.ok) ∧ es.length = 15 ∧ Kw.ht 0 es = some 1 ∧ H' d = some (.dK kv) ∧ Gd kv, ?_, ?_⟩
      · refine ⟨_, rfl, p, c, ns, n5, rfl, P6, by omega, fun H7 te es n7 k7 P7 n7a n7b he eok el eh => ?_⟩
        refine ⟨_, rfl, p, c, ns, n7, rfl, P7, by omega, fun H8 d kv n8 k8 P8 n8a n8b hd hg8 _ => ?_⟩
        exact ⟨_, _, rfl, te, d, es, kv, n8, rfl, P8, by omega, hPr6.keep ((P6.tkp k7).trans (P7.tkp k8)), (P7.tkp k8) _ _ he, eok, el, eh, hd, hg8⟩
      rintro _ H7 ⟨te, d, es, kv, n7, rfl, P7, n7b, hPr7, he, eok, el, eh, hd, hg7⟩
      have xe : exV (es.map Im.toV) = true := by rw [exV_map eok eh, decide_eq_true (by omega)]
      have kne : ∀ {G : Hp} {xs : List Im}, (∀ m ∈ xs, m.ok) → ∀ y ∈ xs.map Im.toV, Kn G y := fun hx y hy => by
        obtain ⟨m, hm, rfl⟩ := List.mem_map.mp hy
        exact ((ItS.im (hx m hm)).facts.2.2.2.2 (L := 0) (d := 0)).kn
      obtain ⟨y, hy⟩ := Expr1.val (l := es) ⟨eok, eh⟩ (rho kv)
      refine ⟨_, rfl, .ref te, rfl, .inl ⟨_, he⟩, fun t0 xs e0 hx => ?_, fun H8 s8 => ⟨_, rfl, ?_⟩⟩
      · obtain rfl := V.ref.inj e0
        rw [he] at hx
        obtain rfl := HO.tup.inj (Option.some.inj hx)
        exact ⟨by rw [List.length_map, el]; decide, kne eok⟩
      rw [exT_tup he, xe]
      refine iteF ⟨_, rfl, (show 2 ≤ sizeLine by decide), fun a1 g1 => ?_⟩
      have s9 := Same.new (o := .tup [V.int 1, V.str "+"]) g1
      refine catAny (s9 _ _ (s8 _ _ he)) upd_same (Nat.le_trans (show _ ≤ 1000 by rw [List.length_map, el]; decide) (by decide)) fun r1 H10 s10 hr1 => ?_
      have e17 : (es.map Im.toV) ++ [V.int 1, V.str "+"] = (es ++ [Im.wo 1, Im.si 0]).map Im.toV := by
        rw [List.map_append]
        rfl
      rw [e17] at hr1
      have ok17 : ∀ m ∈ es ++ [Im.wo 1, Im.si 0], m.ok := fun m hm => by
        rcases List.mem_append.mp hm with h | h
        · exact eok m h
        · simp only [List.mem_cons, List.not_mem_nil, or_false] at h
          rcases h with rfl | rfl
          · exact (show W 1 from ⟨by decide, by decide⟩)
          · exact (show 0 < 9 by decide)
      have l17 : (es ++ [Im.wo 1, Im.si 0]).length = 17 := by rw [List.length_append, el]; rfl
      have x17 : exV ((es ++ [Im.wo 1, Im.si 0]).map Im.toV) = false := by
        unfold exV
        rw [List.length_map, l17]
        rfl
      refine ⟨.ref r1, rfl, .inl ⟨_, hr1⟩, fun t0 xs e0 hx => ?_, fun H11 s11 => ⟨_, rfl, ?_⟩⟩
      · obtain rfl := V.ref.inj e0
        rw [hr1] at hx
        obtain rfl := HO.tup.inj (Option.some.inj hx)
        exact ⟨by rw [List.length_map, l17]; decide, kne ok17⟩
      rw [exT_tup hr1, x17]
      have sA := ((s8.trans s9).trans s10).trans s11
      refine iteF ⟨_, rfl, _, rfl, te, d, es, kv, y, [], rfl, SqT.of (sA _ _ he), eok, by omega, sA _ _ hd, hg7, hy, fun H12 s12 hW => ?_⟩
      refine ⟨_, rfl, _, rfl, te, d, es, kv, y, rfl, SqT.of (s12 _ _ (sA _ _ he)), eok, by omega, s12 _ _ (sA _ _ hd), hg7, hy, fun H13 s13 => ⟨rfl, _, rfl, iteNS rfl ?_⟩⟩
      have sB := (sA.trans s12).trans s13
      exact ⟨_, _, _, _, _, n7, rfl, P7.same sB, by omega, hPr7.keep (TKp.same sB)⟩
    · rintro _ H4 ⟨y7, y8, y9, y10, y11, n4, rfl, P4, n4b, hPr4⟩
      exact q _
end
--END
set_option maxHeartbeats 4000000 in
theorem all_mk {l : PySem.W.OpenLaw} {w : World} {K : PySem.W.Frag} {h : Heap} {mg : Str → Option Value} {fa : Addr} (X : K.In h) (G : h.Ns mainGlobals mg) (hfa : mg "law" = some (.ref fa))
    {od0 an0 od1 an1 od2 an2 od3 an3 od4 an4 od5 an5 od6 an6 od7 an7 od8 an8 od9 an9 od10 an10 od11 an11 od12 an12 od13 an13 od14 an14 od15 an15 od16 an16 od17 an17 od18 an18 od19 an19 od20 an20 od21 an21 od22 an22 od23 an23 od24 an24 od25 an25 od26 an26 od27 an27 od28 an28 od29 an29 od30 an30 od31 an31 od32 an32 od33 an33 od34 an34 od35 an35 od36 an36 od37 an37 od38 an38 od39 an39 od40 an40 od41 an41 od42 an42 od43 an43 od44 an44 od45 an45 od46 an46 od47 an47 od48 an48 od49 an49 od50 an50 od51 an51 od52 an52 : Option Addr} {sl0 sl1 sl2 sl3 sl4 sl5 sl6 sl7 sl8 sl9 sl10 sl11 sl12 sl13 sl14 sl15 sl16 sl17 sl18 sl19 sl20 sl21 sl22 sl23 sl24 sl25 sl26 sl27 sl28 sl29 sl30 sl31 sl32 sl33 sl34 sl35 sl36 sl37 sl38 sl39 sl40 sl41 sl42 sl43 sl44 sl45 sl46 sl47 sl48 sl49 sl50 sl51 sl52 : Array (Option Value)} {oc0 kV0 dc0 pm0 cd0 ct0 oc1 kV1 dc1 pm1 cd1 ct1 oc2 kV2 dc2 pm2 cd2 ct2 oc3 kV3 dc3 pm3 cd3 ct3 oc4 kV4 dc4 pm4 cd4 ct4 oc5 kV5 dc5 pm5 cd5 ct5 oc6 kV6 dc6 pm6 cd6 ct6 oc7 kV7 dc7 pm7 cd7 ct7 oc8 kV8 dc8 pm8 cd8 ct8 oc9 kV9 dc9 pm9 cd9 ct9 oc10 kV10 dc10 pm10 cd10 ct10 oc11 kV11 dc11 pm11 cd11 ct11 oc12 kV12 dc12 pm12 cd12 ct12 oc13 kV13 dc13 pm13 cd13 ct13 oc14 kV14 dc14 pm14 cd14 ct14 oc15 kV15 dc15 pm15 cd15 ct15 oc16 kV16 dc16 pm16 cd16 ct16 oc17 kV17 dc17 pm17 cd17 ct17 oc18 kV18 dc18 pm18 cd18 ct18 oc19 kV19 dc19 pm19 cd19 ct19 oc20 kV20 dc20 pm20 cd20 ct20 oc21 kV21 dc21 pm21 cd21 ct21 oc22 kV22 dc22 pm22 cd22 ct22 oc23 kV23 dc23 pm23 cd23 ct23 oc24 kV24 dc24 pm24 cd24 ct24 oc25 kV25 dc25 pm25 cd25 ct25 oc26 kV26 dc26 pm26 cd26 ct26 oc27 kV27 dc27 pm27 cd27 ct27 oc28 kV28 dc28 pm28 cd28 ct28 oc29 kV29 dc29 pm29 cd29 ct29 oc30 kV30 dc30 pm30 cd30 ct30 oc31 kV31 dc31 pm31 cd31 ct31 oc32 kV32 dc32 pm32 cd32 ct32 oc33 kV33 dc33 pm33 cd33 ct33 oc34 kV34 dc34 pm34 cd34 ct34 oc35 kV35 dc35 pm35 cd35 ct35 oc36 kV36 dc36 pm36 cd36 ct36 oc37 kV37 dc37 pm37 cd37 ct37 oc38 kV38 dc38 pm38 cd38 ct38 oc39 kV39 dc39 pm39 cd39 ct39 oc40 kV40 dc40 pm40 cd40 ct40 oc41 kV41 dc41 pm41 cd41 ct41 oc42 kV42 dc42 pm42 cd42 ct42 oc43 kV43 dc43 pm43 cd43 ct43 oc44 kV44 dc44 pm44 cd44 ct44 oc45 kV45 dc45 pm45 cd45 ct45 oc46 kV46 dc46 pm46 cd46 ct46 oc47 kV47 dc47 pm47 cd47 ct47 oc48 kV48 dc48 pm48 cd48 ct48 oc49 kV49 dc49 pm49 cd49 ct49 oc50 kV50 dc50 pm50 cd50 ct50 oc51 kV51 dc51 pm51 cd51 ct51 oc52 kV52 dc52 pm52 cd52 ct52 : Value} {a0 a1 a2 a3 a4 a5 a6 a7 a8 a9 a10 a11 a12 a13 a14 a15 a16 a17 a18 a19 a20 a21 a22 a23 a24 a25 a26 a27 a28 a29 a30 a31 a32 a33 a34 a35 a36 a37 a38 a39 a40 a41 a42 a43 a44 a45 a46 a47 a48 a49 a50 a51 a52 : Addr} {nm_NoText q_NoText : Str} {N_NoText C_NoText : Addr} {bs_NoText : List Value} {sn_NoText : List Str} {sub_NoText : List Value} {ab_NoText : Bool} {col_NoText : Option Bool} {dd_NoText : Option Addr} {m0_NoText m1_NoText m2_NoText m3_NoText m5_NoText : Option Value} {es_SIGNS : Array DictEntry} {nn_SIGNS : Nat} {o_SIGNS : Addr} {es_SHAPES : Array DictEntry} {nn_SHAPES : Nat} {o_SHAPES : Addr} {tv_SHAPES_0 : Tok} {tv_SHAPES_1 : Tok} {tv_SHAPES_2 : Tok} {tv_SHAPES_3 : Tok} {tv_SHAPES_4 : Tok} {tv_SHAPES_5 : Tok} {tv_SHAPES_6 : Tok} {tv_SHAPES_7 : Tok} {tv_SHAPES_8 : Tok} {tv_SHAPES_9 : Tok} {tv_SHAPES_10 : Tok} {tv_SHAPES_11 : Tok} {tv_SHAPES_12 : Tok} {tk_LETTERS : Tok} {tk_MOST_ITEMS : Tok} {tk_MOST_THREADS : Tok} {tk_MOST_ROWS : Tok} {tk_HEAD : Tok}
    (e0 : PySem.W.nsIn K mainGlobals "brought" = some (some (.ref a0)))
    (l0 : K.lookup a0 = some ⟨oc0, od0, .func (PySem.W.fnOf "brought" "brought" (defArgs s_brought) (defBody s_brought) (defScope s_brought) .none kV0 dc0 pm0 an0 cd0 ct0), sl0⟩)
    (c0 : PySem.W.codeIn K cd0 "brought" = true) (k0 : PySem.W.keepIn K (.ref a0) = true)
    (e1 : PySem.W.nsIn K mainGlobals "quotient" = some (some (.ref a1)))
    (l1 : K.lookup a1 = some ⟨oc1, od1, .func (PySem.W.fnOf "quotient" "quotient" (defArgs s_quotient) (defBody s_quotient) (defScope s_quotient) .none kV1 dc1 pm1 an1 cd1 ct1), sl1⟩)
    (c1 : PySem.W.codeIn K cd1 "quotient" = true) (k1 : PySem.W.keepIn K (.ref a1) = true)
    (e2 : PySem.W.nsIn K mainGlobals "rest" = some (some (.ref a2)))
    (l2 : K.lookup a2 = some ⟨oc2, od2, .func (PySem.W.fnOf "rest" "rest" (defArgs s_rest) (defBody s_rest) (defScope s_rest) .none kV2 dc2 pm2 an2 cd2 ct2), sl2⟩)
    (c2 : PySem.W.codeIn K cd2 "rest" = true) (k2 : PySem.W.keepIn K (.ref a2) = true)
    (eC_NoText : PySem.W.nsIn K mainGlobals "NoText" = some (some (.ref C_NoText)))
    (xL_NoText : K.lookup C_NoText = some (excClassObj nm_NoText q_NoText C_NoText N_NoText bs_NoText [.type "ValueError", .type "Exception", .type "BaseException", .type "object"] true sn_NoText sub_NoText ab_NoText col_NoText dd_NoText m0_NoText m1_NoText m2_NoText m3_NoText m5_NoText "ValueError.__new__"))
    (sa_NoText : PySem.W.findIn K (.ref C_NoText) "__setattr__" = some (some (.builtin "object.__setattr__")))
    (ga_NoText : PySem.W.findIn K (.ref C_NoText) "__getattribute__" = some (some (.builtin "BaseException.__getattribute__")))
    (gg_NoText : PySem.W.findIn K (.ref C_NoText) "__getattr__" = some none)
    (kC_NoText : PySem.W.keepIn K (.ref C_NoText) = true)
    (xC_NoText : PySem.W.subIn K (.ref C_NoText) (.type "BaseException") = some true)
    (tC_NoText : PySem.W.typeIn K (.ref C_NoText) = some (.type "type"))
    (hC_NoText : PySem.W.hasDictIn K C_NoText = true)
    (iC_NoText : PySem.W.isClsIn K C_NoText = true)
    (sC_NoText : PySem.W.subIn K (.ref C_NoText) (.ref C_NoText) = some true)
    (fI_NoText : PySem.W.findIn K (.ref C_NoText) "__init__" = some (some (.ref a3)))
    (tI_NoText : PySem.W.typeIn K (.ref a3) = some (.type "function"))
    (nf_nth_NoText : PySem.W.findIn K (.ref C_NoText) "nth" = some none)
    (l3 : K.lookup a3 = some ⟨oc3, od3, .func (PySem.W.fnOf "__init__" "NoText.__init__" (defArgs s_iNoText) (defBody s_iNoText) (defScope s_iNoText) .none kV3 dc3 pm3 an3 cd3 ct3), sl3⟩)
    (c3 : PySem.W.codeIn K cd3 "NoText.__init__" = true) (k3 : PySem.W.keepIn K (.ref a3) = true)
    (e4 : PySem.W.nsIn K mainGlobals "is_whole" = some (some (.ref a4)))
    (l4 : K.lookup a4 = some ⟨oc4, od4, .func (PySem.W.fnOf "is_whole" "is_whole" (defArgs s_iswhole) (defBody s_iswhole) (defScope s_iswhole) .none kV4 dc4 pm4 an4 cd4 ct4), sl4⟩)
    (c4 : PySem.W.codeIn K cd4 "is_whole" = true) (k4 : PySem.W.keepIn K (.ref a4) = true)
    (e5 : PySem.W.nsIn K mainGlobals "is_below" = some (some (.ref a5)))
    (l5 : K.lookup a5 = some ⟨oc5, od5, .func (PySem.W.fnOf "is_below" "is_below" (defArgs s_isbelow) (defBody s_isbelow) (defScope s_isbelow) .none kV5 dc5 pm5 an5 cd5 ct5), sl5⟩)
    (c5 : PySem.W.codeIn K cd5 "is_below" = true) (k5 : PySem.W.keepIn K (.ref a5) = true)
    (e6 : PySem.W.nsIn K mainGlobals "whole_of" = some (some (.ref a6)))
    (l6 : K.lookup a6 = some ⟨oc6, od6, .func (PySem.W.fnOf "whole_of" "whole_of" (defArgs s_wholeof) (defBody s_wholeof) (defScope s_wholeof) .none kV6 dc6 pm6 an6 cd6 ct6), sl6⟩)
    (c6 : PySem.W.codeIn K cd6 "whole_of" = true) (k6 : PySem.W.keepIn K (.ref a6) = true)
    (e7 : PySem.W.nsIn K mainGlobals "is_worth" = some (some (.ref a7)))
    (l7 : K.lookup a7 = some ⟨oc7, od7, .func (PySem.W.fnOf "is_worth" "is_worth" (defArgs s_isworth) (defBody s_isworth) (defScope s_isworth) .none kV7 dc7 pm7 an7 cd7 ct7), sl7⟩)
    (c7 : PySem.W.codeIn K cd7 "is_worth" = true) (k7 : PySem.W.keepIn K (.ref a7) = true)
    (e8 : PySem.W.nsIn K mainGlobals "worth_of" = some (some (.ref a8)))
    (l8 : K.lookup a8 = some ⟨oc8, od8, .func (PySem.W.fnOf "worth_of" "worth_of" (defArgs s_worthof) (defBody s_worthof) (defScope s_worthof) .none kV8 dc8 pm8 an8 cd8 ct8), sl8⟩)
    (c8 : PySem.W.codeIn K cd8 "worth_of" = true) (k8 : PySem.W.keepIn K (.ref a8) = true)
    (e9 : PySem.W.nsIn K mainGlobals "is_letter" = some (some (.ref a9)))
    (l9 : K.lookup a9 = some ⟨oc9, od9, .func (PySem.W.fnOf "is_letter" "is_letter" (defArgs s_isletter) (defBody s_isletter) (defScope s_isletter) .none kV9 dc9 pm9 an9 cd9 ct9), sl9⟩)
    (c9 : PySem.W.codeIn K cd9 "is_letter" = true) (k9 : PySem.W.keepIn K (.ref a9) = true)
    (e10 : PySem.W.nsIn K mainGlobals "is_sign" = some (some (.ref a10)))
    (l10 : K.lookup a10 = some ⟨oc10, od10, .func (PySem.W.fnOf "is_sign" "is_sign" (defArgs s_issign) (defBody s_issign) (defScope s_issign) .none kV10 dc10 pm10 an10 cd10 ct10), sl10⟩)
    (c10 : PySem.W.codeIn K cd10 "is_sign" = true) (k10 : PySem.W.keepIn K (.ref a10) = true)
    (e11 : PySem.W.nsIn K mainGlobals "leaves_one" = some (some (.ref a11)))
    (l11 : K.lookup a11 = some ⟨oc11, od11, .func (PySem.W.fnOf "leaves_one" "leaves_one" (defArgs s_leavesone) (defBody s_leavesone) (defScope s_leavesone) .none kV11 dc11 pm11 an11 cd11 ct11), sl11⟩)
    (c11 : PySem.W.codeIn K cd11 "leaves_one" = true) (k11 : PySem.W.keepIn K (.ref a11) = true)
    (e12 : PySem.W.nsIn K mainGlobals "is_expression" = some (some (.ref a12)))
    (l12 : K.lookup a12 = some ⟨oc12, od12, .func (PySem.W.fnOf "is_expression" "is_expression" (defArgs s_isexpression) (defBody s_isexpression) (defScope s_isexpression) .none kV12 dc12 pm12 an12 cd12 ct12), sl12⟩)
    (c12 : PySem.W.codeIn K cd12 "is_expression" = true) (k12 : PySem.W.keepIn K (.ref a12) = true)
    (e13 : PySem.W.nsIn K mainGlobals "show_expression" = some (some (.ref a13)))
    (l13 : K.lookup a13 = some ⟨oc13, od13, .func (PySem.W.fnOf "show_expression" "show_expression" (defArgs s_showexpression) (defBody s_showexpression) (defScope s_showexpression) .none kV13 dc13 pm13 an13 cd13 ct13), sl13⟩)
    (c13 : PySem.W.codeIn K cd13 "show_expression" = true) (k13 : PySem.W.keepIn K (.ref a13) = true)
    (e14 : PySem.W.nsIn K mainGlobals "item_of" = some (some (.ref a14)))
    (l14 : K.lookup a14 = some ⟨oc14, od14, .func (PySem.W.fnOf "item_of" "item_of" (defArgs s_itemof) (defBody s_itemof) (defScope s_itemof) .none kV14 dc14 pm14 an14 cd14 ct14), sl14⟩)
    (c14 : PySem.W.codeIn K cd14 "item_of" = true) (k14 : PySem.W.keepIn K (.ref a14) = true)
    (e15 : PySem.W.nsIn K mainGlobals "expression_of" = some (some (.ref a15)))
    (l15 : K.lookup a15 = some ⟨oc15, od15, .func (PySem.W.fnOf "expression_of" "expression_of" (defArgs s_expressionof) (defBody s_expressionof) (defScope s_expressionof) .none kV15 dc15 pm15 an15 cd15 ct15), sl15⟩)
    (c15 : PySem.W.codeIn K cd15 "expression_of" = true) (k15 : PySem.W.keepIn K (.ref a15) = true)
    (e16 : PySem.W.nsIn K mainGlobals "fits" = some (some (.ref a16)))
    (l16 : K.lookup a16 = some ⟨oc16, od16, .func (PySem.W.fnOf "fits" "fits" (defArgs s_fits) (defBody s_fits) (defScope s_fits) .none kV16 dc16 pm16 an16 cd16 ct16), sl16⟩)
    (c16 : PySem.W.codeIn K cd16 "fits" = true) (k16 : PySem.W.keepIn K (.ref a16) = true)
    (e17 : PySem.W.nsIn K mainGlobals "is_row" = some (some (.ref a17)))
    (l17 : K.lookup a17 = some ⟨oc17, od17, .func (PySem.W.fnOf "is_row" "is_row" (defArgs s_isrow) (defBody s_isrow) (defScope s_isrow) .none kV17 dc17 pm17 an17 cd17 ct17), sl17⟩)
    (c17 : PySem.W.codeIn K cd17 "is_row" = true) (k17 : PySem.W.keepIn K (.ref a17) = true)
    (e18 : PySem.W.nsIn K mainGlobals "is_thread" = some (some (.ref a18)))
    (l18 : K.lookup a18 = some ⟨oc18, od18, .func (PySem.W.fnOf "is_thread" "is_thread" (defArgs s_isthread) (defBody s_isthread) (defScope s_isthread) .none kV18 dc18 pm18 an18 cd18 ct18), sl18⟩)
    (c18 : PySem.W.codeIn K cd18 "is_thread" = true) (k18 : PySem.W.keepIn K (.ref a18) = true)
    (e19 : PySem.W.nsIn K mainGlobals "is_program" = some (some (.ref a19)))
    (l19 : K.lookup a19 = some ⟨oc19, od19, .func (PySem.W.fnOf "is_program" "is_program" (defArgs s_isprogram) (defBody s_isprogram) (defScope s_isprogram) .none kV19 dc19 pm19 an19 cd19 ct19), sl19⟩)
    (c19 : PySem.W.codeIn K cd19 "is_program" = true) (k19 : PySem.W.keepIn K (.ref a19) = true)
    (e20 : PySem.W.nsIn K mainGlobals "show_thing" = some (some (.ref a20)))
    (l20 : K.lookup a20 = some ⟨oc20, od20, .func (PySem.W.fnOf "show_thing" "show_thing" (defArgs s_showthing) (defBody s_showthing) (defScope s_showthing) .none kV20 dc20 pm20 an20 cd20 ct20), sl20⟩)
    (c20 : PySem.W.codeIn K cd20 "show_thing" = true) (k20 : PySem.W.keepIn K (.ref a20) = true)
    (e21 : PySem.W.nsIn K mainGlobals "show_row" = some (some (.ref a21)))
    (l21 : K.lookup a21 = some ⟨oc21, od21, .func (PySem.W.fnOf "show_row" "show_row" (defArgs s_showrow) (defBody s_showrow) (defScope s_showrow) .none kV21 dc21 pm21 an21 cd21 ct21), sl21⟩)
    (c21 : PySem.W.codeIn K cd21 "show_row" = true) (k21 : PySem.W.keepIn K (.ref a21) = true)
    (e22 : PySem.W.nsIn K mainGlobals "show_program" = some (some (.ref a22)))
    (l22 : K.lookup a22 = some ⟨oc22, od22, .func (PySem.W.fnOf "show_program" "show_program" (defArgs s_showprogram) (defBody s_showprogram) (defScope s_showprogram) .none kV22 dc22 pm22 an22 cd22 ct22), sl22⟩)
    (c22 : PySem.W.codeIn K cd22 "show_program" = true) (k22 : PySem.W.keepIn K (.ref a22) = true)
    (e23 : PySem.W.nsIn K mainGlobals "thing_of" = some (some (.ref a23)))
    (l23 : K.lookup a23 = some ⟨oc23, od23, .func (PySem.W.fnOf "thing_of" "thing_of" (defArgs s_thingof) (defBody s_thingof) (defScope s_thingof) .none kV23 dc23 pm23 an23 cd23 ct23), sl23⟩)
    (c23 : PySem.W.codeIn K cd23 "thing_of" = true) (k23 : PySem.W.keepIn K (.ref a23) = true)
    (e24 : PySem.W.nsIn K mainGlobals "row_of" = some (some (.ref a24)))
    (l24 : K.lookup a24 = some ⟨oc24, od24, .func (PySem.W.fnOf "row_of" "row_of" (defArgs s_rowof) (defBody s_rowof) (defScope s_rowof) .none kV24 dc24 pm24 an24 cd24 ct24), sl24⟩)
    (c24 : PySem.W.codeIn K cd24 "row_of" = true) (k24 : PySem.W.keepIn K (.ref a24) = true)
    (e25 : PySem.W.nsIn K mainGlobals "goes_within" = some (some (.ref a25)))
    (l25 : K.lookup a25 = some ⟨oc25, od25, .func (PySem.W.fnOf "goes_within" "goes_within" (defArgs s_goeswithin) (defBody s_goeswithin) (defScope s_goeswithin) .none kV25 dc25 pm25 an25 cd25 ct25), sl25⟩)
    (c25 : PySem.W.codeIn K cd25 "goes_within" = true) (k25 : PySem.W.keepIn K (.ref a25) = true)
    (e26 : PySem.W.nsIn K mainGlobals "rows_behind" = some (some (.ref a26)))
    (l26 : K.lookup a26 = some ⟨oc26, od26, .func (PySem.W.fnOf "rows_behind" "rows_behind" (defArgs s_rowsbehind) (defBody s_rowsbehind) (defScope s_rowsbehind) .none kV26 dc26 pm26 an26 cd26 ct26), sl26⟩)
    (c26 : PySem.W.codeIn K cd26 "rows_behind" = true) (k26 : PySem.W.keepIn K (.ref a26) = true)
    (e27 : PySem.W.nsIn K mainGlobals "read_program" = some (some (.ref a27)))
    (l27 : K.lookup a27 = some ⟨oc27, od27, .func (PySem.W.fnOf "read_program" "read_program" (defArgs s_readprogram) (defBody s_readprogram) (defScope s_readprogram) .none kV27 dc27 pm27 an27 cd27 ct27), sl27⟩)
    (c27 : PySem.W.codeIn K cd27 "read_program" = true) (k27 : PySem.W.keepIn K (.ref a27) = true)
    (e28 : PySem.W.nsIn K mainGlobals "_law_feed" = some (some (.ref a28)))
    (l28 : K.lookup a28 = some ⟨oc28, od28, .func (PySem.W.fnOf "_law_feed" "_law_feed" (defArgs s_lfeed) (defBody s_lfeed) (defScope s_lfeed) .none kV28 dc28 pm28 an28 cd28 ct28), sl28⟩)
    (c28 : PySem.W.codeIn K cd28 "_law_feed" = true) (k28 : PySem.W.keepIn K (.ref a28) = true)
    (e29 : PySem.W.nsIn K mainGlobals "_law_draw" = some (some (.ref a29)))
    (l29 : K.lookup a29 = some ⟨oc29, od29, .func (PySem.W.fnOf "_law_draw" "_law_draw" (defArgs s_ldraw) (defBody s_ldraw) (defScope s_ldraw) .none kV29 dc29 pm29 an29 cd29 ct29), sl29⟩)
    (c29 : PySem.W.codeIn K cd29 "_law_draw" = true) (k29 : PySem.W.keepIn K (.ref a29) = true)
    (e30 : PySem.W.nsIn K mainGlobals "_law_worth" = some (some (.ref a30)))
    (l30 : K.lookup a30 = some ⟨oc30, od30, .func (PySem.W.fnOf "_law_worth" "_law_worth" (defArgs s_lworth) (defBody s_lworth) (defScope s_lworth) .none kV30 dc30 pm30 an30 cd30 ct30), sl30⟩)
    (c30 : PySem.W.codeIn K cd30 "_law_worth" = true) (k30 : PySem.W.keepIn K (.ref a30) = true)
    (e31 : PySem.W.nsIn K mainGlobals "_law_register" = some (some (.ref a31)))
    (l31 : K.lookup a31 = some ⟨oc31, od31, .func (PySem.W.fnOf "_law_register" "_law_register" (defArgs s_lregister) (defBody s_lregister) (defScope s_lregister) .none kV31 dc31 pm31 an31 cd31 ct31), sl31⟩)
    (c31 : PySem.W.codeIn K cd31 "_law_register" = true) (k31 : PySem.W.keepIn K (.ref a31) = true)
    (e32 : PySem.W.nsIn K mainGlobals "_law_item" = some (some (.ref a32)))
    (l32 : K.lookup a32 = some ⟨oc32, od32, .func (PySem.W.fnOf "_law_item" "_law_item" (defArgs s_litem) (defBody s_litem) (defScope s_litem) .none kV32 dc32 pm32 an32 cd32 ct32), sl32⟩)
    (c32 : PySem.W.codeIn K cd32 "_law_item" = true) (k32 : PySem.W.keepIn K (.ref a32) = true)
    (e33 : PySem.W.nsIn K mainGlobals "told_by" = some (some (.ref a33)))
    (l33 : K.lookup a33 = some ⟨oc33, od33, .func (PySem.W.fnOf "told_by" "told_by" (defArgs s_toldby) (defBody s_toldby) (defScope s_toldby) .none kV33 dc33 pm33 an33 cd33 ct33), sl33⟩)
    (c33 : PySem.W.codeIn K cd33 "told_by" = true) (k33 : PySem.W.keepIn K (.ref a33) = true)
    (e34 : PySem.W.nsIn K mainGlobals "reckoned" = some (some (.ref a34)))
    (l34 : K.lookup a34 = some ⟨oc34, od34, .func (PySem.W.fnOf "reckoned" "reckoned" (defArgs s_reckoned) (defBody s_reckoned) (defScope s_reckoned) .none kV34 dc34 pm34 an34 cd34 ct34), sl34⟩)
    (c34 : PySem.W.codeIn K cd34 "reckoned" = true) (k34 : PySem.W.keepIn K (.ref a34) = true)
    (e35 : PySem.W.nsIn K mainGlobals "_law_tells" = some (some (.ref a35)))
    (l35 : K.lookup a35 = some ⟨oc35, od35, .func (PySem.W.fnOf "_law_tells" "_law_tells" (defArgs s_ltells) (defBody s_ltells) (defScope s_ltells) .none kV35 dc35 pm35 an35 cd35 ct35), sl35⟩)
    (c35 : PySem.W.codeIn K cd35 "_law_tells" = true) (k35 : PySem.W.keepIn K (.ref a35) = true)
    (e36 : PySem.W.nsIn K mainGlobals "_law_reckoned" = some (some (.ref a36)))
    (l36 : K.lookup a36 = some ⟨oc36, od36, .func (PySem.W.fnOf "_law_reckoned" "_law_reckoned" (defArgs s_lreck) (defBody s_lreck) (defScope s_lreck) .none kV36 dc36 pm36 an36 cd36 ct36), sl36⟩)
    (c36 : PySem.W.codeIn K cd36 "_law_reckoned" = true) (k36 : PySem.W.keepIn K (.ref a36) = true)
    (e37 : PySem.W.nsIn K mainGlobals "_law_registers" = some (some (.ref a37)))
    (l37 : K.lookup a37 = some ⟨oc37, od37, .func (PySem.W.fnOf "_law_registers" "_law_registers" (defArgs s_lregs) (defBody s_lregs) (defScope s_lregs) .none kV37 dc37 pm37 an37 cd37 ct37), sl37⟩)
    (c37 : PySem.W.codeIn K cd37 "_law_registers" = true) (k37 : PySem.W.keepIn K (.ref a37) = true)
    (e38 : PySem.W.nsIn K mainGlobals "_law_expression_text" = some (some (.ref a38)))
    (l38 : K.lookup a38 = some ⟨oc38, od38, .func (PySem.W.fnOf "_law_expression_text" "_law_expression_text" (defArgs s_lextext) (defBody s_lextext) (defScope s_lextext) .none kV38 dc38 pm38 an38 cd38 ct38), sl38⟩)
    (c38 : PySem.W.codeIn K cd38 "_law_expression_text" = true) (k38 : PySem.W.keepIn K (.ref a38) = true)
    (e39 : PySem.W.nsIn K mainGlobals "_law_row_text" = some (some (.ref a39)))
    (l39 : K.lookup a39 = some ⟨oc39, od39, .func (PySem.W.fnOf "_law_row_text" "_law_row_text" (defArgs s_lrowtext) (defBody s_lrowtext) (defScope s_lrowtext) .none kV39 dc39 pm39 an39 cd39 ct39), sl39⟩)
    (c39 : PySem.W.codeIn K cd39 "_law_row_text" = true) (k39 : PySem.W.keepIn K (.ref a39) = true)
    (e40 : PySem.W.nsIn K mainGlobals "_law_program_text" = some (some (.ref a40)))
    (l40 : K.lookup a40 = some ⟨oc40, od40, .func (PySem.W.fnOf "_law_program_text" "_law_program_text" (defArgs s_lprogtext) (defBody s_lprogtext) (defScope s_lprogtext) .none kV40 dc40 pm40 an40 cd40 ct40), sl40⟩)
    (c40 : PySem.W.codeIn K cd40 "_law_program_text" = true) (k40 : PySem.W.keepIn K (.ref a40) = true)
    (e41 : PySem.W.nsIn K mainGlobals "_law_long" = some (some (.ref a41)))
    (l41 : K.lookup a41 = some ⟨oc41, od41, .func (PySem.W.fnOf "_law_long" "_law_long" (defArgs s_llong) (defBody s_llong) (defScope s_llong) .none kV41 dc41 pm41 an41 cd41 ct41), sl41⟩)
    (c41 : PySem.W.codeIn K cd41 "_law_long" = true) (k41 : PySem.W.keepIn K (.ref a41) = true)
    (e42 : PySem.W.nsIn K mainGlobals "_law_long_row" = some (some (.ref a42)))
    (l42 : K.lookup a42 = some ⟨oc42, od42, .func (PySem.W.fnOf "_law_long_row" "_law_long_row" (defArgs s_llongrow) (defBody s_llongrow) (defScope s_llongrow) .none kV42 dc42 pm42 an42 cd42 ct42), sl42⟩)
    (c42 : PySem.W.codeIn K cd42 "_law_long_row" = true) (k42 : PySem.W.keepIn K (.ref a42) = true)
    (e43 : PySem.W.nsIn K mainGlobals "_law_refused" = some (some (.ref a43)))
    (l43 : K.lookup a43 = some ⟨oc43, od43, .func (PySem.W.fnOf "_law_refused" "_law_refused" (defArgs s_lrefused) (defBody s_lrefused) (defScope s_lrefused) .none kV43 dc43 pm43 an43 cd43 ct43), sl43⟩)
    (c43 : PySem.W.codeIn K cd43 "_law_refused" = true) (k43 : PySem.W.keepIn K (.ref a43) = true)
    (e44 : PySem.W.nsIn K mainGlobals "_law_one_more" = some (some (.ref a44)))
    (l44 : K.lookup a44 = some ⟨oc44, od44, .func (PySem.W.fnOf "_law_one_more" "_law_one_more" (defArgs s_lonemore) (defBody s_lonemore) (defScope s_lonemore) .none kV44 dc44 pm44 an44 cd44 ct44), sl44⟩)
    (c44 : PySem.W.codeIn K cd44 "_law_one_more" = true) (k44 : PySem.W.keepIn K (.ref a44) = true)
    (e45 : PySem.W.nsIn K mainGlobals "law" = some (some (.ref a45)))
    (l45 : K.lookup a45 = some ⟨oc45, od45, .func (PySem.W.fnOf "law" "law" (defArgs s_law) (defBody s_law) (defScope s_law) .none kV45 dc45 pm45 an45 cd45 ct45), sl45⟩)
    (c45 : PySem.W.codeIn K cd45 "law" = true) (k45 : PySem.W.keepIn K (.ref a45) = true)
    (e46 : PySem.W.nsIn K mainGlobals "plus" = some (some (.ref a46)))
    (l46 : K.lookup a46 = some ⟨oc46, od46, .func (PySem.W.fnOf "plus" "plus" (defArgs s_plus) (defBody s_plus) (defScope s_plus) .none kV46 dc46 pm46 an46 cd46 ct46), sl46⟩)
    (c46 : PySem.W.codeIn K cd46 "plus" = true) (k46 : PySem.W.keepIn K (.ref a46) = true)
    (e47 : PySem.W.nsIn K mainGlobals "minus" = some (some (.ref a47)))
    (l47 : K.lookup a47 = some ⟨oc47, od47, .func (PySem.W.fnOf "minus" "minus" (defArgs s_minus) (defBody s_minus) (defScope s_minus) .none kV47 dc47 pm47 an47 cd47 ct47), sl47⟩)
    (c47 : PySem.W.codeIn K cd47 "minus" = true) (k47 : PySem.W.keepIn K (.ref a47) = true)
    (e48 : PySem.W.nsIn K mainGlobals "times" = some (some (.ref a48)))
    (l48 : K.lookup a48 = some ⟨oc48, od48, .func (PySem.W.fnOf "times" "times" (defArgs s_times) (defBody s_times) (defScope s_times) .none kV48 dc48 pm48 an48 cd48 ct48), sl48⟩)
    (c48 : PySem.W.codeIn K cd48 "times" = true) (k48 : PySem.W.keepIn K (.ref a48) = true)
    (e49 : PySem.W.nsIn K mainGlobals "is_less" = some (some (.ref a49)))
    (l49 : K.lookup a49 = some ⟨oc49, od49, .func (PySem.W.fnOf "is_less" "is_less" (defArgs s_isless) (defBody s_isless) (defScope s_isless) .none kV49 dc49 pm49 an49 cd49 ct49), sl49⟩)
    (c49 : PySem.W.codeIn K cd49 "is_less" = true) (k49 : PySem.W.keepIn K (.ref a49) = true)
    (e50 : PySem.W.nsIn K mainGlobals "is_same" = some (some (.ref a50)))
    (l50 : K.lookup a50 = some ⟨oc50, od50, .func (PySem.W.fnOf "is_same" "is_same" (defArgs s_issame) (defBody s_issame) (defScope s_issame) .none kV50 dc50 pm50 an50 cd50 ct50), sl50⟩)
    (c50 : PySem.W.codeIn K cd50 "is_same" = true) (k50 : PySem.W.keepIn K (.ref a50) = true)
    (e51 : PySem.W.nsIn K mainGlobals "bits_of_both" = some (some (.ref a51)))
    (l51 : K.lookup a51 = some ⟨oc51, od51, .func (PySem.W.fnOf "bits_of_both" "bits_of_both" (defArgs s_bitsofboth) (defBody s_bitsofboth) (defScope s_bitsofboth) .none kV51 dc51 pm51 an51 cd51 ct51), sl51⟩)
    (c51 : PySem.W.codeIn K cd51 "bits_of_both" = true) (k51 : PySem.W.keepIn K (.ref a51) = true)
    (e52 : PySem.W.nsIn K mainGlobals "bits_of_one" = some (some (.ref a52)))
    (l52 : K.lookup a52 = some ⟨oc52, od52, .func (PySem.W.fnOf "bits_of_one" "bits_of_one" (defArgs s_bitsofone) (defBody s_bitsofone) (defScope s_bitsofone) .none kV52 dc52 pm52 an52 cd52 ct52), sl52⟩)
    (c52 : PySem.W.codeIn K cd52 "bits_of_one" = true) (k52 : PySem.W.keepIn K (.ref a52) = true)
    (e_SIGNS : PySem.W.nsIn K mainGlobals "SIGNS" = some (some (.ref o_SIGNS)))
    (l_SIGNS : K.lookup o_SIGNS = some ⟨.type "dict", none, .dict es_SIGNS nn_SIGNS, #[]⟩)
    (k_SIGNS : PySem.W.KeysLit w.params es_SIGNS.toList)
    (v_SIGNS_0 : PySem.W.nsIn K o_SIGNS "+" = some (some (.ref a46)))
    (v_SIGNS_1 : PySem.W.nsIn K o_SIGNS "-" = some (some (.ref a47)))
    (v_SIGNS_2 : PySem.W.nsIn K o_SIGNS "*" = some (some (.ref a48)))
    (v_SIGNS_3 : PySem.W.nsIn K o_SIGNS "/" = some (some (.ref a1)))
    (v_SIGNS_4 : PySem.W.nsIn K o_SIGNS "#" = some (some (.ref a2)))
    (v_SIGNS_5 : PySem.W.nsIn K o_SIGNS "<" = some (some (.ref a49)))
    (v_SIGNS_6 : PySem.W.nsIn K o_SIGNS "=" = some (some (.ref a50)))
    (v_SIGNS_7 : PySem.W.nsIn K o_SIGNS "&" = some (some (.ref a51)))
    (v_SIGNS_8 : PySem.W.nsIn K o_SIGNS "^" = some (some (.ref a52)))
    (low_SIGNS : (o_SIGNS == sysModules) = false)
    (kd_SIGNS : Keyed es_SIGNS.toList ["+", "-", "*", "/", "#", "<", "=", "&", "^"])
    (e_SHAPES : PySem.W.nsIn K mainGlobals "SHAPES" = some (some (.ref o_SHAPES)))
    (l_SHAPES : K.lookup o_SHAPES = some ⟨.type "dict", none, .dict es_SHAPES nn_SHAPES, #[]⟩)
    (k_SHAPES : PySem.W.KeysLit w.params es_SHAPES.toList)
    (v_SHAPES_0 : PySem.W.nsIn K o_SHAPES "set" = some (some (.str "re" tv_SHAPES_0)))
    (v_SHAPES_1 : PySem.W.nsIn K o_SHAPES "load" = some (some (.str "re" tv_SHAPES_1)))
    (v_SHAPES_2 : PySem.W.nsIn K o_SHAPES "store" = some (some (.str "ee" tv_SHAPES_2)))
    (v_SHAPES_3 : PySem.W.nsIn K o_SHAPES "swap" = some (some (.str "ree" tv_SHAPES_3)))
    (v_SHAPES_4 : PySem.W.nsIn K o_SHAPES "lock" = some (some (.str "e" tv_SHAPES_4)))
    (v_SHAPES_5 : PySem.W.nsIn K o_SHAPES "free" = some (some (.str "e" tv_SHAPES_5)))
    (v_SHAPES_6 : PySem.W.nsIn K o_SHAPES "send" = some (some (.str "ee" tv_SHAPES_6)))
    (v_SHAPES_7 : PySem.W.nsIn K o_SHAPES "take" = some (some (.str "re" tv_SHAPES_7)))
    (v_SHAPES_8 : PySem.W.nsIn K o_SHAPES "input" = some (some (.str "r" tv_SHAPES_8)))
    (v_SHAPES_9 : PySem.W.nsIn K o_SHAPES "tell" = some (some (.str "e" tv_SHAPES_9)))
    (v_SHAPES_10 : PySem.W.nsIn K o_SHAPES "check" = some (some (.str "e" tv_SHAPES_10)))
    (v_SHAPES_11 : PySem.W.nsIn K o_SHAPES "if" = some (some (.str "ek" tv_SHAPES_11)))
    (v_SHAPES_12 : PySem.W.nsIn K o_SHAPES "go" = some (some (.str "k" tv_SHAPES_12)))
    (low_SHAPES : (o_SHAPES == sysModules) = false)
    (kd_SHAPES : Keyed es_SHAPES.toList ["set", "load", "store", "swap", "lock", "free", "send", "take", "input", "tell", "check", "if", "go"])
    (c_LETTERS : PySem.W.nsIn K mainGlobals "LETTERS" = some (some (.str "abcdefghijklmnop" tk_LETTERS)))
    (c_MOST_ITEMS : PySem.W.nsIn K mainGlobals "MOST_ITEMS" = some (some (.int 15 tk_MOST_ITEMS)))
    (c_MOST_THREADS : PySem.W.nsIn K mainGlobals "MOST_THREADS" = some (some (.int 4 tk_MOST_THREADS)))
    (c_MOST_ROWS : PySem.W.nsIn K mainGlobals "MOST_ROWS" = some (some (.int 40 tk_MOST_ROWS)))
    (c_HEAD : PySem.W.nsIn K mainGlobals "HEAD" = some (some (.str "thread" tk_HEAD)))
    (z_all : PySem.W.nsIn K mainGlobals "all" = some none)
    (z_bool : PySem.W.nsIn K mainGlobals "bool" = some none)
    (z_enumerate : PySem.W.nsIn K mainGlobals "enumerate" = some none)
    (z_int : PySem.W.nsIn K mainGlobals "int" = some none)
    (z_isinstance : PySem.W.nsIn K mainGlobals "isinstance" = some none)
    (z_len : PySem.W.nsIn K mainGlobals "len" = some none)
    (z_list : PySem.W.nsIn K mainGlobals "list" = some none)
    (z_range : PySem.W.nsIn K mainGlobals "range" = some none)
    (z_repr : PySem.W.nsIn K mainGlobals "repr" = some none)
    (z_str : PySem.W.nsIn K mainGlobals "str" = some none)
    (z_tuple : PySem.W.nsIn K mainGlobals "tuple" = some none)
    (z_zip : PySem.W.nsIn K mainGlobals "zip" = some none)
    : ∃ fd : FuncData, (∀ (s : Shared) (v : Value), BindsTo s fd ⟨[v], []⟩ [("_law_script", v)]) ∧ ∀ base : Heap, K.In base → base.Ns mainGlobals mg → FnG l.prog w K mg base CX0 10 fa fd ["_law_script"] (sp_law K) := by
  have e := hfa.symm.trans (PySem.W.mg_of X G e45)
  cases e
  have F0 := fun_mk (st := s_brought) l0 c0 k0
  have b0 := F0.binds (ps := ["n"]) fun _ _ _ _ _ _ us hl => match us, hl with | [_], _ => rfl
  have F1 := fun_mk (st := s_quotient) l1 c1 k1
  have b1 := F1.binds (ps := ["one", "other"]) fun _ _ _ _ _ _ us hl => match us, hl with | [_, _], _ => rfl
  have F2 := fun_mk (st := s_rest) l2 c2 k2
  have b2 := F2.binds (ps := ["one", "other"]) fun _ _ _ _ _ _ us hl => match us, hl with | [_, _], _ => rfl
  have F3 := fun_mk (st := s_iNoText) l3 c3 k3
  have b3 := F3.binds (ps := ["self", "nth"]) fun _ _ _ _ _ _ us hl => match us, hl with | [_, _], _ => rfl
  have F4 := fun_mk (st := s_iswhole) l4 c4 k4
  have b4 := F4.binds (ps := ["thing"]) fun _ _ _ _ _ _ us hl => match us, hl with | [_], _ => rfl
  have F5 := fun_mk (st := s_isbelow) l5 c5 k5
  have b5 := F5.binds (ps := ["thing", "many"]) fun _ _ _ _ _ _ us hl => match us, hl with | [_, _], _ => rfl
  have F6 := fun_mk (st := s_wholeof) l6 c6 k6
  have b6 := F6.binds (ps := ["text"]) fun _ _ _ _ _ _ us hl => match us, hl with | [_], _ => rfl
  have F7 := fun_mk (st := s_isworth) l7 c7 k7
  have b7 := F7.binds (ps := ["thing"]) fun _ _ _ _ _ _ us hl => match us, hl with | [_], _ => rfl
  have F8 := fun_mk (st := s_worthof) l8 c8 k8
  have b8 := F8.binds (ps := ["text"]) fun _ _ _ _ _ _ us hl => match us, hl with | [_], _ => rfl
  have F9 := fun_mk (st := s_isletter) l9 c9 k9
  have b9 := F9.binds (ps := ["thing"]) fun _ _ _ _ _ _ us hl => match us, hl with | [_], _ => rfl
  have F10 := fun_mk (st := s_issign) l10 c10 k10
  have b10 := F10.binds (ps := ["thing"]) fun _ _ _ _ _ _ us hl => match us, hl with | [_], _ => rfl
  have F11 := fun_mk (st := s_leavesone) l11 c11 k11
  have b11 := F11.binds (ps := ["items"]) fun _ _ _ _ _ _ us hl => match us, hl with | [_], _ => rfl
  have F12 := fun_mk (st := s_isexpression) l12 c12 k12
  have b12 := F12.binds (ps := ["thing"]) fun _ _ _ _ _ _ us hl => match us, hl with | [_], _ => rfl
  have F13 := fun_mk (st := s_showexpression) l13 c13 k13
  have b13 := F13.binds (ps := ["e"]) fun _ _ _ _ _ _ us hl => match us, hl with | [_], _ => rfl
  have F14 := fun_mk (st := s_itemof) l14 c14 k14
  have b14 := F14.binds (ps := ["word"]) fun _ _ _ _ _ _ us hl => match us, hl with | [_], _ => rfl
  have F15 := fun_mk (st := s_expressionof) l15 c15 k15
  have b15 := F15.binds (ps := ["text"]) fun _ _ _ _ _ _ us hl => match us, hl with | [_], _ => rfl
  have F16 := fun_mk (st := s_fits) l16 c16 k16
  have b16 := F16.binds (ps := ["kind", "thing", "many"]) fun _ _ _ _ _ _ us hl => match us, hl with | [_, _, _], _ => rfl
  have F17 := fun_mk (st := s_isrow) l17 c17 k17
  have b17 := F17.binds (ps := ["thing", "many"]) fun _ _ _ _ _ _ us hl => match us, hl with | [_, _], _ => rfl
  have F18 := fun_mk (st := s_isthread) l18 c18 k18
  have b18 := F18.binds (ps := ["thing"]) fun _ _ _ _ _ _ us hl => match us, hl with | [_], _ => rfl
  have F19 := fun_mk (st := s_isprogram) l19 c19 k19
  have b19 := F19.binds (ps := ["thing"]) fun _ _ _ _ _ _ us hl => match us, hl with | [_], _ => rfl
  have F20 := fun_mk (st := s_showthing) l20 c20 k20
  have b20 := F20.binds (ps := ["kind", "thing"]) fun _ _ _ _ _ _ us hl => match us, hl with | [_, _], _ => rfl
  have F21 := fun_mk (st := s_showrow) l21 c21 k21
  have b21 := F21.binds (ps := ["row"]) fun _ _ _ _ _ _ us hl => match us, hl with | [_], _ => rfl
  have F22 := fun_mk (st := s_showprogram) l22 c22 k22
  have b22 := F22.binds (ps := ["program"]) fun _ _ _ _ _ _ us hl => match us, hl with | [_], _ => rfl
  have F23 := fun_mk (st := s_thingof) l23 c23 k23
  have b23 := F23.binds (ps := ["kind", "text"]) fun _ _ _ _ _ _ us hl => match us, hl with | [_, _], _ => rfl
  have F24 := fun_mk (st := s_rowof) l24 c24 k24
  have b24 := F24.binds (ps := ["text"]) fun _ _ _ _ _ _ us hl => match us, hl with | [_], _ => rfl
  have F25 := fun_mk (st := s_goeswithin) l25 c25 k25
  have b25 := F25.binds (ps := ["row", "many"]) fun _ _ _ _ _ _ us hl => match us, hl with | [_, _], _ => rfl
  have F26 := fun_mk (st := s_rowsbehind) l26 c26 k26
  have b26 := F26.binds (ps := ["texts", "nth"]) fun _ _ _ _ _ _ us hl => match us, hl with | [_, _], _ => rfl
  have F27 := fun_mk (st := s_readprogram) l27 c27 k27
  have b27 := F27.binds (ps := ["text"]) fun _ _ _ _ _ _ us hl => match us, hl with | [_], _ => rfl
  have F28 := fun_mk (st := s_lfeed) l28 c28 k28
  have b28 := F28.binds (ps := ["_law_script"]) fun _ _ _ _ _ _ us hl => match us, hl with | [_], _ => rfl
  have F29 := fun_mk (st := s_ldraw) l29 c29 k29
  have b29 := F29.binds (ps := ["_law_feed_here", "_law_many"]) fun _ _ _ _ _ _ us hl => match us, hl with | [_, _], _ => rfl
  have F30 := fun_mk (st := s_lworth) l30 c30 k30
  have b30 := F30.binds (ps := ["_law_feed_here"]) fun _ _ _ _ _ _ us hl => match us, hl with | [_], _ => rfl
  have F31 := fun_mk (st := s_lregister) l31 c31 k31
  have b31 := F31.binds (ps := ["_law_feed_here"]) fun _ _ _ _ _ _ us hl => match us, hl with | [_], _ => rfl
  have F32 := fun_mk (st := s_litem) l32 c32 k32
  have b32 := F32.binds (ps := ["_law_feed_here"]) fun _ _ _ _ _ _ us hl => match us, hl with | [_], _ => rfl
  have F33 := fun_mk (st := s_toldby) l33 c33 k33
  have b33 := F33.binds (ps := ["sign", "one", "other"]) fun _ _ _ _ _ _ us hl => match us, hl with | [_, _, _], _ => rfl
  have F34 := fun_mk (st := s_reckoned) l34 c34 k34
  have b34 := F34.binds (ps := ["e", "registers"]) fun _ _ _ _ _ _ us hl => match us, hl with | [_, _], _ => rfl
  have F35 := fun_mk (st := s_ltells) l35 c35 k35
  have b35 := F35.binds (ps := ["_law_mark", "_law_a", "_law_b"]) fun _ _ _ _ _ _ us hl => match us, hl with | [_, _, _], _ => rfl
  have F36 := fun_mk (st := s_lreck) l36 c36 k36
  have b36 := F36.binds (ps := ["_law_items", "_law_held"]) fun _ _ _ _ _ _ us hl => match us, hl with | [_, _], _ => rfl
  have F37 := fun_mk (st := s_lregs) l37 c37 k37
  have b37 := F37.binds (ps := ["_law_feed_here"]) fun _ _ _ _ _ _ us hl => match us, hl with | [_], _ => rfl
  have F38 := fun_mk (st := s_lextext) l38 c38 k38
  have b38 := F38.binds (ps := ["_law_e"]) fun _ _ _ _ _ _ us hl => match us, hl with | [_], _ => rfl
  have F39 := fun_mk (st := s_lrowtext) l39 c39 k39
  have b39 := F39.binds (ps := ["_law_row"]) fun _ _ _ _ _ _ us hl => match us, hl with | [_], _ => rfl
  have F40 := fun_mk (st := s_lprogtext) l40 c40 k40
  have b40 := F40.binds (ps := ["_law_program"]) fun _ _ _ _ _ _ us hl => match us, hl with | [_], _ => rfl
  have F41 := fun_mk (st := s_llong) l41 c41 k41
  have b41 := F41.binds (ps := ["_law_feed_here"]) fun _ _ _ _ _ _ us hl => match us, hl with | [_], _ => rfl
  have F42 := fun_mk (st := s_llongrow) l42 c42 k42
  have b42 := F42.binds (ps := ["_law_feed_here"]) fun _ _ _ _ _ _ us hl => match us, hl with | [_], _ => rfl
  have F43 := fun_mk (st := s_lrefused) l43 c43 k43
  have b43 := F43.binds (ps := ["_law_text"]) fun _ _ _ _ _ _ us hl => match us, hl with | [_], _ => rfl
  have F44 := fun_mk (st := s_lonemore) l44 c44 k44
  have b44 := F44.binds (ps := ["_law_feed_here", "_law_program"]) fun _ _ _ _ _ _ us hl => match us, hl with | [_, _], _ => rfl
  have F45 := fun_mk (st := s_law) l45 c45 k45
  have b45 := F45.binds (ps := ["_law_script"]) fun _ _ _ _ _ _ us hl => match us, hl with | [_], _ => rfl
  have F46 := fun_mk (st := s_plus) l46 c46 k46
  have b46 := F46.binds (ps := ["one", "other"]) fun _ _ _ _ _ _ us hl => match us, hl with | [_, _], _ => rfl
  have F47 := fun_mk (st := s_minus) l47 c47 k47
  have b47 := F47.binds (ps := ["one", "other"]) fun _ _ _ _ _ _ us hl => match us, hl with | [_, _], _ => rfl
  have F48 := fun_mk (st := s_times) l48 c48 k48
  have b48 := F48.binds (ps := ["one", "other"]) fun _ _ _ _ _ _ us hl => match us, hl with | [_, _], _ => rfl
  have F49 := fun_mk (st := s_isless) l49 c49 k49
  have b49 := F49.binds (ps := ["one", "other"]) fun _ _ _ _ _ _ us hl => match us, hl with | [_, _], _ => rfl
  have F50 := fun_mk (st := s_issame) l50 c50 k50
  have b50 := F50.binds (ps := ["one", "other"]) fun _ _ _ _ _ _ us hl => match us, hl with | [_, _], _ => rfl
  have F51 := fun_mk (st := s_bitsofboth) l51 c51 k51
  have b51 := F51.binds (ps := ["one", "other"]) fun _ _ _ _ _ _ us hl => match us, hl with | [_, _], _ => rfl
  have F52 := fun_mk (st := s_bitsofone) l52 c52 k52
  have b52 := F52.binds (ps := ["one", "other"]) fun _ _ _ _ _ _ us hl => match us, hl with | [_, _], _ => rfl
  let f : Nat → Addr := fun i => match i with | 0 => a0 | 1 => a1 | 2 => a2 | 3 => a3 | 4 => a4 | 5 => a5 | 6 => a6 | 7 => a7 | 8 => a8 | 9 => a9 | 10 => a10 | 11 => a11 | 12 => a12 | 13 => a13 | 14 => a14 | 15 => a15 | 16 => a16 | 17 => a17 | 18 => a18 | 19 => a19 | 20 => a20 | 21 => a21 | 22 => a22 | 23 => a23 | 24 => a24 | 25 => a25 | 26 => a26 | 27 => a27 | 28 => a28 | 29 => a29 | 30 => a30 | 31 => a31 | 32 => a32 | 33 => a33 | 34 => a34 | 35 => a35 | 36 => a36 | 37 => a37 | 38 => a38 | 39 => a39 | 40 => a40 | 41 => a41 | 42 => a42 | 43 => a43 | 44 => a44 | 45 => fa | 46 => a46 | 47 => a47 | 48 => a48 | 49 => a49 | 50 => a50 | 51 => a51 | 52 => a52 | _ => a0
  let fd : Nat → FuncData := fun i => match i with | 0 => PySem.W.fnOf "brought" "brought" (defArgs s_brought) (defBody s_brought) (defScope s_brought) .none kV0 dc0 pm0 an0 cd0 ct0 | 1 => PySem.W.fnOf "quotient" "quotient" (defArgs s_quotient) (defBody s_quotient) (defScope s_quotient) .none kV1 dc1 pm1 an1 cd1 ct1 | 2 => PySem.W.fnOf "rest" "rest" (defArgs s_rest) (defBody s_rest) (defScope s_rest) .none kV2 dc2 pm2 an2 cd2 ct2 | 3 => PySem.W.fnOf "__init__" "NoText.__init__" (defArgs s_iNoText) (defBody s_iNoText) (defScope s_iNoText) .none kV3 dc3 pm3 an3 cd3 ct3 | 4 => PySem.W.fnOf "is_whole" "is_whole" (defArgs s_iswhole) (defBody s_iswhole) (defScope s_iswhole) .none kV4 dc4 pm4 an4 cd4 ct4 | 5 => PySem.W.fnOf "is_below" "is_below" (defArgs s_isbelow) (defBody s_isbelow) (defScope s_isbelow) .none kV5 dc5 pm5 an5 cd5 ct5 | 6 => PySem.W.fnOf "whole_of" "whole_of" (defArgs s_wholeof) (defBody s_wholeof) (defScope s_wholeof) .none kV6 dc6 pm6 an6 cd6 ct6 | 7 => PySem.W.fnOf "is_worth" "is_worth" (defArgs s_isworth) (defBody s_isworth) (defScope s_isworth) .none kV7 dc7 pm7 an7 cd7 ct7 | 8 => PySem.W.fnOf "worth_of" "worth_of" (defArgs s_worthof) (defBody s_worthof) (defScope s_worthof) .none kV8 dc8 pm8 an8 cd8 ct8 | 9 => PySem.W.fnOf "is_letter" "is_letter" (defArgs s_isletter) (defBody s_isletter) (defScope s_isletter) .none kV9 dc9 pm9 an9 cd9 ct9 | 10 => PySem.W.fnOf "is_sign" "is_sign" (defArgs s_issign) (defBody s_issign) (defScope s_issign) .none kV10 dc10 pm10 an10 cd10 ct10 | 11 => PySem.W.fnOf "leaves_one" "leaves_one" (defArgs s_leavesone) (defBody s_leavesone) (defScope s_leavesone) .none kV11 dc11 pm11 an11 cd11 ct11 | 12 => PySem.W.fnOf "is_expression" "is_expression" (defArgs s_isexpression) (defBody s_isexpression) (defScope s_isexpression) .none kV12 dc12 pm12 an12 cd12 ct12 | 13 => PySem.W.fnOf "show_expression" "show_expression" (defArgs s_showexpression) (defBody s_showexpression) (defScope s_showexpression) .none kV13 dc13 pm13 an13 cd13 ct13 | 14 => PySem.W.fnOf "item_of" "item_of" (defArgs s_itemof) (defBody s_itemof) (defScope s_itemof) .none kV14 dc14 pm14 an14 cd14 ct14 | 15 => PySem.W.fnOf "expression_of" "expression_of" (defArgs s_expressionof) (defBody s_expressionof) (defScope s_expressionof) .none kV15 dc15 pm15 an15 cd15 ct15 | 16 => PySem.W.fnOf "fits" "fits" (defArgs s_fits) (defBody s_fits) (defScope s_fits) .none kV16 dc16 pm16 an16 cd16 ct16 | 17 => PySem.W.fnOf "is_row" "is_row" (defArgs s_isrow) (defBody s_isrow) (defScope s_isrow) .none kV17 dc17 pm17 an17 cd17 ct17 | 18 => PySem.W.fnOf "is_thread" "is_thread" (defArgs s_isthread) (defBody s_isthread) (defScope s_isthread) .none kV18 dc18 pm18 an18 cd18 ct18 | 19 => PySem.W.fnOf "is_program" "is_program" (defArgs s_isprogram) (defBody s_isprogram) (defScope s_isprogram) .none kV19 dc19 pm19 an19 cd19 ct19 | 20 => PySem.W.fnOf "show_thing" "show_thing" (defArgs s_showthing) (defBody s_showthing) (defScope s_showthing) .none kV20 dc20 pm20 an20 cd20 ct20 | 21 => PySem.W.fnOf "show_row" "show_row" (defArgs s_showrow) (defBody s_showrow) (defScope s_showrow) .none kV21 dc21 pm21 an21 cd21 ct21 | 22 => PySem.W.fnOf "show_program" "show_program" (defArgs s_showprogram) (defBody s_showprogram) (defScope s_showprogram) .none kV22 dc22 pm22 an22 cd22 ct22 | 23 => PySem.W.fnOf "thing_of" "thing_of" (defArgs s_thingof) (defBody s_thingof) (defScope s_thingof) .none kV23 dc23 pm23 an23 cd23 ct23 | 24 => PySem.W.fnOf "row_of" "row_of" (defArgs s_rowof) (defBody s_rowof) (defScope s_rowof) .none kV24 dc24 pm24 an24 cd24 ct24 | 25 => PySem.W.fnOf "goes_within" "goes_within" (defArgs s_goeswithin) (defBody s_goeswithin) (defScope s_goeswithin) .none kV25 dc25 pm25 an25 cd25 ct25 | 26 => PySem.W.fnOf "rows_behind" "rows_behind" (defArgs s_rowsbehind) (defBody s_rowsbehind) (defScope s_rowsbehind) .none kV26 dc26 pm26 an26 cd26 ct26 | 27 => PySem.W.fnOf "read_program" "read_program" (defArgs s_readprogram) (defBody s_readprogram) (defScope s_readprogram) .none kV27 dc27 pm27 an27 cd27 ct27 | 28 => PySem.W.fnOf "_law_feed" "_law_feed" (defArgs s_lfeed) (defBody s_lfeed) (defScope s_lfeed) .none kV28 dc28 pm28 an28 cd28 ct28 | 29 => PySem.W.fnOf "_law_draw" "_law_draw" (defArgs s_ldraw) (defBody s_ldraw) (defScope s_ldraw) .none kV29 dc29 pm29 an29 cd29 ct29 | 30 => PySem.W.fnOf "_law_worth" "_law_worth" (defArgs s_lworth) (defBody s_lworth) (defScope s_lworth) .none kV30 dc30 pm30 an30 cd30 ct30 | 31 => PySem.W.fnOf "_law_register" "_law_register" (defArgs s_lregister) (defBody s_lregister) (defScope s_lregister) .none kV31 dc31 pm31 an31 cd31 ct31 | 32 => PySem.W.fnOf "_law_item" "_law_item" (defArgs s_litem) (defBody s_litem) (defScope s_litem) .none kV32 dc32 pm32 an32 cd32 ct32 | 33 => PySem.W.fnOf "told_by" "told_by" (defArgs s_toldby) (defBody s_toldby) (defScope s_toldby) .none kV33 dc33 pm33 an33 cd33 ct33 | 34 => PySem.W.fnOf "reckoned" "reckoned" (defArgs s_reckoned) (defBody s_reckoned) (defScope s_reckoned) .none kV34 dc34 pm34 an34 cd34 ct34 | 35 => PySem.W.fnOf "_law_tells" "_law_tells" (defArgs s_ltells) (defBody s_ltells) (defScope s_ltells) .none kV35 dc35 pm35 an35 cd35 ct35 | 36 => PySem.W.fnOf "_law_reckoned" "_law_reckoned" (defArgs s_lreck) (defBody s_lreck) (defScope s_lreck) .none kV36 dc36 pm36 an36 cd36 ct36 | 37 => PySem.W.fnOf "_law_registers" "_law_registers" (defArgs s_lregs) (defBody s_lregs) (defScope s_lregs) .none kV37 dc37 pm37 an37 cd37 ct37 | 38 => PySem.W.fnOf "_law_expression_text" "_law_expression_text" (defArgs s_lextext) (defBody s_lextext) (defScope s_lextext) .none kV38 dc38 pm38 an38 cd38 ct38 | 39 => PySem.W.fnOf "_law_row_text" "_law_row_text" (defArgs s_lrowtext) (defBody s_lrowtext) (defScope s_lrowtext) .none kV39 dc39 pm39 an39 cd39 ct39 | 40 => PySem.W.fnOf "_law_program_text" "_law_program_text" (defArgs s_lprogtext) (defBody s_lprogtext) (defScope s_lprogtext) .none kV40 dc40 pm40 an40 cd40 ct40 | 41 => PySem.W.fnOf "_law_long" "_law_long" (defArgs s_llong) (defBody s_llong) (defScope s_llong) .none kV41 dc41 pm41 an41 cd41 ct41 | 42 => PySem.W.fnOf "_law_long_row" "_law_long_row" (defArgs s_llongrow) (defBody s_llongrow) (defScope s_llongrow) .none kV42 dc42 pm42 an42 cd42 ct42 | 43 => PySem.W.fnOf "_law_refused" "_law_refused" (defArgs s_lrefused) (defBody s_lrefused) (defScope s_lrefused) .none kV43 dc43 pm43 an43 cd43 ct43 | 44 => PySem.W.fnOf "_law_one_more" "_law_one_more" (defArgs s_lonemore) (defBody s_lonemore) (defScope s_lonemore) .none kV44 dc44 pm44 an44 cd44 ct44 | 45 => PySem.W.fnOf "law" "law" (defArgs s_law) (defBody s_law) (defScope s_law) .none kV45 dc45 pm45 an45 cd45 ct45 | 46 => PySem.W.fnOf "plus" "plus" (defArgs s_plus) (defBody s_plus) (defScope s_plus) .none kV46 dc46 pm46 an46 cd46 ct46 | 47 => PySem.W.fnOf "minus" "minus" (defArgs s_minus) (defBody s_minus) (defScope s_minus) .none kV47 dc47 pm47 an47 cd47 ct47 | 48 => PySem.W.fnOf "times" "times" (defArgs s_times) (defBody s_times) (defScope s_times) .none kV48 dc48 pm48 an48 cd48 ct48 | 49 => PySem.W.fnOf "is_less" "is_less" (defArgs s_isless) (defBody s_isless) (defScope s_isless) .none kV49 dc49 pm49 an49 cd49 ct49 | 50 => PySem.W.fnOf "is_same" "is_same" (defArgs s_issame) (defBody s_issame) (defScope s_issame) .none kV50 dc50 pm50 an50 cd50 ct50 | 51 => PySem.W.fnOf "bits_of_both" "bits_of_both" (defArgs s_bitsofboth) (defBody s_bitsofboth) (defScope s_bitsofboth) .none kV51 dc51 pm51 an51 cd51 ct51 | 52 => PySem.W.fnOf "bits_of_one" "bits_of_one" (defArgs s_bitsofone) (defBody s_bitsofone) (defScope s_bitsofone) .none kV52 dc52 pm52 an52 cd52 ct52 | _ => PySem.W.fnOf "brought" "brought" (defArgs s_brought) (defBody s_brought) (defScope s_brought) .none kV0 dc0 pm0 an0 cd0 ct0
  let ob : Nat → Addr := fun i => match i with | 0 => o_SIGNS | 1 => o_SHAPES | 2 => C_NoText | _ => o_SIGNS
  have T : Txt K w mg f fd ob := ⟨F0, PySem.W.mg_of X G e0, b0, F1, PySem.W.mg_of X G e1, b1, F2, PySem.W.mg_of X G e2, b2, F3, PySem.W.mg_of X G eC_NoText, ⟨⟨nm_NoText, q_NoText, N_NoText, bs_NoText, _, sn_NoText, sub_NoText, ab_NoText, col_NoText, dd_NoText, m0_NoText, m1_NoText, m2_NoText, m3_NoText, m5_NoText, xL_NoText, by decide +kernel⟩, sa_NoText, xC_NoText, tC_NoText, kC_NoText⟩, fI_NoText, tI_NoText, ⟨ga_NoText, gg_NoText, xC_NoText, hC_NoText⟩, iC_NoText, exm_self xC_NoText iC_NoText tC_NoText sC_NoText, nf_nth_NoText, b3, F4, PySem.W.mg_of X G e4, b4, F5, PySem.W.mg_of X G e5, b5, F6, PySem.W.mg_of X G e6, b6, F7, PySem.W.mg_of X G e7, b7, F8, PySem.W.mg_of X G e8, b8, F9, PySem.W.mg_of X G e9, b9, F10, PySem.W.mg_of X G e10, b10, F11, PySem.W.mg_of X G e11, b11, F12, PySem.W.mg_of X G e12, b12, F13, PySem.W.mg_of X G e13, b13, F14, PySem.W.mg_of X G e14, b14, F15, PySem.W.mg_of X G e15, b15, F16, PySem.W.mg_of X G e16, b16, F17, PySem.W.mg_of X G e17, b17, F18, PySem.W.mg_of X G e18, b18, F19, PySem.W.mg_of X G e19, b19, F20, PySem.W.mg_of X G e20, b20, F21, PySem.W.mg_of X G e21, b21, F22, PySem.W.mg_of X G e22, b22, F23, PySem.W.mg_of X G e23, b23, F24, PySem.W.mg_of X G e24, b24, F25, PySem.W.mg_of X G e25, b25, F26, PySem.W.mg_of X G e26, b26, F27, PySem.W.mg_of X G e27, b27, F28, PySem.W.mg_of X G e28, b28, F29, PySem.W.mg_of X G e29, b29, F30, PySem.W.mg_of X G e30, b30, F31, PySem.W.mg_of X G e31, b31, F32, PySem.W.mg_of X G e32, b32, F33, PySem.W.mg_of X G e33, b33, F34, PySem.W.mg_of X G e34, b34, F35, PySem.W.mg_of X G e35, b35, F36, PySem.W.mg_of X G e36, b36, F37, PySem.W.mg_of X G e37, b37, F38, PySem.W.mg_of X G e38, b38, F39, PySem.W.mg_of X G e39, b39, F40, PySem.W.mg_of X G e40, b40, F41, PySem.W.mg_of X G e41, b41, F42, PySem.W.mg_of X G e42, b42, F43, PySem.W.mg_of X G e43, b43, F44, PySem.W.mg_of X G e44, b44, F45, PySem.W.mg_of X G e45, b45, F46, PySem.W.mg_of X G e46, b46, F47, PySem.W.mg_of X G e47, b47, F48, PySem.W.mg_of X G e48, b48, F49, PySem.W.mg_of X G e49, b49, F50, PySem.W.mg_of X G e50, b50, F51, PySem.W.mg_of X G e51, b51, F52, PySem.W.mg_of X G e52, b52, PySem.W.mg_of X G e_SIGNS, ⟨_, _, _, l_SIGNS, k_SIGNS, v_SIGNS_0, rfl⟩, ⟨_, _, _, l_SIGNS, k_SIGNS, v_SIGNS_1, rfl⟩, ⟨_, _, _, l_SIGNS, k_SIGNS, v_SIGNS_2, rfl⟩, ⟨_, _, _, l_SIGNS, k_SIGNS, v_SIGNS_3, rfl⟩, ⟨_, _, _, l_SIGNS, k_SIGNS, v_SIGNS_4, rfl⟩, ⟨_, _, _, l_SIGNS, k_SIGNS, v_SIGNS_5, rfl⟩, ⟨_, _, _, l_SIGNS, k_SIGNS, v_SIGNS_6, rfl⟩, ⟨_, _, _, l_SIGNS, k_SIGNS, v_SIGNS_7, rfl⟩, ⟨_, _, _, l_SIGNS, k_SIGNS, v_SIGNS_8, rfl⟩, ⟨_, _, ⟨l_SIGNS, k_SIGNS, low_SIGNS⟩⟩, fun z hz => keyed_none l_SIGNS kd_SIGNS hz, PySem.W.mg_of X G e_SHAPES, ⟨_, _, _, l_SHAPES, k_SHAPES, v_SHAPES_0, ⟨_, rfl⟩⟩, ⟨_, _, _, l_SHAPES, k_SHAPES, v_SHAPES_1, ⟨_, rfl⟩⟩, ⟨_, _, _, l_SHAPES, k_SHAPES, v_SHAPES_2, ⟨_, rfl⟩⟩, ⟨_, _, _, l_SHAPES, k_SHAPES, v_SHAPES_3, ⟨_, rfl⟩⟩, ⟨_, _, _, l_SHAPES, k_SHAPES, v_SHAPES_4, ⟨_, rfl⟩⟩, ⟨_, _, _, l_SHAPES, k_SHAPES, v_SHAPES_5, ⟨_, rfl⟩⟩, ⟨_, _, _, l_SHAPES, k_SHAPES, v_SHAPES_6, ⟨_, rfl⟩⟩, ⟨_, _, _, l_SHAPES, k_SHAPES, v_SHAPES_7, ⟨_, rfl⟩⟩, ⟨_, _, _, l_SHAPES, k_SHAPES, v_SHAPES_8, ⟨_, rfl⟩⟩, ⟨_, _, _, l_SHAPES, k_SHAPES, v_SHAPES_9, ⟨_, rfl⟩⟩, ⟨_, _, _, l_SHAPES, k_SHAPES, v_SHAPES_10, ⟨_, rfl⟩⟩, ⟨_, _, _, l_SHAPES, k_SHAPES, v_SHAPES_11, ⟨_, rfl⟩⟩, ⟨_, _, _, l_SHAPES, k_SHAPES, v_SHAPES_12, ⟨_, rfl⟩⟩, ⟨_, _, ⟨l_SHAPES, k_SHAPES, low_SHAPES⟩⟩, fun z hz => keyed_none l_SHAPES kd_SHAPES hz, ⟨_, PySem.W.mg_of X G c_LETTERS⟩, ⟨_, PySem.W.mg_of X G c_MOST_ITEMS⟩, ⟨_, PySem.W.mg_of X G c_MOST_THREADS⟩, ⟨_, PySem.W.mg_of X G c_MOST_ROWS⟩, ⟨_, PySem.W.mg_of X G c_HEAD⟩, PySem.W.mg_none_of X G z_all, PySem.W.mg_none_of X G z_bool, PySem.W.mg_none_of X G z_enumerate, PySem.W.mg_none_of X G z_int, PySem.W.mg_none_of X G z_isinstance, PySem.W.mg_none_of X G z_len, PySem.W.mg_none_of X G z_list, PySem.W.mg_none_of X G z_range, PySem.W.mg_none_of X G z_repr, PySem.W.mg_none_of X G z_str, PySem.W.mg_none_of X G z_tuple, PySem.W.mg_none_of X G z_zip⟩
  exact ⟨fd 45, fun s v => .of_eq rfl, fun base _ _ => ok_law T⟩
end Kw
open PySem PySem.W PyProof.Rows
set_option maxRecDepth 100000 in
set_option maxHeartbeats 0 in
theorem PySem.Challenge.cw_replaytravel_k11_greatest_programs_holds : PySem.Challenge.rw_replaytravel_k11_greatest_programs.Holds := by
  w_on; o_law; k_head; (case hw => w_witness2)
  k_fill
  refine Kw.walkG (l := PySem.Challenge.rw_replaytravel_k11_greatest_programs) (n := 63) (k := 10) (x := "_law_script") (C := fun _ => L2.CX0) (sp := fun w => Kw.sp_law _) rfl (by decide) rfl ⟨rfl, by decide, by decide⟩ (fun w h Y => PySem.W.kIn_of Y) ?F (fun _ _ a ns hl _ hS => ⟨a, ns, rfl, hS, hl, fun _ => rfl⟩) (fun _ _ _ _ _ h => h)
  case F =>
    intro w mg fa h KX G hmg
    refine' Kw.all_mk KX G hmg ?e0 ?l0 ?c0 ?k0 ?e1 ?l1 ?c1 ?k1 ?e2 ?l2 ?c2 ?k2 ?eC_NoText ?xL_NoText ?sa_NoText ?ga_NoText ?gg_NoText ?kC_NoText ?xC_NoText ?tC_NoText ?hC_NoText ?iC_NoText ?sC_NoText ?fI_NoText ?tI_NoText ?nf_nth_NoText ?l3 ?c3 ?k3 ?e4 ?l4 ?c4 ?k4 ?e5 ?l5 ?c5 ?k5 ?e6 ?l6 ?c6 ?k6 ?e7 ?l7 ?c7 ?k7 ?e8 ?l8 ?c8 ?k8 ?e9 ?l9 ?c9 ?k9 ?e10 ?l10 ?c10 ?k10 ?e11 ?l11 ?c11 ?k11 ?e12 ?l12 ?c12 ?k12 ?e13 ?l13 ?c13 ?k13 ?e14 ?l14 ?c14 ?k14 ?e15 ?l15 ?c15 ?k15 ?e16 ?l16 ?c16 ?k16 ?e17 ?l17 ?c17 ?k17 ?e18 ?l18 ?c18 ?k18 ?e19 ?l19 ?c19 ?k19 ?e20 ?l20 ?c20 ?k20 ?e21 ?l21 ?c21 ?k21 ?e22 ?l22 ?c22 ?k22 ?e23 ?l23 ?c23 ?k23 ?e24 ?l24 ?c24 ?k24 ?e25 ?l25 ?c25 ?k25 ?e26 ?l26 ?c26 ?k26 ?e27 ?l27 ?c27 ?k27 ?e28 ?l28 ?c28 ?k28 ?e29 ?l29 ?c29 ?k29 ?e30 ?l30 ?c30 ?k30 ?e31 ?l31 ?c31 ?k31 ?e32 ?l32 ?c32 ?k32 ?e33 ?l33 ?c33 ?k33 ?e34 ?l34 ?c34 ?k34 ?e35 ?l35 ?c35 ?k35 ?e36 ?l36 ?c36 ?k36 ?e37 ?l37 ?c37 ?k37 ?e38 ?l38 ?c38 ?k38 ?e39 ?l39 ?c39 ?k39 ?e40 ?l40 ?c40 ?k40 ?e41 ?l41 ?c41 ?k41 ?e42 ?l42 ?c42 ?k42 ?e43 ?l43 ?c43 ?k43 ?e44 ?l44 ?c44 ?k44 ?e45 ?l45 ?c45 ?k45 ?e46 ?l46 ?c46 ?k46 ?e47 ?l47 ?c47 ?k47 ?e48 ?l48 ?c48 ?k48 ?e49 ?l49 ?c49 ?k49 ?e50 ?l50 ?c50 ?k50 ?e51 ?l51 ?c51 ?k51 ?e52 ?l52 ?c52 ?k52 ?e_SIGNS ?l_SIGNS ?k_SIGNS ?v_SIGNS_0 ?v_SIGNS_1 ?v_SIGNS_2 ?v_SIGNS_3 ?v_SIGNS_4 ?v_SIGNS_5 ?v_SIGNS_6 ?v_SIGNS_7 ?v_SIGNS_8 ?low_SIGNS ?kd_SIGNS ?e_SHAPES ?l_SHAPES ?k_SHAPES ?v_SHAPES_0 ?v_SHAPES_1 ?v_SHAPES_2 ?v_SHAPES_3 ?v_SHAPES_4 ?v_SHAPES_5 ?v_SHAPES_6 ?v_SHAPES_7 ?v_SHAPES_8 ?v_SHAPES_9 ?v_SHAPES_10 ?v_SHAPES_11 ?v_SHAPES_12 ?low_SHAPES ?kd_SHAPES ?c_LETTERS ?c_MOST_ITEMS ?c_MOST_THREADS ?c_MOST_ROWS ?c_HEAD ?z_all ?z_bool ?z_enumerate ?z_int ?z_isinstance ?z_len ?z_list ?z_range ?z_repr ?z_str ?z_tuple ?z_zip
    (case e0 => k_is)
    (case l0 => k_is)
    (case c0 => k_is)
    (case k0 => k_is)
    (case e1 => k_is)
    (case l1 => k_is)
    (case c1 => k_is)
    (case k1 => k_is)
    (case e2 => k_is)
    (case l2 => k_is)
    (case c2 => k_is)
    (case k2 => k_is)
    (case eC_NoText => k_is)
    (case xL_NoText => k_is)
    (case sa_NoText => k_is)
    (case ga_NoText => k_is)
    (case gg_NoText => k_is)
    (case kC_NoText => k_is)
    (case xC_NoText => k_is)
    (case tC_NoText => k_is)
    (case hC_NoText => k_is)
    (case iC_NoText => k_is)
    (case sC_NoText => first | rfl | k_is)
    (case fI_NoText => k_is)
    (case tI_NoText => k_is)
    (case nf_nth_NoText => k_is)
    (case l3 => k_is)
    (case c3 => k_is)
    (case k3 => k_is)
    (case e4 => k_is)
    (case l4 => k_is)
    (case c4 => k_is)
    (case k4 => k_is)
    (case e5 => k_is)
    (case l5 => k_is)
    (case c5 => k_is)
    (case k5 => k_is)
    (case e6 => k_is)
    (case l6 => k_is)
    (case c6 => k_is)
    (case k6 => k_is)
    (case e7 => k_is)
    (case l7 => k_is)
    (case c7 => k_is)
    (case k7 => k_is)
    (case e8 => k_is)
    (case l8 => k_is)
    (case c8 => k_is)
    (case k8 => k_is)
    (case e9 => k_is)
    (case l9 => k_is)
    (case c9 => k_is)
    (case k9 => k_is)
    (case e10 => k_is)
    (case l10 => k_is)
    (case c10 => k_is)
    (case k10 => k_is)
    (case e11 => k_is)
    (case l11 => k_is)
    (case c11 => k_is)
    (case k11 => k_is)
    (case e12 => k_is)
    (case l12 => k_is)
    (case c12 => k_is)
    (case k12 => k_is)
    (case e13 => k_is)
    (case l13 => k_is)
    (case c13 => k_is)
    (case k13 => k_is)
    (case e14 => k_is)
    (case l14 => k_is)
    (case c14 => k_is)
    (case k14 => k_is)
    (case e15 => k_is)
    (case l15 => k_is)
    (case c15 => k_is)
    (case k15 => k_is)
    (case e16 => k_is)
    (case l16 => k_is)
    (case c16 => k_is)
    (case k16 => k_is)
    (case e17 => k_is)
    (case l17 => k_is)
    (case c17 => k_is)
    (case k17 => k_is)
    (case e18 => k_is)
    (case l18 => k_is)
    (case c18 => k_is)
    (case k18 => k_is)
    (case e19 => k_is)
    (case l19 => k_is)
    (case c19 => k_is)
    (case k19 => k_is)
    (case e20 => k_is)
    (case l20 => k_is)
    (case c20 => k_is)
    (case k20 => k_is)
    (case e21 => k_is)
    (case l21 => k_is)
    (case c21 => k_is)
    (case k21 => k_is)
    (case e22 => k_is)
    (case l22 => k_is)
    (case c22 => k_is)
    (case k22 => k_is)
    (case e23 => k_is)
    (case l23 => k_is)
    (case c23 => k_is)
    (case k23 => k_is)
    (case e24 => k_is)
    (case l24 => k_is)
    (case c24 => k_is)
    (case k24 => k_is)
    (case e25 => k_is)
    (case l25 => k_is)
    (case c25 => k_is)
    (case k25 => k_is)
    (case e26 => k_is)
    (case l26 => k_is)
    (case c26 => k_is)
    (case k26 => k_is)
    (case e27 => k_is)
    (case l27 => k_is)
    (case c27 => k_is)
    (case k27 => k_is)
    (case e28 => k_is)
    (case l28 => k_is)
    (case c28 => k_is)
    (case k28 => k_is)
    (case e29 => k_is)
    (case l29 => k_is)
    (case c29 => k_is)
    (case k29 => k_is)
    (case e30 => k_is)
    (case l30 => k_is)
    (case c30 => k_is)
    (case k30 => k_is)
    (case e31 => k_is)
    (case l31 => k_is)
    (case c31 => k_is)
    (case k31 => k_is)
    (case e32 => k_is)
    (case l32 => k_is)
    (case c32 => k_is)
    (case k32 => k_is)
    (case e33 => k_is)
    (case l33 => k_is)
    (case c33 => k_is)
    (case k33 => k_is)
    (case e34 => k_is)
    (case l34 => k_is)
    (case c34 => k_is)
    (case k34 => k_is)
    (case e35 => k_is)
    (case l35 => k_is)
    (case c35 => k_is)
    (case k35 => k_is)
    (case e36 => k_is)
    (case l36 => k_is)
    (case c36 => k_is)
    (case k36 => k_is)
    (case e37 => k_is)
    (case l37 => k_is)
    (case c37 => k_is)
    (case k37 => k_is)
    (case e38 => k_is)
    (case l38 => k_is)
    (case c38 => k_is)
    (case k38 => k_is)
    (case e39 => k_is)
    (case l39 => k_is)
    (case c39 => k_is)
    (case k39 => k_is)
    (case e40 => k_is)
    (case l40 => k_is)
    (case c40 => k_is)
    (case k40 => k_is)
    (case e41 => k_is)
    (case l41 => k_is)
    (case c41 => k_is)
    (case k41 => k_is)
    (case e42 => k_is)
    (case l42 => k_is)
    (case c42 => k_is)
    (case k42 => k_is)
    (case e43 => k_is)
    (case l43 => k_is)
    (case c43 => k_is)
    (case k43 => k_is)
    (case e44 => k_is)
    (case l44 => k_is)
    (case c44 => k_is)
    (case k44 => k_is)
    (case e45 => k_is)
    (case l45 => k_is)
    (case c45 => k_is)
    (case k45 => k_is)
    (case e46 => k_is)
    (case l46 => k_is)
    (case c46 => k_is)
    (case k46 => k_is)
    (case e47 => k_is)
    (case l47 => k_is)
    (case c47 => k_is)
    (case k47 => k_is)
    (case e48 => k_is)
    (case l48 => k_is)
    (case c48 => k_is)
    (case k48 => k_is)
    (case e49 => k_is)
    (case l49 => k_is)
    (case c49 => k_is)
    (case k49 => k_is)
    (case e50 => k_is)
    (case l50 => k_is)
    (case c50 => k_is)
    (case k50 => k_is)
    (case e51 => k_is)
    (case l51 => k_is)
    (case c51 => k_is)
    (case k51 => k_is)
    (case e52 => k_is)
    (case l52 => k_is)
    (case c52 => k_is)
    (case k52 => k_is)
    (case e_SIGNS => k_is)
    (case l_SIGNS => k_is)
    (case k_SIGNS => repeat' (first | exact trivial | refine ⟨⟨_, _, rfl, rfl⟩, ?_⟩))
    (case v_SIGNS_0 => k_is)
    (case v_SIGNS_1 => k_is)
    (case v_SIGNS_2 => k_is)
    (case v_SIGNS_3 => k_is)
    (case v_SIGNS_4 => k_is)
    (case v_SIGNS_5 => k_is)
    (case v_SIGNS_6 => k_is)
    (case v_SIGNS_7 => k_is)
    (case v_SIGNS_8 => k_is)
    (case low_SIGNS => first | k_is | decide | rfl)
    (case kd_SIGNS => repeat' (first | exact trivial | refine ⟨⟨_, rfl⟩, ?_⟩))
    (case e_SHAPES => k_is)
    (case l_SHAPES => k_is)
    (case k_SHAPES => repeat' (first | exact trivial | refine ⟨⟨_, _, rfl, rfl⟩, ?_⟩))
    (case v_SHAPES_0 => k_is)
    (case v_SHAPES_1 => k_is)
    (case v_SHAPES_2 => k_is)
    (case v_SHAPES_3 => k_is)
    (case v_SHAPES_4 => k_is)
    (case v_SHAPES_5 => k_is)
    (case v_SHAPES_6 => k_is)
    (case v_SHAPES_7 => k_is)
    (case v_SHAPES_8 => k_is)
    (case v_SHAPES_9 => k_is)
    (case v_SHAPES_10 => k_is)
    (case v_SHAPES_11 => k_is)
    (case v_SHAPES_12 => k_is)
    (case low_SHAPES => first | k_is | decide | rfl)
    (case kd_SHAPES => repeat' (first | exact trivial | refine ⟨⟨_, rfl⟩, ?_⟩))
    (case c_LETTERS => k_is)
    (case c_MOST_ITEMS => k_is)
    (case c_MOST_THREADS => k_is)
    (case c_MOST_ROWS => k_is)
    (case c_HEAD => k_is)
    (case z_all => k_is)
    (case z_bool => k_is)
    (case z_enumerate => k_is)
    (case z_int => k_is)
    (case z_isinstance => k_is)
    (case z_len => k_is)
    (case z_list => k_is)
    (case z_range => k_is)
    (case z_repr => k_is)
    (case z_str => k_is)
    (case z_tuple => k_is)
    (case z_zip => k_is)
