import PyProof.Rows.All
import Wide.All
import OpenK.AllK
import Wide.FinOn
import HandS.EndBits
import KE.OsRunLaw
import HandS.Words
import HandS.StrMore
import HandS.FStr
import KE.KxField
import HandS.ClsMeth
import HandS.Flow
import HandS.SortInts
import HandS.WideBits
import HandS.Conv
import HandS.Star
import HandS.Style
import HandS.Text
import HandS.SuiteRaise
import KE.KCallOwn
import HandS.OwnEq
import HandS.More
import HandS.IsInst
import HandS.Codes
import HandS.Defaults
import PyProof.InstNe
import PyProof.Draws
import PyProof.EnumMake
import PyProof.WalksMore
import HandS.TupAny
import HandS.ReplaceList
import HandS.ForMost
import HandS.Property
import HandS.Lambda
import PyProof.ReprRoads
import PyProof.StrLawsRepr
import HandS.TryOnly
import PyProof.Rows.Range3
import HandS.SetFor
import HandS.MakeKw
import HandS.TupMul
import HandS.EndTab
import KE.KNestM
import HandS.HotCalls
import KE.KTryMore
import HandS.ExcValue
import HandS.ExcInit
import HandS.ExcIs
import HandS.ExcField
import KE.KIntText
import PyProof.StrLawsTight
import PyProof.StrLawsFirst
import KE.IntTextLaws
import PyProof.Rows.IntBool
import PyProof.Rows.EqBoolInt
import PySem.Challenge.RW_undotables_k29_tables
set_option Elab.async false
set_option linter.all false
set_option maxRecDepth 100000
set_option maxHeartbeats 8000000
namespace HdU
open PySem PySem.W PySem.Calls PyProof.Rows HeadRun L2
/-! the head of the law: what the top leaves, looked at in a few parts, each by a run of its own -/
abbrev pw : Program := PySem.Challenge.pw_undotables_k29_tables
def tS (i : Nat) : Stmt := pw.main.body.getD i (.Pass ⟨0, 0, 0, 0⟩)
abbrev st (x : String) : Str := Str.ofString x
abbrev vs (x : String) (n : Nat) : Value := .str (Str.ofString x) n
abbrev de (P : Params) (x : String) (n : Nat) (v : Value) : DictEntry := ⟨PyData.keyHash P (Str.ofString x), .str (Str.ofString x) n, v⟩
noncomputable def KK : Params → PySem.W.Frag := fun P =>
  (nat_lit 2, (Obj.mk .none none (.dict #[] 0) #[])) ::
  (nat_lit 3, (Obj.mk (.type "dict") none (.dict #[(de P "__name__" 165 (vs "law_undotables_k29_tables" 1313)), (de P "__doc__" 166 .none), (de P "__package__" 167 .none), (de P "__loader__" 168 (.builtin "__main__.__loader__#opaque")), (de P "__spec__" 169 .none), (de P "__annotations__" 170 (.ref 6)), (de P "__builtins__" 171 (.ref 4)), (de P "__file__" 173 (vs "/claim/cut.py" 172)), (de P "__cached__" 174 .none), (de P "_wall" 193 (.ref 21)), (de P "UndoError" 213 (.ref 31)), (de P "InvalidName" 238 (.ref 51)), (de P "InvalidNames" 263 (.ref 70)), (de P "InvalidAmount" 288 (.ref 89)), (de P "InvalidProgram" 313 (.ref 108)), (de P "InvalidText" 338 (.ref 127)), (de P "InvalidLength" 363 (.ref 146)), (de P "InvalidCount" 388 (.ref 165)), (de P "InvalidChanges" 413 (.ref 184)), (de P "NotAHistory" 438 (.ref 203)), (de P "NotAProgram" 463 (.ref 222)), (de P "LONGEST_NAME" 467 (.int 8 466)), (de P "is_integer" 475 (.ref 231)), (de P "is_name" 482 (.ref 238)), (de P "is_amount" 489 (.ref 245)), (de P "check_name" 496 (.ref 252)), (de P "check_names" 505 (.ref 259)), (de P "check_amount" 512 (.ref 266)), (de P "number_moved" 520 (.ref 273)), (de P "history_with" 529 (.ref 280)), (de P "History" 654 (.ref 376)), (de P "check_history" 661 (.ref 387)), (de P "BEFORE_STEPS" 665 (vs "times (" 664)), (de P "AFTER_STEPS" 667 (vs ")" 666)), (de P "is_step" 674 (.ref 394)), (de P "is_repeat" 680 (.ref 399)), (de P "command_text" 686 (.ref 404)), (de P "number_in" 693 (.ref 411)), (de P "step_in" 702 (.ref 418)), (de P "repeat_in" 717 (.ref 425)), (de P "command_in" 727 (.ref 432)), (de P "place_after_steps" 738 (.ref 439)), (de P "shift_of_steps" 744 (.ref 444)), (de P "place_after_repeat" 757 (.ref 451)), (de P "place_after" 766 (.ref 458)), (de P "Program" 916 (.ref 557)), (de P "program_of" 924 (.ref 568)), (de P "check_program" 931 (.ref 575)), (de P "check_length" 940 (.ref 582)), (de P "runs_of" 954 (.ref 589)), (de P "first_alike" 962 (.ref 596)), (de P "changes_of" 978 (.ref 603)), (de P "state_of" 984 (.ref 608)), (de P "turned" 997 (.ref 615)), (de P "apart" 1009 (.ref 622)), (de P "woven" 1026 (.ref 629)), (de P "losses_after_do" 1032 (.ref 634)), (de P "sum_of_amounts" 1038 (.ref 639)), (de P "shortened" 1050 (.ref 646)), (de P "is_between" 1059 (.ref 653)), (de P "steps_of_repeat" 1065 (.ref 658)), (de P "turned_by_all" 1075 (.ref 665)), (de P "state_after_do" 1081 (.ref 670)), (de P "with_indexes" 1095 (.ref 677)), (de P "parts_after_state" 1109 (.ref 684)), (de P "parts_after" 1121 (.ref 691)), (de P "check_undone_count" 1131 (.ref 698)), (de P "is_run" 1140 (.ref 705)), (de P "is_loss" 1149 (.ref 712)), (de P "is_change" 1160 (.ref 719)), (de P "can_follow" 1171 (.ref 726)), (de P "check_changes" 1182 (.ref 733)), (de P "word_of" 1189 (.ref 740)), (de P "Effect" 1312 (.ref 824)), (de P "_law_cell" 1324 (.ref 835)), (de P "_law_pool" 1332 (.ref 842)), (de P "_law_draw" 1342 (.ref 849)), (de P "_law_calls" 1348 (.ref 854)), (de P "_law_first" 1356 (.ref 861)), (de P "_law_gap" 1364 (.ref 868)), (de P "_law_tabled" 1384 (.ref 875)), (de P "_law_told" 1399 (.ref 882)), (de P "_law_column" 1407 (.ref 889)), (de P "_law_rows" 1421 (.ref 896)), (de P "_law_size" 1429 (.ref 903)), (de P "_law_right" 1435 (.ref 908)), (de P "law" 1441 (.ref 913))] 87) #[])) ::
  (nat_lit 15, (Obj.mk (.type "tuple") none (.seq #[] 0) #[])) ::
  (nat_lit 17, (Obj.mk (.type "tuple") none (.seq #[(vs "k" 190)] 0) #[])) ::
  (nat_lit 18, (Obj.mk (.type "tuple") none (.seq #[] 0) #[])) ::
  (nat_lit 20, (Obj.mk (.type "code") none (.fields #[(vs "_wall" 187), (vs "_wall" 188), (vs "/claim/cut.py" 189), (.int 1 0), (.int 1 0), (.int 0 0), (.int 0 0), (.int 3 0), (.ref 15), (.bool true), (.int 181 0), (.ref 16), .none, (.ref 17), (.ref 18), (.ref 19), (.int 191 0), (.int 1 0), (vs "/claim/cut.py" 192)]) #[])) ::
  (nat_lit 21, (Obj.mk (.type "function") none (.func (fnOf (st "_wall") (st "_wall") (defArgs (tS 0)) (defBody (tS 0)) (defScope (tS 0)) .none .none .none (vs "__main__" 164) none (.ref 20) .none)) #[])) ::
  (nat_lit 22, (Obj.mk (.type "tuple") none (.seq #[(.type "ValueError")] 0) #[])) ::
  (nat_lit 29, (Obj.mk (.type "tuple") none (.seq #[] 0) #[])) ::
  (nat_lit 30, (Obj.mk (.type "dict") none (.dict #[(de P "__module__" 203 (vs "undotables.errors" 194)), (de P "__firstlineno__" 207 (.int 5 206)), (de P "__static_attributes__" 208 (.ref 29)), (de P "__weakref__" 210 (.ref 32)), (de P "__doc__" 211 .none)] 3) #[])) ::
  (nat_lit 31, (Obj.mk (.type "type") none (.cls (ClassData.mk (st "UndoError") [(.type "ValueError")] [(.ref 31), (.type "ValueError"), (.type "Exception"), (.type "BaseException"), (.type "object")] 30 (st "UndoError") true [] [(.ref 51), (.ref 70), (.ref 89), (.ref 108), (.ref 127), (.ref 146), (.ref 165), (.ref 184), (.ref 203), (.ref 222)] false none false)) #[(some (.ref 22)), none, (some (vs "UndoError" 196)), (some (vs "UndoError" 204)), (some (.builtin "ValueError.__new__")), (some (.bool true))])) ::
  (nat_lit 32, (Obj.mk (.type "getset_descriptor") none (.fields #[(vs "__weakref__" 209), (.ref 31), (.builtin "ExceptionGroup.__weakref__"), .none]) #[])) ::
  (nat_lit 35, (Obj.mk (.type "tuple") none (.seq #[(.ref 31)] 0) #[])) ::
  (nat_lit 42, (Obj.mk (.type "tuple") none (.seq #[] 0) #[])) ::
  (nat_lit 44, (Obj.mk (.type "tuple") none (.seq #[(vs "self" 229), (vs "name" 230)] 0) #[])) ::
  (nat_lit 45, (Obj.mk (.type "tuple") none (.seq #[] 0) #[])) ::
  (nat_lit 47, (Obj.mk (.type "code") none (.fields #[(vs "__init__" 226), (vs "InvalidName.__init__" 227), (vs "/claim/cut.py" 228), (.int 9 0), (.int 2 0), (.int 0 0), (.int 0 0), (.int 3 0), (.ref 42), (.bool true), (.int 181 0), (.ref 43), .none, (.ref 44), (.ref 45), (.ref 46), (.int 231 0), (.int 9 0), (vs "/claim/cut.py" 232)]) #[])) ::
  (nat_lit 48, (Obj.mk (.type "function") none (.func (fnOf (st "__init__") (st "InvalidName.__init__") (defArgs (inClass (tS 3) 0)) (defBody (inClass (tS 3) 0)) (defScope (inClass (tS 3) 0)) .none .none .none (vs "undotables.errors" 194) none (.ref 47) .none)) #[])) ::
  (nat_lit 49, (Obj.mk (.type "tuple") none (.seq #[(vs "name" 234)] 0) #[])) ::
  (nat_lit 50, (Obj.mk (.type "dict") none (.dict #[(de P "__module__" 221 (vs "undotables.errors" 194)), (de P "__firstlineno__" 225 (.int 7 224)), (de P "__init__" 233 (.ref 48)), (de P "__static_attributes__" 235 (.ref 49)), (de P "__doc__" 236 .none)] 2) #[])) ::
  (nat_lit 51, (Obj.mk (.type "type") none (.cls (ClassData.mk (st "InvalidName") [(.ref 31)] [(.ref 51), (.ref 31), (.type "ValueError"), (.type "Exception"), (.type "BaseException"), (.type "object")] 50 (st "InvalidName") true [] [] false none false)) #[(some (.ref 35)), none, (some (vs "InvalidName" 214)), (some (vs "InvalidName" 222)), (some (.builtin "ValueError.__new__")), (some (.bool true))])) ::
  (nat_lit 54, (Obj.mk (.type "tuple") none (.seq #[(.ref 31)] 0) #[])) ::
  (nat_lit 61, (Obj.mk (.type "tuple") none (.seq #[] 0) #[])) ::
  (nat_lit 63, (Obj.mk (.type "tuple") none (.seq #[(vs "self" 254), (vs "index" 255)] 0) #[])) ::
  (nat_lit 64, (Obj.mk (.type "tuple") none (.seq #[] 0) #[])) ::
  (nat_lit 66, (Obj.mk (.type "code") none (.fields #[(vs "__init__" 251), (vs "InvalidNames.__init__" 252), (vs "/claim/cut.py" 253), (.int 13 0), (.int 2 0), (.int 0 0), (.int 0 0), (.int 3 0), (.ref 61), (.bool true), (.int 181 0), (.ref 62), .none, (.ref 63), (.ref 64), (.ref 65), (.int 256 0), (.int 13 0), (vs "/claim/cut.py" 257)]) #[])) ::
  (nat_lit 67, (Obj.mk (.type "function") none (.func (fnOf (st "__init__") (st "InvalidNames.__init__") (defArgs (inClass (tS 4) 0)) (defBody (inClass (tS 4) 0)) (defScope (inClass (tS 4) 0)) .none .none .none (vs "undotables.errors" 194) none (.ref 66) .none)) #[])) ::
  (nat_lit 68, (Obj.mk (.type "tuple") none (.seq #[(vs "index" 259)] 0) #[])) ::
  (nat_lit 69, (Obj.mk (.type "dict") none (.dict #[(de P "__module__" 246 (vs "undotables.errors" 194)), (de P "__firstlineno__" 250 (.int 11 249)), (de P "__init__" 258 (.ref 67)), (de P "__static_attributes__" 260 (.ref 68)), (de P "__doc__" 261 .none)] 2) #[])) ::
  (nat_lit 70, (Obj.mk (.type "type") none (.cls (ClassData.mk (st "InvalidNames") [(.ref 31)] [(.ref 70), (.ref 31), (.type "ValueError"), (.type "Exception"), (.type "BaseException"), (.type "object")] 69 (st "InvalidNames") true [] [] false none false)) #[(some (.ref 54)), none, (some (vs "InvalidNames" 239)), (some (vs "InvalidNames" 247)), (some (.builtin "ValueError.__new__")), (some (.bool true))])) ::
  (nat_lit 73, (Obj.mk (.type "tuple") none (.seq #[(.ref 31)] 0) #[])) ::
  (nat_lit 80, (Obj.mk (.type "tuple") none (.seq #[] 0) #[])) ::
  (nat_lit 82, (Obj.mk (.type "tuple") none (.seq #[(vs "self" 279), (vs "amount" 280)] 0) #[])) ::
  (nat_lit 83, (Obj.mk (.type "tuple") none (.seq #[] 0) #[])) ::
  (nat_lit 85, (Obj.mk (.type "code") none (.fields #[(vs "__init__" 276), (vs "InvalidAmount.__init__" 277), (vs "/claim/cut.py" 278), (.int 17 0), (.int 2 0), (.int 0 0), (.int 0 0), (.int 3 0), (.ref 80), (.bool true), (.int 181 0), (.ref 81), .none, (.ref 82), (.ref 83), (.ref 84), (.int 281 0), (.int 17 0), (vs "/claim/cut.py" 282)]) #[])) ::
  (nat_lit 86, (Obj.mk (.type "function") none (.func (fnOf (st "__init__") (st "InvalidAmount.__init__") (defArgs (inClass (tS 5) 0)) (defBody (inClass (tS 5) 0)) (defScope (inClass (tS 5) 0)) .none .none .none (vs "undotables.errors" 194) none (.ref 85) .none)) #[])) ::
  (nat_lit 87, (Obj.mk (.type "tuple") none (.seq #[(vs "amount" 284)] 0) #[])) ::
  (nat_lit 88, (Obj.mk (.type "dict") none (.dict #[(de P "__module__" 271 (vs "undotables.errors" 194)), (de P "__firstlineno__" 275 (.int 15 274)), (de P "__init__" 283 (.ref 86)), (de P "__static_attributes__" 285 (.ref 87)), (de P "__doc__" 286 .none)] 2) #[])) ::
  (nat_lit 89, (Obj.mk (.type "type") none (.cls (ClassData.mk (st "InvalidAmount") [(.ref 31)] [(.ref 89), (.ref 31), (.type "ValueError"), (.type "Exception"), (.type "BaseException"), (.type "object")] 88 (st "InvalidAmount") true [] [] false none false)) #[(some (.ref 73)), none, (some (vs "InvalidAmount" 264)), (some (vs "InvalidAmount" 272)), (some (.builtin "ValueError.__new__")), (some (.bool true))])) ::
  (nat_lit 92, (Obj.mk (.type "tuple") none (.seq #[(.ref 31)] 0) #[])) ::
  (nat_lit 99, (Obj.mk (.type "tuple") none (.seq #[] 0) #[])) ::
  (nat_lit 101, (Obj.mk (.type "tuple") none (.seq #[(vs "self" 304), (vs "index" 305)] 0) #[])) ::
  (nat_lit 102, (Obj.mk (.type "tuple") none (.seq #[] 0) #[])) ::
  (nat_lit 104, (Obj.mk (.type "code") none (.fields #[(vs "__init__" 301), (vs "InvalidProgram.__init__" 302), (vs "/claim/cut.py" 303), (.int 21 0), (.int 2 0), (.int 0 0), (.int 0 0), (.int 3 0), (.ref 99), (.bool true), (.int 181 0), (.ref 100), .none, (.ref 101), (.ref 102), (.ref 103), (.int 306 0), (.int 21 0), (vs "/claim/cut.py" 307)]) #[])) ::
  (nat_lit 105, (Obj.mk (.type "function") none (.func (fnOf (st "__init__") (st "InvalidProgram.__init__") (defArgs (inClass (tS 6) 0)) (defBody (inClass (tS 6) 0)) (defScope (inClass (tS 6) 0)) .none .none .none (vs "undotables.errors" 194) none (.ref 104) .none)) #[])) ::
  (nat_lit 106, (Obj.mk (.type "tuple") none (.seq #[(vs "index" 309)] 0) #[])) ::
  (nat_lit 107, (Obj.mk (.type "dict") none (.dict #[(de P "__module__" 296 (vs "undotables.errors" 194)), (de P "__firstlineno__" 300 (.int 19 299)), (de P "__init__" 308 (.ref 105)), (de P "__static_attributes__" 310 (.ref 106)), (de P "__doc__" 311 .none)] 2) #[])) ::
  (nat_lit 108, (Obj.mk (.type "type") none (.cls (ClassData.mk (st "InvalidProgram") [(.ref 31)] [(.ref 108), (.ref 31), (.type "ValueError"), (.type "Exception"), (.type "BaseException"), (.type "object")] 107 (st "InvalidProgram") true [] [] false none false)) #[(some (.ref 92)), none, (some (vs "InvalidProgram" 289)), (some (vs "InvalidProgram" 297)), (some (.builtin "ValueError.__new__")), (some (.bool true))])) ::
  (nat_lit 111, (Obj.mk (.type "tuple") none (.seq #[(.ref 31)] 0) #[])) ::
  (nat_lit 118, (Obj.mk (.type "tuple") none (.seq #[] 0) #[])) ::
  (nat_lit 120, (Obj.mk (.type "tuple") none (.seq #[(vs "self" 329), (vs "text" 330)] 0) #[])) ::
  (nat_lit 121, (Obj.mk (.type "tuple") none (.seq #[] 0) #[])) ::
  (nat_lit 123, (Obj.mk (.type "code") none (.fields #[(vs "__init__" 326), (vs "InvalidText.__init__" 327), (vs "/claim/cut.py" 328), (.int 25 0), (.int 2 0), (.int 0 0), (.int 0 0), (.int 3 0), (.ref 118), (.bool true), (.int 181 0), (.ref 119), .none, (.ref 120), (.ref 121), (.ref 122), (.int 331 0), (.int 25 0), (vs "/claim/cut.py" 332)]) #[])) ::
  (nat_lit 124, (Obj.mk (.type "function") none (.func (fnOf (st "__init__") (st "InvalidText.__init__") (defArgs (inClass (tS 7) 0)) (defBody (inClass (tS 7) 0)) (defScope (inClass (tS 7) 0)) .none .none .none (vs "undotables.errors" 194) none (.ref 123) .none)) #[])) ::
  (nat_lit 125, (Obj.mk (.type "tuple") none (.seq #[(vs "text" 334)] 0) #[])) ::
  (nat_lit 126, (Obj.mk (.type "dict") none (.dict #[(de P "__module__" 321 (vs "undotables.errors" 194)), (de P "__firstlineno__" 325 (.int 23 324)), (de P "__init__" 333 (.ref 124)), (de P "__static_attributes__" 335 (.ref 125)), (de P "__doc__" 336 .none)] 2) #[])) ::
  (nat_lit 127, (Obj.mk (.type "type") none (.cls (ClassData.mk (st "InvalidText") [(.ref 31)] [(.ref 127), (.ref 31), (.type "ValueError"), (.type "Exception"), (.type "BaseException"), (.type "object")] 126 (st "InvalidText") true [] [] false none false)) #[(some (.ref 111)), none, (some (vs "InvalidText" 314)), (some (vs "InvalidText" 322)), (some (.builtin "ValueError.__new__")), (some (.bool true))])) ::
  (nat_lit 130, (Obj.mk (.type "tuple") none (.seq #[(.ref 31)] 0) #[])) ::
  (nat_lit 137, (Obj.mk (.type "tuple") none (.seq #[] 0) #[])) ::
  (nat_lit 139, (Obj.mk (.type "tuple") none (.seq #[(vs "self" 354), (vs "length" 355)] 0) #[])) ::
  (nat_lit 140, (Obj.mk (.type "tuple") none (.seq #[] 0) #[])) ::
  (nat_lit 142, (Obj.mk (.type "code") none (.fields #[(vs "__init__" 351), (vs "InvalidLength.__init__" 352), (vs "/claim/cut.py" 353), (.int 29 0), (.int 2 0), (.int 0 0), (.int 0 0), (.int 3 0), (.ref 137), (.bool true), (.int 181 0), (.ref 138), .none, (.ref 139), (.ref 140), (.ref 141), (.int 356 0), (.int 29 0), (vs "/claim/cut.py" 357)]) #[])) ::
  (nat_lit 143, (Obj.mk (.type "function") none (.func (fnOf (st "__init__") (st "InvalidLength.__init__") (defArgs (inClass (tS 8) 0)) (defBody (inClass (tS 8) 0)) (defScope (inClass (tS 8) 0)) .none .none .none (vs "undotables.errors" 194) none (.ref 142) .none)) #[])) ::
  (nat_lit 144, (Obj.mk (.type "tuple") none (.seq #[(vs "length" 359)] 0) #[])) ::
  (nat_lit 145, (Obj.mk (.type "dict") none (.dict #[(de P "__module__" 346 (vs "undotables.errors" 194)), (de P "__firstlineno__" 350 (.int 27 349)), (de P "__init__" 358 (.ref 143)), (de P "__static_attributes__" 360 (.ref 144)), (de P "__doc__" 361 .none)] 2) #[])) ::
  (nat_lit 146, (Obj.mk (.type "type") none (.cls (ClassData.mk (st "InvalidLength") [(.ref 31)] [(.ref 146), (.ref 31), (.type "ValueError"), (.type "Exception"), (.type "BaseException"), (.type "object")] 145 (st "InvalidLength") true [] [] false none false)) #[(some (.ref 130)), none, (some (vs "InvalidLength" 339)), (some (vs "InvalidLength" 347)), (some (.builtin "ValueError.__new__")), (some (.bool true))])) ::
  (nat_lit 149, (Obj.mk (.type "tuple") none (.seq #[(.ref 31)] 0) #[])) ::
  (nat_lit 156, (Obj.mk (.type "tuple") none (.seq #[] 0) #[])) ::
  (nat_lit 158, (Obj.mk (.type "tuple") none (.seq #[(vs "self" 379), (vs "count" 380)] 0) #[])) ::
  (nat_lit 159, (Obj.mk (.type "tuple") none (.seq #[] 0) #[])) ::
  (nat_lit 161, (Obj.mk (.type "code") none (.fields #[(vs "__init__" 376), (vs "InvalidCount.__init__" 377), (vs "/claim/cut.py" 378), (.int 33 0), (.int 2 0), (.int 0 0), (.int 0 0), (.int 3 0), (.ref 156), (.bool true), (.int 181 0), (.ref 157), .none, (.ref 158), (.ref 159), (.ref 160), (.int 381 0), (.int 33 0), (vs "/claim/cut.py" 382)]) #[])) ::
  (nat_lit 162, (Obj.mk (.type "function") none (.func (fnOf (st "__init__") (st "InvalidCount.__init__") (defArgs (inClass (tS 9) 0)) (defBody (inClass (tS 9) 0)) (defScope (inClass (tS 9) 0)) .none .none .none (vs "undotables.errors" 194) none (.ref 161) .none)) #[])) ::
  (nat_lit 163, (Obj.mk (.type "tuple") none (.seq #[(vs "count" 384)] 0) #[])) ::
  (nat_lit 164, (Obj.mk (.type "dict") none (.dict #[(de P "__module__" 371 (vs "undotables.errors" 194)), (de P "__firstlineno__" 375 (.int 31 374)), (de P "__init__" 383 (.ref 162)), (de P "__static_attributes__" 385 (.ref 163)), (de P "__doc__" 386 .none)] 2) #[])) ::
  (nat_lit 165, (Obj.mk (.type "type") none (.cls (ClassData.mk (st "InvalidCount") [(.ref 31)] [(.ref 165), (.ref 31), (.type "ValueError"), (.type "Exception"), (.type "BaseException"), (.type "object")] 164 (st "InvalidCount") true [] [] false none false)) #[(some (.ref 149)), none, (some (vs "InvalidCount" 364)), (some (vs "InvalidCount" 372)), (some (.builtin "ValueError.__new__")), (some (.bool true))])) ::
  (nat_lit 168, (Obj.mk (.type "tuple") none (.seq #[(.ref 31)] 0) #[])) ::
  (nat_lit 175, (Obj.mk (.type "tuple") none (.seq #[] 0) #[])) ::
  (nat_lit 177, (Obj.mk (.type "tuple") none (.seq #[(vs "self" 404), (vs "index" 405)] 0) #[])) ::
  (nat_lit 178, (Obj.mk (.type "tuple") none (.seq #[] 0) #[])) ::
  (nat_lit 180, (Obj.mk (.type "code") none (.fields #[(vs "__init__" 401), (vs "InvalidChanges.__init__" 402), (vs "/claim/cut.py" 403), (.int 37 0), (.int 2 0), (.int 0 0), (.int 0 0), (.int 3 0), (.ref 175), (.bool true), (.int 181 0), (.ref 176), .none, (.ref 177), (.ref 178), (.ref 179), (.int 406 0), (.int 37 0), (vs "/claim/cut.py" 407)]) #[])) ::
  (nat_lit 181, (Obj.mk (.type "function") none (.func (fnOf (st "__init__") (st "InvalidChanges.__init__") (defArgs (inClass (tS 10) 0)) (defBody (inClass (tS 10) 0)) (defScope (inClass (tS 10) 0)) .none .none .none (vs "undotables.errors" 194) none (.ref 180) .none)) #[])) ::
  (nat_lit 182, (Obj.mk (.type "tuple") none (.seq #[(vs "index" 409)] 0) #[])) ::
  (nat_lit 183, (Obj.mk (.type "dict") none (.dict #[(de P "__module__" 396 (vs "undotables.errors" 194)), (de P "__firstlineno__" 400 (.int 35 399)), (de P "__init__" 408 (.ref 181)), (de P "__static_attributes__" 410 (.ref 182)), (de P "__doc__" 411 .none)] 2) #[])) ::
  (nat_lit 184, (Obj.mk (.type "type") none (.cls (ClassData.mk (st "InvalidChanges") [(.ref 31)] [(.ref 184), (.ref 31), (.type "ValueError"), (.type "Exception"), (.type "BaseException"), (.type "object")] 183 (st "InvalidChanges") true [] [] false none false)) #[(some (.ref 168)), none, (some (vs "InvalidChanges" 389)), (some (vs "InvalidChanges" 397)), (some (.builtin "ValueError.__new__")), (some (.bool true))])) ::
  (nat_lit 187, (Obj.mk (.type "tuple") none (.seq #[(.ref 31)] 0) #[])) ::
  (nat_lit 194, (Obj.mk (.type "tuple") none (.seq #[] 0) #[])) ::
  (nat_lit 196, (Obj.mk (.type "tuple") none (.seq #[(vs "self" 429), (vs "value" 430)] 0) #[])) ::
  (nat_lit 197, (Obj.mk (.type "tuple") none (.seq #[] 0) #[])) ::
  (nat_lit 199, (Obj.mk (.type "code") none (.fields #[(vs "__init__" 426), (vs "NotAHistory.__init__" 427), (vs "/claim/cut.py" 428), (.int 41 0), (.int 2 0), (.int 0 0), (.int 0 0), (.int 3 0), (.ref 194), (.bool true), (.int 181 0), (.ref 195), .none, (.ref 196), (.ref 197), (.ref 198), (.int 431 0), (.int 41 0), (vs "/claim/cut.py" 432)]) #[])) ::
  (nat_lit 200, (Obj.mk (.type "function") none (.func (fnOf (st "__init__") (st "NotAHistory.__init__") (defArgs (inClass (tS 11) 0)) (defBody (inClass (tS 11) 0)) (defScope (inClass (tS 11) 0)) .none .none .none (vs "undotables.errors" 194) none (.ref 199) .none)) #[])) ::
  (nat_lit 201, (Obj.mk (.type "tuple") none (.seq #[(vs "value" 434)] 0) #[])) ::
  (nat_lit 202, (Obj.mk (.type "dict") none (.dict #[(de P "__module__" 421 (vs "undotables.errors" 194)), (de P "__firstlineno__" 425 (.int 39 424)), (de P "__init__" 433 (.ref 200)), (de P "__static_attributes__" 435 (.ref 201)), (de P "__doc__" 436 .none)] 2) #[])) ::
  (nat_lit 203, (Obj.mk (.type "type") none (.cls (ClassData.mk (st "NotAHistory") [(.ref 31)] [(.ref 203), (.ref 31), (.type "ValueError"), (.type "Exception"), (.type "BaseException"), (.type "object")] 202 (st "NotAHistory") true [] [] false none false)) #[(some (.ref 187)), none, (some (vs "NotAHistory" 414)), (some (vs "NotAHistory" 422)), (some (.builtin "ValueError.__new__")), (some (.bool true))])) ::
  (nat_lit 206, (Obj.mk (.type "tuple") none (.seq #[(.ref 31)] 0) #[])) ::
  (nat_lit 213, (Obj.mk (.type "tuple") none (.seq #[] 0) #[])) ::
  (nat_lit 215, (Obj.mk (.type "tuple") none (.seq #[(vs "self" 454), (vs "value" 455)] 0) #[])) ::
  (nat_lit 216, (Obj.mk (.type "tuple") none (.seq #[] 0) #[])) ::
  (nat_lit 218, (Obj.mk (.type "code") none (.fields #[(vs "__init__" 451), (vs "NotAProgram.__init__" 452), (vs "/claim/cut.py" 453), (.int 45 0), (.int 2 0), (.int 0 0), (.int 0 0), (.int 3 0), (.ref 213), (.bool true), (.int 181 0), (.ref 214), .none, (.ref 215), (.ref 216), (.ref 217), (.int 456 0), (.int 45 0), (vs "/claim/cut.py" 457)]) #[])) ::
  (nat_lit 219, (Obj.mk (.type "function") none (.func (fnOf (st "__init__") (st "NotAProgram.__init__") (defArgs (inClass (tS 12) 0)) (defBody (inClass (tS 12) 0)) (defScope (inClass (tS 12) 0)) .none .none .none (vs "undotables.errors" 194) none (.ref 218) .none)) #[])) ::
  (nat_lit 220, (Obj.mk (.type "tuple") none (.seq #[(vs "value" 459)] 0) #[])) ::
  (nat_lit 221, (Obj.mk (.type "dict") none (.dict #[(de P "__module__" 446 (vs "undotables.errors" 194)), (de P "__firstlineno__" 450 (.int 43 449)), (de P "__init__" 458 (.ref 219)), (de P "__static_attributes__" 460 (.ref 220)), (de P "__doc__" 461 .none)] 2) #[])) ::
  (nat_lit 222, (Obj.mk (.type "type") none (.cls (ClassData.mk (st "NotAProgram") [(.ref 31)] [(.ref 222), (.ref 31), (.type "ValueError"), (.type "Exception"), (.type "BaseException"), (.type "object")] 221 (st "NotAProgram") true [] [] false none false)) #[(some (.ref 206)), none, (some (vs "NotAProgram" 439)), (some (vs "NotAProgram" 447)), (some (.builtin "ValueError.__new__")), (some (.bool true))])) ::
  (nat_lit 225, (Obj.mk (.type "tuple") none (.seq #[] 0) #[])) ::
  (nat_lit 227, (Obj.mk (.type "tuple") none (.seq #[(vs "value" 471), (vs "least" 472)] 0) #[])) ::
  (nat_lit 228, (Obj.mk (.type "tuple") none (.seq #[] 0) #[])) ::
  (nat_lit 230, (Obj.mk (.type "code") none (.fields #[(vs "is_integer" 468), (vs "is_integer" 469), (vs "/claim/cut.py" 470), (.int 49 0), (.int 2 0), (.int 0 0), (.int 0 0), (.int 3 0), (.ref 225), (.bool true), (.int 181 0), (.ref 226), .none, (.ref 227), (.ref 228), (.ref 229), (.int 473 0), (.int 49 0), (vs "/claim/cut.py" 474)]) #[])) ::
  (nat_lit 231, (Obj.mk (.type "function") none (.func (fnOf (st "is_integer") (st "is_integer") (defArgs (tS 15)) (defBody (tS 15)) (defScope (tS 15)) .none .none .none (vs "undotables.histories" 464) none (.ref 230) .none)) #[])) ::
  (nat_lit 232, (Obj.mk (.type "tuple") none (.seq #[] 0) #[])) ::
  (nat_lit 234, (Obj.mk (.type "tuple") none (.seq #[(vs "value" 479)] 0) #[])) ::
  (nat_lit 235, (Obj.mk (.type "tuple") none (.seq #[] 0) #[])) ::
  (nat_lit 237, (Obj.mk (.type "code") none (.fields #[(vs "is_name" 476), (vs "is_name" 477), (vs "/claim/cut.py" 478), (.int 51 0), (.int 1 0), (.int 0 0), (.int 0 0), (.int 3 0), (.ref 232), (.bool true), (.int 181 0), (.ref 233), .none, (.ref 234), (.ref 235), (.ref 236), (.int 480 0), (.int 51 0), (vs "/claim/cut.py" 481)]) #[])) ::
  (nat_lit 238, (Obj.mk (.type "function") none (.func (fnOf (st "is_name") (st "is_name") (defArgs (tS 16)) (defBody (tS 16)) (defScope (tS 16)) .none .none .none (vs "undotables.histories" 464) none (.ref 237) .none)) #[])) ::
  (nat_lit 239, (Obj.mk (.type "tuple") none (.seq #[] 0) #[])) ::
  (nat_lit 241, (Obj.mk (.type "tuple") none (.seq #[(vs "value" 486)] 0) #[])) ::
  (nat_lit 242, (Obj.mk (.type "tuple") none (.seq #[] 0) #[])) ::
  (nat_lit 244, (Obj.mk (.type "code") none (.fields #[(vs "is_amount" 483), (vs "is_amount" 484), (vs "/claim/cut.py" 485), (.int 55 0), (.int 1 0), (.int 0 0), (.int 0 0), (.int 3 0), (.ref 239), (.bool true), (.int 181 0), (.ref 240), .none, (.ref 241), (.ref 242), (.ref 243), (.int 487 0), (.int 55 0), (vs "/claim/cut.py" 488)]) #[])) ::
  (nat_lit 245, (Obj.mk (.type "function") none (.func (fnOf (st "is_amount") (st "is_amount") (defArgs (tS 17)) (defBody (tS 17)) (defScope (tS 17)) .none .none .none (vs "undotables.histories" 464) none (.ref 244) .none)) #[])) ::
  (nat_lit 246, (Obj.mk (.type "tuple") none (.seq #[] 0) #[])) ::
  (nat_lit 248, (Obj.mk (.type "tuple") none (.seq #[(vs "name" 493)] 0) #[])) ::
  (nat_lit 249, (Obj.mk (.type "tuple") none (.seq #[] 0) #[])) ::
  (nat_lit 251, (Obj.mk (.type "code") none (.fields #[(vs "check_name" 490), (vs "check_name" 491), (vs "/claim/cut.py" 492), (.int 57 0), (.int 1 0), (.int 0 0), (.int 0 0), (.int 3 0), (.ref 246), (.bool true), (.int 181 0), (.ref 247), .none, (.ref 248), (.ref 249), (.ref 250), (.int 494 0), (.int 57 0), (vs "/claim/cut.py" 495)]) #[])) ::
  (nat_lit 252, (Obj.mk (.type "function") none (.func (fnOf (st "check_name") (st "check_name") (defArgs (tS 18)) (defBody (tS 18)) (defScope (tS 18)) .none .none .none (vs "undotables.histories" 464) none (.ref 251) .none)) #[])) ::
  (nat_lit 253, (Obj.mk (.type "tuple") none (.seq #[] 0) #[])) ::
  (nat_lit 255, (Obj.mk (.type "tuple") none (.seq #[(vs "names" 500), (vs "at" 501), (vs "value" 502)] 0) #[])) ::
  (nat_lit 256, (Obj.mk (.type "tuple") none (.seq #[] 0) #[])) ::
  (nat_lit 258, (Obj.mk (.type "code") none (.fields #[(vs "check_names" 497), (vs "check_names" 498), (vs "/claim/cut.py" 499), (.int 60 0), (.int 1 0), (.int 0 0), (.int 0 0), (.int 3 0), (.ref 253), (.bool true), (.int 181 0), (.ref 254), .none, (.ref 255), (.ref 256), (.ref 257), (.int 503 0), (.int 60 0), (vs "/claim/cut.py" 504)]) #[])) ::
  (nat_lit 259, (Obj.mk (.type "function") none (.func (fnOf (st "check_names") (st "check_names") (defArgs (tS 19)) (defBody (tS 19)) (defScope (tS 19)) .none .none .none (vs "undotables.histories" 464) none (.ref 258) .none)) #[])) ::
  (nat_lit 260, (Obj.mk (.type "tuple") none (.seq #[] 0) #[])) ::
  (nat_lit 262, (Obj.mk (.type "tuple") none (.seq #[(vs "amount" 509)] 0) #[])) ::
  (nat_lit 263, (Obj.mk (.type "tuple") none (.seq #[] 0) #[])) ::
  (nat_lit 265, (Obj.mk (.type "code") none (.fields #[(vs "check_amount" 506), (vs "check_amount" 507), (vs "/claim/cut.py" 508), (.int 66 0), (.int 1 0), (.int 0 0), (.int 0 0), (.int 3 0), (.ref 260), (.bool true), (.int 181 0), (.ref 261), .none, (.ref 262), (.ref 263), (.ref 264), (.int 510 0), (.int 66 0), (vs "/claim/cut.py" 511)]) #[])) ::
  (nat_lit 266, (Obj.mk (.type "function") none (.func (fnOf (st "check_amount") (st "check_amount") (defArgs (tS 20)) (defBody (tS 20)) (defScope (tS 20)) .none .none .none (vs "undotables.histories" 464) none (.ref 265) .none)) #[])) ::
  (nat_lit 267, (Obj.mk (.type "tuple") none (.seq #[] 0) #[])) ::
  (nat_lit 269, (Obj.mk (.type "tuple") none (.seq #[(vs "wanted" 516), (vs "available" 517)] 0) #[])) ::
  (nat_lit 270, (Obj.mk (.type "tuple") none (.seq #[] 0) #[])) ::
  (nat_lit 272, (Obj.mk (.type "code") none (.fields #[(vs "number_moved" 513), (vs "number_moved" 514), (vs "/claim/cut.py" 515), (.int 69 0), (.int 2 0), (.int 0 0), (.int 0 0), (.int 3 0), (.ref 267), (.bool true), (.int 181 0), (.ref 268), .none, (.ref 269), (.ref 270), (.ref 271), (.int 518 0), (.int 69 0), (vs "/claim/cut.py" 519)]) #[])) ::
  (nat_lit 273, (Obj.mk (.type "function") none (.func (fnOf (st "number_moved") (st "number_moved") (defArgs (tS 21)) (defBody (tS 21)) (defScope (tS 21)) .none .none .none (vs "undotables.histories" 464) none (.ref 272) .none)) #[])) ::
  (nat_lit 274, (Obj.mk (.type "tuple") none (.seq #[] 0) #[])) ::
  (nat_lit 276, (Obj.mk (.type "tuple") none (.seq #[(vs "past" 524), (vs "future" 525), (vs "made" 526)] 0) #[])) ::
  (nat_lit 277, (Obj.mk (.type "tuple") none (.seq #[] 0) #[])) ::
  (nat_lit 279, (Obj.mk (.type "code") none (.fields #[(vs "history_with" 521), (vs "history_with" 522), (vs "/claim/cut.py" 523), (.int 71 0), (.int 2 0), (.int 0 0), (.int 0 0), (.int 3 0), (.ref 274), (.bool true), (.int 181 0), (.ref 275), .none, (.ref 276), (.ref 277), (.ref 278), (.int 527 0), (.int 71 0), (vs "/claim/cut.py" 528)]) #[])) ::
  (nat_lit 280, (Obj.mk (.type "function") none (.func (fnOf (st "history_with") (st "history_with") (defArgs (tS 22)) (defBody (tS 22)) (defScope (tS 22)) .none .none .none (vs "undotables.histories" 464) none (.ref 279) .none)) #[])) ::
  (nat_lit 288, (Obj.mk (.type "tuple") none (.seq #[] 0) #[])) ::
  (nat_lit 289, (Obj.mk (.type "tuple") none (.seq #[] 0) #[])) ::
  (nat_lit 290, (Obj.mk (.type "tuple") none (.seq #[(.ref 288), (.ref 289)] 0) #[])) ::
  (nat_lit 291, (Obj.mk (.type "tuple") none (.seq #[] 0) #[])) ::
  (nat_lit 293, (Obj.mk (.type "tuple") none (.seq #[(vs "self" 545), (vs "past" 546), (vs "future" 547)] 0) #[])) ::
  (nat_lit 294, (Obj.mk (.type "tuple") none (.seq #[] 0) #[])) ::
  (nat_lit 296, (Obj.mk (.type "code") none (.fields #[(vs "__init__" 542), (vs "History.__init__" 543), (vs "/claim/cut.py" 544), (.int 78 0), (.int 3 0), (.int 0 0), (.int 0 0), (.int 3 0), (.ref 291), (.bool true), (.int 181 0), (.ref 292), .none, (.ref 293), (.ref 294), (.ref 295), (.int 548 0), (.int 78 0), (vs "/claim/cut.py" 549)]) #[])) ::
  (nat_lit 297, (Obj.mk (.type "function") none (.func (fnOf (st "__init__") (st "History.__init__") (defArgs (inClass (tS 23) 0)) (defBody (inClass (tS 23) 0)) (defScope (inClass (tS 23) 0)) (.ref 290) .none .none (vs "undotables.histories" 464) none (.ref 296) .none)) #[])) ::
  (nat_lit 298, (Obj.mk (.type "tuple") none (.seq #[] 0) #[])) ::
  (nat_lit 300, (Obj.mk (.type "tuple") none (.seq #[(vs "cls" 554), (vs "names" 555)] 0) #[])) ::
  (nat_lit 301, (Obj.mk (.type "tuple") none (.seq #[] 0) #[])) ::
  (nat_lit 303, (Obj.mk (.type "code") none (.fields #[(vs "of" 551), (vs "History.of" 552), (vs "/claim/cut.py" 553), (.int 84 0), (.int 1 0), (.int 0 0), (.int 0 0), (.int 7 0), (.ref 298), (.bool true), (.int 181 0), (.ref 299), .none, (.ref 300), (.ref 301), (.ref 302), (.int 556 0), (.int 84 0), (vs "/claim/cut.py" 557)]) #[])) ::
  (nat_lit 304, (Obj.mk (.type "function") none (.func (fnOf (st "of") (st "History.of") (defArgs (inClass (tS 23) 1)) (defBody (inClass (tS 23) 1)) (defScope (inClass (tS 23) 1)) .none .none .none (vs "undotables.histories" 464) (some 307) (.ref 303) .none)) #[])) ::
  (nat_lit 305, (Obj.mk (.type "dict") none (.dict #[(de P "__module__" 559 (vs "undotables.histories" 464)), (de P "__name__" 562 (vs "of" 561)), (de P "__qualname__" 565 (vs "History.of" 564)), (de P "__doc__" 567 .none), (de P "__annotations__" 569 (.ref 307))] 5) #[])) ::
  (nat_lit 306, (Obj.mk (.type "classmethod") (some 305) (.fields #[(.ref 304), (.bool false)]) #[])) ::
  (nat_lit 307, (Obj.mk (.type "dict") none (.dict #[] 0) #[])) ::
  (nat_lit 308, (Obj.mk (.type "tuple") none (.seq #[] 0) #[])) ::
  (nat_lit 310, (Obj.mk (.type "tuple") none (.seq #[(vs "self" 574)] 0) #[])) ::
  (nat_lit 311, (Obj.mk (.type "tuple") none (.seq #[] 0) #[])) ::
  (nat_lit 313, (Obj.mk (.type "code") none (.fields #[(vs "line" 571), (vs "History.line" 572), (vs "/claim/cut.py" 573), (.int 88 0), (.int 1 0), (.int 0 0), (.int 0 0), (.int 3 0), (.ref 308), (.bool true), (.int 181 0), (.ref 309), .none, (.ref 310), (.ref 311), (.ref 312), (.int 575 0), (.int 88 0), (vs "/claim/cut.py" 576)]) #[])) ::
  (nat_lit 314, (Obj.mk (.type "function") none (.func (fnOf (st "line") (st "History.line") (defArgs (inClass (tS 23) 2)) (defBody (inClass (tS 23) 2)) (defScope (inClass (tS 23) 2)) .none .none .none (vs "undotables.histories" 464) none (.ref 313) .none)) #[])) ::
  (nat_lit 315, (Obj.mk (.type "property") none (.fields #[(.ref 314), .none, .none, .none, (vs "line" 578), (.bool false)]) #[])) ::
  (nat_lit 316, (Obj.mk (.type "tuple") none (.seq #[] 0) #[])) ::
  (nat_lit 318, (Obj.mk (.type "tuple") none (.seq #[(vs "self" 582), (vs "name" 583)] 0) #[])) ::
  (nat_lit 319, (Obj.mk (.type "tuple") none (.seq #[] 0) #[])) ::
  (nat_lit 321, (Obj.mk (.type "code") none (.fields #[(vs "do" 579), (vs "History.do" 580), (vs "/claim/cut.py" 581), (.int 92 0), (.int 2 0), (.int 0 0), (.int 0 0), (.int 3 0), (.ref 316), (.bool true), (.int 181 0), (.ref 317), .none, (.ref 318), (.ref 319), (.ref 320), (.int 584 0), (.int 92 0), (vs "/claim/cut.py" 585)]) #[])) ::
  (nat_lit 322, (Obj.mk (.type "function") none (.func (fnOf (st "do") (st "History.do") (defArgs (inClass (tS 23) 3)) (defBody (inClass (tS 23) 3)) (defScope (inClass (tS 23) 3)) .none .none .none (vs "undotables.histories" 464) none (.ref 321) .none)) #[])) ::
  (nat_lit 323, (Obj.mk (.type "tuple") none (.seq #[(.int 1 587)] 0) #[])) ::
  (nat_lit 324, (Obj.mk (.type "tuple") none (.seq #[] 0) #[])) ::
  (nat_lit 326, (Obj.mk (.type "tuple") none (.seq #[(vs "self" 591), (vs "amount" 592), (vs "kept" 593)] 0) #[])) ::
  (nat_lit 327, (Obj.mk (.type "tuple") none (.seq #[] 0) #[])) ::
  (nat_lit 329, (Obj.mk (.type "code") none (.fields #[(vs "undo" 588), (vs "History.undo" 589), (vs "/claim/cut.py" 590), (.int 96 0), (.int 2 0), (.int 0 0), (.int 0 0), (.int 3 0), (.ref 324), (.bool true), (.int 181 0), (.ref 325), .none, (.ref 326), (.ref 327), (.ref 328), (.int 594 0), (.int 96 0), (vs "/claim/cut.py" 595)]) #[])) ::
  (nat_lit 330, (Obj.mk (.type "function") none (.func (fnOf (st "undo") (st "History.undo") (defArgs (inClass (tS 23) 4)) (defBody (inClass (tS 23) 4)) (defScope (inClass (tS 23) 4)) (.ref 323) .none .none (vs "undotables.histories" 464) none (.ref 329) .none)) #[])) ::
  (nat_lit 331, (Obj.mk (.type "tuple") none (.seq #[(.int 1 597)] 0) #[])) ::
  (nat_lit 332, (Obj.mk (.type "tuple") none (.seq #[] 0) #[])) ::
  (nat_lit 334, (Obj.mk (.type "tuple") none (.seq #[(vs "self" 601), (vs "amount" 602), (vs "moved" 603)] 0) #[])) ::
  (nat_lit 335, (Obj.mk (.type "tuple") none (.seq #[] 0) #[])) ::
  (nat_lit 337, (Obj.mk (.type "code") none (.fields #[(vs "redo" 598), (vs "History.redo" 599), (vs "/claim/cut.py" 600), (.int 101 0), (.int 2 0), (.int 0 0), (.int 0 0), (.int 3 0), (.ref 332), (.bool true), (.int 181 0), (.ref 333), .none, (.ref 334), (.ref 335), (.ref 336), (.int 604 0), (.int 101 0), (vs "/claim/cut.py" 605)]) #[])) ::
  (nat_lit 338, (Obj.mk (.type "function") none (.func (fnOf (st "redo") (st "History.redo") (defArgs (inClass (tS 23) 5)) (defBody (inClass (tS 23) 5)) (defScope (inClass (tS 23) 5)) (.ref 331) .none .none (vs "undotables.histories" 464) none (.ref 337) .none)) #[])) ::
  (nat_lit 339, (Obj.mk (.type "tuple") none (.seq #[] 0) #[])) ::
  (nat_lit 341, (Obj.mk (.type "tuple") none (.seq #[(vs "self" 610)] 0) #[])) ::
  (nat_lit 342, (Obj.mk (.type "tuple") none (.seq #[] 0) #[])) ::
  (nat_lit 344, (Obj.mk (.type "code") none (.fields #[(vs "__len__" 607), (vs "History.__len__" 608), (vs "/claim/cut.py" 609), (.int 106 0), (.int 1 0), (.int 0 0), (.int 0 0), (.int 3 0), (.ref 339), (.bool true), (.int 181 0), (.ref 340), .none, (.ref 341), (.ref 342), (.ref 343), (.int 611 0), (.int 106 0), (vs "/claim/cut.py" 612)]) #[])) ::
  (nat_lit 345, (Obj.mk (.type "function") none (.func (fnOf (st "__len__") (st "History.__len__") (defArgs (inClass (tS 23) 6)) (defBody (inClass (tS 23) 6)) (defScope (inClass (tS 23) 6)) .none .none .none (vs "undotables.histories" 464) none (.ref 344) .none)) #[])) ::
  (nat_lit 346, (Obj.mk (.type "tuple") none (.seq #[] 0) #[])) ::
  (nat_lit 348, (Obj.mk (.type "tuple") none (.seq #[(vs "self" 617), (vs "x" 618)] 0) #[])) ::
  (nat_lit 349, (Obj.mk (.type "tuple") none (.seq #[] 0) #[])) ::
  (nat_lit 351, (Obj.mk (.type "code") none (.fields #[(vs "__contains__" 614), (vs "History.__contains__" 615), (vs "/claim/cut.py" 616), (.int 109 0), (.int 2 0), (.int 0 0), (.int 0 0), (.int 3 0), (.ref 346), (.bool true), (.int 181 0), (.ref 347), .none, (.ref 348), (.ref 349), (.ref 350), (.int 619 0), (.int 109 0), (vs "/claim/cut.py" 620)]) #[])) ::
  (nat_lit 352, (Obj.mk (.type "function") none (.func (fnOf (st "__contains__") (st "History.__contains__") (defArgs (inClass (tS 23) 7)) (defBody (inClass (tS 23) 7)) (defScope (inClass (tS 23) 7)) .none .none .none (vs "undotables.histories" 464) none (.ref 351) .none)) #[])) ::
  (nat_lit 353, (Obj.mk (.type "tuple") none (.seq #[] 0) #[])) ::
  (nat_lit 355, (Obj.mk (.type "tuple") none (.seq #[(vs "self" 625), (vs "other" 626)] 0) #[])) ::
  (nat_lit 356, (Obj.mk (.type "tuple") none (.seq #[] 0) #[])) ::
  (nat_lit 358, (Obj.mk (.type "code") none (.fields #[(vs "__eq__" 622), (vs "History.__eq__" 623), (vs "/claim/cut.py" 624), (.int 112 0), (.int 2 0), (.int 0 0), (.int 0 0), (.int 3 0), (.ref 353), (.bool true), (.int 181 0), (.ref 354), .none, (.ref 355), (.ref 356), (.ref 357), (.int 627 0), (.int 112 0), (vs "/claim/cut.py" 628)]) #[])) ::
  (nat_lit 359, (Obj.mk (.type "function") none (.func (fnOf (st "__eq__") (st "History.__eq__") (defArgs (inClass (tS 23) 8)) (defBody (inClass (tS 23) 8)) (defScope (inClass (tS 23) 8)) .none .none .none (vs "undotables.histories" 464) none (.ref 358) .none)) #[])) ::
  (nat_lit 360, (Obj.mk (.type "tuple") none (.seq #[] 0) #[])) ::
  (nat_lit 362, (Obj.mk (.type "tuple") none (.seq #[(vs "self" 633)] 0) #[])) ::
  (nat_lit 363, (Obj.mk (.type "tuple") none (.seq #[] 0) #[])) ::
  (nat_lit 365, (Obj.mk (.type "code") none (.fields #[(vs "__str__" 630), (vs "History.__str__" 631), (vs "/claim/cut.py" 632), (.int 115 0), (.int 1 0), (.int 0 0), (.int 0 0), (.int 3 0), (.ref 360), (.bool true), (.int 181 0), (.ref 361), .none, (.ref 362), (.ref 363), (.ref 364), (.int 634 0), (.int 115 0), (vs "/claim/cut.py" 635)]) #[])) ::
  (nat_lit 366, (Obj.mk (.type "function") none (.func (fnOf (st "__str__") (st "History.__str__") (defArgs (inClass (tS 23) 9)) (defBody (inClass (tS 23) 9)) (defScope (inClass (tS 23) 9)) .none .none .none (vs "undotables.histories" 464) none (.ref 365) .none)) #[])) ::
  (nat_lit 367, (Obj.mk (.type "tuple") none (.seq #[] 0) #[])) ::
  (nat_lit 369, (Obj.mk (.type "tuple") none (.seq #[(vs "self" 640)] 0) #[])) ::
  (nat_lit 370, (Obj.mk (.type "tuple") none (.seq #[] 0) #[])) ::
  (nat_lit 372, (Obj.mk (.type "code") none (.fields #[(vs "__repr__" 637), (vs "History.__repr__" 638), (vs "/claim/cut.py" 639), (.int 118 0), (.int 1 0), (.int 0 0), (.int 0 0), (.int 3 0), (.ref 367), (.bool true), (.int 181 0), (.ref 368), .none, (.ref 369), (.ref 370), (.ref 371), (.int 641 0), (.int 118 0), (vs "/claim/cut.py" 642)]) #[])) ::
  (nat_lit 373, (Obj.mk (.type "function") none (.func (fnOf (st "__repr__") (st "History.__repr__") (defArgs (inClass (tS 23) 10)) (defBody (inClass (tS 23) 10)) (defScope (inClass (tS 23) 10)) .none .none .none (vs "undotables.histories" 464) none (.ref 372) .none)) #[])) ::
  (nat_lit 374, (Obj.mk (.type "tuple") none (.seq #[(vs "future" 644), (vs "past" 645)] 0) #[])) ::
  (nat_lit 375, (Obj.mk (.type "dict") none (.dict #[(de P "__module__" 537 (vs "undotables.histories" 464)), (de P "__firstlineno__" 541 (.int 76 540)), (de P "__init__" 550 (.ref 297)), (de P "of" 570 (.ref 306)), (de P "line" 578 (.ref 315)), (de P "do" 586 (.ref 322)), (de P "undo" 596 (.ref 330)), (de P "redo" 606 (.ref 338)), (de P "__len__" 613 (.ref 345)), (de P "__contains__" 621 (.ref 352)), (de P "__eq__" 629 (.ref 359)), (de P "__str__" 636 (.ref 366)), (de P "__repr__" 643 (.ref 373)), (de P "__static_attributes__" 646 (.ref 374)), (de P "__dict__" 648 (.ref 377)), (de P "__weakref__" 650 (.ref 378)), (de P "__doc__" 651 .none), (de P "__hash__" 652 .none)] 5) #[])) ::
  (nat_lit 376, (Obj.mk (.type "type") none (.cls (ClassData.mk (st "History") [(.type "object")] [(.ref 376), (.type "object")] 375 (st "History") true [] [] false none false)) #[none, none, (some (vs "History" 530)), (some (vs "History" 538)), (some (.builtin "object.__new__")), (some (.bool true))])) ::
  (nat_lit 377, (Obj.mk (.type "getset_descriptor") none (.fields #[(vs "__dict__" 647), (.ref 376), (.builtin "function.__dict__"), (.builtin "function.__dict__#set")]) #[])) ::
  (nat_lit 378, (Obj.mk (.type "getset_descriptor") none (.fields #[(vs "__weakref__" 649), (.ref 376), (.builtin "ExceptionGroup.__weakref__"), .none]) #[])) ::
  (nat_lit 381, (Obj.mk (.type "tuple") none (.seq #[] 0) #[])) ::
  (nat_lit 383, (Obj.mk (.type "tuple") none (.seq #[(vs "history" 658)] 0) #[])) ::
  (nat_lit 384, (Obj.mk (.type "tuple") none (.seq #[] 0) #[])) ::
  (nat_lit 386, (Obj.mk (.type "code") none (.fields #[(vs "check_history" 655), (vs "check_history" 656), (vs "/claim/cut.py" 657), (.int 120 0), (.int 1 0), (.int 0 0), (.int 0 0), (.int 3 0), (.ref 381), (.bool true), (.int 181 0), (.ref 382), .none, (.ref 383), (.ref 384), (.ref 385), (.int 659 0), (.int 120 0), (vs "/claim/cut.py" 660)]) #[])) ::
  (nat_lit 387, (Obj.mk (.type "function") none (.func (fnOf (st "check_history") (st "check_history") (defArgs (tS 24)) (defBody (tS 24)) (defScope (tS 24)) .none .none .none (vs "undotables.histories" 464) none (.ref 386) .none)) #[])) ::
  (nat_lit 388, (Obj.mk (.type "tuple") none (.seq #[] 0) #[])) ::
  (nat_lit 390, (Obj.mk (.type "tuple") none (.seq #[(vs "value" 671)] 0) #[])) ::
  (nat_lit 391, (Obj.mk (.type "tuple") none (.seq #[] 0) #[])) ::
  (nat_lit 393, (Obj.mk (.type "code") none (.fields #[(vs "is_step" 668), (vs "is_step" 669), (vs "/claim/cut.py" 670), (.int 126 0), (.int 1 0), (.int 0 0), (.int 0 0), (.int 3 0), (.ref 388), (.bool true), (.int 181 0), (.ref 389), .none, (.ref 390), (.ref 391), (.ref 392), (.int 672 0), (.int 126 0), (vs "/claim/cut.py" 673)]) #[])) ::
  (nat_lit 394, (Obj.mk (.type "function") none (.func (fnOf (st "is_step") (st "is_step") (defArgs (tS 28)) (defBody (tS 28)) (defScope (tS 28)) .none .none .none (vs "undotables.programs" 662) none (.ref 393) .none)) #[])) ::
  (nat_lit 395, (Obj.mk (.type "tuple") none (.seq #[] 0) #[])) ::
  (nat_lit 398, (Obj.mk (.type "code") none (.fields #[(vs "is_repeat" 675), (vs "is_repeat" 676), (vs "/claim/cut.py" 677), (.int 130 0), (.int 1 0), (.int 0 0), (.int 0 0), (.int 3 0), (.ref 395), (.bool true), (.int 181 0), (.ref 396), .none, .none, .none, (.ref 397), (.int 678 0), (.int 130 0), (vs "/claim/cut.py" 679)]) #[])) ::
  (nat_lit 399, (Obj.mk (.type "function") none (.func (fnOf (st "is_repeat") (st "is_repeat") (defArgs (tS 29)) (defBody (tS 29)) (defScope (tS 29)) .none .none .none (vs "undotables.programs" 662) none (.ref 398) .none)) #[])) ::
  (nat_lit 400, (Obj.mk (.type "tuple") none (.seq #[] 0) #[])) ::
  (nat_lit 403, (Obj.mk (.type "code") none (.fields #[(vs "command_text" 681), (vs "command_text" 682), (vs "/claim/cut.py" 683), (.int 137 0), (.int 1 0), (.int 0 0), (.int 0 0), (.int 3 0), (.ref 400), (.bool true), (.int 181 0), (.ref 401), .none, .none, .none, (.ref 402), (.int 684 0), (.int 137 0), (vs "/claim/cut.py" 685)]) #[])) ::
  (nat_lit 404, (Obj.mk (.type "function") none (.func (fnOf (st "command_text") (st "command_text") (defArgs (tS 30)) (defBody (tS 30)) (defScope (tS 30)) .none .none .none (vs "undotables.programs" 662) none (.ref 403) .none)) #[])) ::
  (nat_lit 405, (Obj.mk (.type "tuple") none (.seq #[] 0) #[])) ::
  (nat_lit 407, (Obj.mk (.type "tuple") none (.seq #[(vs "text" 690)] 0) #[])) ::
  (nat_lit 408, (Obj.mk (.type "tuple") none (.seq #[] 0) #[])) ::
  (nat_lit 410, (Obj.mk (.type "code") none (.fields #[(vs "number_in" 687), (vs "number_in" 688), (vs "/claim/cut.py" 689), (.int 143 0), (.int 1 0), (.int 0 0), (.int 0 0), (.int 3 0), (.ref 405), (.bool true), (.int 181 0), (.ref 406), .none, (.ref 407), (.ref 408), (.ref 409), (.int 691 0), (.int 143 0), (vs "/claim/cut.py" 692)]) #[])) ::
  (nat_lit 411, (Obj.mk (.type "function") none (.func (fnOf (st "number_in") (st "number_in") (defArgs (tS 31)) (defBody (tS 31)) (defScope (tS 31)) .none .none .none (vs "undotables.programs" 662) none (.ref 410) .none)) #[])) ::
  (nat_lit 412, (Obj.mk (.type "tuple") none (.seq #[] 0) #[])) ::
  (nat_lit 414, (Obj.mk (.type "tuple") none (.seq #[(vs "word" 697), (vs "amount" 698), (vs "number" 699)] 0) #[])) ::
  (nat_lit 415, (Obj.mk (.type "tuple") none (.seq #[] 0) #[])) ::
  (nat_lit 417, (Obj.mk (.type "code") none (.fields #[(vs "step_in" 694), (vs "step_in" 695), (vs "/claim/cut.py" 696), (.int 147 0), (.int 2 0), (.int 0 0), (.int 0 0), (.int 3 0), (.ref 412), (.bool true), (.int 181 0), (.ref 413), .none, (.ref 414), (.ref 415), (.ref 416), (.int 700 0), (.int 147 0), (vs "/claim/cut.py" 701)]) #[])) ::
  (nat_lit 418, (Obj.mk (.type "function") none (.func (fnOf (st "step_in") (st "step_in") (defArgs (tS 32)) (defBody (tS 32)) (defScope (tS 32)) .none .none .none (vs "undotables.programs" 662) none (.ref 417) .none)) #[])) ::
  (nat_lit 419, (Obj.mk (.type "tuple") none (.seq #[] 0) #[])) ::
  (nat_lit 421, (Obj.mk (.type "tuple") none (.seq #[(vs "times" 706), (vs "rest" 707), (vs "number" 708), (vs "steps" 709), (vs "text" 710), (vs "word" 711), (vs "space" 712), (vs "amount" 713), (vs "step" 714)] 0) #[])) ::
  (nat_lit 422, (Obj.mk (.type "tuple") none (.seq #[] 0) #[])) ::
  (nat_lit 424, (Obj.mk (.type "code") none (.fields #[(vs "repeat_in" 703), (vs "repeat_in" 704), (vs "/claim/cut.py" 705), (.int 154 0), (.int 2 0), (.int 0 0), (.int 0 0), (.int 3 0), (.ref 419), (.bool true), (.int 181 0), (.ref 420), .none, (.ref 421), (.ref 422), (.ref 423), (.int 715 0), (.int 154 0), (vs "/claim/cut.py" 716)]) #[])) ::
  (nat_lit 425, (Obj.mk (.type "function") none (.func (fnOf (st "repeat_in") (st "repeat_in") (defArgs (tS 33)) (defBody (tS 33)) (defScope (tS 33)) .none .none .none (vs "undotables.programs" 662) none (.ref 424) .none)) #[])) ::
  (nat_lit 426, (Obj.mk (.type "tuple") none (.seq #[] 0) #[])) ::
  (nat_lit 428, (Obj.mk (.type "tuple") none (.seq #[(vs "text" 721), (vs "word" 722), (vs "space" 723), (vs "rest" 724)] 0) #[])) ::
  (nat_lit 429, (Obj.mk (.type "tuple") none (.seq #[] 0) #[])) ::
  (nat_lit 431, (Obj.mk (.type "code") none (.fields #[(vs "command_in" 718), (vs "command_in" 719), (vs "/claim/cut.py" 720), (.int 166 0), (.int 1 0), (.int 0 0), (.int 0 0), (.int 3 0), (.ref 426), (.bool true), (.int 181 0), (.ref 427), .none, (.ref 428), (.ref 429), (.ref 430), (.int 725 0), (.int 166 0), (vs "/claim/cut.py" 726)]) #[])) ::
  (nat_lit 432, (Obj.mk (.type "function") none (.func (fnOf (st "command_in") (st "command_in") (defArgs (tS 34)) (defBody (tS 34)) (defScope (tS 34)) .none .none .none (vs "undotables.programs" 662) none (.ref 431) .none)) #[])) ::
  (nat_lit 433, (Obj.mk (.type "tuple") none (.seq #[] 0) #[])) ::
  (nat_lit 435, (Obj.mk (.type "tuple") none (.seq #[(vs "steps" 731), (vs "place" 732), (vs "size" 733), (vs "word" 734), (vs "amount" 735)] 0) #[])) ::
  (nat_lit 436, (Obj.mk (.type "tuple") none (.seq #[] 0) #[])) ::
  (nat_lit 438, (Obj.mk (.type "code") none (.fields #[(vs "place_after_steps" 728), (vs "place_after_steps" 729), (vs "/claim/cut.py" 730), (.int 171 0), (.int 3 0), (.int 0 0), (.int 0 0), (.int 3 0), (.ref 433), (.bool true), (.int 181 0), (.ref 434), .none, (.ref 435), (.ref 436), (.ref 437), (.int 736 0), (.int 171 0), (vs "/claim/cut.py" 737)]) #[])) ::
  (nat_lit 439, (Obj.mk (.type "function") none (.func (fnOf (st "place_after_steps") (st "place_after_steps") (defArgs (tS 35)) (defBody (tS 35)) (defScope (tS 35)) .none .none .none (vs "undotables.programs" 662) none (.ref 438) .none)) #[])) ::
  (nat_lit 440, (Obj.mk (.type "tuple") none (.seq #[] 0) #[])) ::
  (nat_lit 443, (Obj.mk (.type "code") none (.fields #[(vs "shift_of_steps" 739), (vs "shift_of_steps" 740), (vs "/claim/cut.py" 741), (.int 178 0), (.int 2 0), (.int 0 0), (.int 0 0), (.int 3 0), (.ref 440), (.bool true), (.int 181 0), (.ref 441), .none, .none, .none, (.ref 442), (.int 742 0), (.int 178 0), (vs "/claim/cut.py" 743)]) #[])) ::
  (nat_lit 444, (Obj.mk (.type "function") none (.func (fnOf (st "shift_of_steps") (st "shift_of_steps") (defArgs (tS 36)) (defBody (tS 36)) (defScope (tS 36)) .none .none .none (vs "undotables.programs" 662) none (.ref 443) .none)) #[])) ::
  (nat_lit 445, (Obj.mk (.type "tuple") none (.seq #[] 0) #[])) ::
  (nat_lit 447, (Obj.mk (.type "tuple") none (.seq #[(vs "times" 748), (vs "steps" 749), (vs "place" 750), (vs "size" 751), (vs "first" 752), (vs "lowest" 753), (vs "highest" 754)] 0) #[])) ::
  (nat_lit 448, (Obj.mk (.type "tuple") none (.seq #[] 0) #[])) ::
  (nat_lit 450, (Obj.mk (.type "code") none (.fields #[(vs "place_after_repeat" 745), (vs "place_after_repeat" 746), (vs "/claim/cut.py" 747), (.int 182 0), (.int 4 0), (.int 0 0), (.int 0 0), (.int 3 0), (.ref 445), (.bool true), (.int 181 0), (.ref 446), .none, (.ref 447), (.ref 448), (.ref 449), (.int 755 0), (.int 182 0), (vs "/claim/cut.py" 756)]) #[])) ::
  (nat_lit 451, (Obj.mk (.type "function") none (.func (fnOf (st "place_after_repeat") (st "place_after_repeat") (defArgs (tS 37)) (defBody (tS 37)) (defScope (tS 37)) .none .none .none (vs "undotables.programs" 662) none (.ref 450) .none)) #[])) ::
  (nat_lit 452, (Obj.mk (.type "tuple") none (.seq #[] 0) #[])) ::
  (nat_lit 454, (Obj.mk (.type "tuple") none (.seq #[(vs "command" 761), (vs "place" 762), (vs "size" 763)] 0) #[])) ::
  (nat_lit 455, (Obj.mk (.type "tuple") none (.seq #[] 0) #[])) ::
  (nat_lit 457, (Obj.mk (.type "code") none (.fields #[(vs "place_after" 758), (vs "place_after" 759), (vs "/claim/cut.py" 760), (.int 189 0), (.int 3 0), (.int 0 0), (.int 0 0), (.int 3 0), (.ref 452), (.bool true), (.int 181 0), (.ref 453), .none, (.ref 454), (.ref 455), (.ref 456), (.int 764 0), (.int 189 0), (vs "/claim/cut.py" 765)]) #[])) ::
  (nat_lit 458, (Obj.mk (.type "function") none (.func (fnOf (st "place_after") (st "place_after") (defArgs (tS 38)) (defBody (tS 38)) (defScope (tS 38)) .none .none .none (vs "undotables.programs" 662) none (.ref 457) .none)) #[])) ::
  (nat_lit 466, (Obj.mk (.type "tuple") none (.seq #[] 0) #[])) ::
  (nat_lit 467, (Obj.mk (.type "dict") none (.dict #[(de P "joined" 779 (.ref 466))] 1) #[])) ::
  (nat_lit 468, (Obj.mk (.type "tuple") none (.seq #[] 0) #[])) ::
  (nat_lit 470, (Obj.mk (.type "tuple") none (.seq #[(vs "self" 783), (vs "joined" 784), (vs "commands" 785), (vs "at" 786), (vs "command" 787), (vs "program" 788)] 0) #[])) ::
  (nat_lit 471, (Obj.mk (.type "tuple") none (.seq #[] 0) #[])) ::
  (nat_lit 473, (Obj.mk (.type "code") none (.fields #[(vs "__init__" 780), (vs "Program.__init__" 781), (vs "/claim/cut.py" 782), (.int 195 0), (.int 1 0), (.int 0 0), (.int 1 0), (.int 7 0), (.ref 468), (.bool true), (.int 181 0), (.ref 469), .none, (.ref 470), (.ref 471), (.ref 472), (.int 789 0), (.int 195 0), (vs "/claim/cut.py" 790)]) #[])) ::
  (nat_lit 474, (Obj.mk (.type "function") none (.func (fnOf (st "__init__") (st "Program.__init__") (defArgs (inClass (tS 39) 0)) (defBody (inClass (tS 39) 0)) (defScope (inClass (tS 39) 0)) .none (.ref 467) .none (vs "undotables.programs" 662) none (.ref 473) .none)) #[])) ::
  (nat_lit 475, (Obj.mk (.type "tuple") none (.seq #[] 0) #[])) ::
  (nat_lit 477, (Obj.mk (.type "tuple") none (.seq #[(vs "cls" 795), (vs "text" 796), (vs "known" 797), (vs "commands" 798), (vs "part" 799)] 0) #[])) ::
  (nat_lit 478, (Obj.mk (.type "tuple") none (.seq #[] 0) #[])) ::
  (nat_lit 480, (Obj.mk (.type "code") none (.fields #[(vs "read" 792), (vs "Program.read" 793), (vs "/claim/cut.py" 794), (.int 204 0), (.int 2 0), (.int 0 0), (.int 0 0), (.int 3 0), (.ref 475), (.bool true), (.int 181 0), (.ref 476), .none, (.ref 477), (.ref 478), (.ref 479), (.int 800 0), (.int 204 0), (vs "/claim/cut.py" 801)]) #[])) ::
  (nat_lit 481, (Obj.mk (.type "function") none (.func (fnOf (st "read") (st "Program.read") (defArgs (inClass (tS 39) 1)) (defBody (inClass (tS 39) 1)) (defScope (inClass (tS 39) 1)) .none .none .none (vs "undotables.programs" 662) (some 484) (.ref 480) .none)) #[])) ::
  (nat_lit 482, (Obj.mk (.type "dict") none (.dict #[(de P "__module__" 803 (vs "undotables.programs" 662)), (de P "__name__" 806 (vs "read" 805)), (de P "__qualname__" 809 (vs "Program.read" 808)), (de P "__doc__" 811 .none), (de P "__annotations__" 813 (.ref 484))] 5) #[])) ::
  (nat_lit 483, (Obj.mk (.type "classmethod") (some 482) (.fields #[(.ref 481), (.bool false)]) #[])) ::
  (nat_lit 484, (Obj.mk (.type "dict") none (.dict #[] 0) #[])) ::
  (nat_lit 485, (Obj.mk (.type "tuple") none (.seq #[] 0) #[])) ::
  (nat_lit 487, (Obj.mk (.type "tuple") none (.seq #[(vs "value" 818)] 0) #[])) ::
  (nat_lit 488, (Obj.mk (.type "tuple") none (.seq #[] 0) #[])) ::
  (nat_lit 490, (Obj.mk (.type "code") none (.fields #[(vs "is_command" 815), (vs "Program.is_command" 816), (vs "/claim/cut.py" 817), (.int 220 0), (.int 1 0), (.int 0 0), (.int 0 0), (.int 3 0), (.ref 485), (.bool true), (.int 181 0), (.ref 486), .none, (.ref 487), (.ref 488), (.ref 489), (.int 819 0), (.int 220 0), (vs "/claim/cut.py" 820)]) #[])) ::
  (nat_lit 491, (Obj.mk (.type "function") none (.func (fnOf (st "is_command") (st "Program.is_command") (defArgs (inClass (tS 39) 2)) (defBody (inClass (tS 39) 2)) (defScope (inClass (tS 39) 2)) .none .none .none (vs "undotables.programs" 662) (some 494) (.ref 490) .none)) #[])) ::
  (nat_lit 492, (Obj.mk (.type "dict") none (.dict #[(de P "__module__" 822 (vs "undotables.programs" 662)), (de P "__name__" 825 (vs "is_command" 824)), (de P "__qualname__" 828 (vs "Program.is_command" 827)), (de P "__doc__" 830 .none), (de P "__annotations__" 832 (.ref 494))] 5) #[])) ::
  (nat_lit 493, (Obj.mk (.type "staticmethod") (some 492) (.fields #[(.ref 491), (.bool false)]) #[])) ::
  (nat_lit 494, (Obj.mk (.type "dict") none (.dict #[] 0) #[])) ::
  (nat_lit 495, (Obj.mk (.type "tuple") none (.seq #[] 0) #[])) ::
  (nat_lit 498, (Obj.mk (.type "code") none (.fields #[(vs "names" 834), (vs "Program.names" 835), (vs "/claim/cut.py" 836), (.int 228 0), (.int 1 0), (.int 0 0), (.int 0 0), (.int 3 0), (.ref 495), (.bool true), (.int 181 0), (.ref 496), .none, .none, .none, (.ref 497), (.int 837 0), (.int 228 0), (vs "/claim/cut.py" 838)]) #[])) ::
  (nat_lit 499, (Obj.mk (.type "function") none (.func (fnOf (st "names") (st "Program.names") (defArgs (inClass (tS 39) 3)) (defBody (inClass (tS 39) 3)) (defScope (inClass (tS 39) 3)) .none .none .none (vs "undotables.programs" 662) none (.ref 498) .none)) #[])) ::
  (nat_lit 500, (Obj.mk (.type "property") none (.fields #[(.ref 499), .none, .none, .none, (vs "names" 840), (.bool false)]) #[])) ::
  (nat_lit 501, (Obj.mk (.type "tuple") none (.seq #[] 0) #[])) ::
  (nat_lit 503, (Obj.mk (.type "tuple") none (.seq #[(vs "self" 844), (vs "history" 845), (vs "line" 846), (vs "place" 847), (vs "command" 848)] 0) #[])) ::
  (nat_lit 504, (Obj.mk (.type "tuple") none (.seq #[] 0) #[])) ::
  (nat_lit 506, (Obj.mk (.type "code") none (.fields #[(vs "each" 841), (vs "Program.each" 842), (vs "/claim/cut.py" 843), (.int 232 0), (.int 2 0), (.int 0 0), (.int 0 0), (.int 35 0), (.ref 501), (.bool true), (.int 181 0), (.ref 502), .none, (.ref 503), (.ref 504), (.ref 505), (.int 849 0), (.int 232 0), (vs "/claim/cut.py" 850)]) #[])) ::
  (nat_lit 507, (Obj.mk (.type "function") none (.func (fnOf (st "each") (st "Program.each") (defArgs (inClass (tS 39) 4)) (defBody (inClass (tS 39) 4)) (defScope (inClass (tS 39) 4)) .none .none .none (vs "undotables.programs" 662) none (.ref 506) .none)) #[])) ::
  (nat_lit 508, (Obj.mk (.type "tuple") none (.seq #[] 0) #[])) ::
  (nat_lit 510, (Obj.mk (.type "tuple") none (.seq #[(vs "self" 855), (vs "history" 856), (vs "line" 857), (vs "place" 858), (vs "command" 859)] 0) #[])) ::
  (nat_lit 511, (Obj.mk (.type "tuple") none (.seq #[] 0) #[])) ::
  (nat_lit 513, (Obj.mk (.type "code") none (.fields #[(vs "__call__" 852), (vs "Program.__call__" 853), (vs "/claim/cut.py" 854), (.int 244 0), (.int 2 0), (.int 0 0), (.int 0 0), (.int 3 0), (.ref 508), (.bool true), (.int 181 0), (.ref 509), .none, (.ref 510), (.ref 511), (.ref 512), (.int 860 0), (.int 244 0), (vs "/claim/cut.py" 861)]) #[])) ::
  (nat_lit 514, (Obj.mk (.type "function") none (.func (fnOf (st "__call__") (st "Program.__call__") (defArgs (inClass (tS 39) 5)) (defBody (inClass (tS 39) 5)) (defScope (inClass (tS 39) 5)) .none .none .none (vs "undotables.programs" 662) none (.ref 513) .none)) #[])) ::
  (nat_lit 515, (Obj.mk (.type "tuple") none (.seq #[] 0) #[])) ::
  (nat_lit 517, (Obj.mk (.type "tuple") none (.seq #[(vs "self" 866), (vs "other" 867)] 0) #[])) ::
  (nat_lit 518, (Obj.mk (.type "tuple") none (.seq #[] 0) #[])) ::
  (nat_lit 520, (Obj.mk (.type "code") none (.fields #[(vs "__add__" 863), (vs "Program.__add__" 864), (vs "/claim/cut.py" 865), (.int 256 0), (.int 2 0), (.int 0 0), (.int 0 0), (.int 3 0), (.ref 515), (.bool true), (.int 181 0), (.ref 516), .none, (.ref 517), (.ref 518), (.ref 519), (.int 868 0), (.int 256 0), (vs "/claim/cut.py" 869)]) #[])) ::
  (nat_lit 521, (Obj.mk (.type "function") none (.func (fnOf (st "__add__") (st "Program.__add__") (defArgs (inClass (tS 39) 6)) (defBody (inClass (tS 39) 6)) (defScope (inClass (tS 39) 6)) .none .none .none (vs "undotables.programs" 662) none (.ref 520) .none)) #[])) ::
  (nat_lit 522, (Obj.mk (.type "tuple") none (.seq #[] 0) #[])) ::
  (nat_lit 524, (Obj.mk (.type "tuple") none (.seq #[(vs "self" 874)] 0) #[])) ::
  (nat_lit 525, (Obj.mk (.type "tuple") none (.seq #[] 0) #[])) ::
  (nat_lit 527, (Obj.mk (.type "code") none (.fields #[(vs "__len__" 871), (vs "Program.__len__" 872), (vs "/claim/cut.py" 873), (.int 259 0), (.int 1 0), (.int 0 0), (.int 0 0), (.int 3 0), (.ref 522), (.bool true), (.int 181 0), (.ref 523), .none, (.ref 524), (.ref 525), (.ref 526), (.int 875 0), (.int 259 0), (vs "/claim/cut.py" 876)]) #[])) ::
  (nat_lit 528, (Obj.mk (.type "function") none (.func (fnOf (st "__len__") (st "Program.__len__") (defArgs (inClass (tS 39) 7)) (defBody (inClass (tS 39) 7)) (defScope (inClass (tS 39) 7)) .none .none .none (vs "undotables.programs" 662) none (.ref 527) .none)) #[])) ::
  (nat_lit 529, (Obj.mk (.type "tuple") none (.seq #[] 0) #[])) ::
  (nat_lit 531, (Obj.mk (.type "tuple") none (.seq #[(vs "self" 881), (vs "x" 882)] 0) #[])) ::
  (nat_lit 532, (Obj.mk (.type "tuple") none (.seq #[] 0) #[])) ::
  (nat_lit 534, (Obj.mk (.type "code") none (.fields #[(vs "__contains__" 878), (vs "Program.__contains__" 879), (vs "/claim/cut.py" 880), (.int 262 0), (.int 2 0), (.int 0 0), (.int 0 0), (.int 3 0), (.ref 529), (.bool true), (.int 181 0), (.ref 530), .none, (.ref 531), (.ref 532), (.ref 533), (.int 883 0), (.int 262 0), (vs "/claim/cut.py" 884)]) #[])) ::
  (nat_lit 535, (Obj.mk (.type "function") none (.func (fnOf (st "__contains__") (st "Program.__contains__") (defArgs (inClass (tS 39) 8)) (defBody (inClass (tS 39) 8)) (defScope (inClass (tS 39) 8)) .none .none .none (vs "undotables.programs" 662) none (.ref 534) .none)) #[])) ::
  (nat_lit 536, (Obj.mk (.type "tuple") none (.seq #[] 0) #[])) ::
  (nat_lit 538, (Obj.mk (.type "tuple") none (.seq #[(vs "self" 889), (vs "other" 890)] 0) #[])) ::
  (nat_lit 539, (Obj.mk (.type "tuple") none (.seq #[] 0) #[])) ::
  (nat_lit 541, (Obj.mk (.type "code") none (.fields #[(vs "__eq__" 886), (vs "Program.__eq__" 887), (vs "/claim/cut.py" 888), (.int 265 0), (.int 2 0), (.int 0 0), (.int 0 0), (.int 3 0), (.ref 536), (.bool true), (.int 181 0), (.ref 537), .none, (.ref 538), (.ref 539), (.ref 540), (.int 891 0), (.int 265 0), (vs "/claim/cut.py" 892)]) #[])) ::
  (nat_lit 542, (Obj.mk (.type "function") none (.func (fnOf (st "__eq__") (st "Program.__eq__") (defArgs (inClass (tS 39) 9)) (defBody (inClass (tS 39) 9)) (defScope (inClass (tS 39) 9)) .none .none .none (vs "undotables.programs" 662) none (.ref 541) .none)) #[])) ::
  (nat_lit 543, (Obj.mk (.type "tuple") none (.seq #[] 0) #[])) ::
  (nat_lit 546, (Obj.mk (.type "code") none (.fields #[(vs "__str__" 894), (vs "Program.__str__" 895), (vs "/claim/cut.py" 896), (.int 268 0), (.int 1 0), (.int 0 0), (.int 0 0), (.int 3 0), (.ref 543), (.bool true), (.int 181 0), (.ref 544), .none, .none, .none, (.ref 545), (.int 897 0), (.int 268 0), (vs "/claim/cut.py" 898)]) #[])) ::
  (nat_lit 547, (Obj.mk (.type "function") none (.func (fnOf (st "__str__") (st "Program.__str__") (defArgs (inClass (tS 39) 10)) (defBody (inClass (tS 39) 10)) (defScope (inClass (tS 39) 10)) .none .none .none (vs "undotables.programs" 662) none (.ref 546) .none)) #[])) ::
  (nat_lit 548, (Obj.mk (.type "tuple") none (.seq #[] 0) #[])) ::
  (nat_lit 550, (Obj.mk (.type "tuple") none (.seq #[(vs "self" 903)] 0) #[])) ::
  (nat_lit 551, (Obj.mk (.type "tuple") none (.seq #[] 0) #[])) ::
  (nat_lit 553, (Obj.mk (.type "code") none (.fields #[(vs "__repr__" 900), (vs "Program.__repr__" 901), (vs "/claim/cut.py" 902), (.int 273 0), (.int 1 0), (.int 0 0), (.int 0 0), (.int 3 0), (.ref 548), (.bool true), (.int 181 0), (.ref 549), .none, (.ref 550), (.ref 551), (.ref 552), (.int 904 0), (.int 273 0), (vs "/claim/cut.py" 905)]) #[])) ::
  (nat_lit 554, (Obj.mk (.type "function") none (.func (fnOf (st "__repr__") (st "Program.__repr__") (defArgs (inClass (tS 39) 11)) (defBody (inClass (tS 39) 11)) (defScope (inClass (tS 39) 11)) .none .none .none (vs "undotables.programs" 662) none (.ref 553) .none)) #[])) ::
  (nat_lit 555, (Obj.mk (.type "tuple") none (.seq #[(vs "commands" 907)] 0) #[])) ::
  (nat_lit 556, (Obj.mk (.type "dict") none (.dict #[(de P "__module__" 774 (vs "undotables.programs" 662)), (de P "__firstlineno__" 778 (.int 193 777)), (de P "__init__" 791 (.ref 474)), (de P "read" 814 (.ref 483)), (de P "is_command" 833 (.ref 493)), (de P "names" 840 (.ref 500)), (de P "each" 851 (.ref 507)), (de P "__call__" 862 (.ref 514)), (de P "__add__" 870 (.ref 521)), (de P "__len__" 877 (.ref 528)), (de P "__contains__" 885 (.ref 535)), (de P "__eq__" 893 (.ref 542)), (de P "__str__" 899 (.ref 547)), (de P "__repr__" 906 (.ref 554)), (de P "__static_attributes__" 908 (.ref 555)), (de P "__dict__" 910 (.ref 558)), (de P "__weakref__" 912 (.ref 559)), (de P "__doc__" 913 .none), (de P "__hash__" 914 .none)] 5) #[])) ::
  (nat_lit 557, (Obj.mk (.type "type") none (.cls (ClassData.mk (st "Program") [(.type "object")] [(.ref 557), (.type "object")] 556 (st "Program") true [] [] false none false)) #[none, none, (some (vs "Program" 767)), (some (vs "Program" 775)), (some (.builtin "object.__new__")), (some (.bool true))])) ::
  (nat_lit 558, (Obj.mk (.type "getset_descriptor") none (.fields #[(vs "__dict__" 909), (.ref 557), (.builtin "function.__dict__"), (.builtin "function.__dict__#set")]) #[])) ::
  (nat_lit 559, (Obj.mk (.type "getset_descriptor") none (.fields #[(vs "__weakref__" 911), (.ref 557), (.builtin "ExceptionGroup.__weakref__"), .none]) #[])) ::
  (nat_lit 562, (Obj.mk (.type "tuple") none (.seq #[] 0) #[])) ::
  (nat_lit 564, (Obj.mk (.type "tuple") none (.seq #[(vs "commands" 920), (vs "made" 921)] 0) #[])) ::
  (nat_lit 565, (Obj.mk (.type "tuple") none (.seq #[] 0) #[])) ::
  (nat_lit 567, (Obj.mk (.type "code") none (.fields #[(vs "program_of" 917), (vs "program_of" 918), (vs "/claim/cut.py" 919), (.int 275 0), (.int 1 0), (.int 0 0), (.int 0 0), (.int 3 0), (.ref 562), (.bool true), (.int 181 0), (.ref 563), .none, (.ref 564), (.ref 565), (.ref 566), (.int 922 0), (.int 275 0), (vs "/claim/cut.py" 923)]) #[])) ::
  (nat_lit 568, (Obj.mk (.type "function") none (.func (fnOf (st "program_of") (st "program_of") (defArgs (tS 40)) (defBody (tS 40)) (defScope (tS 40)) .none .none .none (vs "undotables.programs" 662) none (.ref 567) .none)) #[])) ::
  (nat_lit 569, (Obj.mk (.type "tuple") none (.seq #[] 0) #[])) ::
  (nat_lit 571, (Obj.mk (.type "tuple") none (.seq #[(vs "program" 928)] 0) #[])) ::
  (nat_lit 572, (Obj.mk (.type "tuple") none (.seq #[] 0) #[])) ::
  (nat_lit 574, (Obj.mk (.type "code") none (.fields #[(vs "check_program" 925), (vs "check_program" 926), (vs "/claim/cut.py" 927), (.int 279 0), (.int 1 0), (.int 0 0), (.int 0 0), (.int 3 0), (.ref 569), (.bool true), (.int 181 0), (.ref 570), .none, (.ref 571), (.ref 572), (.ref 573), (.int 929 0), (.int 279 0), (vs "/claim/cut.py" 930)]) #[])) ::
  (nat_lit 575, (Obj.mk (.type "function") none (.func (fnOf (st "check_program") (st "check_program") (defArgs (tS 41)) (defBody (tS 41)) (defScope (tS 41)) .none .none .none (vs "undotables.programs" 662) none (.ref 574) .none)) #[])) ::
  (nat_lit 576, (Obj.mk (.type "tuple") none (.seq #[] 0) #[])) ::
  (nat_lit 578, (Obj.mk (.type "tuple") none (.seq #[(vs "length" 937)] 0) #[])) ::
  (nat_lit 579, (Obj.mk (.type "tuple") none (.seq #[] 0) #[])) ::
  (nat_lit 581, (Obj.mk (.type "code") none (.fields #[(vs "check_length" 934), (vs "check_length" 935), (vs "/claim/cut.py" 936), (.int 283 0), (.int 1 0), (.int 0 0), (.int 0 0), (.int 3 0), (.ref 576), (.bool true), (.int 181 0), (.ref 577), .none, (.ref 578), (.ref 579), (.ref 580), (.int 938 0), (.int 283 0), (vs "/claim/cut.py" 939)]) #[])) ::
  (nat_lit 582, (Obj.mk (.type "function") none (.func (fnOf (st "check_length") (st "check_length") (defArgs (tS 43)) (defBody (tS 43)) (defScope (tS 43)) .none .none .none (vs "undotables.outcomes" 932) none (.ref 581) .none)) #[])) ::
  (nat_lit 583, (Obj.mk (.type "tuple") none (.seq #[] 0) #[])) ::
  (nat_lit 585, (Obj.mk (.type "tuple") none (.seq #[(vs "changes" 946), (vs "runs" 947), (vs "ahead" 948), (vs "length" 949), (vs "times" 950), (vs "what" 951)] 0) #[])) ::
  (nat_lit 586, (Obj.mk (.type "tuple") none (.seq #[] 0) #[])) ::
  (nat_lit 588, (Obj.mk (.type "code") none (.fields #[(vs "runs_of" 943), (vs "runs_of" 944), (vs "/claim/cut.py" 945), (.int 287 0), (.int 1 0), (.int 0 0), (.int 0 0), (.int 3 0), (.ref 583), (.bool true), (.int 181 0), (.ref 584), .none, (.ref 585), (.ref 586), (.ref 587), (.int 952 0), (.int 287 0), (vs "/claim/cut.py" 953)]) #[])) ::
  (nat_lit 589, (Obj.mk (.type "function") none (.func (fnOf (st "runs_of") (st "runs_of") (defArgs (tS 45)) (defBody (tS 45)) (defScope (tS 45)) .none .none .none (vs "undotables.words" 941) none (.ref 588) .none)) #[])) ::
  (nat_lit 590, (Obj.mk (.type "tuple") none (.seq #[] 0) #[])) ::
  (nat_lit 592, (Obj.mk (.type "tuple") none (.seq #[(vs "items" 958), (vs "index" 959)] 0) #[])) ::
  (nat_lit 593, (Obj.mk (.type "tuple") none (.seq #[] 0) #[])) ::
  (nat_lit 595, (Obj.mk (.type "code") none (.fields #[(vs "first_alike" 955), (vs "first_alike" 956), (vs "/claim/cut.py" 957), (.int 299 0), (.int 2 0), (.int 0 0), (.int 0 0), (.int 3 0), (.ref 590), (.bool true), (.int 181 0), (.ref 591), .none, (.ref 592), (.ref 593), (.ref 594), (.int 960 0), (.int 299 0), (vs "/claim/cut.py" 961)]) #[])) ::
  (nat_lit 596, (Obj.mk (.type "function") none (.func (fnOf (st "first_alike") (st "first_alike") (defArgs (tS 46)) (defBody (tS 46)) (defScope (tS 46)) .none .none .none (vs "undotables.words" 941) none (.ref 595) .none)) #[])) ::
  (nat_lit 597, (Obj.mk (.type "tuple") none (.seq #[] 0) #[])) ::
  (nat_lit 599, (Obj.mk (.type "tuple") none (.seq #[(vs "names" 966), (vs "runs" 967), (vs "changes" 968), (vs "kept" 969), (vs "length" 970), (vs "times" 971), (vs "what" 972), (vs "start" 973), (vs "many" 974), (vs "before" 975)] 0) #[])) ::
  (nat_lit 600, (Obj.mk (.type "tuple") none (.seq #[] 0) #[])) ::
  (nat_lit 602, (Obj.mk (.type "code") none (.fields #[(vs "changes_of" 963), (vs "changes_of" 964), (vs "/claim/cut.py" 965), (.int 303 0), (.int 2 0), (.int 0 0), (.int 0 0), (.int 3 0), (.ref 597), (.bool true), (.int 181 0), (.ref 598), .none, (.ref 599), (.ref 600), (.ref 601), (.int 976 0), (.int 303 0), (vs "/claim/cut.py" 977)]) #[])) ::
  (nat_lit 603, (Obj.mk (.type "function") none (.func (fnOf (st "changes_of") (st "changes_of") (defArgs (tS 47)) (defBody (tS 47)) (defScope (tS 47)) .none .none .none (vs "undotables.words" 941) none (.ref 602) .none)) #[])) ::
  (nat_lit 604, (Obj.mk (.type "tuple") none (.seq #[] 0) #[])) ::
  (nat_lit 607, (Obj.mk (.type "code") none (.fields #[(vs "state_of" 979), (vs "state_of" 980), (vs "/claim/cut.py" 981), (.int 323 0), (.int 3 0), (.int 0 0), (.int 0 0), (.int 3 0), (.ref 604), (.bool true), (.int 181 0), (.ref 605), .none, .none, .none, (.ref 606), (.int 982 0), (.int 323 0), (vs "/claim/cut.py" 983)]) #[])) ::
  (nat_lit 608, (Obj.mk (.type "function") none (.func (fnOf (st "state_of") (st "state_of") (defArgs (tS 48)) (defBody (tS 48)) (defScope (tS 48)) .none .none .none (vs "undotables.words" 941) none (.ref 607) .none)) #[])) ::
  (nat_lit 609, (Obj.mk (.type "tuple") none (.seq #[] 0) #[])) ::
  (nat_lit 611, (Obj.mk (.type "tuple") none (.seq #[(vs "turns" 988), (vs "many" 989), (vs "word" 990), (vs "whole" 991), (vs "at" 992), (vs "times" 993), (vs "what" 994)] 0) #[])) ::
  (nat_lit 612, (Obj.mk (.type "tuple") none (.seq #[] 0) #[])) ::
  (nat_lit 614, (Obj.mk (.type "code") none (.fields #[(vs "turned" 985), (vs "turned" 986), (vs "/claim/cut.py" 987), (.int 337 0), (.int 3 0), (.int 0 0), (.int 0 0), (.int 3 0), (.ref 609), (.bool true), (.int 181 0), (.ref 610), .none, (.ref 611), (.ref 612), (.ref 613), (.int 995 0), (.int 337 0), (vs "/claim/cut.py" 996)]) #[])) ::
  (nat_lit 615, (Obj.mk (.type "function") none (.func (fnOf (st "turned") (st "turned") (defArgs (tS 49)) (defBody (tS 49)) (defScope (tS 49)) .none .none .none (vs "undotables.words" 941) none (.ref 614) .none)) #[])) ::
  (nat_lit 616, (Obj.mk (.type "tuple") none (.seq #[] 0) #[])) ::
  (nat_lit 618, (Obj.mk (.type "tuple") none (.seq #[(vs "turns" 1001), (vs "size" 1002), (vs "kept" 1003), (vs "at" 1004), (vs "times" 1005), (vs "what" 1006)] 0) #[])) ::
  (nat_lit 619, (Obj.mk (.type "tuple") none (.seq #[] 0) #[])) ::
  (nat_lit 621, (Obj.mk (.type "code") none (.fields #[(vs "apart" 998), (vs "apart" 999), (vs "/claim/cut.py" 1000), (.int 352 0), (.int 2 0), (.int 0 0), (.int 0 0), (.int 3 0), (.ref 616), (.bool true), (.int 181 0), (.ref 617), .none, (.ref 618), (.ref 619), (.ref 620), (.int 1007 0), (.int 352 0), (vs "/claim/cut.py" 1008)]) #[])) ::
  (nat_lit 622, (Obj.mk (.type "function") none (.func (fnOf (st "apart") (st "apart") (defArgs (tS 50)) (defBody (tS 50)) (defScope (tS 50)) .none .none .none (vs "undotables.words" 941) none (.ref 621) .none)) #[])) ::
  (nat_lit 623, (Obj.mk (.type "tuple") none (.seq #[] 0) #[])) ::
  (nat_lit 625, (Obj.mk (.type "tuple") none (.seq #[(vs "losses" 1013), (vs "turns" 1014), (vs "place" 1015), (vs "runs" 1016), (vs "at" 1017), (vs "times" 1018), (vs "word" 1019), (vs "end" 1020), (vs "ahead" 1021), (vs "many" 1022), (vs "what" 1023)] 0) #[])) ::
  (nat_lit 626, (Obj.mk (.type "tuple") none (.seq #[] 0) #[])) ::
  (nat_lit 628, (Obj.mk (.type "code") none (.fields #[(vs "woven" 1010), (vs "woven" 1011), (vs "/claim/cut.py" 1012), (.int 360 0), (.int 3 0), (.int 0 0), (.int 0 0), (.int 3 0), (.ref 623), (.bool true), (.int 181 0), (.ref 624), .none, (.ref 625), (.ref 626), (.ref 627), (.int 1024 0), (.int 360 0), (vs "/claim/cut.py" 1025)]) #[])) ::
  (nat_lit 629, (Obj.mk (.type "function") none (.func (fnOf (st "woven") (st "woven") (defArgs (tS 51)) (defBody (tS 51)) (defScope (tS 51)) .none .none .none (vs "undotables.words" 941) none (.ref 628) .none)) #[])) ::
  (nat_lit 630, (Obj.mk (.type "tuple") none (.seq #[] 0) #[])) ::
  (nat_lit 633, (Obj.mk (.type "code") none (.fields #[(vs "losses_after_do" 1027), (vs "losses_after_do" 1028), (vs "/claim/cut.py" 1029), (.int 379 0), (.int 4 0), (.int 0 0), (.int 0 0), (.int 3 0), (.ref 630), (.bool true), (.int 181 0), (.ref 631), .none, .none, .none, (.ref 632), (.int 1030 0), (.int 379 0), (vs "/claim/cut.py" 1031)]) #[])) ::
  (nat_lit 634, (Obj.mk (.type "function") none (.func (fnOf (st "losses_after_do") (st "losses_after_do") (defArgs (tS 52)) (defBody (tS 52)) (defScope (tS 52)) .none .none .none (vs "undotables.words" 941) none (.ref 633) .none)) #[])) ::
  (nat_lit 635, (Obj.mk (.type "tuple") none (.seq #[] 0) #[])) ::
  (nat_lit 638, (Obj.mk (.type "code") none (.fields #[(vs "sum_of_amounts" 1033), (vs "sum_of_amounts" 1034), (vs "/claim/cut.py" 1035), (.int 402 0), (.int 2 0), (.int 0 0), (.int 0 0), (.int 3 0), (.ref 635), (.bool true), (.int 181 0), (.ref 636), .none, .none, .none, (.ref 637), (.int 1036 0), (.int 402 0), (vs "/claim/cut.py" 1037)]) #[])) ::
  (nat_lit 639, (Obj.mk (.type "function") none (.func (fnOf (st "sum_of_amounts") (st "sum_of_amounts") (defArgs (tS 53)) (defBody (tS 53)) (defScope (tS 53)) .none .none .none (vs "undotables.words" 941) none (.ref 638) .none)) #[])) ::
  (nat_lit 640, (Obj.mk (.type "tuple") none (.seq #[] 0) #[])) ::
  (nat_lit 642, (Obj.mk (.type "tuple") none (.seq #[(vs "steps" 1042), (vs "made" 1043), (vs "word" 1044), (vs "amount" 1045), (vs "before" 1046), (vs "whole" 1047)] 0) #[])) ::
  (nat_lit 643, (Obj.mk (.type "tuple") none (.seq #[] 0) #[])) ::
  (nat_lit 645, (Obj.mk (.type "code") none (.fields #[(vs "shortened" 1039), (vs "shortened" 1040), (vs "/claim/cut.py" 1041), (.int 404 0), (.int 1 0), (.int 0 0), (.int 0 0), (.int 3 0), (.ref 640), (.bool true), (.int 181 0), (.ref 641), .none, (.ref 642), (.ref 643), (.ref 644), (.int 1048 0), (.int 404 0), (vs "/claim/cut.py" 1049)]) #[])) ::
  (nat_lit 646, (Obj.mk (.type "function") none (.func (fnOf (st "shortened") (st "shortened") (defArgs (tS 54)) (defBody (tS 54)) (defScope (tS 54)) .none .none .none (vs "undotables.words" 941) none (.ref 645) .none)) #[])) ::
  (nat_lit 647, (Obj.mk (.type "tuple") none (.seq #[] 0) #[])) ::
  (nat_lit 649, (Obj.mk (.type "tuple") none (.seq #[(vs "before" 1054), (vs "amount" 1055), (vs "behind" 1056)] 0) #[])) ::
  (nat_lit 650, (Obj.mk (.type "tuple") none (.seq #[] 0) #[])) ::
  (nat_lit 652, (Obj.mk (.type "code") none (.fields #[(vs "is_between" 1051), (vs "is_between" 1052), (vs "/claim/cut.py" 1053), (.int 417 0), (.int 3 0), (.int 0 0), (.int 0 0), (.int 3 0), (.ref 647), (.bool true), (.int 181 0), (.ref 648), .none, (.ref 649), (.ref 650), (.ref 651), (.int 1057 0), (.int 417 0), (vs "/claim/cut.py" 1058)]) #[])) ::
  (nat_lit 653, (Obj.mk (.type "function") none (.func (fnOf (st "is_between") (st "is_between") (defArgs (tS 55)) (defBody (tS 55)) (defScope (tS 55)) .none .none .none (vs "undotables.words" 941) none (.ref 652) .none)) #[])) ::
  (nat_lit 654, (Obj.mk (.type "tuple") none (.seq #[] 0) #[])) ::
  (nat_lit 657, (Obj.mk (.type "code") none (.fields #[(vs "steps_of_repeat" 1060), (vs "steps_of_repeat" 1061), (vs "/claim/cut.py" 1062), (.int 419 0), (.int 2 0), (.int 0 0), (.int 0 0), (.int 3 0), (.ref 654), (.bool true), (.int 181 0), (.ref 655), .none, .none, .none, (.ref 656), (.int 1063 0), (.int 419 0), (vs "/claim/cut.py" 1064)]) #[])) ::
  (nat_lit 658, (Obj.mk (.type "function") none (.func (fnOf (st "steps_of_repeat") (st "steps_of_repeat") (defArgs (tS 56)) (defBody (tS 56)) (defScope (tS 56)) .none .none .none (vs "undotables.words" 941) none (.ref 657) .none)) #[])) ::
  (nat_lit 659, (Obj.mk (.type "tuple") none (.seq #[] 0) #[])) ::
  (nat_lit 661, (Obj.mk (.type "tuple") none (.seq #[(vs "turns" 1069), (vs "steps" 1070), (vs "word" 1071), (vs "amount" 1072)] 0) #[])) ::
  (nat_lit 662, (Obj.mk (.type "tuple") none (.seq #[] 0) #[])) ::
  (nat_lit 664, (Obj.mk (.type "code") none (.fields #[(vs "turned_by_all" 1066), (vs "turned_by_all" 1067), (vs "/claim/cut.py" 1068), (.int 429 0), (.int 2 0), (.int 0 0), (.int 0 0), (.int 3 0), (.ref 659), (.bool true), (.int 181 0), (.ref 660), .none, (.ref 661), (.ref 662), (.ref 663), (.int 1073 0), (.int 429 0), (vs "/claim/cut.py" 1074)]) #[])) ::
  (nat_lit 665, (Obj.mk (.type "function") none (.func (fnOf (st "turned_by_all") (st "turned_by_all") (defArgs (tS 57)) (defBody (tS 57)) (defScope (tS 57)) .none .none .none (vs "undotables.words" 941) none (.ref 664) .none)) #[])) ::
  (nat_lit 666, (Obj.mk (.type "tuple") none (.seq #[] 0) #[])) ::
  (nat_lit 669, (Obj.mk (.type "code") none (.fields #[(vs "state_after_do" 1076), (vs "state_after_do" 1077), (vs "/claim/cut.py" 1078), (.int 433 0), (.int 4 0), (.int 0 0), (.int 0 0), (.int 3 0), (.ref 666), (.bool true), (.int 181 0), (.ref 667), .none, .none, .none, (.ref 668), (.int 1079 0), (.int 433 0), (vs "/claim/cut.py" 1080)]) #[])) ::
  (nat_lit 670, (Obj.mk (.type "function") none (.func (fnOf (st "state_after_do") (st "state_after_do") (defArgs (tS 58)) (defBody (tS 58)) (defScope (tS 58)) .none .none .none (vs "undotables.words" 941) none (.ref 669) .none)) #[])) ::
  (nat_lit 671, (Obj.mk (.type "tuple") none (.seq #[] 0) #[])) ::
  (nat_lit 673, (Obj.mk (.type "tuple") none (.seq #[(vs "losses" 1085), (vs "size" 1086), (vs "made" 1087), (vs "kept" 1088), (vs "ahead" 1089), (vs "times" 1090), (vs "what" 1091), (vs "index" 1092)] 0) #[])) ::
  (nat_lit 674, (Obj.mk (.type "tuple") none (.seq #[] 0) #[])) ::
  (nat_lit 676, (Obj.mk (.type "code") none (.fields #[(vs "with_indexes" 1082), (vs "with_indexes" 1083), (vs "/claim/cut.py" 1084), (.int 452 0), (.int 2 0), (.int 0 0), (.int 0 0), (.int 3 0), (.ref 671), (.bool true), (.int 181 0), (.ref 672), .none, (.ref 673), (.ref 674), (.ref 675), (.int 1093 0), (.int 452 0), (vs "/claim/cut.py" 1094)]) #[])) ::
  (nat_lit 677, (Obj.mk (.type "function") none (.func (fnOf (st "with_indexes") (st "with_indexes") (defArgs (tS 59)) (defBody (tS 59)) (defScope (tS 59)) .none .none .none (vs "undotables.words" 941) none (.ref 676) .none)) #[])) ::
  (nat_lit 678, (Obj.mk (.type "tuple") none (.seq #[] 0) #[])) ::
  (nat_lit 680, (Obj.mk (.type "tuple") none (.seq #[(vs "names" 1099), (vs "losses" 1100), (vs "turns" 1101), (vs "commands" 1102), (vs "command" 1103), (vs "word" 1104), (vs "what" 1105), (vs "inside" 1106)] 0) #[])) ::
  (nat_lit 681, (Obj.mk (.type "tuple") none (.seq #[] 0) #[])) ::
  (nat_lit 683, (Obj.mk (.type "code") none (.fields #[(vs "parts_after_state" 1096), (vs "parts_after_state" 1097), (vs "/claim/cut.py" 1098), (.int 463 0), (.int 4 0), (.int 0 0), (.int 0 0), (.int 3 0), (.ref 678), (.bool true), (.int 181 0), (.ref 679), .none, (.ref 680), (.ref 681), (.ref 682), (.int 1107 0), (.int 463 0), (vs "/claim/cut.py" 1108)]) #[])) ::
  (nat_lit 684, (Obj.mk (.type "function") none (.func (fnOf (st "parts_after_state") (st "parts_after_state") (defArgs (tS 60)) (defBody (tS 60)) (defScope (tS 60)) .none .none .none (vs "undotables.words" 941) none (.ref 683) .none)) #[])) ::
  (nat_lit 685, (Obj.mk (.type "tuple") none (.seq #[] 0) #[])) ::
  (nat_lit 687, (Obj.mk (.type "tuple") none (.seq #[(vs "names" 1113), (vs "undone" 1114), (vs "changes" 1115), (vs "commands" 1116), (vs "losses" 1117), (vs "turns" 1118)] 0) #[])) ::
  (nat_lit 688, (Obj.mk (.type "tuple") none (.seq #[] 0) #[])) ::
  (nat_lit 690, (Obj.mk (.type "code") none (.fields #[(vs "parts_after" 1110), (vs "parts_after" 1111), (vs "/claim/cut.py" 1112), (.int 477 0), (.int 4 0), (.int 0 0), (.int 0 0), (.int 3 0), (.ref 685), (.bool true), (.int 181 0), (.ref 686), .none, (.ref 687), (.ref 688), (.ref 689), (.int 1119 0), (.int 477 0), (vs "/claim/cut.py" 1120)]) #[])) ::
  (nat_lit 691, (Obj.mk (.type "function") none (.func (fnOf (st "parts_after") (st "parts_after") (defArgs (tS 61)) (defBody (tS 61)) (defScope (tS 61)) .none .none .none (vs "undotables.words" 941) none (.ref 690) .none)) #[])) ::
  (nat_lit 692, (Obj.mk (.type "tuple") none (.seq #[] 0) #[])) ::
  (nat_lit 694, (Obj.mk (.type "tuple") none (.seq #[(vs "count" 1127), (vs "names" 1128)] 0) #[])) ::
  (nat_lit 695, (Obj.mk (.type "tuple") none (.seq #[] 0) #[])) ::
  (nat_lit 697, (Obj.mk (.type "code") none (.fields #[(vs "check_undone_count" 1124), (vs "check_undone_count" 1125), (vs "/claim/cut.py" 1126), (.int 481 0), (.int 2 0), (.int 0 0), (.int 0 0), (.int 3 0), (.ref 692), (.bool true), (.int 181 0), (.ref 693), .none, (.ref 694), (.ref 695), (.ref 696), (.int 1129 0), (.int 481 0), (vs "/claim/cut.py" 1130)]) #[])) ::
  (nat_lit 698, (Obj.mk (.type "function") none (.func (fnOf (st "check_undone_count") (st "check_undone_count") (defArgs (tS 63)) (defBody (tS 63)) (defScope (tS 63)) .none .none .none (vs "undotables.effects" 1122) none (.ref 697) .none)) #[])) ::
  (nat_lit 699, (Obj.mk (.type "tuple") none (.seq #[] 0) #[])) ::
  (nat_lit 701, (Obj.mk (.type "tuple") none (.seq #[(vs "times" 1135), (vs "what" 1136), (vs "names" 1137)] 0) #[])) ::
  (nat_lit 702, (Obj.mk (.type "tuple") none (.seq #[] 0) #[])) ::
  (nat_lit 704, (Obj.mk (.type "code") none (.fields #[(vs "is_run" 1132), (vs "is_run" 1133), (vs "/claim/cut.py" 1134), (.int 484 0), (.int 3 0), (.int 0 0), (.int 0 0), (.int 3 0), (.ref 699), (.bool true), (.int 181 0), (.ref 700), .none, (.ref 701), (.ref 702), (.ref 703), (.int 1138 0), (.int 484 0), (vs "/claim/cut.py" 1139)]) #[])) ::
  (nat_lit 705, (Obj.mk (.type "function") none (.func (fnOf (st "is_run") (st "is_run") (defArgs (tS 64)) (defBody (tS 64)) (defScope (tS 64)) .none .none .none (vs "undotables.effects" 1122) none (.ref 704) .none)) #[])) ::
  (nat_lit 706, (Obj.mk (.type "tuple") none (.seq #[] 0) #[])) ::
  (nat_lit 708, (Obj.mk (.type "tuple") none (.seq #[(vs "times" 1144), (vs "what" 1145), (vs "kept" 1146)] 0) #[])) ::
  (nat_lit 709, (Obj.mk (.type "tuple") none (.seq #[] 0) #[])) ::
  (nat_lit 711, (Obj.mk (.type "code") none (.fields #[(vs "is_loss" 1141), (vs "is_loss" 1142), (vs "/claim/cut.py" 1143), (.int 488 0), (.int 3 0), (.int 0 0), (.int 0 0), (.int 3 0), (.ref 706), (.bool true), (.int 181 0), (.ref 707), .none, (.ref 708), (.ref 709), (.ref 710), (.int 1147 0), (.int 488 0), (vs "/claim/cut.py" 1148)]) #[])) ::
  (nat_lit 712, (Obj.mk (.type "function") none (.func (fnOf (st "is_loss") (st "is_loss") (defArgs (tS 65)) (defBody (tS 65)) (defScope (tS 65)) .none .none .none (vs "undotables.effects" 1122) none (.ref 711) .none)) #[])) ::
  (nat_lit 713, (Obj.mk (.type "tuple") none (.seq #[] 0) #[])) ::
  (nat_lit 715, (Obj.mk (.type "tuple") none (.seq #[(vs "value" 1153), (vs "kept" 1154), (vs "length" 1155), (vs "times" 1156), (vs "what" 1157)] 0) #[])) ::
  (nat_lit 716, (Obj.mk (.type "tuple") none (.seq #[] 0) #[])) ::
  (nat_lit 718, (Obj.mk (.type "code") none (.fields #[(vs "is_change" 1150), (vs "is_change" 1151), (vs "/claim/cut.py" 1152), (.int 492 0), (.int 2 0), (.int 0 0), (.int 0 0), (.int 3 0), (.ref 713), (.bool true), (.int 181 0), (.ref 714), .none, (.ref 715), (.ref 716), (.ref 717), (.int 1158 0), (.int 492 0), (vs "/claim/cut.py" 1159)]) #[])) ::
  (nat_lit 719, (Obj.mk (.type "function") none (.func (fnOf (st "is_change") (st "is_change") (defArgs (tS 66)) (defBody (tS 66)) (defScope (tS 66)) .none .none .none (vs "undotables.effects" 1122) none (.ref 718) .none)) #[])) ::
  (nat_lit 720, (Obj.mk (.type "tuple") none (.seq #[] 0) #[])) ::
  (nat_lit 722, (Obj.mk (.type "tuple") none (.seq #[(vs "change" 1164), (vs "before" 1165), (vs "length" 1166), (vs "times" 1167), (vs "what" 1168)] 0) #[])) ::
  (nat_lit 723, (Obj.mk (.type "tuple") none (.seq #[] 0) #[])) ::
  (nat_lit 725, (Obj.mk (.type "code") none (.fields #[(vs "can_follow" 1161), (vs "can_follow" 1162), (vs "/claim/cut.py" 1163), (.int 497 0), (.int 2 0), (.int 0 0), (.int 0 0), (.int 3 0), (.ref 720), (.bool true), (.int 181 0), (.ref 721), .none, (.ref 722), (.ref 723), (.ref 724), (.int 1169 0), (.int 497 0), (vs "/claim/cut.py" 1170)]) #[])) ::
  (nat_lit 726, (Obj.mk (.type "function") none (.func (fnOf (st "can_follow") (st "can_follow") (defArgs (tS 67)) (defBody (tS 67)) (defScope (tS 67)) .none .none .none (vs "undotables.effects" 1122) none (.ref 725) .none)) #[])) ::
  (nat_lit 727, (Obj.mk (.type "tuple") none (.seq #[] 0) #[])) ::
  (nat_lit 729, (Obj.mk (.type "tuple") none (.seq #[(vs "changes" 1175), (vs "names" 1176), (vs "kept" 1177), (vs "at" 1178), (vs "change" 1179)] 0) #[])) ::
  (nat_lit 730, (Obj.mk (.type "tuple") none (.seq #[] 0) #[])) ::
  (nat_lit 732, (Obj.mk (.type "code") none (.fields #[(vs "check_changes" 1172), (vs "check_changes" 1173), (vs "/claim/cut.py" 1174), (.int 502 0), (.int 2 0), (.int 0 0), (.int 0 0), (.int 3 0), (.ref 727), (.bool true), (.int 181 0), (.ref 728), .none, (.ref 729), (.ref 730), (.ref 731), (.int 1180 0), (.int 502 0), (vs "/claim/cut.py" 1181)]) #[])) ::
  (nat_lit 733, (Obj.mk (.type "function") none (.func (fnOf (st "check_changes") (st "check_changes") (defArgs (tS 68)) (defBody (tS 68)) (defScope (tS 68)) .none .none .none (vs "undotables.effects" 1122) none (.ref 732) .none)) #[])) ::
  (nat_lit 734, (Obj.mk (.type "tuple") none (.seq #[] 0) #[])) ::
  (nat_lit 736, (Obj.mk (.type "tuple") none (.seq #[(vs "what" 1186)] 0) #[])) ::
  (nat_lit 737, (Obj.mk (.type "tuple") none (.seq #[] 0) #[])) ::
  (nat_lit 739, (Obj.mk (.type "code") none (.fields #[(vs "word_of" 1183), (vs "word_of" 1184), (vs "/claim/cut.py" 1185), (.int 511 0), (.int 1 0), (.int 0 0), (.int 0 0), (.int 3 0), (.ref 734), (.bool true), (.int 181 0), (.ref 735), .none, (.ref 736), (.ref 737), (.ref 738), (.int 1187 0), (.int 511 0), (vs "/claim/cut.py" 1188)]) #[])) ::
  (nat_lit 740, (Obj.mk (.type "function") none (.func (fnOf (st "word_of") (st "word_of") (defArgs (tS 69)) (defBody (tS 69)) (defScope (tS 69)) .none .none .none (vs "undotables.effects" 1122) none (.ref 739) .none)) #[])) ::
  (nat_lit 748, (Obj.mk (.type "tuple") none (.seq #[] 0) #[])) ::
  (nat_lit 749, (Obj.mk (.type "tuple") none (.seq #[] 0) #[])) ::
  (nat_lit 750, (Obj.mk (.type "tuple") none (.seq #[(.ref 748), (.int 0 1202), (.ref 749)] 0) #[])) ::
  (nat_lit 751, (Obj.mk (.type "tuple") none (.seq #[] 0) #[])) ::
  (nat_lit 753, (Obj.mk (.type "tuple") none (.seq #[(vs "self" 1206), (vs "new_names" 1207), (vs "undone_count" 1208), (vs "changes" 1209)] 0) #[])) ::
  (nat_lit 754, (Obj.mk (.type "tuple") none (.seq #[] 0) #[])) ::
  (nat_lit 756, (Obj.mk (.type "code") none (.fields #[(vs "__init__" 1203), (vs "Effect.__init__" 1204), (vs "/claim/cut.py" 1205), (.int 515 0), (.int 4 0), (.int 0 0), (.int 0 0), (.int 3 0), (.ref 751), (.bool true), (.int 181 0), (.ref 752), .none, (.ref 753), (.ref 754), (.ref 755), (.int 1210 0), (.int 515 0), (vs "/claim/cut.py" 1211)]) #[])) ::
  (nat_lit 757, (Obj.mk (.type "function") none (.func (fnOf (st "__init__") (st "Effect.__init__") (defArgs (inClass (tS 70) 0)) (defBody (inClass (tS 70) 0)) (defScope (inClass (tS 70) 0)) (.ref 750) .none .none (vs "undotables.effects" 1122) none (.ref 756) .none)) #[])) ::
  (nat_lit 758, (Obj.mk (.type "tuple") none (.seq #[] 0) #[])) ::
  (nat_lit 760, (Obj.mk (.type "tuple") none (.seq #[(vs "self" 1216), (vs "length" 1217), (vs "start" 1218), (vs "times" 1219), (vs "what" 1220)] 0) #[])) ::
  (nat_lit 761, (Obj.mk (.type "tuple") none (.seq #[] 0) #[])) ::
  (nat_lit 763, (Obj.mk (.type "code") none (.fields #[(vs "word" 1213), (vs "Effect.word" 1214), (vs "/claim/cut.py" 1215), (.int 523 0), (.int 2 0), (.int 0 0), (.int 0 0), (.int 3 0), (.ref 758), (.bool true), (.int 181 0), (.ref 759), .none, (.ref 760), (.ref 761), (.ref 762), (.int 1221 0), (.int 523 0), (vs "/claim/cut.py" 1222)]) #[])) ::
  (nat_lit 764, (Obj.mk (.type "function") none (.func (fnOf (st "word") (st "Effect.word") (defArgs (inClass (tS 70) 1)) (defBody (inClass (tS 70) 1)) (defScope (inClass (tS 70) 1)) .none .none .none (vs "undotables.effects" 1122) none (.ref 763) .none)) #[])) ::
  (nat_lit 765, (Obj.mk (.type "tuple") none (.seq #[] 0) #[])) ::
  (nat_lit 767, (Obj.mk (.type "tuple") none (.seq #[(vs "self" 1227)] 0) #[])) ::
  (nat_lit 768, (Obj.mk (.type "tuple") none (.seq #[] 0) #[])) ::
  (nat_lit 770, (Obj.mk (.type "code") none (.fields #[(vs "last" 1224), (vs "Effect.last" 1225), (vs "/claim/cut.py" 1226), (.int 530 0), (.int 1 0), (.int 0 0), (.int 0 0), (.int 3 0), (.ref 765), (.bool true), (.int 181 0), (.ref 766), .none, (.ref 767), (.ref 768), (.ref 769), (.int 1228 0), (.int 530 0), (vs "/claim/cut.py" 1229)]) #[])) ::
  (nat_lit 771, (Obj.mk (.type "function") none (.func (fnOf (st "last") (st "Effect.last") (defArgs (inClass (tS 70) 2)) (defBody (inClass (tS 70) 2)) (defScope (inClass (tS 70) 2)) .none .none .none (vs "undotables.effects" 1122) none (.ref 770) .none)) #[])) ::
  (nat_lit 772, (Obj.mk (.type "property") none (.fields #[(.ref 771), .none, .none, .none, (vs "last" 1231), (.bool false)]) #[])) ::
  (nat_lit 773, (Obj.mk (.type "tuple") none (.seq #[] 0) #[])) ::
  (nat_lit 775, (Obj.mk (.type "tuple") none (.seq #[(vs "self" 1235), (vs "lengths" 1236), (vs "lines" 1237), (vs "length" 1238), (vs "kept" 1239), (vs "items" 1240), (vs "undone" 1241), (vs "names" 1242)] 0) #[])) ::
  (nat_lit 776, (Obj.mk (.type "tuple") none (.seq #[] 0) #[])) ::
  (nat_lit 778, (Obj.mk (.type "code") none (.fields #[(vs "table" 1232), (vs "Effect.table" 1233), (vs "/claim/cut.py" 1234), (.int 534 0), (.int 1 0), (.int 0 0), (.int 0 0), (.int 7 0), (.ref 773), (.bool true), (.int 181 0), (.ref 774), .none, (.ref 775), (.ref 776), (.ref 777), (.int 1243 0), (.int 534 0), (vs "/claim/cut.py" 1244)]) #[])) ::
  (nat_lit 779, (Obj.mk (.type "function") none (.func (fnOf (st "table") (st "Effect.table") (defArgs (inClass (tS 70) 3)) (defBody (inClass (tS 70) 3)) (defScope (inClass (tS 70) 3)) .none .none .none (vs "undotables.effects" 1122) none (.ref 778) .none)) #[])) ::
  (nat_lit 780, (Obj.mk (.type "tuple") none (.seq #[] 0) #[])) ::
  (nat_lit 782, (Obj.mk (.type "tuple") none (.seq #[(vs "self" 1249), (vs "at" 1250), (vs "kept" 1251), (vs "items" 1252), (vs "undone" 1253), (vs "length" 1254), (vs "times" 1255), (vs "what" 1256), (vs "many" 1257)] 0) #[])) ::
  (nat_lit 783, (Obj.mk (.type "tuple") none (.seq #[] 0) #[])) ::
  (nat_lit 785, (Obj.mk (.type "code") none (.fields #[(vs "__getitem__" 1246), (vs "Effect.__getitem__" 1247), (vs "/claim/cut.py" 1248), (.int 542 0), (.int 2 0), (.int 0 0), (.int 0 0), (.int 3 0), (.ref 780), (.bool true), (.int 181 0), (.ref 781), .none, (.ref 782), (.ref 783), (.ref 784), (.int 1258 0), (.int 542 0), (vs "/claim/cut.py" 1259)]) #[])) ::
  (nat_lit 786, (Obj.mk (.type "function") none (.func (fnOf (st "__getitem__") (st "Effect.__getitem__") (defArgs (inClass (tS 70) 4)) (defBody (inClass (tS 70) 4)) (defScope (inClass (tS 70) 4)) .none .none .none (vs "undotables.effects" 1122) none (.ref 785) .none)) #[])) ::
  (nat_lit 787, (Obj.mk (.type "tuple") none (.seq #[] 0) #[])) ::
  (nat_lit 789, (Obj.mk (.type "tuple") none (.seq #[(vs "self" 1264)] 0) #[])) ::
  (nat_lit 790, (Obj.mk (.type "tuple") none (.seq #[] 0) #[])) ::
  (nat_lit 792, (Obj.mk (.type "code") none (.fields #[(vs "__iter__" 1261), (vs "Effect.__iter__" 1262), (vs "/claim/cut.py" 1263), (.int 559 0), (.int 1 0), (.int 0 0), (.int 0 0), (.int 3 0), (.ref 787), (.bool true), (.int 181 0), (.ref 788), .none, (.ref 789), (.ref 790), (.ref 791), (.int 1265 0), (.int 559 0), (vs "/claim/cut.py" 1266)]) #[])) ::
  (nat_lit 793, (Obj.mk (.type "function") none (.func (fnOf (st "__iter__") (st "Effect.__iter__") (defArgs (inClass (tS 70) 5)) (defBody (inClass (tS 70) 5)) (defScope (inClass (tS 70) 5)) .none .none .none (vs "undotables.effects" 1122) none (.ref 792) .none)) #[])) ::
  (nat_lit 794, (Obj.mk (.type "tuple") none (.seq #[] 0) #[])) ::
  (nat_lit 796, (Obj.mk (.type "tuple") none (.seq #[(vs "self" 1271), (vs "other" 1272), (vs "names" 1273), (vs "undone" 1274), (vs "changes" 1275)] 0) #[])) ::
  (nat_lit 797, (Obj.mk (.type "tuple") none (.seq #[] 0) #[])) ::
  (nat_lit 799, (Obj.mk (.type "code") none (.fields #[(vs "__add__" 1268), (vs "Effect.__add__" 1269), (vs "/claim/cut.py" 1270), (.int 562 0), (.int 2 0), (.int 0 0), (.int 0 0), (.int 3 0), (.ref 794), (.bool true), (.int 181 0), (.ref 795), .none, (.ref 796), (.ref 797), (.ref 798), (.int 1276 0), (.int 562 0), (vs "/claim/cut.py" 1277)]) #[])) ::
  (nat_lit 800, (Obj.mk (.type "function") none (.func (fnOf (st "__add__") (st "Effect.__add__") (defArgs (inClass (tS 70) 6)) (defBody (inClass (tS 70) 6)) (defScope (inClass (tS 70) 6)) .none .none .none (vs "undotables.effects" 1122) none (.ref 799) .none)) #[])) ::
  (nat_lit 801, (Obj.mk (.type "tuple") none (.seq #[] 0) #[])) ::
  (nat_lit 803, (Obj.mk (.type "tuple") none (.seq #[(vs "self" 1282)] 0) #[])) ::
  (nat_lit 804, (Obj.mk (.type "tuple") none (.seq #[] 0) #[])) ::
  (nat_lit 806, (Obj.mk (.type "code") none (.fields #[(vs "__len__" 1279), (vs "Effect.__len__" 1280), (vs "/claim/cut.py" 1281), (.int 567 0), (.int 1 0), (.int 0 0), (.int 0 0), (.int 3 0), (.ref 801), (.bool true), (.int 181 0), (.ref 802), .none, (.ref 803), (.ref 804), (.ref 805), (.int 1283 0), (.int 567 0), (vs "/claim/cut.py" 1284)]) #[])) ::
  (nat_lit 807, (Obj.mk (.type "function") none (.func (fnOf (st "__len__") (st "Effect.__len__") (defArgs (inClass (tS 70) 7)) (defBody (inClass (tS 70) 7)) (defScope (inClass (tS 70) 7)) .none .none .none (vs "undotables.effects" 1122) none (.ref 806) .none)) #[])) ::
  (nat_lit 808, (Obj.mk (.type "tuple") none (.seq #[] 0) #[])) ::
  (nat_lit 810, (Obj.mk (.type "tuple") none (.seq #[(vs "self" 1289), (vs "other" 1290)] 0) #[])) ::
  (nat_lit 811, (Obj.mk (.type "tuple") none (.seq #[] 0) #[])) ::
  (nat_lit 813, (Obj.mk (.type "code") none (.fields #[(vs "__eq__" 1286), (vs "Effect.__eq__" 1287), (vs "/claim/cut.py" 1288), (.int 570 0), (.int 2 0), (.int 0 0), (.int 0 0), (.int 3 0), (.ref 808), (.bool true), (.int 181 0), (.ref 809), .none, (.ref 810), (.ref 811), (.ref 812), (.int 1291 0), (.int 570 0), (vs "/claim/cut.py" 1292)]) #[])) ::
  (nat_lit 814, (Obj.mk (.type "function") none (.func (fnOf (st "__eq__") (st "Effect.__eq__") (defArgs (inClass (tS 70) 8)) (defBody (inClass (tS 70) 8)) (defScope (inClass (tS 70) 8)) .none .none .none (vs "undotables.effects" 1122) none (.ref 813) .none)) #[])) ::
  (nat_lit 815, (Obj.mk (.type "tuple") none (.seq #[] 0) #[])) ::
  (nat_lit 817, (Obj.mk (.type "tuple") none (.seq #[(vs "self" 1297)] 0) #[])) ::
  (nat_lit 818, (Obj.mk (.type "tuple") none (.seq #[] 0) #[])) ::
  (nat_lit 820, (Obj.mk (.type "code") none (.fields #[(vs "__repr__" 1294), (vs "Effect.__repr__" 1295), (vs "/claim/cut.py" 1296), (.int 573 0), (.int 1 0), (.int 0 0), (.int 0 0), (.int 3 0), (.ref 815), (.bool true), (.int 181 0), (.ref 816), .none, (.ref 817), (.ref 818), (.ref 819), (.int 1298 0), (.int 573 0), (vs "/claim/cut.py" 1299)]) #[])) ::
  (nat_lit 821, (Obj.mk (.type "function") none (.func (fnOf (st "__repr__") (st "Effect.__repr__") (defArgs (inClass (tS 70) 9)) (defBody (inClass (tS 70) 9)) (defScope (inClass (tS 70) 9)) .none .none .none (vs "undotables.effects" 1122) none (.ref 820) .none)) #[])) ::
  (nat_lit 822, (Obj.mk (.type "tuple") none (.seq #[(vs "changes" 1301), (vs "new_names" 1302), (vs "undone_count" 1303)] 0) #[])) ::
  (nat_lit 823, (Obj.mk (.type "dict") none (.dict #[(de P "__module__" 1197 (vs "undotables.effects" 1122)), (de P "__firstlineno__" 1201 (.int 513 1200)), (de P "__init__" 1212 (.ref 757)), (de P "word" 1223 (.ref 764)), (de P "last" 1231 (.ref 772)), (de P "table" 1245 (.ref 779)), (de P "__getitem__" 1260 (.ref 786)), (de P "__iter__" 1267 (.ref 793)), (de P "__add__" 1278 (.ref 800)), (de P "__len__" 1285 (.ref 807)), (de P "__eq__" 1293 (.ref 814)), (de P "__repr__" 1300 (.ref 821)), (de P "__static_attributes__" 1304 (.ref 822)), (de P "__dict__" 1306 (.ref 825)), (de P "__weakref__" 1308 (.ref 826)), (de P "__doc__" 1309 .none), (de P "__hash__" 1310 .none)] 5) #[])) ::
  (nat_lit 824, (Obj.mk (.type "type") none (.cls (ClassData.mk (st "Effect") [(.type "object")] [(.ref 824), (.type "object")] 823 (st "Effect") true [] [] false none false)) #[none, none, (some (vs "Effect" 1190)), (some (vs "Effect" 1198)), (some (.builtin "object.__new__")), (some (.bool true))])) ::
  (nat_lit 825, (Obj.mk (.type "getset_descriptor") none (.fields #[(vs "__dict__" 1305), (.ref 824), (.builtin "function.__dict__"), (.builtin "function.__dict__#set")]) #[])) ::
  (nat_lit 826, (Obj.mk (.type "getset_descriptor") none (.fields #[(vs "__weakref__" 1307), (.ref 824), (.builtin "ExceptionGroup.__weakref__"), .none]) #[])) ::
  (nat_lit 829, (Obj.mk (.type "tuple") none (.seq #[] 0) #[])) ::
  (nat_lit 831, (Obj.mk (.type "tuple") none (.seq #[(vs "_law_script" 1318), (vs "_law_k" 1319), (vs "_law_mixed" 1320), (vs "_law_cell_here" 1321)] 0) #[])) ::
  (nat_lit 832, (Obj.mk (.type "tuple") none (.seq #[] 0) #[])) ::
  (nat_lit 834, (Obj.mk (.type "code") none (.fields #[(vs "_law_cell" 1315), (vs "_law_cell" 1316), (vs "/claim/cut.py" 1317), (.int 576 0), (.int 2 0), (.int 0 0), (.int 0 0), (.int 3 0), (.ref 829), (.bool true), (.int 181 0), (.ref 830), .none, (.ref 831), (.ref 832), (.ref 833), (.int 1322 0), (.int 576 0), (vs "/claim/cut.py" 1323)]) #[])) ::
  (nat_lit 835, (Obj.mk (.type "function") none (.func (fnOf (st "_law_cell") (st "_law_cell") (defArgs (tS 72)) (defBody (tS 72)) (defScope (tS 72)) .none .none .none (vs "law_undotables_k29_tables" 1313) none (.ref 834) .none)) #[])) ::
  (nat_lit 836, (Obj.mk (.type "tuple") none (.seq #[] 0) #[])) ::
  (nat_lit 838, (Obj.mk (.type "tuple") none (.seq #[(vs "_law_cell_here" 1328), (vs "_law_digits" 1329)] 0) #[])) ::
  (nat_lit 839, (Obj.mk (.type "tuple") none (.seq #[] 0) #[])) ::
  (nat_lit 841, (Obj.mk (.type "code") none (.fields #[(vs "_law_pool" 1325), (vs "_law_pool" 1326), (vs "/claim/cut.py" 1327), (.int 583 0), (.int 1 0), (.int 0 0), (.int 0 0), (.int 3 0), (.ref 836), (.bool true), (.int 181 0), (.ref 837), .none, (.ref 838), (.ref 839), (.ref 840), (.int 1330 0), (.int 583 0), (vs "/claim/cut.py" 1331)]) #[])) ::
  (nat_lit 842, (Obj.mk (.type "function") none (.func (fnOf (st "_law_pool") (st "_law_pool") (defArgs (tS 73)) (defBody (tS 73)) (defScope (tS 73)) .none .none .none (vs "law_undotables_k29_tables" 1313) none (.ref 841) .none)) #[])) ::
  (nat_lit 843, (Obj.mk (.type "tuple") none (.seq #[] 0) #[])) ::
  (nat_lit 845, (Obj.mk (.type "tuple") none (.seq #[(vs "_law_pool_here" 1336), (vs "_law_many" 1337), (vs "_law_mixed" 1338), (vs "_law_digit" 1339)] 0) #[])) ::
  (nat_lit 846, (Obj.mk (.type "tuple") none (.seq #[] 0) #[])) ::
  (nat_lit 848, (Obj.mk (.type "code") none (.fields #[(vs "_law_draw" 1333), (vs "_law_draw" 1334), (vs "/claim/cut.py" 1335), (.int 586 0), (.int 2 0), (.int 0 0), (.int 0 0), (.int 3 0), (.ref 843), (.bool true), (.int 181 0), (.ref 844), .none, (.ref 845), (.ref 846), (.ref 847), (.int 1340 0), (.int 586 0), (vs "/claim/cut.py" 1341)]) #[])) ::
  (nat_lit 849, (Obj.mk (.type "function") none (.func (fnOf (st "_law_draw") (st "_law_draw") (defArgs (tS 74)) (defBody (tS 74)) (defScope (tS 74)) .none .none .none (vs "law_undotables_k29_tables" 1313) none (.ref 848) .none)) #[])) ::
  (nat_lit 850, (Obj.mk (.type "tuple") none (.seq #[] 0) #[])) ::
  (nat_lit 853, (Obj.mk (.type "code") none (.fields #[(vs "_law_calls" 1343), (vs "_law_calls" 1344), (vs "/claim/cut.py" 1345), (.int 594 0), (.int 2 0), (.int 0 0), (.int 0 0), (.int 3 0), (.ref 850), (.bool true), (.int 181 0), (.ref 851), .none, .none, .none, (.ref 852), (.int 1346 0), (.int 594 0), (vs "/claim/cut.py" 1347)]) #[])) ::
  (nat_lit 854, (Obj.mk (.type "function") none (.func (fnOf (st "_law_calls") (st "_law_calls") (defArgs (tS 75)) (defBody (tS 75)) (defScope (tS 75)) .none .none .none (vs "law_undotables_k29_tables" 1313) none (.ref 853) .none)) #[])) ::
  (nat_lit 855, (Obj.mk (.type "tuple") none (.seq #[] 0) #[])) ::
  (nat_lit 857, (Obj.mk (.type "tuple") none (.seq #[(vs "_law_calls_here" 1352), (vs "_law_at" 1353)] 0) #[])) ::
  (nat_lit 858, (Obj.mk (.type "tuple") none (.seq #[] 0) #[])) ::
  (nat_lit 860, (Obj.mk (.type "code") none (.fields #[(vs "_law_first" 1349), (vs "_law_first" 1350), (vs "/claim/cut.py" 1351), (.int 607 0), (.int 2 0), (.int 0 0), (.int 0 0), (.int 3 0), (.ref 855), (.bool true), (.int 181 0), (.ref 856), .none, (.ref 857), (.ref 858), (.ref 859), (.int 1354 0), (.int 607 0), (vs "/claim/cut.py" 1355)]) #[])) ::
  (nat_lit 861, (Obj.mk (.type "function") none (.func (fnOf (st "_law_first") (st "_law_first") (defArgs (tS 76)) (defBody (tS 76)) (defScope (tS 76)) .none .none .none (vs "law_undotables_k29_tables" 1313) none (.ref 860) .none)) #[])) ::
  (nat_lit 862, (Obj.mk (.type "tuple") none (.seq #[] 0) #[])) ::
  (nat_lit 864, (Obj.mk (.type "tuple") none (.seq #[(vs "_law_pool_here" 1360), (vs "_law_most" 1361)] 0) #[])) ::
  (nat_lit 865, (Obj.mk (.type "tuple") none (.seq #[] 0) #[])) ::
  (nat_lit 867, (Obj.mk (.type "code") none (.fields #[(vs "_law_gap" 1357), (vs "_law_gap" 1358), (vs "/claim/cut.py" 1359), (.int 611 0), (.int 2 0), (.int 0 0), (.int 0 0), (.int 3 0), (.ref 862), (.bool true), (.int 181 0), (.ref 863), .none, (.ref 864), (.ref 865), (.ref 866), (.int 1362 0), (.int 611 0), (vs "/claim/cut.py" 1363)]) #[])) ::
  (nat_lit 868, (Obj.mk (.type "function") none (.func (fnOf (st "_law_gap") (st "_law_gap") (defArgs (tS 77)) (defBody (tS 77)) (defScope (tS 77)) .none .none .none (vs "law_undotables_k29_tables" 1313) none (.ref 867) .none)) #[])) ::
  (nat_lit 869, (Obj.mk (.type "tuple") none (.seq #[] 0) #[])) ::
  (nat_lit 871, (Obj.mk (.type "tuple") none (.seq #[(vs "_law_pool_here" 1368), (vs "_law_dos" 1369), (vs "_law_most" 1370), (vs "_law_many" 1371), (vs "_law_calls_here" 1372), (vs "_law_undone_here" 1373), (vs "_law_found" 1374), (vs "_law_left" 1375), (vs "_law_here" 1376), (vs "_law_before" 1377), (vs "_law_turn" 1378), (vs "_law_what" 1379), (vs "_law_gap_here" 1380), (vs "_law_times" 1381)] 0) #[])) ::
  (nat_lit 872, (Obj.mk (.type "tuple") none (.seq #[] 0) #[])) ::
  (nat_lit 874, (Obj.mk (.type "code") none (.fields #[(vs "_law_tabled" 1365), (vs "_law_tabled" 1366), (vs "/claim/cut.py" 1367), (.int 615 0), (.int 4 0), (.int 0 0), (.int 0 0), (.int 3 0), (.ref 869), (.bool true), (.int 181 0), (.ref 870), .none, (.ref 871), (.ref 872), (.ref 873), (.int 1382 0), (.int 615 0), (vs "/claim/cut.py" 1383)]) #[])) ::
  (nat_lit 875, (Obj.mk (.type "function") none (.func (fnOf (st "_law_tabled") (st "_law_tabled") (defArgs (tS 78)) (defBody (tS 78)) (defScope (tS 78)) .none .none .none (vs "law_undotables_k29_tables" 1313) none (.ref 874) .none)) #[])) ::
  (nat_lit 876, (Obj.mk (.type "tuple") none (.seq #[] 0) #[])) ::
  (nat_lit 878, (Obj.mk (.type "tuple") none (.seq #[(vs "_law_parts_here" 1388), (vs "_law_size_here" 1389), (vs "_law_calls_here" 1390), (vs "_law_undone_here" 1391), (vs "_law_kept_here" 1392), (vs "_law_begin" 1393), (vs "_law_times" 1394), (vs "_law_what" 1395), (vs "_law_many" 1396)] 0) #[])) ::
  (nat_lit 879, (Obj.mk (.type "tuple") none (.seq #[] 0) #[])) ::
  (nat_lit 881, (Obj.mk (.type "code") none (.fields #[(vs "_law_told" 1385), (vs "_law_told" 1386), (vs "/claim/cut.py" 1387), (.int 634 0), (.int 2 0), (.int 0 0), (.int 0 0), (.int 3 0), (.ref 876), (.bool true), (.int 181 0), (.ref 877), .none, (.ref 878), (.ref 879), (.ref 880), (.int 1397 0), (.int 634 0), (vs "/claim/cut.py" 1398)]) #[])) ::
  (nat_lit 882, (Obj.mk (.type "function") none (.func (fnOf (st "_law_told") (st "_law_told") (defArgs (tS 79)) (defBody (tS 79)) (defScope (tS 79)) .none .none .none (vs "law_undotables_k29_tables" 1313) none (.ref 881) .none)) #[])) ::
  (nat_lit 883, (Obj.mk (.type "tuple") none (.seq #[] 0) #[])) ::
  (nat_lit 885, (Obj.mk (.type "tuple") none (.seq #[(vs "_law_number_here" 1403), (vs "_law_shown" 1404)] 0) #[])) ::
  (nat_lit 886, (Obj.mk (.type "tuple") none (.seq #[] 0) #[])) ::
  (nat_lit 888, (Obj.mk (.type "code") none (.fields #[(vs "_law_column" 1400), (vs "_law_column" 1401), (vs "/claim/cut.py" 1402), (.int 645 0), (.int 1 0), (.int 0 0), (.int 0 0), (.int 3 0), (.ref 883), (.bool true), (.int 181 0), (.ref 884), .none, (.ref 885), (.ref 886), (.ref 887), (.int 1405 0), (.int 645 0), (vs "/claim/cut.py" 1406)]) #[])) ::
  (nat_lit 889, (Obj.mk (.type "function") none (.func (fnOf (st "_law_column") (st "_law_column") (defArgs (tS 80)) (defBody (tS 80)) (defScope (tS 80)) .none .none .none (vs "law_undotables_k29_tables" 1313) none (.ref 888) .none)) #[])) ::
  (nat_lit 890, (Obj.mk (.type "tuple") none (.seq #[] 0) #[])) ::
  (nat_lit 892, (Obj.mk (.type "tuple") none (.seq #[(vs "_law_parts_here" 1411), (vs "_law_sizes" 1412), (vs "_law_found" 1413), (vs "_law_size_here" 1414), (vs "_law_kept_here" 1415), (vs "_law_calls_here" 1416), (vs "_law_undone_here" 1417), (vs "_law_shown" 1418)] 0) #[])) ::
  (nat_lit 893, (Obj.mk (.type "tuple") none (.seq #[] 0) #[])) ::
  (nat_lit 895, (Obj.mk (.type "code") none (.fields #[(vs "_law_rows" 1408), (vs "_law_rows" 1409), (vs "/claim/cut.py" 1410), (.int 648 0), (.int 2 0), (.int 0 0), (.int 0 0), (.int 3 0), (.ref 890), (.bool true), (.int 181 0), (.ref 891), .none, (.ref 892), (.ref 893), (.ref 894), (.int 1419 0), (.int 648 0), (vs "/claim/cut.py" 1420)]) #[])) ::
  (nat_lit 896, (Obj.mk (.type "function") none (.func (fnOf (st "_law_rows") (st "_law_rows") (defArgs (tS 81)) (defBody (tS 81)) (defScope (tS 81)) .none .none .none (vs "law_undotables_k29_tables" 1313) none (.ref 895) .none)) #[])) ::
  (nat_lit 897, (Obj.mk (.type "tuple") none (.seq #[] 0) #[])) ::
  (nat_lit 899, (Obj.mk (.type "tuple") none (.seq #[(vs "_law_pool_here" 1425), (vs "_law_near" 1426)] 0) #[])) ::
  (nat_lit 900, (Obj.mk (.type "tuple") none (.seq #[] 0) #[])) ::
  (nat_lit 902, (Obj.mk (.type "code") none (.fields #[(vs "_law_size" 1422), (vs "_law_size" 1423), (vs "/claim/cut.py" 1424), (.int 655 0), (.int 1 0), (.int 0 0), (.int 0 0), (.int 3 0), (.ref 897), (.bool true), (.int 181 0), (.ref 898), .none, (.ref 899), (.ref 900), (.ref 901), (.int 1427 0), (.int 655 0), (vs "/claim/cut.py" 1428)]) #[])) ::
  (nat_lit 903, (Obj.mk (.type "function") none (.func (fnOf (st "_law_size") (st "_law_size") (defArgs (tS 82)) (defBody (tS 82)) (defScope (tS 82)) .none .none .none (vs "law_undotables_k29_tables" 1313) none (.ref 902) .none)) #[])) ::
  (nat_lit 904, (Obj.mk (.type "tuple") none (.seq #[] 0) #[])) ::
  (nat_lit 907, (Obj.mk (.type "code") none (.fields #[(vs "_law_right" 1430), (vs "_law_right" 1431), (vs "/claim/cut.py" 1432), (.int 658 0), (.int 1 0), (.int 0 0), (.int 0 0), (.int 3 0), (.ref 904), (.bool true), (.int 181 0), (.ref 905), .none, .none, .none, (.ref 906), (.int 1433 0), (.int 658 0), (vs "/claim/cut.py" 1434)]) #[])) ::
  (nat_lit 908, (Obj.mk (.type "function") none (.func (fnOf (st "_law_right") (st "_law_right") (defArgs (tS 83)) (defBody (tS 83)) (defScope (tS 83)) .none .none .none (vs "law_undotables_k29_tables" 1313) none (.ref 907) .none)) #[])) ::
  (nat_lit 909, (Obj.mk (.type "tuple") none (.seq #[] 0) #[])) ::
  (nat_lit 912, (Obj.mk (.type "code") none (.fields #[(vs "law" 1436), (vs "law" 1437), (vs "/claim/cut.py" 1438), (.int 668 0), (.int 1 0), (.int 0 0), (.int 0 0), (.int 3 0), (.ref 909), (.bool true), (.int 181 0), (.ref 910), .none, .none, .none, (.ref 911), (.int 1439 0), (.int 668 0), (vs "/claim/cut.py" 1440)]) #[])) ::
  (nat_lit 913, (Obj.mk (.type "function") none (.func (fnOf (st "law") (st "law") (defArgs (tS 84)) (defBody (tS 84)) (defScope (tS 84)) .none .none .none (vs "law_undotables_k29_tables" 1313) none (.ref 912) .none)) #[])) :: []
def KA : List Addr := [2, 3, 15, 17, 18, 20, 21, 22, 29, 30, 31, 32, 35, 42, 44, 45, 47, 48, 49, 50, 51, 54, 61, 63, 64, 66, 67, 68, 69, 70, 73, 80, 82, 83, 85, 86, 87, 88, 89, 92, 99, 101, 102, 104, 105, 106, 107, 108, 111, 118, 120, 121, 123, 124, 125, 126, 127, 130, 137, 139, 140, 142, 143, 144, 145, 146, 149, 156, 158, 159, 161, 162, 163, 164, 165, 168, 175, 177, 178, 180, 181, 182, 183, 184, 187, 194, 196, 197, 199, 200, 201, 202, 203, 206, 213, 215, 216, 218, 219, 220, 221, 222, 225, 227, 228, 230, 231, 232, 234, 235, 237, 238, 239, 241, 242, 244, 245, 246, 248, 249, 251, 252, 253, 255, 256, 258, 259, 260, 262, 263, 265, 266, 267, 269, 270, 272, 273, 274, 276, 277, 279, 280, 288, 289, 290, 291, 293, 294, 296, 297, 298, 300, 301, 303, 304, 305, 306, 307, 308, 310, 311, 313, 314, 315, 316, 318, 319, 321, 322, 323, 324, 326, 327, 329, 330, 331, 332, 334, 335, 337, 338, 339, 341, 342, 344, 345, 346, 348, 349, 351, 352, 353, 355, 356, 358, 359, 360, 362, 363, 365, 366, 367, 369, 370, 372, 373, 374, 375, 376, 377, 378, 381, 383, 384, 386, 387, 388, 390, 391, 393, 394, 395, 398, 399, 400, 403, 404, 405, 407, 408, 410, 411, 412, 414, 415, 417, 418, 419, 421, 422, 424, 425, 426, 428, 429, 431, 432, 433, 435, 436, 438, 439, 440, 443, 444, 445, 447, 448, 450, 451, 452, 454, 455, 457, 458, 466, 467, 468, 470, 471, 473, 474, 475, 477, 478, 480, 481, 482, 483, 484, 485, 487, 488, 490, 491, 492, 493, 494, 495, 498, 499, 500, 501, 503, 504, 506, 507, 508, 510, 511, 513, 514, 515, 517, 518, 520, 521, 522, 524, 525, 527, 528, 529, 531, 532, 534, 535, 536, 538, 539, 541, 542, 543, 546, 547, 548, 550, 551, 553, 554, 555, 556, 557, 558, 559, 562, 564, 565, 567, 568, 569, 571, 572, 574, 575, 576, 578, 579, 581, 582, 583, 585, 586, 588, 589, 590, 592, 593, 595, 596, 597, 599, 600, 602, 603, 604, 607, 608, 609, 611, 612, 614, 615, 616, 618, 619, 621, 622, 623, 625, 626, 628, 629, 630, 633, 634, 635, 638, 639, 640, 642, 643, 645, 646, 647, 649, 650, 652, 653, 654, 657, 658, 659, 661, 662, 664, 665, 666, 669, 670, 671, 673, 674, 676, 677, 678, 680, 681, 683, 684, 685, 687, 688, 690, 691, 692, 694, 695, 697, 698, 699, 701, 702, 704, 705, 706, 708, 709, 711, 712, 713, 715, 716, 718, 719, 720, 722, 723, 725, 726, 727, 729, 730, 732, 733, 734, 736, 737, 739, 740, 748, 749, 750, 751, 753, 754, 756, 757, 758, 760, 761, 763, 764, 765, 767, 768, 770, 771, 772, 773, 775, 776, 778, 779, 780, 782, 783, 785, 786, 787, 789, 790, 792, 793, 794, 796, 797, 799, 800, 801, 803, 804, 806, 807, 808, 810, 811, 813, 814, 815, 817, 818, 820, 821, 822, 823, 824, 825, 826, 829, 831, 832, 834, 835, 836, 838, 839, 841, 842, 843, 845, 846, 848, 849, 850, 853, 854, 855, 857, 858, 860, 861, 862, 864, 865, 867, 868, 869, 871, 872, 874, 875, 876, 878, 879, 881, 882, 883, 885, 886, 888, 889, 890, 892, 893, 895, 896, 897, 899, 900, 902, 903, 904, 907, 908, 909, 912, 913]
def TB : List Addr := []
noncomputable def QQ : Program := { pw with main := { pw.main with body := [tS 84] } }
def lo : List Str := [st "_wall", st "UndoError", st "InvalidName", st "InvalidNames", st "InvalidAmount", st "InvalidProgram", st "InvalidText", st "InvalidLength", st "InvalidCount", st "InvalidChanges", st "NotAHistory", st "NotAProgram", st "LONGEST_NAME", st "is_integer", st "is_name", st "is_amount", st "check_name", st "check_names", st "check_amount", st "number_moved", st "history_with", st "History", st "check_history", st "BEFORE_STEPS", st "AFTER_STEPS", st "is_step", st "is_repeat", st "command_text", st "number_in", st "step_in", st "repeat_in", st "command_in", st "place_after_steps", st "shift_of_steps", st "place_after_repeat", st "place_after", st "Program", st "program_of", st "check_program", st "check_length", st "runs_of", st "first_alike", st "changes_of", st "state_of", st "turned", st "apart", st "woven", st "losses_after_do", st "sum_of_amounts", st "shortened", st "is_between", st "steps_of_repeat", st "turned_by_all", st "state_after_do", st "with_indexes", st "parts_after_state", st "parts_after", st "check_undone_count", st "is_run", st "is_loss", st "is_change", st "can_follow", st "check_changes", st "word_of", st "Effect", st "_law_cell", st "_law_pool", st "_law_draw", st "_law_calls", st "_law_first", st "_law_gap", st "_law_tabled", st "_law_told", st "_law_column", st "_law_rows", st "_law_size", st "_law_right"]
theorem eKA : ∀ P, KA = (KK P).map (·.1) := fun P => by kernel_rfl
noncomputable def pf {α β : Type} (x : α × β) : α := @Prod.rec α β (fun _ => α) (fun a _ => a) x
noncomputable def ps {α β : Type} (x : α × β) : β := @Prod.rec α β (fun _ => β) (fun _ b => b) x
section
variable {α β γ : Type} {E : Option α}
theorem both {f : α → β} {g : α → γ} {b : β} {c : γ} (h1 : E.map f = some b) (h2 : E.map g = some c) : (E.map fun s => (f s, g s)) = some (b, c) := by
  cases E with
  | none => cases h1
  | some s =>
    cases h1
    cases h2
    rfl
theorem fst_of {f : α → β} {g : α → γ} {b : β} {c : γ} (h : (E.map fun s => (f s, g s)) = some (b, c)) : E.map f = some b := by
  cases E with
  | none => cases h
  | some s =>
    cases h
    rfl
theorem snd_of {f : α → β} {g : α → γ} {b : β} {c : γ} (h : (E.map fun s => (f s, g s)) = some (b, c)) : E.map g = some c := by
  cases E with
  | none => cases h
  | some s =>
    cases h
    rfl
theorem pair_of {X : α → β × γ} {g : β × γ} (h1 : (E.map fun s => pf (X s)) = some g.1) (h2 : (E.map fun s => ps (X s)) = some g.2) : E.map X = some g := by
  cases E with
  | none => cases h1
  | some s =>
    have e1 : (X s).1 = g.1 := Option.some.inj h1
    have e2 : (X s).2 = g.2 := Option.some.inj h2
    exact congrArg some (Prod.ext e1 e2)
end
noncomputable def EE (w : World) (os : OsState) : Option SharedT := endF (stepQ (denQ tabQ) pw w) 13870 pw w os
noncomputable abbrev XX (s : SharedT) := seenQ QQ lo (importedModules pw.main.body) (fun s => xlAt QQ [] s && recOk [] s) s.abs
noncomputable abbrev GG := openGood QQ lo
theorem c1 (w : World) (os : OsState) : ((EE w os).map fun s => pf (XX s)) = some GG.1 := by kernel_rfl
theorem c23 (w : World) (os : OsState) : ((EE w os).map fun s => (pf (ps (XX s)), pf (ps (ps (XX s))))) = some (GG.2.1, GG.2.2.1) := by kernel_rfl
theorem c47 (w : World) (os : OsState) : ((EE w os).map fun s => (pf (ps (ps (ps (XX s)))), pf (ps (ps (ps (ps (ps (ps (XX s))))))))) = some (GG.2.2.2.1, GG.2.2.2.2.2.2.1) := by kernel_rfl
theorem c58 (w : World) (os : OsState) : ((EE w os).map fun s => (pf (ps (ps (ps (ps (XX s))))), pf (ps (ps (ps (ps (ps (ps (ps (XX s)))))))))) = some (GG.2.2.2.2.1, GG.2.2.2.2.2.2.2.1) := by kernel_rfl
theorem c6 (w : World) (os : OsState) : ((EE w os).map fun s => pf (ps (ps (ps (ps (ps (XX s))))))) = some GG.2.2.2.2.2.1 := by kernel_rfl
theorem c9 (w : World) (os : OsState) : ((EE w os).map fun s => (ps (ps (ps (ps (ps (ps (ps (ps (XX s)))))))), looksF pw (boot_heap w.params) s.abs)) = some (GG.2.2.2.2.2.2.2.2, true) := by kernel_rfl
theorem cK (w : World) (os : OsState) : ((EE w os).map fun s => KA.map (getT s)) = some ((KK w.params).map fun x => some x.2) := by kernel_rfl
theorem cX (w : World) (os : OsState) : (EE w os).map XX = some GG :=
  pair_of (c1 w os) (pair_of (fst_of (c23 w os)) (pair_of (snd_of (c23 w os)) (pair_of (fst_of (c47 w os)) (pair_of (fst_of (c58 w os)) (pair_of (c6 w os) (pair_of (snd_of (c47 w os)) (pair_of (snd_of (c58 w os)) (fst_of (c9 w os)))))))))
theorem left : LeftO pw QQ lo (fun s => xlAt QQ [] s && recOk [] s) (kHook KK KA eKA).obs (kHook KK KA eKA).val 14570 :=
  left_one (M := 13870) (by kernel_rfl) (by rfl) (fun s => by kernel_rfl) (by rfl) fun w os => by
    have z := both (snd_of (c9 w os)) (both (cX w os) (cK w os))
    have eo : ∀ s : SharedT, (kHook KK KA eKA).obs s.abs = KA.map (getT s)
      := fun s => by
      have q : ∀ l : List Addr, l.map (getT s) = l.map s.abs.heap.get? := fun l => List.map_congr_left fun a _ => getT_eq s a
      rw [q KA]
      rfl
    simp only [endQ_eq, seenQ_eq, eo]
    exact z
end HdU
namespace Und
open PySem PySem.Spec PyProof.Rows L2

/-! ### the heap without the pool at p -/
def hid (p : Addr) (H : Hp) : Hp := fun b => if b = p then none else H b
theorem hid_same (p : Addr) (H : Hp) : Same (hid p H) H := fun b o e => by
  unfold hid at e
  by_cases h : b = p
  · rw [if_pos h] at e
    cases e
  · rw [if_neg h] at e
    exact e
theorem hid_ne {p : Addr} {H : Hp} {b : Addr} (h : b ≠ p) : hid p H b = H b := by
  unfold hid
  rw [if_neg h]
theorem hid_mono {p : Addr} {H H' : Hp} (s : Same H H') : Same (hid p H) (hid p H') := fun b o e => by
  unfold hid at e ⊢
  by_cases h : b = p
  · rw [if_pos h] at e
    cases e
  · rw [if_neg h] at e ⊢
    exact s b o e
theorem same_new {H : Hp} {p : Addr} {o : HO} (h : H p = none) : Same H (upd H p o) := fun b x e => by
  rw [upd_ne (ne_of_none e h)]
  exact e
/-- what changes is the pool alone -/
theorem hid_upd {p : Addr} {H : Hp} {o : HO} : Same (hid p H) (hid p (upd H p o)) := fun b x e => by
  unfold hid at e ⊢
  by_cases h : b = p
  · rw [if_pos h] at e
    cases e
  · rw [if_neg h] at e ⊢
    rw [upd_ne h]
    exact e
theorem same_seqT {K : PySem.W.Frag} {H H' : Hp} {a : Addr} {xs : List V} (e : Same H H') (h : SqT K H a xs) : SqT K H' a xs := by
  rcases h with (h | ⟨o, h⟩) | h
  · exact .inl (.inl (e _ _ h))
  · exact .inl (.inr ⟨o, e _ _ h⟩)
  · exact .inr h

theorem cut_ints (ns : List Int) (lo hi : Option Int) : ∃ ms : List Int, cutV (ns.map V.int) lo hi = ms.map V.int := by
  unfold cutV
  simp only [← List.map_drop, ← List.map_take]
  exact ⟨_, rfl⟩
theorem int_at {ns : List Int} {i : Nat} {x : V} (h : (ns.map V.int)[i]? = some x) : ∃ z, x = .int z := by
  rw [List.getElem?_map] at h
  cases e : ns[i]? with
  | none =>
    rw [e] at h
    cases h
  | some z =>
    rw [e] at h
    exact ⟨z, (Option.some.inj h).symm⟩

/-! ### the pool -/
/-- three ints that a draw leaves in their bounds -/
def Pool (H : Hp) (p : Addr) : Prop := ∃ a b c : Int, H p = some (.lst [.int a, .int b, .int c]) ∧ 0 ≤ a ∧ a < 2147483477 ∧ 0 ≤ b
theorem Pool.same {H H' : Hp} {p : Addr} (s : Same H H') (h : Pool H p) : Pool H' p := by
  obtain ⟨a, b, c, e, r⟩ := h
  exact ⟨a, b, c, s _ _ e, r⟩
/-- from H to H' the pool alone was drawn from; new objects may stand -/
structure Stp (p : Addr) (H H' : Hp) : Prop where
  s : Same (hid p H) (hid p H')
  q : Pool H' p
theorem Stp.trans {p : Addr} {H H1 H2 : Hp} (a : Stp p H H1) (b : Stp p H1 H2) : Stp p H H2 := ⟨a.s.trans b.s, b.q⟩
theorem Stp.of {p : Addr} {H H1 : Hp} (q : Pool H p) (s : Same H H1) : Stp p H H1 := ⟨hid_mono s, q.same s⟩
theorem Stp.refl {p : Addr} {H : Hp} (q : Pool H p) : Stp p H H := ⟨Same.refl _, q⟩

section
variable {P : Program} {w : World} {K : PySem.W.Frag} {mg : Str → Option Value} {base : Heap}

/-- a def of the top, by its name -/
structure FD (K : PySem.W.Frag) (mg : Str → Option Value) (x : Str) (st : Stmt) (ps : List Str) (f : Addr) (fd : FuncData) : Prop where
  F : Fun K x x st f fd
  m : mg x = some (.ref f)
  b : Binds K fd ps []
end

section
variable {X : Cx}
/-- f(e, ..) -/
theorem pcall {CX : CXT} {k : Nat} {x : Str} {st : Stmt} {ps : List Str} {f : Addr} {fd : FuncData} {sp : Sp} {E : XK} {e : Expr} {es : List Expr} {t : TA} {p pos : Pos} (D : FD X.K X.mg x st ps f fd) (G : FnOk X.prog X.w X.K X.mg X.base CX k f fd ps sp) (hr : Room k X.A) (hg : Gl X x) (hx : Passes CX X E)
    (ha : PA X (e :: es) t) (hdb : (x == ("__debug__" : Str)) = false := by decide) (he : starEach (e :: es) X.env = (false, eval e X.env) :: starEach es X.env := by rfl) (hpl : (backTo pos (starEach es X.env)).any (·.1) = false := by rfl) :
    PE X (.Call (.Name x p) (e :: es) [] pos) (tCall sp [] E t) := pe_call G hr hg D.m D.F.kp D.b .nil hx ha hdb he hpl
end

/-! ### readings, a step at a time -/
section
variable {K : PySem.W.Frag} {σ : L2.St} {H : Hp} {Q : VK} {D : Ends} {i : Nat} {v x y : V} {ta tb tc te : TE} {t1 t2 ts : TS} {b : Bool}
theorem c_seq (h : t1 { D with nx := t2 D } σ H) : tSeq t1 t2 D σ H := h
theorem c_next (h : D.nx σ H) : tNext D σ H := h
theorem c_asg (h : te σ H fun v H1 => D.nx (σ.set i (some v)) H1) : tAsg te (gName i) D σ H := h
theorem c_asg2 {g : TG} (h : te σ H fun x H1 => g x σ H1 D.nx) : tAsg te g D σ H := h
theorem c_yes {Q : Bool → Hp → Prop} (h : Q true H) : tYes σ H Q := h
theorem c_eq (h : scal x y = true) (q : Q (.bl (decide (x = y))) H) : rEq x y H Q := ⟨h, q⟩
theorem c_neq (h : scal x y = true) (q : Q (.bl (!decide (x = y))) H) : rNe x y H Q := ⟨h, q⟩
theorem c_par {i j : Nat} {t : TA} (h : t σ H fun vs H1 => ∃ v w, vs = [v, w] ∧ D.nx ((σ.set i (some v)).set j (some w)) H1) : tPar i j t D σ H := h
theorem c_two {R : V → V → Prop} (h : R x y) : ∃ v w, [x, y] = [v, w] ∧ R v w := ⟨x, y, rfl, h⟩
theorem c_g {Q : L2.St → Hp → Prop} (h : Q (σ.set i (some v)) H) : gName i v σ H Q := h
theorem c_ret (h : te σ H D.rt) : tRet te D σ H := h
theorem c_drop (h : te σ H fun _ H1 => D.nx σ H1) : tDrop te D σ H := h
theorem c_var (e : σ[i]? = some (some v)) (h : Q v H) : tVar i σ H Q := ⟨v, e, h⟩
theorem c_c (h : Q v H) : tC v σ H Q := h
theorem c_op {r : R2} (h : ta σ H fun x H1 => tb σ H1 fun y H2 => r x y H2 Q) : tOp r ta tb σ H Q := h
theorem c_un {r : V → Hp → VK → Prop} (h : ta σ H fun x H1 => r x H1 Q) : tUn r ta σ H Q := h
theorem c_I0 {g : Int → Int → V} {i j : Int} (h : Q (g i j) H) : rI0 g (.int i) (.int j) H Q := ⟨i, j, rfl, rfl, h⟩
theorem c_I {C : Int → Int → Prop} {g : Int → Int → V} {i j : Int} (c : C i j) (h : Q (g i j) H) : rI C g (.int i) (.int j) H Q := ⟨i, j, rfl, rfl, c, h⟩
theorem c_test {Q : Bool → Hp → Prop} (h : te σ H fun x H' => ∃ k, x = .bl k ∧ Q k H') : tTest te σ H Q := h
theorem c_B {Q : Bool → Hp → Prop} (h : te σ H fun x H' => ∃ k, x = .bl k ∧ Q k H') : tB te σ H Q := h
theorem c_bl {Q : Bool → Prop} (h : Q b) : ∃ k, V.bl b = .bl k ∧ Q k := ⟨b, rfl, h⟩
theorem c_ifs {c : TT} (h : c σ H fun b H1 => if b = true then t1 D σ H1 else t2 D σ H1) : tIfS c t1 t2 D σ H := h
theorem c_ife {c : TT} (h : c σ H fun b H1 => if b = true then ta σ H1 Q else tb σ H1 Q) : tIf c ta tb σ H Q := h
theorem c_andV (h : ta σ H fun x H1 => ∃ c, x = .bl c ∧ if c = true then tb σ H1 Q else Q (.bl false) H1) : tAndV ta tb σ H Q := h
theorem c_orV (h : ta σ H fun x H1 => ∃ c, x = .bl c ∧ if c = true then Q (.bl true) H1 else tb σ H1 Q) : tOrV ta tb σ H Q := h
theorem c_notV (h : ta σ H fun x H1 => ∃ c, x = .bl c ∧ Q (.bl (!c)) H1) : tNotV ta σ H Q := h
theorem c_and {t u : TT} {Q : Bool → Hp → Prop} (h : t σ H fun c H1 => if c = true then u σ H1 Q else Q false H1) : tAnd t u σ H Q := h
theorem c_or {t u : TT} {Q : Bool → Hp → Prop} (h : t σ H fun c H1 => if c = true then Q true H1 else u σ H1 Q) : tOr t u σ H Q := h
theorem c_not {t : TT} {Q : Bool → Hp → Prop} (h : t σ H fun c H1 => Q (!c) H1) : tNot t σ H Q := h
theorem c_call {sp : Sp} {dvs : List V} {E : XK} {t : TA} (h : t σ H fun vs H1 => sp (vs ++ dvs) H1 Q E) : tCall sp dvs E t σ H Q := h
theorem c_cb {r : List V → Hp → VK → Prop} {t : TA} (h : t σ H fun vs H1 => r vs H1 Q) : tCB r t σ H Q := h
theorem c_nil {Q : List V → Hp → Prop} (h : Q [] H) : tNil σ H Q := h
theorem c_cons {t : TA} {Q : List V → Hp → Prop} (h : te σ H fun x H1 => t σ H1 fun xs H2 => Q (x :: xs) H2) : tCons te t σ H Q := h
def rNewT (xs : List V) (H : Hp) (Q : VK) : Prop := xs.length ≤ sizeLine ∧ ∀ p, H p = none → Q (.ref p) (upd H p (.tup xs))
def rNewL (xs : List V) (H : Hp) (Q : VK) : Prop := xs.length ≤ sizeLine ∧ ∀ p, H p = none → Q (.ref p) (upd H p (.lst xs))
theorem c_tup {t : TA} (h : t σ H fun xs H1 => rNewT xs H1 Q) : tTup t σ H Q := h
theorem c_lst {t : TA} (h : t σ H fun xs H1 => rNewL xs H1 Q) : tLst t σ H Q := h
theorem sz {n : Nat} (h : n ≤ 100000) : n ≤ sizeLine := Nat.le_trans h (by decide)
theorem szl {n : Nat} (h : n < 100000) : n < sizeLine := Nat.lt_of_lt_of_le h (by decide)
theorem c_ixL {a : Addr} {xs : List V} {k : Int} (e : SqL K H a xs) (j : Nat) (hk : k = (j : Int)) (hv : xs[j]? = some v) (h : Q v H) : rIxL K (.ref a) (.int k) H Q := ⟨a, xs, k, v, rfl, rfl, e, at_of hk hv, h⟩
theorem c_ixT {a : Addr} {xs : List V} {k : Int} (e : SqT K H a xs) (j : Nat) (hk : k = (j : Int)) (hv : xs[j]? = some v) (h : Q v H) : rIxT K (.ref a) (.int k) H Q := ⟨a, xs, k, v, rfl, rfl, e, at_of hk hv, h⟩
theorem c_gsub {to ti : TE} {t : TSet} {Q : L2.St → Hp → Prop} (h : to σ H fun o H1 => ti σ H1 fun i H2 => t o i v H2 fun H3 => Q σ H3) : gSub to ti t v σ H Q := h
theorem c_gtup {a : Addr} {xs : List V} {n : Nat} {t : TGs} {Q : L2.St → Hp → Prop} (e : SqT K H a xs) (hn : xs.length = n) (h : t xs σ H Q) : gTup K n t (.ref a) σ H Q := ⟨a, xs, rfl, e, hn, h⟩
theorem c_gcons {r : List V} {t : TG} {u : TGs} {Q : L2.St → Hp → Prop} (h : t v σ H fun σ' H' => u r σ' H' Q) : gCons t u (v :: r) σ H Q := ⟨v, r, rfl, h⟩
theorem c_gnil {Q : L2.St → Hp → Prop} (h : Q σ H) : gNil [] σ H Q := ⟨rfl, h⟩
theorem c_setL {a : Addr} {xs : List V} {k : Int} {Q : Hp → Prop} (e : H a = some (.lst xs)) (j : Nat) (hk : ixN xs.length k = some j) (h : Q (upd H a (.lst (xs.set j v)))) : rSetL (.ref a) (.int k) v H Q := ⟨a, xs, k, j, rfl, rfl, e, hk, h⟩
theorem c_newT {xs : List V} (z : xs.length ≤ 100000) (h : ∀ p H2, H p = none → Same H H2 → H2 p = some (.tup xs) → Q (.ref p) H2) : rNewT xs H Q := ⟨sz z, fun p np => h p _ np (same_new np) upd_same⟩
theorem c_newL {xs : List V} (z : xs.length ≤ 100000) (h : ∀ p H2, H p = none → Same H H2 → H2 p = some (.lst xs) → Q (.ref p) H2) : rNewL xs H Q := ⟨sz z, fun p np => h p _ np (same_new np) upd_same⟩
theorem c_slL {a : Addr} {xs : List V} {lo hi : Option Int} (e : SqL K H a xs) (h : ∀ p H2, H p = none → Same H H2 → H2 p = some (.lst (cutV xs lo hi)) → Q (.ref p) H2) : rSlL K (.ref a) lo hi H Q :=
  ⟨a, xs, rfl, e, fun p np => h p _ np (same_new np) upd_same⟩
theorem c_sl {r : V → Option Int → Option Int → Hp → VK → Prop} {tl th : TO} (h : te σ H fun x H1 => tl σ H1 fun l H2 => th σ H2 fun u H3 => r x l u H3 Q) : tSl r te tl th σ H Q := h
theorem c_nop {Q : Option Int → Hp → Prop} (h : Q none H) : tNoPart σ H Q := h
theorem c_part {Q : Option Int → Hp → Prop} (h : te σ H fun x H1 => ∃ i, x = .int i ∧ Q (some i) H1) : tPart te σ H Q := h
theorem c_int {i : Int} {Q : Int → Prop} (h : Q i) : ∃ j, V.int i = .int j ∧ Q j := ⟨i, rfl, h⟩
def rFld (K : PySem.W.Frag) (f : Str) (x : V) (H : Hp) (Q : VK) : Prop := ∃ a C dx fs v, x = .ref a ∧ H a = some (.ins C dx fs) ∧ Cls K C ∧ NoAttr K C f ∧ fs.lookup f = some v ∧ Q v H
theorem c_fld {f : Str} (h : ta σ H fun x H1 => rFld K f x H1 Q) : tFld K ta f σ H Q := h
theorem c_for {wi : TI} {g : TG} {tb : TS} (h : wi σ H fun J H1 => ∃ W : Nat → Nat → L2.St → Hp → Prop, (∃ m, W 0 m σ H1) ∧ ∀ i m σ H, W i m σ H →
  (J.stop i H ∧ D.nx σ H) ∨ (J.go i H ∧ ∃ N : L2.St → Hp → Prop, (∀ σ' H', N σ' H' → ∃ m', m' < m ∧ W (i + 1) m' σ' H') ∧ ∀ x H', J.yld i H x H' → g x σ H' fun σ2 H2 => tb { D with nx := N, ct := N, bk := D.nx } σ2 H2)) : tFor wi g tb D σ H := h
theorem c_ilist {tl : TE} {R : It → Hp → Prop} (h : tl σ H fun x H1 => ∃ a, x = .ref a ∧ (∃ xs, SqL K H1 a xs) ∧ R (Itl K a) H1) : iList K tl σ H R := h
theorem c_itup {tl : TE} {R : It → Hp → Prop} (h : tl σ H fun x H1 => ∃ a, x = .ref a ∧ (∃ xs, SqT K H1 a xs) ∧ R (Itt K a) H1) : iTup K tl σ H R := h
theorem c_irng1 {t : TA} {R : It → Hp → Prop} (h : t σ H fun vs H1 => ∃ j : Int, vs = [.int j] ∧ -(2 ^ 62) ≤ j ∧ j < 2 ^ 62 ∧ R (Itr 0 j.toNat) H1) : iRng1 t σ H R := h
theorem c_lc {wi : TI} {g : TG} {tt : TT} {vs : List Nat} (h : wi σ H fun J H1 => ∀ D, H1 D = none → ∃ W : Nat → Nat → Hp → Prop, (∃ m, W 0 m (upd H1 D (.lst []))) ∧ ∀ i m H, W i m H →
  (J.stop i H ∧ Q (.ref D) H) ∨ (J.go i H ∧ ∃ Nx : Hp → Prop, (∀ H', Nx H' → ∃ m', m' < m ∧ W (i + 1) m' H') ∧ ∀ x H', J.yld i H x H' → g x (wipe σ vs) H' fun σ2 H2 => wipe σ2 vs = wipe σ vs ∧ tt σ2 H2 fun b H3 =>
    if b = true then te σ2 H3 fun y H4 => ∃ acc, H4 D = some (.lst acc) ∧ acc.length < sizeLine ∧ Nx (upd H4 D (.lst (acc ++ [y]))) else Nx H3)) : tLc wi g tt te vs σ H Q := h
end

/-! ### comprehensions that keep all items -/
theorem Stp.mut {p D : Addr} {H1 H4 : Hp} {o : HO} (s : Stp p H1 H4) (nD : H1 D = none) (ne : p ≠ D) : Stp p H1 (upd H4 D o) := by
  refine ⟨fun b u e => ?_, ?_⟩
  · have e4 := s.s b u e
    unfold hid at e e4 ⊢
    by_cases h : b = p
    · rw [if_pos h] at e
      cases e
    · rw [if_neg h] at e e4 ⊢
      rw [upd_ne (ne_of_none e nD)]
      exact e4
  · obtain ⟨a, b, c, e, r⟩ := s.q
    exact ⟨a, b, c, by rw [upd_ne ne]; exact e, r⟩
theorem Same.mut {D : Addr} {H1 H4 : Hp} {o : HO} (s : Same H1 H4) (nD : H1 D = none) : Same H1 (upd H4 D o) := fun b u e => by
  rw [upd_ne (ne_of_none e nD)]
  exact s b u e
theorem Stp.at {p a : Addr} {H H' : Hp} {o : HO} (s : Stp p H H') (e : H a = some o) (ne : p ≠ a) : H' a = some o := by
  have h := s.s a o ((hid_ne ne.symm).trans e)
  rwa [hid_ne ne.symm] at h
theorem Pool.ne {p D : Addr} {H : Hp} (q : Pool H p) (n : H D = none) : p ≠ D := by
  obtain ⟨a, b, c, e, _⟩ := q
  exact ne_of_none e n
/-- what the list of a comprehension holds so far -/
def Acc (R : Nat → V → Prop) (D : Addr) (i : Nat) (H : Hp) : Prop := ∃ xs, H D = some (.lst xs) ∧ xs.length = i ∧ ∀ j y, xs[j]? = some y → R j y
theorem Acc.put {R : Nat → V → Prop} {D : Addr} {i : Nat} {H : Hp} {xs : List V} {y : V} (l : xs.length = i) (h : ∀ j y, xs[j]? = some y → R j y) (r : R i y) : Acc R D (i + 1) (upd H D (.lst (xs ++ [y]))) := by
  refine ⟨_, upd_same, by rw [List.length_append, l]; rfl, fun j z e => ?_⟩
  by_cases hj : j < xs.length
  · rw [List.getElem?_append_left hj] at e
    exact h j z e
  · rw [List.getElem?_append_right (by omega)] at e
    have h0 : j - xs.length = 0 := by
      by_cases h0 : j - xs.length = 0
      · exact h0
      · rw [List.getElem?_eq_none (by show 1 ≤ _; omega)] at e
        cases e
    rw [h0] at e
    have ej : j = i := by omega
    have ey : y = z := Option.some.inj e
    rw [ej, ← ey]
    exact r
abbrev LcW (J : It) (te : TE) (g : TG) (tt : TT) (vs : List Nat) (σ : L2.St) (H1 : Hp) (D : Addr) (Q : Hp → Prop) : Prop := ∃ W : Nat → Nat → Hp → Prop, (∃ m, W 0 m (upd H1 D (.lst []))) ∧ ∀ i m H, W i m H →
      (J.stop i H ∧ Q H) ∨ (J.go i H ∧ ∃ Nx : Hp → Prop, (∀ H', Nx H' → ∃ m', m' < m ∧ W (i + 1) m' H') ∧ ∀ x H', J.yld i H x H' → g x (wipe σ vs) H' fun σ2 H2 => wipe σ2 vs = wipe σ vs ∧ tt σ2 H2 fun b H3 =>
        if b = true then te σ2 H3 fun y H4 => ∃ acc, H4 D = some (.lst acc) ∧ acc.length < sizeLine ∧ Nx (upd H4 D (.lst (acc ++ [y]))) else Nx H3)
section
variable {K : PySem.W.Frag} {te : TE} {i0 n : Nat} {vs : List Nat} {σ : L2.St} {H1 : Hp} {D p a : Addr} {Qd : Hp → Prop} {ys : List V}
/-- over range(n), draws on the way -/
theorem lc_rgP (R : Nat → V → Prop) (pool : Pool H1 p) (nD : H1 D = none) (hn : n ≤ 100000) (hw : ∀ v, wipe ((wipe σ vs).set i0 (some v)) vs = wipe σ vs)
    (hs : ∀ i H (Q' : VK), i < n → Stp p H1 H → (∀ y H4, Stp p H H4 → R i y → Q' y H4) → te ((wipe σ vs).set i0 (some (.int (i : Int)))) H Q')
    (hd : ∀ H xs, Stp p H1 H → H D = some (.lst xs) → xs.length = n → (∀ i y, xs[i]? = some y → R i y) → Qd H) : LcW (Itr 0 n) te (gName i0) tYes vs σ H1 D Qd := by
  have ne := pool.ne nD
  refine lc_range (fun i H => Stp p H1 H ∧ Acc R D i H) ⟨Stp.of pool (same_new nD), [], upd_same, rfl, fun j y e => by simp at e⟩ (fun i H hi h => ?_) (fun H h => ?_)
  · obtain ⟨st, xs, e, l, r⟩ := h
    refine ⟨hw _, c_yes ?_⟩
    rw [if_pos rfl]
    rw [Int.zero_add]
    exact hs i H _ hi st fun y H4 s4 ry => ⟨xs, s4.at e ne, szl (by omega), (st.trans s4).mut nD ne, Acc.put l r ry⟩
  · obtain ⟨st, xs, e, l, r⟩ := h
    exact hd H xs st e l r
/-- over range(n) -/
theorem lc_rg (R : Nat → V → Prop) (nD : H1 D = none) (hn : n ≤ 100000) (hw : ∀ v, wipe ((wipe σ vs).set i0 (some v)) vs = wipe σ vs)
    (hs : ∀ i H (Q' : VK), i < n → Same H1 H → (∀ y H4, Same H H4 → R i y → Q' y H4) → te ((wipe σ vs).set i0 (some (.int (i : Int)))) H Q')
    (hd : ∀ H xs, Same H1 H → H D = some (.lst xs) → xs.length = n → (∀ i y, xs[i]? = some y → R i y) → Qd H) : LcW (Itr 0 n) te (gName i0) tYes vs σ H1 D Qd := by
  refine lc_range (fun i H => Same H1 H ∧ Acc R D i H) ⟨same_new nD, [], upd_same, rfl, fun j y e => by simp at e⟩ (fun i H hi h => ?_) (fun H h => ?_)
  · obtain ⟨st, xs, e, l, r⟩ := h
    refine ⟨hw _, c_yes ?_⟩
    rw [if_pos rfl]
    rw [Int.zero_add]
    exact hs i H _ hi st fun y H4 s4 ry => ⟨xs, s4 _ _ e, szl (by omega), Same.mut (st.trans s4) nD, Acc.put l r ry⟩
  · obtain ⟨st, xs, e, l, r⟩ := h
    exact hd H xs st e l r
/-- over a list -/
theorem lc_ls (R : Nat → V → Prop) (nD : H1 D = none) (hn : ys.length ≤ 100000) (hA : SqL K H1 a ys) (hw : ∀ v, wipe ((wipe σ vs).set i0 (some v)) vs = wipe σ vs)
    (hs : ∀ i x H (Q' : VK), ys[i]? = some x → Same H1 H → (∀ y H4, Same H H4 → R i y → Q' y H4) → te ((wipe σ vs).set i0 (some x)) H Q')
    (hd : ∀ H xs, Same H1 H → H D = some (.lst xs) → xs.length = ys.length → (∀ i y, xs[i]? = some y → R i y) → Qd H) : LcW (Itl K a) te (gName i0) tYes vs σ H1 D Qd := by
  refine lc_list (xs := ys) (fun i H => Same H1 H ∧ Acc R D i H) ⟨same_new nD, [], upd_same, rfl, fun j y e => by simp at e⟩ (fun i H _ h => h.1.seq hA) (fun i x H hi h => ?_) (fun H h => ?_)
  · obtain ⟨st, xs, e, l, r⟩ := h
    refine ⟨hw _, c_yes ?_⟩
    rw [if_pos rfl]
    have hl := (List.getElem?_eq_some_iff.mp hi).1
    exact hs i x H _ hi st fun y H4 s4 ry => ⟨xs, s4 _ _ e, szl (by omega), Same.mut (st.trans s4) nD, Acc.put l r ry⟩
  · obtain ⟨st, xs, e, l, r⟩ := h
    exact hd H xs st e l r
/-- over a tuple -/
theorem lc_tp (R : Nat → V → Prop) (nD : H1 D = none) (hn : ys.length ≤ 100000) (hA : SqT K H1 a ys) (hw : ∀ v, wipe ((wipe σ vs).set i0 (some v)) vs = wipe σ vs)
    (hs : ∀ i x H (Q' : VK), ys[i]? = some x → Same H1 H → (∀ y H4, Same H H4 → R i y → Q' y H4) → te ((wipe σ vs).set i0 (some x)) H Q')
    (hd : ∀ H xs, Same H1 H → H D = some (.lst xs) → xs.length = ys.length → (∀ i y, xs[i]? = some y → R i y) → Qd H) : LcW (Itt K a) te (gName i0) tYes vs σ H1 D Qd := by
  refine lc_tup (xs := ys) (fun i H => Same H1 H ∧ Acc R D i H) ⟨same_new nD, [], upd_same, rfl, fun j y e => by simp at e⟩ (fun i H _ h => same_seqT h.1 hA) (fun i x H hi h => ?_) (fun H h => ?_)
  · obtain ⟨st, xs, e, l, r⟩ := h
    refine ⟨hw _, c_yes ?_⟩
    rw [if_pos rfl]
    have hl := (List.getElem?_eq_some_iff.mp hi).1
    exact hs i x H _ hi st fun y H4 s4 ry => ⟨xs, s4 _ _ e, szl (by omega), Same.mut (st.trans s4) nD, Acc.put l r ry⟩
  · obtain ⟨st, xs, e, l, r⟩ := h
    exact hd H xs st e l r
end
/-- a list whose items are all texts of a kind -/
theorem strs_of {xs : List V} {A : Str → Prop} (h : ∀ (i : Nat) y, xs[i]? = some y → ∃ z, y = V.str z ∧ A z) : ∃ ns : List Str, xs = ns.map V.str ∧ ∀ z ∈ ns, A z := by
  induction xs with
  | nil => exact ⟨[], rfl, fun z hz => by cases hz⟩
  | cons x r ih =>
    obtain ⟨z, rfl, hz⟩ := h 0 x rfl
    obtain ⟨ns, rfl, hn⟩ := ih fun i y e => h (i + 1) y e
    exact ⟨z :: ns, rfl, fun u hu => by
      rcases List.mem_cons.mp hu with e | e
      · rw [e]; exact hz
      · exact hn u e⟩
end Und
namespace Und
open PySem PySem.Spec PyProof.Rows L2
/-! ### letters -/
/-- all signs are letters a to z -/
def Low (x : Str) : Prop := ∀ c ∈ x.cps.toList, 97 ≤ c ∧ c ≤ 122
structure IsName (x : Str) : Prop where
  lo : 1 ≤ x.length
  hi : x.length ≤ 8
  low : Low x
def nameB (x : Str) : Bool := decide (1 ≤ x.length) && decide (x.length ≤ 8) && x.cps.toList.all fun c => decide (97 ≤ c) && decide (c ≤ 122)
theorem nameB_iff (x : Str) : nameB x = true ↔ IsName x := by
  unfold nameB
  simp only [Bool.and_eq_true, decide_eq_true_eq, List.all_eq_true]
  exact ⟨fun h => ⟨h.1.1, h.1.2, h.2⟩, fun h => ⟨⟨h.lo, h.hi⟩, h.low⟩⟩
theorem name_of {x : Str} (h : nameB x = true) : IsName x := (nameB_iff x).mp h
theorem len_codes (x : Str) : x.cps.toList.length = x.length := Array.length_toList
theorem low_app {x y : Str} (hx : Low x) (hy : Low y) : Low (x ++ y) := fun c hc => by
  rw [PySem.Str.cps_append, Array.toList_append] at hc
  rcases List.mem_append.mp hc with h | h
  · exact hx c h
  · exact hy c h
theorem low_cut {x : Str} {lo hi : Option Int} (hx : Low x) : Low (cutS x lo hi) := fun c hc => by
  unfold cutS at hc
  exact hx c (List.mem_of_mem_drop (List.mem_of_mem_take hc))
theorem low_one {c : Nat} (h : 97 ≤ c ∧ c ≤ 122) : Low ⟨#[c]⟩ := fun d hd => by
  have : d = c := by simpa using hd
  rw [this]
  exact h
theorem cut_len (x : Str) (k : Nat) (h : k ≤ x.length) : (cutS x none (some (k : Int))).length = k ∧ (cutS x (some (k : Int)) none).length = x.length - k := by
  unfold cutS
  rw [HT.sIx_none, HT.sIx_nat, HT.sIx_none]
  constructor
  · show (List.toArray _).size = k
    rw [List.size_toArray, List.length_take, List.length_drop, len_codes]
    omega
  · have e := HT.sIx_nat x.length 0 k
    show (List.toArray _).size = x.length - k
    rw [List.size_toArray, List.length_take, List.length_drop, len_codes, e]
    omega
theorem rep_fold (a : Array Nat) : ∀ (n : Nat) (acc : Array Nat), (List.replicate n a).foldl (· ++ ·) acc = acc ++ ((List.replicate n a.toList).flatten).toArray
  | 0, acc => by simp
  | n + 1, acc => by
    rw [List.replicate_succ, List.foldl_cons, rep_fold a n, List.replicate_succ, List.flatten_cons]
    apply Array.toList_inj.mp
    simp
theorem mul_one_codes (c : Nat) (n : Nat) (h : 1 ≤ n) : (Txt.mul ⟨#[c]⟩ (n : Int)).cps.toList = List.replicate n c := by
  unfold Txt.mul
  rw [if_neg (by omega)]
  by_cases h1 : n = 1
  · subst h1
    rw [if_pos (by rfl)]
    rfl
  · rw [if_neg (by
      have : ¬ (n : Int) = 1 := by omega
      simp [Str.length, this])]
    show ((List.replicate ((n : Int).toNat) #[c]).foldl (· ++ ·) #[]).toList = _
    rw [Int.toNat_natCast, rep_fold]
    simp
theorem mul_ok (c : Nat) (n : Nat) (h : n ≤ 1000) : MulOk ⟨#[c]⟩ (n : Int) := by
  refine ⟨?_, fun h1 _ => ?_, fun h1 _ => ?_⟩
  · have e1 : decide ((n : Int) < -(2 ^ 63 : Int)) = false := decide_eq_false (by omega)
    have e2 : decide ((n : Int) ≥ 2 ^ 63) = false := decide_eq_false (by omega)
    rw [e1, e2]
    rfl
  · have e : ((⟨#[c]⟩ : Str).length : Int) = 1 := rfl
    rw [e]
    have : (1 : Int) ≤ (2 ^ 63 - 1) / (n : Int) := by
      rw [Int.le_ediv_iff_mul_le (by omega)]
      omega
    omega
  · have e : (⟨#[c]⟩ : Str).length = 1 := rfl
    rw [e, Int.toNat_natCast, Nat.one_mul]
    unfold Builtin.Str.tooLong
    apply decide_eq_false
    have := sz (n := n) (by omega)
    omega
theorem rep_name {c n : Nat} (h : 97 ≤ c ∧ c ≤ 122) (h1 : 1 ≤ n) (h8 : n ≤ 8) : IsName (Txt.mul ⟨#[c]⟩ (n : Int)) := by
  have e := mul_one_codes c n h1
  have l : (Txt.mul ⟨#[c]⟩ (n : Int)).length = n := by rw [← len_codes, e, List.length_replicate]
  refine ⟨by omega, by omega, fun d hd => ?_⟩
  rw [e] at hd
  rw [List.eq_of_mem_replicate hd]
  exact h
def rMulS : R2 := fun x y H Q => ∃ z n, x = .str z ∧ y = .int n ∧ MulOk z n ∧ Q (.str (Txt.mul z n)) H
theorem op_mulS {X : Cx} : OpR X (binaryOp .Mult) rMulS := by
  intro pins s σ H x y v u Q I rx ry h
  obtain ⟨i, j, rfl, rfl, hz, q⟩ := h
  obtain ⟨t, rfl⟩ := rx
  obtain ⟨t', rfl⟩ := ry
  exact SB.mul hz (fun t' tk => ⟨.str (Txt.mul i j), H, I.tok _, ⟨_, rfl⟩, q⟩)
theorem glueL_nil : ∀ ys : List Str, StrLaws.glueL [] ys = (ys.map (·.cps.toList)).flatten
  | [] => rfl
  | p :: r => by
    show [] ++ (p.cps.toList ++ StrLaws.glueL [] r) = _
    rw [glueL_nil r]
    simp
theorem join_empty_codes (ys : List Str) : (Txt.join Str.empty ys).cps.toList = (ys.map (·.cps.toList)).flatten := by
  cases ys with
  | nil => rfl
  | cons p r =>
    show (PySem.Builtin.Str.glued Str.empty (p :: r)).cps.toList = _
    rw [StrLaws.glued_list]
    show p.cps.toList ++ StrLaws.glueL [] r = _
    rw [glueL_nil]
    simp
/-- what '' joins out of single letters -/
theorem join_ones {ns : List Str} (h : ∀ z ∈ ns, ∃ c, z = ⟨#[c]⟩ ∧ 97 ≤ c ∧ c ≤ 122) : (Txt.join Str.empty ns).length = ns.length ∧ Low (Txt.join Str.empty ns) := by
  have e := join_empty_codes ns
  constructor
  · rw [← len_codes, e]
    clear e
    induction ns with
    | nil => rfl
    | cons z r ih =>
      obtain ⟨c, rfl, _⟩ := h _ List.mem_cons_self
      have := ih fun z hz => h z (List.mem_cons_of_mem _ hz)
      simp only [List.map_cons, List.flatten_cons, List.length_append, List.length_cons, this]
      simp
      omega
  · intro d hd
    rw [e] at hd
    obtain ⟨l, hl, hd⟩ := List.mem_flatten.mp hd
    obtain ⟨z, hz, rfl⟩ := List.mem_map.mp hl
    obtain ⟨c, rfl, hc⟩ := h z hz
    have : d = c := by simpa using hd
    rw [this]
    exact hc
theorem sum_ones {ns : List Str} (h : ∀ z ∈ ns, ∃ c, z = ⟨#[c]⟩ ∧ 97 ≤ c ∧ c ≤ 122) : (ns.map (·.length)).sum = ns.length := by
  induction ns with
  | nil => rfl
  | cons z r ih =>
    obtain ⟨c, rfl, _⟩ := h _ List.mem_cons_self
    have := ih fun z hz => h z (List.mem_cons_of_mem _ hz)
    rw [List.map_cons, List.sum_cons, this, List.length_cons]
    show 1 + _ = _
    omega
end Und
namespace Und
open PySem PySem.Spec PyProof.Rows L2
/-! ### the rules with the written part named -/
section
variable {X : Cx} {K : PySem.W.Frag}
theorem ixL (h : X.K = K := by rfl) : IxR X (rIxL K) := h ▸ ix_list
theorem ixT (h : X.K = K := by rfl) : IxR X (rIxT K) := h ▸ ix_tup
theorem slL (h : X.K = K := by rfl) : SlR X (rSlL K) := h ▸ sl_list
theorem slT (h : X.K = K := by rfl) : SlR X (rSlA K) := h ▸ sl_tupA
theorem opCatT (h : X.K = K := by rfl) : OpR X (binaryOp .Add) (rCatA K) := h ▸ op_catA
def rLn (K : PySem.W.Frag) : List V → Hp → VK → Prop := fun xs H Q => ∃ p ys, xs = [.ref p] ∧ (SqL K H p ys ∨ SqT K H p ys) ∧ Q (.int ys.length) H
theorem callLn (h : X.K = K := by rfl) : CallR X (.builtin "len") (rLn K) := h ▸ call_len_seq
def rLnS : List V → Hp → VK → Prop := fun xs H Q => ∃ z, xs = [.str z] ∧ z.length ≤ sizeLine ∧ Q (.int z.length) H
theorem callLnS : CallR X (.builtin "len") rLnS := call_len_str
theorem crAll (hc : X.calm = true) (h : X.K = K := by rfl) : CallR X (.builtin "all") (rAll K) := h ▸ cr_all hc
theorem crAny (hc : X.calm = true) (h : X.K = K := by rfl) : CallR X (.builtin "any") (rAny K) := h ▸ cr_any hc
def rTupOf (K : PySem.W.Frag) : List V → Hp → VK → Prop := fun xs H Q => ∃ p ys, xs = [.ref p] ∧ ((SqL K H p ys ∧ ∀ l, H l = none → Q (.ref l) (upd H l (.tup ys))) ∨ (SqT K H p ys ∧ Q (.ref p) H))
theorem callTupOf (h : X.K = K := by rfl) : CallR X (.type "tuple") (rTupOf K) := h ▸ call_tuple_of
def rLstOf (K : PySem.W.Frag) : List V → Hp → VK → Prop := fun xs H Q => ∃ p ys, xs = [.ref p] ∧ (SqL K H p ys ∨ SqT K H p ys) ∧ ∀ l, H l = none → Q (.ref l) (upd H l (.lst ys))
theorem callLstOf (h : X.K = K := by rfl) : CallR X (.type "list") (rLstOf K) := h ▸ call_list_of
def rMin2 : List V → Hp → VK → Prop := fun xs H Q => ∃ i j, xs = [.int i, .int j] ∧ Q (.int (if j < i then j else i)) H
theorem callMin2 (hc : X.calm = true) : CallR X (.builtin "min") rMin2 := call_min2 hc
def rMax2 : List V → Hp → VK → Prop := fun xs H Q => ∃ i j, xs = [.int i, .int j] ∧ Q (.int (if j > i then j else i)) H
theorem callMax2 (hc : X.calm = true) : CallR X (.builtin "max") rMax2 := call_max2 hc
theorem opIn (h : X.K = K := by rfl) : OpR X (compareOp .In) (rIn K false) := h ▸ op_in_seq
theorem opNotIn (h : X.K = K := by rfl) : OpR X (compareOp .NotIn) (rIn K true) := h ▸ op_notIn_seq
theorem opEqD (hu : X.A.units + 64 < cLine) (h : X.K = K := by rfl) : OpR X (compareOp .Eq) (rEqD K) := h ▸ op_eqD hu
theorem opNeD (hu : X.A.units + 64 < cLine) (h : X.K = K := by rfl) : OpR X (compareOp .NotEq) (rNeD K) := h ▸ op_neD hu
theorem piList {tg l : Expr} {tl : TE} (hl : PE X l tl) (h : X.K = K := by rfl) : PI X tg l (iList K tl) := h ▸ pi_list hl
theorem piTup {tg l : Expr} {tl : TE} (hl : PE X l tl) (h : X.K = K := by rfl) : PI X tg l (iTup K tl) := h ▸ pi_tup hl
theorem peFld {e : Expr} {f : Str} {pos : Pos} {ta : TE} (he : PE X e ta) (hb : attributeBase e f X.env (eval e X.env) = eval e X.env) (h : X.K = K := by rfl) : PE X (.Attribute e f pos) (tFld K ta f) := h ▸ pe_fld he hb
def rJoin (K : PySem.W.Frag) : V → List V → Hp → VK → Prop := fun x xs H Q => ∃ a p, ∃ ys : List Str, x = .str a ∧ xs = [.ref p] ∧ (SqL K H p (ys.map V.str) ∨ SqT K H p (ys.map V.str)) ∧ (ys.map (·.length)).sum + ys.length * a.length ≤ 16777216 ∧ Q (.str (Txt.join a ys)) H
theorem peJoin {o e : Expr} {to te : TE} {apos pos : Pos} (ho : PE X o to) (he : PE X e te) (h : X.K = K := by rfl) (hs : starEach [e] X.env = [(false, eval e X.env)] := by rfl) (hbase : attributeBase o "join" X.env (eval o X.env) = eval o X.env := by rfl) (hline : (apos.endLine == pos.line) = true := by rfl) :
    PE X (.Call (.Attribute o "join" apos) [e] [] pos) (tM1 (rJoin K) to te) := h ▸ pe_join ho he hs hbase hline
theorem pgTup {es : List Expr} {k : Nat} {t : TGs} {n : Nat} {pos : Pos} (hc : X.calm = true) (ht : PGs X es t) (h : X.K = K := by rfl) (hn : (assignEach es X.env).length = n := by rfl) (hst : (assignEach es X.env).findIdx? (·.1) = none := by rfl) :
    PG X (.Tuple es k pos) (gTup K n t) := h ▸ pg_tup hc ht hn hst
end
section
variable {K : PySem.W.Frag} {σ : L2.St} {H : Hp} {Q : VK} {v : V} {p a b : Addr} {xs ys : List V} {lo hi : Option Int} {ta tb : TE}
theorem c_lnL (e : SqL K H p ys) (h : Q (.int ys.length) H) : rLn K [.ref p] H Q := ⟨p, ys, rfl, .inl e, h⟩
theorem c_lnT (e : SqT K H p ys) (h : Q (.int ys.length) H) : rLn K [.ref p] H Q := ⟨p, ys, rfl, .inr e, h⟩
theorem c_lnS {z : Str} (e : z.length ≤ 100000) (h : Q (.int z.length) H) : rLnS [.str z] H Q := ⟨z, rfl, sz e, h⟩
theorem c_all {bs : List Bool} (e : SqL K H p (bs.map V.bl)) (h : Q (.bl (bs.all id)) H) : rAll K [.ref p] H Q := ⟨p, bs, rfl, e, h⟩
theorem c_any {bs : List Bool} (e : SqL K H p (bs.map V.bl)) (h : Q (.bl (bs.any id)) H) : rAny K [.ref p] H Q := ⟨p, bs, rfl, e, h⟩
theorem c_tupOfL (e : SqL K H p ys) (h : ∀ l H2, H l = none → Same H H2 → H2 l = some (.tup ys) → Q (.ref l) H2) : rTupOf K [.ref p] H Q := ⟨p, ys, rfl, .inl ⟨e, fun l nl => h l _ nl (same_new nl) upd_same⟩⟩
theorem c_tupOfT (e : SqT K H p ys) (h : Q (.ref p) H) : rTupOf K [.ref p] H Q := ⟨p, ys, rfl, .inr ⟨e, h⟩⟩
theorem c_lstOfL (e : SqL K H p ys) (h : ∀ l H2, H l = none → Same H H2 → H2 l = some (.lst ys) → Q (.ref l) H2) : rLstOf K [.ref p] H Q := ⟨p, ys, rfl, .inl e, fun l nl => h l _ nl (same_new nl) upd_same⟩
theorem c_lstOfT (e : SqT K H p ys) (h : ∀ l H2, H l = none → Same H H2 → H2 l = some (.lst ys) → Q (.ref l) H2) : rLstOf K [.ref p] H Q := ⟨p, ys, rfl, .inr e, fun l nl => h l _ nl (same_new nl) upd_same⟩
theorem c_min2 {i j : Int} (h : Q (.int (min i j)) H) : rMin2 [.int i, .int j] H Q := ⟨i, j, rfl, by
  have e : (if j < i then j else i) = min i j := by
    split <;> omega
  rw [e]
  exact h⟩
theorem c_max2 {i j : Int} (h : Q (.int (max i j)) H) : rMax2 [.int i, .int j] H Q := ⟨i, j, rfl, by
  have e : (if j > i then j else i) = max i j := by
    split <;> omega
  rw [e]
  exact h⟩
/-- t + u of tuples: some tuple, the left, the right or a new one -/
theorem c_catT (ea : SqT K H a xs) (eb : SqT K H b ys) (z : xs.length + ys.length ≤ 100000) (h : ∀ p H2, Same H H2 → SqT K H2 p (xs ++ ys) → Q (.ref p) H2) : rCatA K (.ref a) (.ref b) H Q := by
  refine ⟨a, b, xs, ys, rfl, rfl, ea, eb, sz z, fun e => h b H (Same.refl H) ?_, fun _ e => h a H (Same.refl H) ?_, fun _ _ p np => h p _ (same_new np) (.inl (.inl upd_same))⟩
  · rw [e]
    exact eb
  · rw [e, List.append_nil]
    exact ea
theorem cutV_whole {xs : List V} (h : HT.sIx xs.length 0 lo = 0 ∧ HT.sIx xs.length xs.length hi = xs.length) : cutV xs lo hi = xs := by
  unfold cutV
  rw [h.1, h.2, List.drop_zero, Nat.sub_zero, List.take_length]
theorem c_slT (e : SqT K H a xs) (h : ∀ p H2, Same H H2 → SqT K H2 p (cutV xs lo hi) → Q (.ref p) H2) : rSlA K (.ref a) lo hi H Q := by
  refine ⟨a, xs, rfl, e, fun w => h a H (Same.refl H) ?_, fun _ p np => h p _ (same_new np) (.inl (.inl upd_same))⟩
  rw [cutV_whole w]
  exact e
theorem c_ixS {z : Str} {k : Int} {c : Nat} (hz : z.length ≤ 100000) (j : Nat) (hk : k = (j : Int)) (hc : z.cps.toList[j]? = some c) (h : Q (.str ⟨#[c]⟩) H) : rIxS (.str z) (.int k) H Q :=
  ⟨z, k, c, rfl, rfl, sz hz, by rw [hk]; exact atI_nat hc, h⟩
theorem c_slS {z : Str} (hz : z.length ≤ 100000) (h : Q (.str (cutS z lo hi)) H) : rSlS (.str z) lo hi H Q := ⟨z, rfl, sz hz, h⟩
theorem c_mulS {z : Str} {n : Int} (hz : MulOk z n) (h : Q (.str (Txt.mul z n)) H) : rMulS (.str z) (.int n) H Q := ⟨z, n, rfl, rfl, hz, h⟩
theorem c_m1 {r : V → List V → Hp → VK → Prop} (h : ta σ H fun x H1 => (∃ a, x = .str a) ∧ tb σ H1 fun y H2 => r x [y] H2 Q) : tM1 r ta tb σ H Q := h
theorem c_isS {z : Str} {R : Prop} (h : R) : (∃ a, V.str z = .str a) ∧ R := ⟨⟨z, rfl⟩, h⟩
theorem c_joinL {z : Str} {ns : List Str} (e : SqL K H p (ns.map V.str)) (hz : (ns.map (·.length)).sum + ns.length * z.length ≤ 16777216) (h : Q (.str (Txt.join z ns)) H) : rJoin K (.str z) [.ref p] H Q := ⟨z, p, ns, rfl, rfl, .inl e, hz, h⟩
def rAddS : R2 := fun x y H Q => ∃ i j, x = .str i ∧ y = .str j ∧ i.length + j.length ≤ sizeLine ∧ Q (.str (i ++ j)) H
theorem opAddS {X : Cx} : OpR X (binaryOp .Add) rAddS := op_add_str
theorem c_addS {x y : Str} (hz : x.length + y.length ≤ 100000) (h : Q (.str (x ++ y)) H) : rAddS (.str x) (.str y) H Q := ⟨x, y, rfl, rfl, sz hz, h⟩
end
end Und
/-! enumerate over a tuple -/
namespace Und
open PySem PySem.Spec PyProof.Rows L2
section
variable {prog : Program} {w : World} {A : Around} {E : Value → Shared → Prop} {s : Shared}
/-- the next item of a tuple's iterator, asked by another builtin -/
theorem next_tup {it t : Addr} {i : Nat} {its : Array Value} {x : Value} {Q : Value → Shared → Prop} (hi : s.heap.IsTupleIter it t i) (ht : s.heap.IsTuple t its) (hx : its[i]? = some x)
    (q : ∀ h', h'.IsTupleIter it t (i + 1) → Heap.SameBut it s.heap h' → Q x { s with heap := h' }) : wpAny (model prog w) A (Builtin.SmallTypes.nextOf (.ref it)) Q E s := by
  obtain ⟨oi, gi, ci, di⟩ := id hi
  obtain ⟨ot, gt, _, nt, dt⟩ := ht
  unfold Builtin.SmallTypes.nextOf
  refine wpAny_bind (wpAny_callSpecial?_slot (name := Str.ofString "__next__") hi.typeIs F.slot_tuple_iterator_next (wpAny_call_entry F.slot_tuple_iterator_next hi.typeIs F.entry_tuple_iterator_next ?_ (F.args_tuple_iterator_next_1 _)))
  show wpAny _ _ (field (.ref it) 0 >>= _) _ _ s
  refine wpAny_bind (wpAny_field gi di (x := .ref t) rfl ?_)
  show wpAny _ _ (if (Value.ref t == Value.none) = true then _ else _) _ _ s
  rw [if_neg (show ¬ ((Value.ref t == Value.none) = true) from Bool.false_ne_true)]
  show wpAny _ _ (field (.ref it) 1 >>= _) _ _ s
  refine wpAny_bind (wpAny_field gi di (x := .int i 0) rfl ?_)
  show wpAny _ _ (seqItems? (.ref t) >>= _) _ _ s
  refine wpAny_bind (wpAny_seqItems gt dt ?_)
  simp only [Int.toNat_natCast, hx]
  refine wpAny_bind (wpAny_setField gi di (by simp) (wpAny_pure ⟨x, rfl, wpAny_pure (q _ ⟨_, Heap.get?_update_self _ gi (Obj.isFreed_of_fields (Obj.data_mapFields di _)), (Obj.cls_mapFields ..).trans ci, ?_⟩ (Heap.SameBut.update ..))⟩))
  rw [Obj.data_mapFields di]
  simp [rawInt]
theorem next_tup_end {it t : Addr} {i : Nat} {its : Array Value} {Q : Value → Shared → Prop} (hh : A.handled = none) (hi : s.heap.IsTupleIter it t i) (ht : s.heap.IsTuple t its) (hx : its[i]? = none)
    (q : ∀ h' e, Heap.ExtBut it s.heap h' → (∃ o, h'.get? e = some o ∧ o.cls = .type "StopIteration") → E (.ref e) { s with heap := h' }) : wpAny (model prog w) A (Builtin.SmallTypes.nextOf (.ref it)) Q E s := by
  obtain ⟨oi, gi, ci, di⟩ := id hi
  obtain ⟨ot, gt, _, nt, dt⟩ := ht
  unfold Builtin.SmallTypes.nextOf
  refine wpAny_bind (wpAny_callSpecial?_slot (name := Str.ofString "__next__") hi.typeIs F.slot_tuple_iterator_next (wpAny_call_entry F.slot_tuple_iterator_next hi.typeIs F.entry_tuple_iterator_next ?_ (F.args_tuple_iterator_next_1 _)))
  show wpAny _ _ (field (.ref it) 0 >>= _) _ _ s
  refine wpAny_bind (wpAny_field gi di (x := .ref t) rfl ?_)
  show wpAny _ _ (if (Value.ref t == Value.none) = true then _ else _) _ _ s
  rw [if_neg (show ¬ ((Value.ref t == Value.none) = true) from Bool.false_ne_true)]
  show wpAny _ _ (field (.ref it) 1 >>= _) _ _ s
  refine wpAny_bind (wpAny_field gi di (x := .int i 0) rfl ?_)
  show wpAny _ _ (seqItems? (.ref t) >>= _) _ _ s
  refine wpAny_bind (wpAny_seqItems gt dt ?_)
  simp only [Int.toNat_natCast, hx]
  refine wpAny_bind (wpAny_rule (wpAny_bind (wpAny_setField gi di (by simp) ?_)))
  show wpAny _ _ (newExc (.type "StopIteration") [] >>= _) _ _ _
  refine wpAny_bind ?_
  simp only [newExc, newTuple]
  refine wpAny_bind (wpAny_newObj_type ?_ (by size_fits))
  refine wpAny_bind (m := firstArgMember _ _) (wpAny_of_eq (a := Value.none) (by first | rfl | (simp only [firstArgMember]; rfl)) ?_)
  refine wpAny_newObj_type ?_ (by size_fits)
  simp only [raiseNew]
  refine wpAny_bind (wpAny_handled ?_)
  first | rw [show A.in1.handled = none from hh] | rw [hh]
  refine wpAny_bind (wpAny_pure (wpAny_throw ?_))
  exact q _ _ (((Heap.SameBut.update ..).extBut.push _).push _) ⟨_, Heap.get?_push_size _ rfl, rfl⟩
/-- a tuple's iterator is drawn from -/
theorem draws_tup (hh : A.handled = none) (it t : Addr) (ne : t ≠ it) (its : Array Value) : Draws prog w A it [it, t] its.size (fun i v => its[i]? = some v) (fun i h => h.IsTupleIter it t i ∧ h.IsTuple t its) where
  live := fun _ _ st => let ⟨o, ho, _⟩ := st.1; ⟨o, ho⟩
  frame := fun _ _ _ st k => ⟨st.1.at fun o e => k it (by simp) o e, let ⟨o, ho, r⟩ := st.2; ⟨o, k t (by simp) o ho, r⟩⟩
  item := fun i s Q E hi st q => next_tup st.1 st.2 (x := its[i]) (by simp [hi]) fun h' i' sb => q _ h' s.toks (by simp [hi]) ⟨i', st.2.extBut sb.extBut ne⟩ sb
  done := fun s Q E st q => next_tup_end hh st.1 st.2 (by simp) q
end
theorem meets_enum_tup (l : Addr) (items : Array Value) (n : Nat) (dct : Option Addr) (sl : Array (Option Value)) :
    Meets (Builtin.«enumerate.__new__» ⟨[.type "enumerate", .ref l], []⟩) (fun _ R s => s.heap.get? l = some { cls := .type "tuple", dict := dct, data := .seq items n, slots := sl } ∧
      R (.ok (.ret (.ref (s.heap.push { cls := .type "tuple_iterator", data := .fields #[.ref l, .int 0 0] }).objs.size)))
        { s with heap := (s.heap.push { cls := .type "tuple_iterator", data := .fields #[.ref l, .int 0 0] }).push { cls := .type "enumerate", data := .fields #[.none, .bool false, .ref s.heap.objs.size, rawInt 0, .none, .none] } }) :=
  .of_wp fun prog w A R s h => by
    obtain ⟨hp, g, d, tk, os⟩ := s
    obtain ⟨hl, h⟩ := h
    have hsub := sub_enumerate
    have hL : Heap.IsTuple (Shared.heap ⟨hp, g, d, tk, os⟩) l items := ⟨_, hl, rfl, n, rfl⟩
    wp_walk using AutoSeq1.wpAny_loadPart' hl
    refine wpAny_stack_any fun st => wpAny_pure ?_
    split
    · rename_i c _ _ _ _ _
      cases (c == Value.type "enumerate") <;> (wp_walk using AutoSeq1.wpAny_loadPart' hl, wpAny_pyIter_tuple hL; exact ⟨_, rfl, h⟩)
    · wp_walk using AutoSeq1.wpAny_loadPart' hl, wpAny_pyIter_tuple hL
      exact ⟨_, rfl, h⟩

section
variable {prog : Program} {w : World} {A : Around} {E : Value → Shared → Prop} {s : Shared}
theorem call_enum_tup {t : Addr} {its : Array Value} {Q : Value → Shared → Prop} (ht : s.heap.IsTuple t its)
    (h : ∀ h', IsEnum h' (s.heap.objs.size + 1) s.heap.objs.size 0 .none → h'.IsTupleIter s.heap.objs.size t 0 → (∀ b o, s.heap.get? b = some o → h'.get? b = some o) → Q (.ref (s.heap.objs.size + 1)) { s with heap := h' }) :
    wpAny (model prog w) A (call (.type "enumerate") [.ref t]) Q E s := by
  obtain ⟨⟨c, dc, dt, sl⟩, gt, ct, n, dd⟩ := ht
  replace ct : c = .type "tuple" := ct
  replace dd : dt = .seq its n := dd
  subst ct dd
  refine callType_new F.called_enumerate (by decide) (F.typeCall_enumerate_1 _) (F.newCall_enumerate_1 _) (fun obj => F.args_object_init_2 obj _) F.entry_enumerate_new (meets_enum_tup t its n dc sl) ⟨gt, ?_⟩
  have z : (s.heap.push { cls := .type "tuple_iterator", data := .fields #[.ref t, .int 0 0] }).objs.size = s.heap.objs.size + 1 := Heap.size_push ..
  show _ ∧ _
  rw [z]
  have e : IsEnum ((s.heap.push { cls := .type "tuple_iterator", data := .fields #[.ref t, .int 0 0] }).push { cls := .type "enumerate", data := .fields #[.none, .bool false, .ref s.heap.objs.size, rawInt 0, .none, .none] })
      (s.heap.objs.size + 1) s.heap.objs.size 0 .none := by
    have e0 := Heap.get?_push_size (s.heap.push { cls := .type "tuple_iterator", data := .fields #[.ref t, .int 0 0] }) (o := { cls := .type "enumerate", data := .fields #[.none, .bool false, .ref s.heap.objs.size, rawInt 0, .none, .none] }) rfl
    rw [z] at e0
    exact e0
  exact ⟨⟨_, e, rfl⟩, h _ e ⟨_, Heap.get?_push_of_some _ (Heap.get?_push_size _ rfl), rfl, rfl⟩ fun b o x => Heap.get?_push_of_some _ (Heap.get?_push_of_some _ x)⟩
end
/-- the tuple at a, each item in a new pair -/
def ItE (K : PySem.W.Frag) (a : Addr) : It :=
  ⟨fun i H => ∃ (xs : List V) (x : V), SqT K H a xs ∧ xs[i]? = some x, fun i H v H' => ∃ T x, v = .ref T ∧ H T = none ∧ H' = upd H T (.tup [.int (i : Nat), x]) ∧ ∀ xs, SqT K H a xs → xs[i]? = some x, fun i H => ∃ xs : List V, SqT K H a xs ∧ xs.length = i⟩
theorem tup_inj {X : Cx} {pins : List (Addr × Obj)} {σ : L2.St} {H : Hp} {s : Shared} {a : Addr} {xs ys : List V} (I : Inv X pins σ H s) (hx : SqT X.K H a xs) (hy : SqT X.K H a ys) : xs = ys := I.tuple_inj hx hy
theorem turn_enumT {P : Program} {w : World} {K : PySem.W.Frag} {elts : List Expr} {kk : Nat} {tpos : Pos} (a e it : Addr) (hat : a ≠ it) :
    Turn P w K (.Tuple elts kk tpos) (ItE K a) [e, it] e (fun i h => (∃ old, IsEnum h e it ((i : Nat) : Int) old) ∧ h.IsTupleIter it a i ∧ e ≠ it ∧ e ≠ a) where
  mem := by simp
  obj := fun i h st b hb => by
    obtain ⟨⟨old, he⟩, ⟨o, ho, hc, hd⟩, _⟩ := st
    have z : b = e ∨ b = it := by simpa using hb
    rcases z with z | z
    · subst z
      exact ⟨_, he, fun v q => nomatch q⟩
    · subst z
      exact ⟨o, ho, fun v q => by rw [hd] at q; cases q⟩
  keep := fun i h h' st k => let ⟨⟨old, he⟩, hi, ne, na⟩ := st; ⟨⟨old, k e (by simp) _ he⟩, hi.at fun o q => k it (by simp) o q, ne, na⟩
  item := by
    intro X hP hw hK hc i pins s σ H E I hf st hg
    subst hP hw hK
    obtain ⟨⟨old, he⟩, hit, ne, na⟩ := st
    obtain ⟨xs, x, hq, hx⟩ := hg
    obtain ⟨its, rv, ht, hz⟩ := I.tuple hq
    obtain ⟨u, hu, ru⟩ := rv.get hx
    have hel : e < s.heap.objs.size := Heap.lt_size he
    have hil : it < s.heap.objs.size := by
      obtain ⟨_, q, _⟩ := hit
      exact Heap.lt_size q
    have hlt : i < its.toArray.size := by
      rw [List.size_toArray]
      exact (List.getElem?_eq_some_iff.mp hu).1
    refine wpAny_pyNext_enum_itemD (draws_tup (A := X.A.in1) (I.ok.hd hc) it a hat its.toArray) he ⟨hit, ht⟩ hlt ne (by simp [ne, na]) fun y h' tk hy ho st' hT hsz hk => ?_
    have ey : y = u := by
      have h1 : its[i]? = some y := by simpa using hy
      rw [hu] at h1
      exact (Option.some.inj h1).symm
    subst ey
    refine ⟨_, rfl, wpAny_letOwnedTupleGo_enum (s := { s with heap := h', toks := tk + 1 }) ho fun h'' he' sb => ?_⟩
    have hT2 : h''.get? s.heap.objs.size = some { cls := .type "tuple", data := .seq #[.int i tk, y] } := (sb.2 _ (Nat.ne_of_gt hel)).trans hT
    have new : ObjOk X.prog X.w (upd H s.heap.objs.size (.tup [.int (i : Nat), x])) h'' s.heap.objs.size (.tup [.int (i : Nat), x]) :=
      ⟨by show 2 ≤ sizeLine; decide, [.int i tk, y], .cons ⟨_, rfl⟩ (.cons ru .nil), ⟨_, hT2, rfl, _, rfl⟩⟩
    have I1 : Inv X pins σ (upd H s.heap.objs.size (.tup [.int (i : Nat), x])) { s with heap := h'', toks := tk + 1 } :=
      I.turnedNew (ch := [e, it]) (fun b ob hb q => (sb.2 b (fun z => hb (by simp [z]))).trans (hk b ob (fun z => hb (by simp [z])) (fun z => hb (by simp [z])) q)) hf (Nat.le_refl _) new
    refine ⟨.ref s.heap.objs.size, _, I1, rfl, ⟨_, x, rfl, I.hok.fresh (Nat.le_refl _), rfl, fun ys hy => ?_⟩, ⟨⟨y, ?_⟩, st'.1.at fun o q => (sb.2 it (Ne.symm ne)).trans q, ne, na⟩, fun b hb => ?_⟩
    · rw [tup_inj I hy hq]
      exact hx
    · have e1 : ((i + 1 : Nat) : Int) = (i : Int) + 1 := by omega
      rw [e1]
      exact he'
    · have hb' : b < s.heap.objs.size := by
        have z : b = e ∨ b = it := by simpa using hb
        rcases z with z | z
        · rw [z]
          exact hel
        · rw [z]
          exact hil
      rw [upd_ne (Nat.ne_of_lt hb')]
      exact (hf b hb).1
  done := by
    intro X hP hw hK hc i pins s σ H E I hf st hg
    subst hP hw hK
    obtain ⟨⟨old, he⟩, hit, ne, na⟩ := st
    obtain ⟨xs, hq, hx⟩ := hg
    obtain ⟨its, rv, ht, hz⟩ := I.tuple hq
    obtain ⟨f0, f1, f2, f3, f4, f5⟩ := hf it (by simp)
    have hl := rv.length
    have ei : i = its.toArray.size := by rw [List.size_toArray, ← hl, hx]
    refine wpAny_pyNext_enum_endD (draws_tup (A := X.A.in1) (I.ok.hd hc) it a hat its.toArray) he ⟨by rw [← ei]; exact hit, ht⟩ fun h' eb => ⟨rfl, I.turned (t' := s.toks) (fun b o hb q => eb b o hb q) f0 f1 f3 f4 f5⟩
  self := fun A i s Q E st h => let ⟨⟨_, he⟩, _⟩ := st; wpAny_pyIter_enum he h
def iEnumT (K : PySem.W.Frag) (ta : TA) : TI := fun σ H R => ta σ H fun vs H1 => ∃ a xs, vs = [.ref a] ∧ SqT K H1 a xs ∧ R (ItE K a) H1
theorem pi_enumT {X : Cx} {K : PySem.W.Frag} {e : Expr} {ta : TA} {p pos tpos : Pos} {elts : List Expr} {kk : Nat} (hg : Gl X "enumerate") (hm : X.mg "enumerate" = none) (ha : PA X [e] ta) (hK : X.K = K := by rfl) (hs : starEach [e] X.env = [(false, eval e X.env)] := by rfl) :
    PI X (.Tuple elts kk tpos) (.Call (.Name "enumerate" p) [e] [] pos) (iEnumT K ta) := by
  subst hK
  refine ⟨fun pins s σ H R I h => ?_⟩
  refine Call_ (ld_blt I hg hm boot_enumerate (PyProof.Rows.callWith_type1 (thn (ha.run pos pins s σ H _ I h) fun us s1 ⟨vs, H1, I1, r1, q1⟩ => ?_) hs rfl))
  obtain ⟨a, xs, ex, hq, q⟩ := q1
  subst ex
  cases r1 with
  | cons r rr =>
    cases rr
    cases r
    obtain ⟨its, rv, ht, hz⟩ := I1.tuple hq
    have hal : a < s1.heap.objs.size := ht.lt
    refine call_enum_tup ht fun h' he hit hk => wpAny_pyIter_enum he ?_
    have I2 : Inv X pins σ H1 { s1 with heap := h' } := I1.kept (t' := s1.toks) hk
    refine ⟨s1.heap.objs.size + 1, [s1.heap.objs.size + 1, s1.heap.objs.size], _, _, H1, rfl, I2, turn_enumT a (s1.heap.objs.size + 1) s1.heap.objs.size (Nat.ne_of_lt hal), ⟨⟨.none, he⟩, hit, Nat.succ_ne_self _, Nat.ne_of_gt (Nat.lt_succ_of_lt hal)⟩, fun b hb => ?_, q⟩
    have z : b = s1.heap.objs.size + 1 ∨ b = s1.heap.objs.size := by simpa using hb
    have hle : s1.heap.objs.size ≤ b := by
      rcases z with z | z
      · rw [z]
        exact Nat.le_succ _
      · rw [z]
        exact Nat.le_refl _
    exact I1.fpOk hle (I1.hok.fresh hle)
/-- the turns of such a loop: the item in a new pair -/
theorem for_enumT {K : PySem.W.Frag} {a : Addr} {xs : List V} {g : TG} {tb : TS} {D : Ends} {σ : L2.St} {H : Hp} (Pv : Nat → L2.St → Hp → Prop) (h0 : Pv 0 σ H) (hl : ∀ i σ H, i ≤ xs.length → Pv i σ H → SqT K H a xs)
    (hs : ∀ i x T σ H, xs[i]? = some x → Pv i σ H → H T = none → g (.ref T) σ (upd H T (.tup [.int (i : Nat), x])) fun σ2 H2 => tb { D with nx := Pv (i + 1), ct := Pv (i + 1), bk := D.nx } σ2 H2) (hd : ∀ σ H, Pv xs.length σ H → D.nx σ H) :
    ∃ W : Nat → Nat → L2.St → Hp → Prop, (∃ m, W 0 m σ H) ∧ ∀ i m σ H, W i m σ H →
      ((ItE K a).stop i H ∧ D.nx σ H) ∨ ((ItE K a).go i H ∧ ∃ N : L2.St → Hp → Prop, (∀ σ' H', N σ' H' → ∃ m', m' < m ∧ W (i + 1) m' σ' H') ∧ ∀ x H', (ItE K a).yld i H x H' → g x σ H' fun σ2 H2 => tb { D with nx := N, ct := N, bk := D.nx } σ2 H2) := by
  refine ⟨fun i m σ H => m = xs.length - i ∧ i ≤ xs.length ∧ Pv i σ H, ⟨xs.length, by simp, Nat.zero_le _, h0⟩, ?_⟩
  rintro i m σ H ⟨rfl, hi, p⟩
  have q := hl i σ H hi p
  by_cases lt : i < xs.length
  · refine .inr ⟨⟨xs, xs[i], q, List.getElem?_eq_getElem lt⟩, Pv (i + 1), fun σ' H' p' => ⟨xs.length - (i + 1), by omega, rfl, lt, p'⟩, fun x H' y => ?_⟩
    obtain ⟨T, z, rfl, nT, rfl, f⟩ := y
    exact hs i z T σ H (f xs q) p nT
  · have ei : i = xs.length := by omega
    subst ei
    exact .inl ⟨⟨xs, q, rfl⟩, hd σ H p⟩
end Und
/-! == and != of two instances of a class with an own __eq__ and no __ne__ -/
namespace Und
open PySem PySem.Spec PyProof.Rows L2 Builtin
section
variable {prog : Program} {w : World} {A : Around} {E : Value → Shared → Prop} {s : Shared} {K : PySem.W.Frag} {x C f : Addr} {ox : Obj} {od : Option Obj} {y : Value}
/-- what the class at C must have for it -/
structure EqOwn (K : PySem.W.Frag) (C f : Addr) : Prop where
  eq : PySem.W.findIn K (.ref C) "__eq__" = some (some (.ref f))
  fn : PySem.W.isFn K (.ref f) = true
  ne : PySem.W.findIn K (.ref C) "__ne__" = some (some (.builtin "object.__ne__"))
  ob : PySem.W.mroIn K C (.type "object") = some true
theorem entry_ne (X : K.In s.heap) (I : PySem.W.InstAt s.heap x ox C od) (W : EqOwn K C f) (hu : A.units < cLine) {Q : Fin → Shared → Prop}
    (h : wpAny (model prog w) A (call (.ref f) [.ref x, y]) (fun v s' => ∃ b, v = .bool b ∧ Q (.done (.ret (.bool (!b)))) s') E s) : wpAny (model prog w) A (Builtin.«object.__ne__» ⟨[.ref x, y], []⟩) Q E s := by
  unfold Builtin.«object.__ne__»
  repeat (first
    | with_reducible refine wpAny_cRoomFor hu ?_
    | (refine wpAny_bind (m := callSpecialIfBound? (.ref x) (Str.ofString "__eq__") [y]) (PySem.W.ifBound_K X I W.eq W.fn (wpAny_mono h (fun r s' hr => by
        obtain ⟨b, rfl, hq⟩ := hr
        repeat (first | exact hq | exact wpAny_pure hq | exact wpAny_truthy_bool hq | (refine wpAny_bind (m := truthy (.bool _)) (wpAny_truthy_bool ?_)) | wp_step)) fun _ _ e => e)))
    | wp_step)
theorem bound_ne {M : Model} {args : List Value} {Q : Option Value → Shared → Prop} (X : K.In s.heap) (I : PySem.W.InstAt s.heap x ox C od) (W : EqOwn K C f)
    (h : wpAny M A (call (.builtin "object.__ne__") (.ref x :: args)) (fun v => Q (some v)) E s) : wpAny M A (callSpecialIfBound? (.ref x) "__ne__" args) Q E s := by
  simp only [callSpecialIfBound?, bindSpecialIfBound?]
  refine wpAny_holding (wpAny_bind (wpAny_bind (wpAny_bind (I.type.here ((PySem.W.looks_findIn X W.ne).here ?_)))))
  refine wpAny_bind (wpAny_askSetting (wpAny_ite ?_))
  have fin : wpAny M A (call (.builtin "object.__ne__") ([.ref x] ++ args) >>= fun v => pure (some v)) Q E s := wpAny_bind (wpAny_mono h (fun v s' z => wpAny_pure z) fun _ _ z => z)
  split
  · exact wpAny_bind (wpAny_of_eq (F.cmp_object.ne.bind _) (wpAny_pure (by exact fin)))
  · exact wpAny_tryCatch (wpAny_bind (wpAny_of_eq (F.cmp_object.ne.bind _) (wpAny_pure (by exact fin))))
theorem rich_ne {b : Addr} {ob : Obj} {ob' : Option Obj} (X : K.In s.heap) (I : PySem.W.InstAt s.heap x ox C od) (J : PySem.W.InstAt s.heap b ob C ob') (W : EqOwn K C f) (hu : A.units + 1 < cLine) {Q : Value → Shared → Prop}
    (h : wpAny (model prog w) A.in1 (call (.ref f) [.ref x, .ref b]) (fun v s' => ∃ k, v = .bool k ∧ Q (.bool (!k)) s') E s) : wpAny (model prog w) A (richCompare .NotEq (.ref x) (.ref b)) Q E s := by
  have one : wpAny (model prog w) A (tryCompare (.ref x) "__ne__" (.ref b)) (fun r s' => ∃ v, r = some v ∧ Q v s') E s := by
    unfold tryCompare
    refine wpAny_bind (bound_ne X I W (wpAny_call (codeAny_call_builtin F.cmp_object.ne.plain F.cmpEntry_ne (PySem.W.check_slot F.cmpKind_ne F.cmpSplit_ne (I.type.andThen (PySem.W.looks_mroIn X W.ob)) (F.cmpArgs_ne _ _)
      (entry_ne (A := A.in1) X I W hu (wpAny_mono h (fun v s' z => ?_) fun _ _ z => z))))))
    obtain ⟨k, rfl, q⟩ := z
    exact ⟨k, rfl, wpAny_pure ⟨_, rfl, q⟩⟩
  unfold richCompare
  simp only [oneThing_ref]
  refine wpAny_holding (wpAny_bind (wpAny_cRoomFor (Nat.lt_of_succ_lt hu) ?_))
  rw [cmpInfo_NotEq]
  dsimp only
  refine wpAny_bind (I.type.here (wpAny_bind (J.type.here ?_)))
  rw [show (Value.ref C != Value.ref C) = false from by simp]
  simp only [Bool.false_eq_true, if_false]
  refine wpAny_bind (wpAny_pure ?_)
  simp only [Bool.false_eq_true, if_false]
  refine wpAny_bind (wpAny_mono one (fun r s' z => ?_) fun _ _ z => z)
  obtain ⟨v, rfl, q⟩ := z
  exact wpAny_pure q
end
/-- x == y (neg: x != y), by the promise of the class's own __eq__ -/
def rOwn (C : Addr) (sp : Sp) (E : XK) (neg : Bool) : R2 := fun x y H Q => ∃ a dx fs b dy gs, x = .ref a ∧ y = .ref b ∧ H a = some (.ins C dx fs) ∧ H b = some (.ins C dy gs) ∧ sp [.ref a, .ref b] H (fun z H' => ∃ k, z = .bl k ∧ Q (.bl (if neg then !k else k)) H') E
section
variable {X : Cx} {K : PySem.W.Frag} {CX : CXT} {C f : Addr} {fd : FuncData} {ps : List Str} {n : Nat} {sp : Sp} {E : XK}
theorem own_call {A : Around} {pins : List (Addr × Obj)} {σ : L2.St} {H : Hp} {s : Shared} {a b : Addr} {Q : VK} (F : FnOk X.prog X.w X.K X.mg X.base CX n f fd ps sp) (hb : Binds X.K fd ps []) (hx : Passes CX X E) (I : Inv X pins σ H s) (hr : Room n A) (hf : A.frames = X.A.frames)
    (h : sp [.ref a, .ref b] H Q E) : wpAny (model X.prog X.w) A (call (.ref f) [.ref a, .ref b]) (EP X pins σ Q) X.xe s := by
  have e0 : Env0 X.prog X.w X.K X.mg X.base A X.stack s H := by
    have e := I.env0
    exact ⟨by rw [hf]; exact e.frames, e.mod, e.bs, e.bsz, e.funs, e.frf, e.hok, e.bare⟩
  have hl := F.len _ _ _ _ h
  have r2 : Vals [V.ref a, V.ref b] [Value.ref a, Value.ref b] := .cons rfl (.cons rfl .nil)
  refine wpAny_call (codeAny_mono (F.run A X.stack s H ⟨[.ref a, .ref b], []⟩ [.ref a, .ref b] [.ref a, .ref b] Q E hr e0 (by
    have z := hb s [.ref a, .ref b] I.kIn (by simpa using hl)
    simpa using z) r2 h) fun r s' hq => ?_)
  cases r with
  | error e => exact hx pins σ H s e s' I hq
  | ok fl =>
    cases fl with
    | ret w => exact I.after hq
    | next => exact False.elim hq
    | brk => exact False.elim hq
    | cont => exact False.elim hq
theorem opEqOwn (W : EqOwn X.K C f) (F : FnOk X.prog X.w X.K X.mg X.base CX n f fd ps sp) (hr : Room n X.A) (hb : Binds X.K fd ps []) (hx : Passes CX X E) : OpR X (compareOp .Eq) (rOwn C sp E false) := by
  intro pins s σ H x y v u Q I rx ry h
  obtain ⟨a, dx, fs, b, dy, gs, rfl, rfl, ha, hb', q⟩ := h
  cases rx
  cases ry
  obtain ⟨mA, J, _⟩ := ins_get I.hok ha
  obtain ⟨mB, J', _⟩ := ins_get I.hok hb'
  obtain ⟨od, J, _⟩ := J.look
  obtain ⟨od', J', _⟩ := J'.look
  obtain ⟨m, hF⟩ := I.fr
  show wpAny (model X.prog X.w) X.A (richCompare .Eq (.ref a) (.ref b)) (EP X pins σ Q) X.xe s
  refine PySem.W.cmp_K (op := .Eq) (tb := .ref C) hr.units0 hF I.ok.mod.kin J J'.type (by simp [PySem.W.notFirst]) W.eq W.fn ?_
  refine wpAny_mono (own_call F hb hx I hr rfl q) (fun w s' z => ?_) fun _ _ z => z
  obtain ⟨v, H', I', rv, k, rfl, qk⟩ := z
  cases rv
  exact ⟨.bl k, H', I', rfl, qk⟩
theorem opNeOwn (W : EqOwn X.K C f) (F : FnOk X.prog X.w X.K X.mg X.base CX n f fd ps sp) (hr : Room (n + 1) X.A) (hb : Binds X.K fd ps []) (hx : Passes CX X E) : OpR X (compareOp .NotEq) (rOwn C sp E true) := by
  intro pins s σ H x y v u Q I rx ry h
  obtain ⟨a, dx, fs, b, dy, gs, rfl, rfl, ha, hb', q⟩ := h
  cases rx
  cases ry
  obtain ⟨mA, J, _⟩ := ins_get I.hok ha
  obtain ⟨mB, J', _⟩ := ins_get I.hok hb'
  obtain ⟨od, J, _⟩ := J.look
  obtain ⟨od', J', _⟩ := J'.look
  have hu := hr.un
  show wpAny (model X.prog X.w) X.A (richCompare .NotEq (.ref a) (.ref b)) (EP X pins σ Q) X.xe s
  refine rich_ne I.kIn J J' W (by omega) ?_
  refine wpAny_mono (own_call F hb hx I hr.in1 rfl q) (fun w s' z => ?_) fun _ _ z => z
  obtain ⟨v, H', I', rv, k, rfl, qk⟩ := z
  cases rv
  exact ⟨k, rfl, .bl (!k), H', I', rfl, qk⟩
end
section
variable {X : Cx} {K : PySem.W.Frag}
theorem callIsi (h : X.K = K := by rfl) : CallR X (.builtin "isinstance") (rIsi K) := h ▸ call_isi
end
section
variable {K : PySem.W.Frag} {H : Hp} {Q : VK}
/-- isinstance(x, T), T a built-in class -/
theorem c_isi {x : V} {a b : String} {r : Bool} (t : TyX K H x (.type a)) (e : kitB a b = some r) (h : Q (.bl r) H) : rIsi K [x, .ty b] H Q := ⟨x, .ty b, .type a, .type b, r, rfl, .ty b, t, kit_ty e, h⟩
theorem ty_int (i : Int) : TyX K H (.int i) (.type "int") := .base (.int i)
theorem ty_bl (i : Bool) : TyX K H (.bl i) (.type "bool") := .base (.bl i)
theorem ty_str (i : Str) : TyX K H (.str i) (.type "str") := .base (.str i)
theorem ty_non : TyX K H .non (.type "NoneType") := .base .non
theorem ty_tup {a : Addr} {xs : List V} (h : SqT K H a xs) : TyX K H (.ref a) (.type "tuple") := by
  rcases h with (h | ⟨o, h⟩) | ⟨o, its, n, l, c, _⟩
  · exact .base (.tup h)
  · exact .fTuple h
  · exact .kTuple l c
end
theorem peGlobI {X : Cx} {x : Str} {n : Int} {pos : Pos} (hg : Gl X x) (hm : ∃ t, X.mg x = some (.int n t)) (hd : (x == ("__debug__" : Str)) = false := by decide) : PE X (.Name x pos) (tC (.int n)) := by
  obtain ⟨t, hm⟩ := hm
  exact pe_glob hg hm ⟨t, rfl⟩ hd
section
variable {K : PySem.W.Frag} {H : Hp} {Q : VK} {D : Addr} {Qd : Hp → Prop} {te : TE} {i0 : Nat} {vs : List Nat} {σ : L2.St} {H1 : Hp}
theorem c_str {te : TE} {R : It → Hp → Prop} (h : te σ H fun v H1 => ∃ x, v = .str x ∧ R (Its x) H1) : iStr te σ H R := h
def rLeS : R2 := fun x y H Q => ∃ i j, x = .str i ∧ y = .str j ∧ Q (.bl (!decide (j.cps.toList < i.cps.toList))) H
theorem opLeS {X : Cx} : OpR X (compareOp .LtE) rLeS := op_le_str
theorem c_leS {x y : Str} (h : Q (.bl (!decide (y.cps.toList < x.cps.toList))) H) : rLeS (.str x) (.str y) H Q := ⟨x, y, rfl, rfl, h⟩
/-- a comprehension over the signs of a text -/
theorem lc_sg (R : Nat → V → Prop) {z : Str} (nD : H1 D = none) (hn : z.length ≤ 100000) (hw : ∀ v, wipe ((wipe σ vs).set i0 (some v)) vs = wipe σ vs)
    (hs : ∀ i c H (Q' : VK), z.cps.toList[i]? = some c → Same H1 H → (∀ y H4, Same H H4 → R i y → Q' y H4) → te ((wipe σ vs).set i0 (some (.str ⟨#[c]⟩))) H Q')
    (hd : ∀ H xs, Same H1 H → H D = some (.lst xs) → xs.length = z.length → (∀ i y, xs[i]? = some y → R i y) → Qd H) : LcW (Its z) te (gName i0) tYes vs σ H1 D Qd := by
  refine ⟨fun i m H => m = z.length - i ∧ i ≤ z.length ∧ Same H1 H ∧ Acc R D i H, ⟨z.length, rfl, Nat.zero_le _, same_new nD, [], upd_same, rfl, fun j y e => by simp at e⟩, ?_⟩
  rintro i m H ⟨rfl, hi, st, xs, e, l, r⟩
  by_cases lt : i < z.length
  · refine .inr ⟨lt, fun H' => i + 1 ≤ z.length ∧ Same H1 H' ∧ Acc R D (i + 1) H', fun H' p' => ⟨z.length - (i + 1), by omega, rfl, p'⟩, fun x H' y => ?_⟩
    obtain ⟨rfl, c, ec, rfl⟩ := y
    refine ⟨hw _, c_yes ?_⟩
    rw [if_pos rfl]
    exact hs i c H' _ (by simpa using ec) st fun y H4 s4 ry => ⟨xs, s4 _ _ e, szl (by omega), lt, Same.mut (st.trans s4) nD, Acc.put l r ry⟩
  · have ei : i = z.length := by omega
    subst ei
    exact .inl ⟨Nat.le_refl _, hd H xs st e l r⟩
theorem bls_of {xs : List V} {n : Nat} (h : ∀ (i : Nat) y, xs[i]? = some y → y = V.bl true) : ∃ bs : List Bool, xs = bs.map V.bl ∧ bs.all id = true := by
  induction xs with
  | nil => exact ⟨[], rfl, rfl⟩
  | cons x r ih =>
    obtain ⟨bs, rfl, hb⟩ := ih fun i y e => h (i + 1) y e
    have := h 0 x rfl
    subst this
    exact ⟨true :: bs, rfl, by simpa using hb⟩
theorem le_one {a b : Nat} : (!decide ((⟨#[b]⟩ : Str).cps.toList < (⟨#[a]⟩ : Str).cps.toList)) = decide (a ≤ b) := by
  show (!decide ([b] < [a])) = decide (a ≤ b)
  have e : ([b] < [a]) ↔ b < a := by
    constructor
    · intro h
      cases h with
      | rel h => exact h
      | cons h => cases h
    · intro h
      exact List.Lex.rel h
  by_cases h : b < a
  · rw [decide_eq_true (e.mpr h), decide_eq_false (by omega)]
    rfl
  · rw [decide_eq_false (fun z => h (e.mp z)), decide_eq_true (by omega)]
    rfl
end
/-- a chain of two comparisons -/
theorem c_chain {r r' : R2} {ta tb tc : TE} {σ : L2.St} {H : Hp} {Q : VK} (h : ta σ H fun x H1 => tb σ H1 fun y H2 => r x y H2 fun z H3 => ∃ k, z = .bl k ∧ if k = true then (tc σ H3 fun u H4 => r' y u H4 Q) else Q (.bl false) H3) : tChain r r' ta tb tc σ H Q := h
theorem iteNT {A B : Prop} (h : B) : if (!true) = true then A else B := by
  rw [if_neg (by decide)]
  exact h
theorem iteNF {A B : Prop} (h : A) : if (!false) = true then A else B := by
  rw [if_pos (by decide)]
  exact h
theorem iteDT {p A B : Prop} [Decidable p] (hp : p) (h : A) : if decide p = true then A else B := by
  rw [if_pos (decide_eq_true hp)]
  exact h
theorem iteDF {p A B : Prop} [Decidable p] (hp : ¬ p) (h : B) : if decide p = true then A else B := by
  rw [if_neg (by rw [decide_eq_false hp]; decide)]
  exact h
theorem iteNDT {p A B : Prop} [Decidable p] (hp : p) (h : B) : if (!decide p) = true then A else B := by
  rw [decide_eq_true hp]
  exact iteNT h
theorem iteNDF {p A B : Prop} [Decidable p] (hp : ¬ p) (h : A) : if (!decide p) = true then A else B := by
  rw [decide_eq_false hp]
  exact iteNF h
theorem c_ienumT {K : PySem.W.Frag} {ta : TA} {σ : L2.St} {H : Hp} {R : It → Hp → Prop} (h : ta σ H fun vs H1 => ∃ a xs, vs = [.ref a] ∧ SqT K H1 a xs ∧ R (ItE K a) H1) : iEnumT K ta σ H R := h
section
variable {K : PySem.W.Frag} {C : Addr} {σ : L2.St} {H : Hp} {Q : VK} {ta : TE} {t : TA} {sp : Sp} {dvs : List V} {E : XK} {m : Str}
/-- C(..): a new instance and its dict, then __init__'s promise -/
def rMk (C : Addr) (sp : Sp) (E : XK) (vs : List V) (H : Hp) (Q : VK) : Prop := ∀ x dx, H x = none → H dx = none → dx ≠ x → sp (.ref x :: vs) (upd (upd H dx (.own x)) x (.ins C dx [])) (fun v H2 => v = .non ∧ Q (.ref x) H2) E
theorem c_make (h : t σ H fun vs H1 => rMk C sp E (vs ++ dvs) H1 Q) : tMake C sp dvs E t σ H Q := h
theorem c_meth (h : ta σ H fun x H1 => ∃ a dx fs, x = .ref a ∧ H1 a = some (.ins C dx fs) ∧ fs.lookup m = none ∧ t σ H1 fun vs H2 => sp (x :: (vs ++ dvs)) H2 Q E) : tMeth C m sp dvs E ta t σ H Q := h
def rPrp (C : Addr) (sp : Sp) (dvs : List V) (E : XK) (x : V) (H : Hp) (Q : VK) : Prop := ∃ a dx fs, x = .ref a ∧ H a = some (.ins C dx fs) ∧ sp (.ref a :: dvs) H Q E
theorem c_prop (h : ta σ H fun x H1 => rPrp C sp dvs E x H1 Q) : tProp C sp dvs E ta σ H Q := h
theorem c_sfld {K : PySem.W.Frag} {to tv : TE} {f : Str} {D : Ends} (h : tv σ H fun y H1 => to σ H1 fun x H2 => ∃ a C dx fs, x = .ref a ∧ H2 a = some (.ins C dx fs) ∧ Cls K C ∧ NoAttr K C f ∧ fs.length < 1000 ∧ D.nx σ (upd H2 a (.ins C dx (putF f y fs)))) : sFld K to tv f D σ H := h
end
/-- p or q, the second asked only if p is false: what follows is shown once -/
theorem c_orB {p q : Bool} {tb : TE} {σ : L2.St} {H : Hp} {Q : VK} (h0 : ∀ H2, Same H H2 → Q (.bl (p || q)) H2) (hb : p = false → ∀ Q' : VK, (∀ H2, Same H H2 → Q' (.bl q) H2) → tb σ H Q') : if p = true then Q (.bl true) H else tb σ H Q := by
  cases p with
  | true =>
    rw [if_pos rfl]
    exact h0 H (Same.refl H)
  | false =>
    rw [if_neg (by decide)]
    exact hb rfl Q fun H2 s => h0 H2 s
theorem c_andB {p q : Bool} {tb : TE} {σ : L2.St} {H : Hp} {Q : VK} (h0 : ∀ H2, Same H H2 → Q (.bl (p && q)) H2) (hb : p = true → ∀ Q' : VK, (∀ H2, Same H H2 → Q' (.bl q) H2) → tb σ H Q') : if p = true then tb σ H Q else Q (.bl false) H := by
  cases p with
  | true =>
    rw [if_pos rfl]
    exact hb rfl Q fun H2 s => h0 H2 s
  | false =>
    rw [if_neg (by decide)]
    exact h0 H (Same.refl H)
end Und
/-! defs with *names, classes made by them, instances called, + and str of instances, static methods -/
namespace Und
open PySem PySem.Spec PyProof.Rows L2
/-! ### a def f(a, .., *v) -/
structure FunS (K : PySem.W.Frag) (name qual : Str) (st : Stmt) (ps : List Str) (pv : Str) (f : Addr) : Prop where
  ex : ∃ (oc : Value) (od : Option Addr) (dV kV doc pm : Value) (an : Option Addr) (cdv ct : Value) (osl : Array (Option Value)),
    K.lookup f = some ⟨oc, od, .func (PySem.W.fnOf name qual (defArgs st) (defBody st) (defScope st) dV kV doc pm an cdv ct), osl⟩ ∧ PySem.W.codeIn K cdv qual = true ∧
    ∀ us rest : List Value, us.length = ps.length → bindArgs (PySem.W.fnOf name qual (defArgs st) (defBody st) (defScope st) dV kV doc pm an cdv ct) ⟨us ++ rest, []⟩ = (newTuple rest >>= fun t => pure (ps.zip us ++ [(pv, t)]))
  kp : PySem.W.keepIn K (.ref f) = true
def spStar (n : Nat) (sp : Sp) : Sp := fun vs H Q E => ∃ ws rest, vs = ws ++ rest ∧ ws.length = n ∧ rest.length ≤ sizeLine ∧ ∀ p, H p = none → sp (ws ++ [V.ref p]) (upd H p (.tup rest)) Q E
section
variable {P : Program} {w : World} {K : PySem.W.Frag} {mg : Str → Option Value} {base : Heap}
theorem FunS.ok {name qual pv : Str} {st : Stmt} {ps N : List Str} {f : Addr} {k : Nat} {sp : Sp} (F : FunS K name qual st ps pv f) (S : FnScope N (ps ++ [pv]) (defScope st))
    (hbody : ∀ (cdv : Value) (A : Around) (outer : List Env) (s : Shared) (H : Hp) (vs : List V) (Q : VK) (E : XK), Room k (A.deeper (envOfC qual (defScope st) s.heap.objs.size f cdv)) → sp vs H Q E →
      ∃ t, PSs (cxOf CX0 P w K mg base N qual (defScope st) f cdv A outer s H E).nox (defBody st) t ∧ t { nx := fun _ H' => Q .non H', rt := Q } (start N vs) H) : FnR P w K mg base CX0 (k + 1) f (spStar ps.length sp) := by
  obtain ⟨oc, od, dV, kV, doc, pm, an, cdv, ct, osl, lk, hcd, hb⟩ := F.ex
  refine StX.fn_star lk hcd S StX.cxUp_none hb fun A outer s H vs Q E hr hsp => ?_
  obtain ⟨t, h, q⟩ := hbody cdv A outer s H vs Q E hr hsp
  exact ⟨t, h.nox, q⟩
/-- FunD.ok where nothing is raised -/
theorem funD_ok {x qual : Str} {params : Arguments} {body : List Stmt} {scope : Scope} {dvs : List V} {kws : List (Str × V)} {f : Addr} {fd : FuncData} {N ps : List Str} {k : Nat} {sp : Sp} (F : FunD K x qual params body scope dvs kws f fd) (S : FnScope N ps scope) (len : ∀ vs H Q E, sp vs H Q E → vs.length = ps.length)
    (hbody : ∀ (cdv : Value) (A : Around) (outer : List Env) (s : Shared) (H : Hp) (vs : List V) (Q : VK) (E : XK), Room k (A.deeper (envOfC qual scope s.heap.objs.size f cdv)) → sp vs H Q E →
      ∃ t, PSs (cxOf CX0 P w K mg base N qual scope f cdv A outer s H E).nox body t ∧ t { nx := fun _ H' => Q .non H', rt := Q } (start N vs) H) : FnOk P w K mg base CX0 (k + 1) f fd ps sp :=
  F.ok S len fun cdv A outer s H vs Q E hr hsp => by
    obtain ⟨t, h, q⟩ := hbody cdv A outer s H vs Q E hr hsp
    exact ⟨t, h.nox, q⟩
end
/-! ### making by such an __init__ -/
def rMkR (C : Addr) (sp : Sp) (E : XK) (vs : List V) (H : Hp) (Q : VK) : Prop := ∀ x dx, H x = none → H dx = none → dx ≠ x → sp (V.ref x :: vs) (upd (upd H dx (.own x)) x (.ins C dx [])) (fun v H2 => v = .non ∧ Q (.ref x) H2) E
section
variable {X : Cx} {CX : CXT} {k : Nat} {f C : Addr} {sp : Sp} {E : XK} {x : Str} {e fe : Expr} {es : List Expr} {te tf : TE} {t : TA} {p pos : Pos}
theorem pe_makeR0 (M : Mk X.K C f) (F : FnR X.prog X.w X.K X.mg X.base CX k f sp) (hr : Room (k + 1) X.A) (hg : Gl X x) (hm : X.mg x = some (.ref C)) (hx : Passes CX X E) (hdb : (x == ("__debug__" : Str)) = false := by decide) :
    PE X (.Call (.Name x p) [] [] pos) (StX.tMakeR C sp E tNil) := by
  refine ⟨fun pins s σ H Q I h => ?_⟩
  refine wpAny_Call_Name_kw (ld_glob I hg hm ?_ hdb)
  exact PySem.W.callWith_K0 I.kIn M.kp (StX.run_makeR (us := []) M F hr hx I .nil h)
theorem c_makeR {σ : L2.St} {H : Hp} {Q : VK} (h : t σ H fun vs H1 => rMkR C sp E vs H1 Q) : StX.tMakeR C sp E t σ H Q := h
/-! ### a static method, off its class -/
structure CStat (K : PySem.W.Frag) (C : Addr) (mc : Value) (m : Str) (p g : Addr) : Prop where
  at_ : PySem.W.findCls K (.ref C) mc m = some (.get (.builtin "staticmethod.__get__") (.ref p) .none (.ref C))
  rc : ∃ rest, PySem.W.recIn K p "staticmethod" = some (.ref g :: rest)
  kp : PySem.W.keepIn K (.ref g) = true
def tSMeth (C : Addr) (sp : Sp) (E : XK) (ta : TE) (t : TA) : TE := fun σ H Q => ta σ H fun x H1 => x = .ref C ∧ t σ H1 fun vs H2 => sp vs H2 Q E
theorem c_smeth {σ : L2.St} {H : Hp} {Q : VK} (h : te σ H fun x H1 => x = .ref C ∧ t σ H1 fun vs H2 => sp vs H2 Q E) : tSMeth C sp E te t σ H Q := h
theorem pe_smeth {o : Expr} {m : Str} {apos : Pos} {g q : Addr} {mc : Value} {ta : TE} {pl : Sem Bool} (he : PE X o ta) (r : ClX.CRead X.K C mc) (c : CStat X.K C mc m q g) (F : FnR X.prog X.w X.K X.mg X.base CX k g sp) (hr : Room k X.A) (hx : Passes CX X E) (ha : PA X (e :: es) t)
    (hst : starEach (e :: es) X.env = (false, eval e X.env) :: starEach es X.env := by rfl) (hpl : (backTo pos (starEach es X.env)).any (·.1) = false := by rfl)
    (ht : eval (.Call (.Attribute o m apos) (e :: es) [] pos) X.env = (do
      let ov ← eval o X.env
      standAt apos.atName
      let (f, first) ← holding [ov] (getMethod ov m pl)
      callWith pos f first (backTo pos (starEach (e :: es) X.env)) (backToKw pos (keywordEach [] X.env))) := by rfl) :
    PE X (.Call (.Attribute o m apos) (e :: es) [] pos) (tSMeth C sp E ta t) := by
  refine ⟨fun pins s σ H Q I h => ?_⟩
  refine PySem.W.methodCall_KW (pl := pl) (thn (he.run pins s σ H _ I h) fun u s1 ⟨x, H1, I1, rx, ex, q⟩ => ?_) ht
  subst ex
  obtain rfl : u = Value.ref C := rx
  obtain ⟨rest, hp⟩ := c.rc
  refine PySem.W.method_cls I1.kIn r.ga ?_
  refine PySem.W.cls_bind I1.kIn r.rd c.at_ (wpAny_call (PySem.W.sm_get (s := { s1 with toks := s1.toks + 1 }) I1.kIn hp (PySem.W.handed_on rfl ?_)))
  have I2 := I1.tok (s1.toks + 1)
  exact PySem.W.callWith_K (h₀ := X.base) I2.ok.mod.kin c.kp (thn (ha.run pos pins _ σ H1 _ I2 q) fun us s3 ⟨vs, H2, I3, rv, q2⟩ => ⟨I3.kIn, wpAny_call (run_fnR F hr hx I3 rv q2)⟩) hst hpl
end
/-! ### a + b of two instances of a class with an own __add__ -/
structure AddOwn (K : PySem.W.Frag) (C f : Addr) : Prop where
  at_ : PySem.W.findIn K (.ref C) "__add__" = some (some (.ref f))
  fn : PySem.W.isFn K (.ref f) = true
  sf : PySem.W.selfFirst K C = true
def rAddO (C : Addr) (sp : Sp) (E : XK) : R2 := fun x y H Q => ∃ a dx fs b dy gs, x = .ref a ∧ y = .ref b ∧ H a = some (.ins C dx fs) ∧ H b = some (.ins C dy gs) ∧ sp [.ref a, .ref b] H (fun z H' => ∃ r, z = .ref r ∧ Q (.ref r) H') E
section
variable {X : Cx} {CX : CXT} {C f : Addr} {fd : FuncData} {ps : List Str} {n : Nat} {sp : Sp} {E : XK}
theorem opAddOwn (W : AddOwn X.K C f) (F : FnOk X.prog X.w X.K X.mg X.base CX n f fd ps sp) (hr : Room n X.A) (hb : Binds X.K fd ps []) (hx : Passes CX X E) : OpR X (binaryOp .Add) (rAddO C sp E) := by
  intro pins s σ H x y v u Q I rx ry h
  obtain ⟨a, dx, fs, b, dy, gs, rfl, rfl, ha, hb', q⟩ := h
  cases rx
  cases ry
  obtain ⟨mA, J, _⟩ := ins_get I.hok ha
  obtain ⟨mB, J', _⟩ := ins_get I.hok hb'
  obtain ⟨od, J, _⟩ := J.look
  obtain ⟨od', J', _⟩ := J'.look
  obtain ⟨m, hF⟩ := I.fr
  refine PySem.W.binop_K (op := .Add) hF I.ok.mod.kin J J'.type W.sf W.at_ W.fn ?_
  refine wpAny_mono (own_call F hb hx I hr rfl q) (fun w s' z => ?_) fun _ _ z => z
  obtain ⟨v, H', I', rv, r, rfl, qk⟩ := z
  cases rv
  exact ⟨.ref r, H', I', rfl, qk⟩
/-! ### str of an instance of a class with an own __str__ -/
structure StrOwn (K : PySem.W.Frag) (C f : Addr) : Prop where
  at_ : PySem.W.findIn K (.ref C) "__str__" = some (some (.ref f))
  fn : PySem.W.isFn K (.ref f) = true
def rStrO (C : Addr) (sp : Sp) (E : XK) : List V → Hp → VK → Prop := fun xs H Q => ∃ a dx fs, xs = [.ref a] ∧ H a = some (.ins C dx fs) ∧ sp [.ref a] H (fun z H' => ∃ r, z = .str r ∧ Q (.str r) H') E
theorem own_call1 {A : Around} {pins : List (Addr × Obj)} {σ : L2.St} {H : Hp} {s : Shared} {a : Addr} {Q : VK} (F : FnOk X.prog X.w X.K X.mg X.base CX n f fd ps sp) (hb : Binds X.K fd ps []) (hx : Passes CX X E) (I : Inv X pins σ H s) (hr : Room n A) (hf : A.frames = X.A.frames)
    (h : sp [.ref a] H Q E) : wpAny (model X.prog X.w) A (call (.ref f) [.ref a]) (EP X pins σ Q) X.xe s := by
  have e0 : Env0 X.prog X.w X.K X.mg X.base A X.stack s H := by
    have e := I.env0
    exact ⟨by rw [hf]; exact e.frames, e.mod, e.bs, e.bsz, e.funs, e.frf, e.hok, e.bare⟩
  have hl := F.len _ _ _ _ h
  have r2 : Vals [V.ref a] [Value.ref a] := .cons rfl .nil
  refine wpAny_call (codeAny_mono (F.run A X.stack s H ⟨[.ref a], []⟩ [.ref a] [.ref a] Q E hr e0 (by
    have z := hb s [.ref a] I.kIn (by simpa using hl)
    simpa using z) r2 h) fun r s' hq => ?_)
  cases r with
  | error e => exact hx pins σ H s e s' I hq
  | ok fl =>
    cases fl with
    | ret w => exact I.after hq
    | next => exact False.elim hq
    | brk => exact False.elim hq
    | cont => exact False.elim hq
theorem callStrO (W : StrOwn X.K C f) (F : FnOk X.prog X.w X.K X.mg X.base CX n f fd ps sp) (hr : Room (n + 2) X.A) (hb : Binds X.K fd ps []) (hx : Passes CX X E) : CallR X (.type "str") (rStrO C sp E) := by
  intro pins s σ H xs us Q I r h
  obtain ⟨a, dx, fs, rfl, ha, q⟩ := h
  obtain ⟨u, rfl, ru⟩ := vals1 r
  cases ru
  obtain ⟨mA, J, _⟩ := ins_get I.hok ha
  obtain ⟨od, J, _⟩ := J.look
  have h2 : Room n X.A.in1.in1 := hr.in1.in1
  refine PySem.W.kso_call h2.units0 I.kIn J W.at_ W.fn ?_
  refine wpAny_mono (own_call1 F hb hx I h2 rfl q) (fun w s' z => ?_) fun _ _ z => z
  obtain ⟨v, H', I', rv, r, rfl, qk⟩ := z
  obtain ⟨t, rfl⟩ := rv
  exact ⟨.str r, H', I', ⟨t, rfl⟩, qk⟩
end
end Und
namespace Und
open PySem PySem.Spec PyProof.Rows L2
section
variable {X : Cx} {K : PySem.W.Frag}
theorem crSum (hc : X.calm = true) (h : X.K = K := by rfl) : CallR X (.builtin "sum") (rSum K) := h ▸ cr_sum hc
def tStarK (K : PySem.W.Frag) (te : TE) (t : TA) : TA := fun σ H Q => te σ H fun x H1 => ∃ p xs, x = V.ref p ∧ (SqT K H1 p xs ∨ SqL K H1 p xs) ∧ t σ H1 fun ys H2 => Q (xs ++ ys) H2
theorem paStar {e : Expr} {es : List Expr} {te : TE} {t : TA} {p : Pos} (he : PE X e te) (hr : PA X es t) (h : X.K = K := by rfl) (hs : starEach (.Starred e p :: es) X.env = (true, eval e X.env) :: starEach es X.env := by rfl) : PA X (.Starred e p :: es) (tStarK K te t) := h ▸ StX.pa_star he hr hs
def rStarK (K : PySem.W.Frag) (x : V) (H : Hp) (Q : List V → Prop) : Prop := ∃ p xs, x = V.ref p ∧ (SqT K H p xs ∨ SqL K H p xs) ∧ Q xs
theorem c_star {σ : L2.St} {H : Hp} {te : TE} {t : TA} {Q : List V → Hp → Prop} (h : te σ H fun x H1 => rStarK K x H1 fun xs => t σ H1 fun ys H2 => Q (xs ++ ys) H2) : tStarK K te t σ H Q := h
theorem c_starT {a : Addr} {xs : List V} {H : Hp} {Q : List V → Prop} (e : SqT K H a xs) (h : Q xs) : rStarK K (.ref a) H Q := ⟨a, xs, rfl, .inl e, h⟩
theorem c_starL {a : Addr} {xs : List V} {H : Hp} {Q : List V → Prop} (e : SqL K H a xs) (h : Q xs) : rStarK K (.ref a) H Q := ⟨a, xs, rfl, .inr e, h⟩
end
end Und
namespace Und
open PySem PySem.Spec PyProof.Rows L2
/-! ### calling an instance -/
def rCallK (C : Addr) (sp : Sp) (E : XK) (t : TA) (σ : L2.St) (y : V) (H : Hp) (Q : VK) : Prop := ∃ a, y = V.ref a ∧ t σ H fun vs H2 => (∃ dx fs, H2 a = some (.ins C dx fs)) ∧ sp (V.ref a :: vs) H2 Q E
def tCallK (C : Addr) (sp : Sp) (E : XK) (tf : TE) (t : TA) : TE := fun σ H Q => tf σ H fun y H1 => rCallK C sp E t σ y H1 Q
theorem c_callK {C : Addr} {sp : Sp} {E : XK} {tf : TE} {t : TA} {σ : L2.St} {H : Hp} {Q : VK} (h : tf σ H fun y H1 => rCallK C sp E t σ y H1 Q) : tCallK C sp E tf t σ H Q := h
theorem c_ck {C a : Addr} {sp : Sp} {E : XK} {t : TA} {σ : L2.St} {H : Hp} {Q : VK} (h : t σ H fun vs H2 => (∃ dx fs, H2 a = some (.ins C dx fs)) ∧ sp (V.ref a :: vs) H2 Q E) : rCallK C sp E t σ (.ref a) H Q := ⟨a, rfl, h⟩
theorem peCallO {X : Cx} {CX : CXT} {k : Nat} {C g : Addr} {sp : Sp} {E : XK} {e fe : Expr} {es : List Expr} {tf : TE} {t : TA} {pos : Pos} (hf : PE X fe tf) (c : StX.CallO X.K C g) (F : FnR X.prog X.w X.K X.mg X.base CX k g sp) (hr : Room k X.A) (hx : Passes CX X E) (ha : PA X (e :: es) t)
    (ht : eval (.Call fe (e :: es) [] pos) X.env = (do callWith pos (← eval fe X.env) [] (backTo pos (starEach (e :: es) X.env)) (backToKw pos (keywordEach [] X.env))) := by rfl)
    (he : starEach (e :: es) X.env = (false, eval e X.env) :: starEach es X.env := by rfl) (hpl : (backTo pos (starEach es X.env)).any (·.1) = false := by rfl) : PE X (.Call fe (e :: es) [] pos) (tCallK C sp E tf t) := by
  refine ⟨fun pins s σ H Q I h => ?_⟩
  refine Call_ (thn (hf.run pins s σ H _ I h) fun u s1 ⟨y, H1, I1, ry, a, ey, q⟩ => ?_) ht
  subst ey
  obtain rfl : u = Value.ref a := ry
  refine StX.callO_with (thn (ha.run pos pins s1 σ H1 _ I1 q) fun us s2 ⟨vs, H2, I2, r, hi, q2⟩ => ?_) he hpl
  have hi2 : StX.InsC X H2 a C := .inr hi
  obtain ⟨ox, od, J, hd⟩ := StX.insC_at I2 hi2
  exact ⟨⟨C, ox, od, J, hd⟩, StX.run_callO c F hr hx I2 hi2 r q2⟩
end Und
namespace Und
open PySem PySem.Spec PyProof.Rows L2
/-! ### texts -/
section
variable {X : Cx} {K : PySem.W.Frag} {σ : L2.St} {H : Hp} {Q : VK} {ta tb : TE}
theorem peGlobS {x z : Str} {pos : Pos} (hg : Gl X x) (hm : ∃ t, X.mg x = some (.str z t)) (hd : (x == ("__debug__" : Str)) = false := by decide) : PE X (.Name x pos) (tC (.str z)) := by
  obtain ⟨t, hm⟩ := hm
  exact pe_glob hg hm ⟨t, rfl⟩ hd
def tOrK (K : PySem.W.Frag) (ta tb : TE) : TE := fun σ H Q => ta σ H fun x H1 => ∃ k, TruV K x H1 k ∧ if k = true then Q x H1 else tb σ H1 Q
theorem peOrT {a b : Expr} {rest : List Expr} {pos : Pos} (ha : PE X a ta) (hb : PE X (.BoolOp .Or (b :: rest) pos) tb) (h : X.K = K := by rfl) : PE X (.BoolOp .Or (a :: b :: rest) pos) (tOrK K ta tb) := h ▸ pe_orT ha hb
def rTru (K : PySem.W.Frag) (tb : TE) (σ : L2.St) (x : V) (H : Hp) (Q : VK) : Prop := ∃ k, TruV K x H k ∧ if k = true then Q x H else tb σ H Q
theorem c_orT (h : ta σ H fun x H1 => rTru K tb σ x H1 Q) : tOrK K ta tb σ H Q := h
theorem c_truT {a : Addr} {x : V} {xs : List V} (e : SqT K H a (x :: xs)) (h : Q (.ref a) H) : rTru K tb σ (.ref a) H Q := ⟨true, .inr (.inl ⟨_, e, rfl⟩), by rw [if_pos rfl]; exact h⟩
theorem c_truN (h : tb σ H Q) : rTru K tb σ .non H Q := ⟨false, rfl, by rw [if_neg Bool.false_ne_true]; exact h⟩
def rMS (g : Str → Str → Bool) (x : V) (xs : List V) (H : Hp) (Q : VK) : Prop := ∃ a b, x = .str a ∧ xs = [.str b] ∧ Q (.bl (g a b)) H
theorem mrStartswith : MtR X "str.startswith" (rMS Txt.startswith) := mt_startswith
theorem mrEndswith : MtR X "str.endswith" (rMS Txt.endswith) := mt_endswith
theorem c_rMS {g : Str → Str → Bool} {y z : Str} {b : Bool} (e : g y z = b) (h : Q (.bl b) H) : rMS g (.str y) [.str z] H Q := ⟨y, z, rfl, rfl, by rw [e]; exact h⟩
def rSplit (x : V) (xs : List V) (H : Hp) (Q : VK) : Prop := ∃ a b, x = .str a ∧ xs = [.str b] ∧ (b.length == 0) = false ∧ a.length + 2 ≤ sizeLine ∧ rNewStrs (Txt.split a b) H Q
def rPart (x : V) (xs : List V) (H : Hp) (Q : VK) : Prop := ∃ a b, x = .str a ∧ xs = [.str b] ∧ (b.length == 0) = false ∧ a.length ≤ sizeLine ∧ ∀ p, H p = none → Q (.ref p) (upd H p (.tup [.str (Txt.partition a b).1, .str (Txt.partition a b).2.1, .str (Txt.partition a b).2.2]))
theorem peSplit {o e : Expr} {apos pos : Pos} (ho : PE X o ta) (he : PE X e tb) (hs : starEach [e] X.env = [(false, eval e X.env)] := by rfl) (hbase : attributeBase o "split" X.env (eval o X.env) = eval o X.env := by rfl) (hline : (apos.endLine == pos.line) = true := by rfl) :
    PE X (.Call (.Attribute o "split" apos) [e] [] pos) (tM1 rSplit ta tb) := pe_split ho he hs hbase hline
theorem pePartition {o e : Expr} {apos pos : Pos} (ho : PE X o ta) (he : PE X e tb) (hs : starEach [e] X.env = [(false, eval e X.env)] := by rfl) (hbase : attributeBase o "partition" X.env (eval o X.env) = eval o X.env := by rfl) (hline : (apos.endLine == pos.line) = true := by rfl) :
    PE X (.Call (.Attribute o "partition" apos) [e] [] pos) (tM1 rPart ta tb) := pe_partition ho he hs hbase hline
theorem c_split {y z : Str} {ys : List Str} (e : Txt.split y z = ys) (h0 : (z.length == 0) = false) (hl : y.length ≤ 100000) (h : ∀ p H2, H p = none → Same H H2 → H2 p = some (.lst (ys.map V.str)) → Q (.ref p) H2) : rSplit (.str y) [.str z] H Q :=
  ⟨y, z, rfl, rfl, h0, Nat.le_trans (show y.length + 2 ≤ 200000 by omega) (by decide), fun p np => by rw [e]; exact h p _ np (same_new np) upd_same⟩
theorem c_part1 {y z a b c : Str} (e : Txt.partition y z = (a, b, c)) (h0 : (z.length == 0) = false) (hl : y.length ≤ 100000) (h : ∀ p H2, H p = none → Same H H2 → H2 p = some (.tup [.str a, .str b, .str c]) → Q (.ref p) H2) : rPart (.str y) [.str z] H Q :=
  ⟨y, z, rfl, rfl, h0, sz hl, fun p np => by rw [e]; exact h p _ np (same_new np) upd_same⟩
def rIntS (xs : List V) (H : Hp) (Q : VK) : Prop := ∃ a n, xs = [.str a] ∧ PySem.intText? a = some n ∧ a.length ≤ 640 ∧ Q (.int n) H
theorem callIntS : CallR X (.type "int") rIntS := call_int_str
theorem c_intS {a : Str} {n : Int} (e : PySem.intText? a = some n) (hl : a.length ≤ 640) (h : Q (.int n) H) : rIntS [.str a] H Q := ⟨a, n, rfl, e, hl, h⟩
end
end Und
namespace Und
open PySem PySem.Spec PyProof.Rows L2
theorem c_par3 {i j l : Nat} {t : TA} {D : Ends} {σ : L2.St} {H : Hp} (h : t σ H fun vs H1 => ∃ u v w, vs = [u, v, w] ∧ D.nx (((σ.set i (some u)).set j (some v)).set l (some w)) H1) : tPar3 i j l t D σ H := h
theorem c_three {x y z : V} {R : V → V → V → Prop} (h : R x y z) : ∃ u v w, [x, y, z] = [u, v, w] ∧ R u v w := ⟨x, y, z, rfl, h⟩
end Und
/-! del xs[a:] of a list -/
namespace Und
open PySem PySem.Spec PyProof.Rows L2
theorem tail_bounds {a n : Nat} (ha : a ≤ n) : sliceBounds (some (a : Int)) none none n = ((a : Int), (n : Int), 1) := by
  have h0 : ¬ ((a : Int) < 0) := by omega
  simp only [sliceBounds, Option.getD_none, h0, if_false, show (1 : Int) > 0 by decide, if_true]
  congr 1
  omega
theorem keep_zip (sel : Nat → Bool) (a : Nat) : ∀ (xs : List Value) (k : Nat), (∀ j, k ≤ j → j < k + xs.length → sel j = decide (a ≤ j)) → (xs.zipIdx k).filterMap (fun x => if sel x.2 = true then none else some x.1) = xs.take (a - k)
  | [], k, _ => by simp
  | x :: xs, k, h => by
    have h0 := h k (Nat.le_refl _) (by simp)
    have ih := keep_zip sel a xs (k + 1) fun j h1 h2 => h j (by omega) (by simp; omega)
    rw [List.zipIdx_cons, List.filterMap_cons]
    dsimp only
    rw [h0]
    by_cases hk : a ≤ k
    · rw [decide_eq_true hk, if_pos rfl, show a - k = 0 from by omega, List.take_zero]
      dsimp only
      rw [ih, show a - (k + 1) = 0 from by omega, List.take_zero]
    · rw [decide_eq_false hk, if_neg Bool.false_ne_true, show a - k = (a - (k + 1)) + 1 from by omega, List.take_succ_cons]
      dsimp only
      rw [ih]
theorem keep_of (sel : Nat → Bool) {a n : Nat} (hs : ∀ j : Nat, sel j = (decide ((a : Int) ≤ (j : Int)) && decide ((j : Int) < (n : Int)) && (((j : Int) - (a : Int)) % 1 == 0))) (xs : Array Value) (hn : xs.size = n) :
    (xs.toList.zipIdx.filterMap fun x => if sel x.2 = true then none else some x.1).toArray = (xs.toList.take a).toArray := by
  have e := keep_zip sel a xs.toList 0 fun j _ h2 => by
    rw [hs j, Int.emod_one, show ((0 : Int) == 0) = true from rfl, Bool.and_true]
    have hl : j < n := by
      rw [← hn]
      simpa using h2
    rw [decide_eq_true (show (j : Int) < (n : Int) by omega), Bool.and_true]
    by_cases ha : a ≤ j
    · rw [decide_eq_true ha, decide_eq_true (by omega)]
    · rw [decide_eq_false ha, decide_eq_false (by omega)]
  rw [Nat.sub_zero] at e
  exact congrArg List.toArray e
section
variable {prog : Program} {w : World} {A : Around} {E : Value → Shared → Prop} {s : Shared}
theorem upd_any {l : Addr} {items : Array Value} {n : Nat} {f : Array Value → Array Value} {Q : Unit → Shared → Prop} (e : s.heap.get? l = some { cls := .type "list", data := .seq items n }) (hz : items.size ≤ sizeLine) (hf : (f items).size ≤ sizeLine + 1)
    (h : Q () { s with heap := s.heap.update l (Obj.mapSeq f) }) : wpAny (model prog w) A (Builtin.List.listUpdate (.ref l) f) Q E s := wpAny_updateSeq (hz := hz) (_hz' := hf) e rfl h
theorem del_tail {l sl : Addr} {items : Array Value} {n a : Nat} {vl : Value} {Q : Unit → Shared → Prop} (e : s.heap.get? l = some { cls := .type "list", data := .seq items n }) (hs : s.heap.IsSliceOf sl vl .none .none) (pl : IsPart vl (some (a : Int))) (ha : a ≤ items.size) (hz : items.size ≤ sizeLine)
    (h : ∀ f : Array Value → Array Value, (∀ xs : Array Value, xs.size = items.size → f xs = (xs.toList.take a).toArray) → Q () { s with heap := s.heap.update l (Obj.mapSeq f) }) : wpAny (model prog w) A (delItem (.ref l) (.ref sl)) Q E s := by
  have tl : s.heap.IsList l items := PySem.IsL.isList e
  obtain ⟨ob, g, gc, gd⟩ := id hs
  have ts : s.TypeIs (.ref sl) "slice" := ⟨ob, g, gc⟩
  have nz : ¬ ((rawPart none == rawInt 0) = true) := Bool.false_ne_true
  refine wpAny_delItem_slot tl.typeIs (by decide) PySem.F.slot_list_delitem (wpAny_call_entry PySem.F.slot_list_delitem tl.typeIs PySem.F.entry_list_delitem ?_ (PySem.F.args_list_delitem_2 _ _))
  show wpAny _ _ (Builtin.List.listSubscript? (.ref sl) >>= _) _ _ s
  refine wpAny_bind (m := Builtin.List.listSubscript? (.ref sl)) ?_; unfold Builtin.List.listSubscript?
  refine wpAny_bind (wpAny_specialOf ts slice_no_index ?_); simp only [Option.isNone_none, if_true]; refine wpAny_pure ?_
  show wpAny _ _ (typeOf (.ref sl) >>= _) _ _ s
  refine wpAny_bind (wpAny_typeOf ts ?_); refine PySem.W.KFB.if_not (by decide) ?_; rw [listSliceParts_eq]
  refine wpAny_bind (wpAny_bind (wpAny_field g gd (x := .none) rfl (wpAny_bind (wpAny_listPart .none ?_)))); rw [if_neg nz]
  refine wpAny_bind (wpAny_field g gd (x := vl) rfl (wpAny_bind (wpAny_listPart pl ?_)))
  refine wpAny_bind (wpAny_field g gd (x := .none) rfl (wpAny_bind (wpAny_listPart .none (wpAny_pure ?_))))
  refine wpAny_bind (m := Builtin.List.listItems (.ref l)) ?_; unfold Builtin.List.listItems; refine wpAny_bind (wpAny_seqItems e rfl (wpAny_pure ?_))
  refine wpAny_bind (wpAny_of_eq ((sliceIndices_raw (some (a : Int)) none none items.size (by simp)).trans (congrArg (pure : Int × Int × Int → Sem (Int × Int × Int)) (tail_bounds ha))) ?_)
  refine wpAny_bind (wpAny_rule (wpAny_bind (upd_any e hz ?_ ?_)))
  · have k := keep_of _ (a := a) (n := items.size) (fun j => rfl) items rfl
    refine Nat.le_trans (Nat.le_of_eq (congrArg Array.size k)) ?_
    rw [List.size_toArray, List.length_take, Array.length_toList]
    omega
  · exact wpAny_bind (wpAny_letGo (wpAny_pure ⟨_, rfl, h _ fun xs hx => keep_of _ (fun j => rfl) xs hx⟩))
end
end Und
namespace Und
open PySem PySem.Spec PyProof.Rows L2
section
variable {X : Cx}
theorem del_tail_I {pins : List (Addr × Obj)} {s : Shared} {σ : L2.St} {H : Hp} {l sl : Addr} {xs : List V} {a : Int} {vl : Value} {Q : Unit → Shared → Prop} (I : Inv X pins σ H s) (hH : H l = some (.lst xs)) (hs : s.heap.IsSliceOf sl vl .none .none) (ra : RelV (.int a) vl) (h0 : 0 ≤ a) (ha : a ≤ xs.length)
    (h : ∀ s', Inv X pins σ (upd H l (.lst (xs.take a.toNat))) s' → Q () s') : wpAny (model X.prog X.w) X.A (delItem (.ref l) (.ref sl)) Q X.xe s := by
  obtain ⟨ta, rfl⟩ := ra
  obtain ⟨z, its, n, r, hl, e⟩ := I.lstM hH
  obtain ⟨k, rfl⟩ := Int.eq_ofNat_of_zero_le h0
  rw [Int.toNat_natCast] at h
  refine del_tail (a := k) e hs (.int _ _) (by rw [List.size_toArray]; omega) (by rw [List.size_toArray]; omega) fun f hf => h _ ?_
  refine I.lset (its' := its.take k) (t' := s.toks) hH e (hf _ rfl) (r.take k) ?_
  rw [List.length_take]
  omega
/-- del o[lo:] of a list -/
def rDelT (x y : V) (H : Hp) (N : Hp → Prop) : Prop := ∃ l xs a, x = .ref l ∧ y = .int a ∧ H l = some (.lst xs) ∧ 0 ≤ a ∧ a ≤ xs.length ∧ N (upd H l (.lst (xs.take a.toNat)))
def tDelT (to tl : TE) : TS := fun D σ H => to σ H fun x H1 => tl σ H1 fun y H2 => rDelT x y H2 fun H3 => D.nx σ H3
theorem c_delT {to tl : TE} {D : Ends} {σ : L2.St} {H : Hp} (h : to σ H fun x H1 => tl σ H1 fun y H2 => rDelT x y H2 fun H3 => D.nx σ H3) : tDelT to tl D σ H := h
theorem c_rDelT {l : Addr} {xs : List V} {a : Nat} {H : Hp} {N : Hp → Prop} (e : H l = some (.lst xs)) (ha : a ≤ xs.length) (h : N (upd H l (.lst (xs.take a)))) : rDelT (.ref l) (.int (a : Int)) H N := ⟨l, xs, a, rfl, rfl, e, Int.natCast_nonneg a, by omega, by rw [Int.toNat_natCast]; exact h⟩
theorem ps_delT {o lo : Expr} {to tl : TE} {p tpos pos : Pos} (ho : PE X o to) (hl : PE X lo tl) : PS X (.Delete [.Subscript o (.Slice (some lo) none none p) tpos] pos) (tDelT to tl) := by
  refine ⟨fun pins s σ H D I h => ?_⟩
  refine wpAny_Delete (wpAny_deleteEach_cons (wpAny_delete_Subscript (thn (ho.run pins s σ H _ I h) fun u s1 ⟨x, H1, I1, rx, q1⟩ => wpAny_Slice (thn (hl.run pins s1 σ H1 _ I1 q1) fun v s2 ⟨y, H2, I2, ry, q2⟩ => ?_))))
  obtain ⟨l, xs, a, rfl, rfl, hH, h0, ha, q3⟩ := q2
  cases (show u = Value.ref l from rx)
  rw [evalPart_none]
  refine wpAny_pure (wpAny_pure ?_)
  have I3 := I2.kept (t' := s2.toks) (h' := s2.heap.push { cls := .type "slice", data := .fields #[v, .none, .none] }) fun b ob q => Heap.get?_push_of_some _ q
  exact del_tail_I I3 hH (Heap.IsSliceOf.new ..) ry h0 ha fun s3 I4 => wpAny_deleteEach_nil ⟨σ, _, I4, q3⟩
end
end Und
/-! data that is compared -/
namespace Und
open PySem PySem.Spec PyProof.Rows L2
/-- a tuple of texts, as data -/
def dNames (ns : List Str) : PyData := .tuple (ns.map .str)
def dInts (ns : List Int) : PyData := .list (ns.map .int)
section
variable {K : PySem.W.Frag} {H H' : Hp} {Q : VK} {x y v : V} {d e : PyData}
theorem dpAll_strs : ∀ ns : List Str, DpAll K H (ns.map V.str) (ns.map PyData.str)
  | [] => .nil
  | z :: r => .cons (.str z) (dpAll_strs r)
theorem dpAll_ints : ∀ ns : List Int, DpAll K H (ns.map V.int) (ns.map PyData.int)
  | [] => .nil
  | z :: r => .cons (.int z) (dpAll_ints r)
theorem dp_names {a : Addr} {ns : List Str} (h : SqT K H a (ns.map V.str)) : Dp K H (.ref a) (dNames ns) := .tup h (dpAll_strs ns)
theorem dp_ints {a : Addr} {ns : List Int} (h : SqL K H a (ns.map V.int)) : Dp K H (.ref a) (dInts ns) := .lst h (dpAll_ints ns)
theorem low_ok {z : Str} (h : Low z) : PyData.strOk z = true := by
  unfold PyData.strOk
  rw [Array.all_eq_true_iff_forall_mem]
  intro c hc
  have := h c (by simpa using hc)
  exact decide_eq_true (by omega)
theorem canAll_strs : ∀ ns : List Str, (∀ z ∈ ns, PyData.strOk z = true) → PyData.canLayAll0 (ns.map PyData.str) = true
  | [], _ => by simp [PyData.canLayAll0]
  | z :: r, h => by
    rw [List.map_cons]
    unfold PyData.canLayAll0
    rw [canAll_strs r fun y hy => h y (List.mem_cons_of_mem _ hy)]
    unfold PyData.canLay0
    rw [h z List.mem_cons_self]
    rfl
theorem depthAll_strs : ∀ ns : List Str, PyData.depthAll (ns.map PyData.str) = 0
  | [] => by simp [PyData.depthAll]
  | z :: r => by
    rw [List.map_cons]
    unfold PyData.depthAll
    rw [depthAll_strs r]
    simp [PyData.depth]
theorem canAll_ints : ∀ ns : List Int, PyData.canLayAll0 (ns.map PyData.int) = true
  | [] => by simp [PyData.canLayAll0]
  | z :: r => by
    rw [List.map_cons]
    unfold PyData.canLayAll0
    rw [canAll_ints r]
    simp [PyData.canLay0]
theorem depthAll_ints : ∀ ns : List Int, PyData.depthAll (ns.map PyData.int) = 0
  | [] => by simp [PyData.depthAll]
  | z :: r => by
    rw [List.map_cons]
    unfold PyData.depthAll
    rw [depthAll_ints r]
    simp [PyData.depth]
/-- data within some depth that can be laid -/
structure DOk (d : PyData) (n : Nat) : Prop where
  lay : d.canLay0 = true
  dep : d.depth ≤ n
theorem DOk.shaped {n : Nat} (h : DOk d n) (hn : n ≤ 64) : SeqAt.shaped d = true := by
  unfold SeqAt.shaped
  rw [h.lay, Bool.true_and]
  exact decide_eq_true (Nat.le_trans h.dep hn)
theorem DOk.mono {n m : Nat} (h : DOk d n) (l : n ≤ m) : DOk d m := ⟨h.lay, Nat.le_trans h.dep l⟩
theorem dok_names {ns : List Str} (h : ∀ z ∈ ns, Low z) : DOk (dNames ns) 1 := by
  refine ⟨?_, ?_⟩
  · unfold dNames PyData.canLay0
    exact canAll_strs ns fun z hz => low_ok (h z hz)
  · unfold dNames PyData.depth
    rw [depthAll_strs]
    exact Nat.le_refl _
theorem dok_ints (ns : List Int) : DOk (dInts ns) 1 := by
  refine ⟨?_, ?_⟩
  · unfold dInts PyData.canLay0
    exact canAll_ints ns
  · unfold dInts PyData.depth
    rw [depthAll_ints]
    exact Nat.le_refl _
theorem dok_list {ds : List PyData} {n : Nat} (h : ∀ d ∈ ds, DOk d n) : DOk (.list ds) (n + 1) ∧ DOk (.tuple ds) (n + 1) := by
  have e1 : PyData.canLayAll0 ds = true := by
    induction ds with
    | nil => simp [PyData.canLayAll0]
    | cons d r ih =>
      unfold PyData.canLayAll0
      rw [(h d List.mem_cons_self).lay, ih fun y hy => h y (List.mem_cons_of_mem _ hy)]
      rfl
  have e2 : PyData.depthAll ds ≤ n := by
    induction ds with
    | nil => simp [PyData.depthAll]
    | cons d r ih =>
      unfold PyData.depthAll
      have a := (h d List.mem_cons_self).dep
      have b := ih (fun y hy => h y (List.mem_cons_of_mem _ hy)) (by
        unfold PyData.canLayAll0 at e1
        exact (Bool.and_eq_true_iff.mp e1).2)
      exact Nat.max_le.mpr ⟨a, b⟩
  refine ⟨⟨?_, ?_⟩, ⟨?_, ?_⟩⟩
  · unfold PyData.canLay0
    exact e1
  · unfold PyData.depth
    omega
  · unfold PyData.canLay0
    exact e1
  · unfold PyData.depth
    omega
theorem eqvAll_strs : ∀ ns ms : List Str, PyData.eqvAll (ns.map PyData.str) (ms.map PyData.str) = decide (ns = ms)
  | [], [] => by simp [PyData.eqvAll]
  | [], _ :: _ => by simp [PyData.eqvAll]
  | _ :: _, [] => by simp [PyData.eqvAll]
  | a :: r, b :: t => by
    rw [List.map_cons, List.map_cons]
    unfold PyData.eqvAll
    rw [eqvAll_strs r t]
    unfold PyData.eqv
    by_cases h : a = b
    · subst h
      simp
    · simp [h]
theorem eqv_names (ns ms : List Str) : PyData.eqv (dNames ns) (dNames ms) = decide (ns = ms) := by
  unfold dNames PyData.eqv
  exact eqvAll_strs ns ms
theorem eqvAll_ints : ∀ ns ms : List Int, PyData.eqvAll (ns.map PyData.int) (ms.map PyData.int) = decide (ns = ms)
  | [], [] => by simp [PyData.eqvAll]
  | [], _ :: _ => by simp [PyData.eqvAll]
  | _ :: _, [] => by simp [PyData.eqvAll]
  | a :: r, b :: t => by
    rw [List.map_cons, List.map_cons]
    unfold PyData.eqvAll
    rw [eqvAll_ints r t]
    unfold PyData.eqv
    by_cases h : a = b
    · subst h
      simp
    · simp [h]
theorem eqv_ints (ns ms : List Int) : PyData.eqv (dInts ns) (dInts ms) = decide (ns = ms) := by
  unfold dInts PyData.eqv
  exact eqvAll_ints ns ms
mutual
theorem eqv_same : ∀ (d : PyData), d.canLay0 = true → PyData.eqv d d = true
  | .none, _ => by simp [PyData.eqv]
  | .bool _, _ => by simp [PyData.eqv]
  | .int _, _ => by simp [PyData.eqv]
  | .str _, _ => by simp [PyData.eqv]
  | .list xs, h => by
    unfold PyData.eqv
    exact eqvAll_same xs (by unfold PyData.canLay0 at h; exact h)
  | .tuple xs, h => by
    unfold PyData.eqv
    exact eqvAll_same xs (by unfold PyData.canLay0 at h; exact h)
  | .dict _, h => by
    unfold PyData.canLay0 at h
    cases h
theorem eqvAll_same : ∀ (ds : List PyData), PyData.canLayAll0 ds = true → PyData.eqvAll ds ds = true
  | [], _ => by simp [PyData.eqvAll]
  | d :: r, h => by
    unfold PyData.canLayAll0 at h
    unfold PyData.eqvAll
    rw [eqv_same d (Bool.and_eq_true_iff.mp h).1, eqvAll_same r (Bool.and_eq_true_iff.mp h).2]
    rfl
end
theorem c_eqD {n m : Nat} (hd : Dp K H x d) (he : Dp K H y e) (od : DOk d n) (oe : DOk e m) (ln : n ≤ 64) (lm : m ≤ 64) (h : Q (.bl (PyData.eqv d e)) H) : rEqD K x y H Q := ⟨d, e, hd, he, od.shaped ln, oe.shaped lm, h⟩
theorem c_neD {n m : Nat} (hd : Dp K H x d) (he : Dp K H y e) (od : DOk d n) (oe : DOk e m) (ln : n ≤ 64) (lm : m ≤ 64) (h : Q (.bl (!PyData.eqv d e)) H) : rNeD K x y H Q := ⟨d, e, hd, he, od.shaped ln, oe.shaped lm, h⟩
/-- two equal things of data are seen to be equal -/
theorem c_neD1 {n : Nat} (hd : Dp K H x d) (he : Dp K H y d) (od : DOk d n) (ln : n ≤ 64) (h : Q (.bl false) H) : rNeD K x y H Q := ⟨d, d, hd, he, od.shaped ln, od.shaped ln, by rw [eqv_same d od.lay]; exact h⟩
theorem c_eqD1 {n : Nat} (hd : Dp K H x d) (he : Dp K H y d) (od : DOk d n) (ln : n ≤ 64) (h : Q (.bl true) H) : rEqD K x y H Q := ⟨d, d, hd, he, od.shaped ln, od.shaped ln, by rw [eqv_same d od.lay]; exact h⟩
end
end Und
/-! readings of dicts, of a class called by a local name, of name op= e, a = b = e, sorted, great products: with heads that are constants -/
namespace Und
open PySem PySem.Spec PyProof.Rows L2
def rDG (x y : V) (H : Hp) (Q : VK) : Prop := ∃ a v, x = .ref a ∧ DGet H a y (some v) ∧ Q v H
def tDG (td ty : TE) : TE := fun σ H Q => td σ H fun x H1 => ty σ H1 fun y H2 => rDG x y H2 Q
def rDN (y x : V) (H : Hp) (Q : VK) : Prop := ∃ a o, x = .ref a ∧ DGet H a y o ∧ Q (.bl (!o.isSome)) H
def tDN (ty td : TE) : TE := fun σ H Q => ty σ H fun y H1 => td σ H1 fun x H2 => rDN y x H2 Q
def rDP (x y v : V) (H : Hp) (N : Hp → Prop) : Prop := ∃ a H4, x = .ref a ∧ DPut H a y v H4 ∧ N H4
def tDP (td ty tv : TE) : TS := fun D σ H => tv σ H fun v H1 => td σ H1 fun x H2 => ty σ H2 fun y H3 => rDP x y v H3 fun H4 => D.nx σ H4
def tNewD : TE := tDNewK
section
variable {X : Cx} {td ty tv te : TE} {o i e : Expr} {pos pos' : Pos}
theorem peDG (hu : X.A.units + 1 < cLine) (ho : PE X o td) (hi : PE X i ty) (hs : NoSl i) : PE X (.Subscript o i pos) (tDG td ty) := pe_dget hu ho hi hs
theorem pcDN (hu : X.A.units + 1 < cLine) (hi : PE X i ty) (ho : PE X o td) : PC X .NotIn i o (tDN ty td) := pc_dnotin hu hi ho
theorem psDP {v : Expr} (hu : X.A.units + 1 < cLine) (ho : PE X o td) (hi : PE X i ty) (hv : PE X v tv) (hs : swapsWith v (some (.Subscript o i pos')) pos.line X.env = pure false := by rfl) : PS X (.Assign [.Subscript o i pos'] v pos) (tDP td ty tv) := ps_dput hu ho hi hv hs
end
section
variable {K : PySem.W.Frag} {σ : L2.St} {H : Hp} {Q : VK} {D : Ends} {td ty tv te : TE} {a : Addr} {x y v : V}
theorem c_dg (h : td σ H fun x H1 => ty σ H1 fun y H2 => rDG x y H2 Q) : tDG td ty σ H Q := h
theorem c_rDG (g : DGet H a y (some v)) (h : Q v H) : rDG (.ref a) y H Q := ⟨a, v, rfl, g, h⟩
theorem c_rDGk {kvs : List (Key × V)} {k : Key} (e : H a = some (.dK kvs)) (hv : valV kvs k = some v) (h : Q v H) : rDG (.ref a) (kV k) H Q := ⟨a, v, rfl, hv ▸ DGet.k e, h⟩
theorem c_dn (h : ty σ H fun y H1 => td σ H1 fun x H2 => rDN y x H2 Q) : tDN ty td σ H Q := h
theorem c_rDN {o : Option V} {b : Bool} (g : DGet H a y o) (e : (!o.isSome) = b) (h : Q (.bl b) H) : rDN y (.ref a) H Q := ⟨a, o, rfl, g, by rw [e]; exact h⟩
theorem c_dp (h : tv σ H fun v H1 => td σ H1 fun x H2 => ty σ H2 fun y H3 => rDP x y v H3 fun H4 => D.nx σ H4) : tDP td ty tv D σ H := h
theorem c_rDP {N : Hp → Prop} {kvs : List (Key × V)} {k : Key} (e : H a = some (.dK kvs)) (hl : kvs.length < 100000) (h : N (upd H a (.dK (putK kvs k v)))) : rDP (.ref a) (kV k) v H N := ⟨a, _, rfl, .k e (szl hl), h⟩
theorem c_dnew (h : ∀ p H2, H p = none → Same H H2 → H2 p = some (.dK []) → Q (.ref p) H2) : tDNewK σ H Q := fun p np => h p _ np (same_new np) upd_same
/-! ### name op= e -/
def rIpA (x y : V) (H : Hp) (Q : VK) : Prop := ipI (fun i j => i + j) x y H Q
def tAugA (i : Nat) (te : TE) : TS := fun D σ H => ∃ x, σ[i]? = some (some x) ∧ te σ H fun y H1 => rIpA x y H1 fun z H2 => D.nx (σ.set i (some z)) H2
theorem psAugA {X : Cx} {i : Nat} {x : Str} {e : Expr} {te : TE} {pos pos' : Pos} (hN : X.N.Nodup) (hi : X.N[i]? = some x) (hx : Loc X.env.scope x) (he : PE X e te) (hf : X.fn x = true ∨ X.env.scope.names.lookup x = some .local := by first | exact .inl rfl | exact .inr rfl | assumption) :
    PS X (.AugAssign (.Name x pos') .Add e pos) (tAugA i te) := ps_aug hN hi hx he ip_add hf
theorem c_augA {i : Nat} {x : V} (e : σ[i]? = some (some x)) (h : te σ H fun y H1 => rIpA x y H1 fun z H2 => D.nx (σ.set i (some z)) H2) : tAugA i te D σ H := ⟨x, e, h⟩
theorem c_rIpA {i j : Int} (h : Q (.int (i + j)) H) : rIpA (.int i) (.int j) H Q := ⟨i, j, rfl, rfl, h⟩
theorem c_asg22 {g1 g2 : TG} (h : te σ H fun x H1 => g1 x σ H1 fun σ1 H2 => g2 x σ1 H2 D.nx) : tAsg2 te g1 g2 D σ H := h
/-! ### sorted -/
def rSrt (K : PySem.W.Frag) : List V → Hp → VK → Prop := fun vs H Q => ∃ (a : Addr) (ns : List Int), vs = [V.ref a] ∧ SqL K H a (ns.map V.int) ∧ ∀ (ns' : List Int) (p : Addr), ns'.Perm ns → ns'.Pairwise (· ≤ ·) → H p = none → Q (.ref p) (upd H p (.lst (ns'.map V.int)))
theorem crSrt {X : Cx} {K : PySem.W.Frag} (h : X.K = K := by rfl) : CallR X (.builtin "sorted") (rSrt K) := h ▸ cr_sortedI
theorem c_srt {ns : List Int} (e : SqL K H a (ns.map V.int)) (h : ∀ (ns' : List Int) p H2, ns'.Perm ns → ns'.Pairwise (· ≤ ·) → H p = none → Same H H2 → H2 p = some (.lst (ns'.map V.int)) → Q (.ref p) H2) : rSrt K [.ref a] H Q :=
  ⟨a, ns, rfl, e, fun ns' p hp hs np => h ns' p _ hp hs np (same_new np) upd_same⟩
end
theorem c_cmeth {C : Addr} {sp : Sp} {E : XK} {ta : TE} {t : TA} {σ : L2.St} {H : Hp} {Q : VK} (h : ta σ H fun x H1 => x = .ref C ∧ t σ H1 fun vs H2 => sp (.ref C :: vs) H2 Q E) : ClX.tCMeth C sp E ta t σ H Q := h
def natI (D : List Nat) : List V := D.map fun j : Nat => V.int (Int.ofNat j)
theorem natI_len (D : List Nat) : (natI D).length = D.length := List.length_map ..
theorem natI_app (D E : List Nat) : natI (D ++ E) = natI D ++ natI E := List.map_append ..
theorem natI_get {D : List Nat} {i : Nat} {x : V} (h : (natI D)[i]? = some x) : ∃ j : Nat, D[i]? = some j ∧ x = .int (j : Int) := by
  unfold natI at h
  rw [List.getElem?_map] at h
  cases e : D[i]? with
  | none => rw [e] at h; cases h
  | some j =>
    rw [e] at h
    exact ⟨j, rfl, (Option.some.inj h).symm⟩
theorem natI_at {D : List Nat} {i j : Nat} (h : D[i]? = some j) : (natI D)[i]? = some (.int (j : Int)) := by
  unfold natI
  rw [List.getElem?_map, h]
  rfl
theorem rgV_nat (n : Nat) : rgV 0 (n : Int) = natI (List.range n) := by
  unfold rgV natI
  rw [show ((n : Int) - 0).toNat = n by omega]
  refine List.map_congr_left fun i _ => ?_
  rw [Int.zero_add]
  rfl
def rLR1 (x : V) (H : Hp) (Q : VK) : Prop := ∃ n, x = .int n ∧ RgOk 0 n ∧ ∀ q, H q = none → Q (.ref q) (upd H q (.lst (rgV 0 n)))
theorem c_lstRg1 {ta : TE} {σ : L2.St} {H : Hp} {Q : VK} (h : ta σ H fun x H1 => rLR1 x H1 Q) : tLstRg (tRg1 ta) σ H Q := h
theorem c_rLR1 {n : Nat} {H : Hp} {Q : VK} (hn : n ≤ 100000) (h : ∀ p H2, H p = none → Same H H2 → H2 p = some (.lst (natI (List.range n))) → Q (.ref p) H2) : rLR1 (.int (n : Int)) H Q :=
  ⟨n, rfl, .of_le (by omega) (by omega) (by omega) (by omega), fun q nq => by
    rw [rgV_nat]
    exact h q _ nq (same_new nq) upd_same⟩
/-! ### tuples of numbers -/
theorem inV_nat (a : Nat) : ∀ ns : List Nat, inV (.int (a : Int)) (natI ns) = decide (a ∈ ns)
  | [] => by simp [inV, natI]
  | n :: ns => by
    have ih := inV_nat a ns
    unfold inV at ih ⊢
    rw [show natI (n :: ns) = V.int (n : Int) :: natI ns from rfl, List.any_cons, ih]
    by_cases h : n = a
    · subst h
      simp [eqV]
    · have h2 : ¬ a = n := fun z => h z.symm
      have h3 : ¬ (n : Int) = (a : Int) := fun z => h (by omega)
      simp [eqV, h2, h3]
theorem flat_nat (ns : List Nat) : (natI ns).all flatV = true := by
  rw [List.all_eq_true]
  intro x hx
  obtain ⟨n, _, rfl⟩ := List.mem_map.mp hx
  rfl
theorem c_inNT {K : PySem.W.Frag} {p : Addr} {a : Nat} {ns : List Nat} {b : Bool} {H : Hp} {Q : VK} (e : SqT K H p (natI ns)) (hb : decide (a ∈ ns) = b) (h : Q (.bl b) H) : rIn K false (.int (a : Int)) (.ref p) H Q := by
  refine ⟨p, _, rfl, .inr e, rfl, flat_nat ns, ?_⟩
  rw [if_neg Bool.false_ne_true, inV_nat, hb]
  exact h
def dNats (ns : List Nat) : PyData := .tuple (ns.map fun j : Nat => .int (j : Int))
theorem dp_nats {K : PySem.W.Frag} {H : Hp} {a : Addr} {ns : List Nat} (h : SqT K H a (natI ns)) : Dp K H (.ref a) (dNats ns) := by
  have e : ∀ ns : List Nat, DpAll K H (natI ns) (ns.map fun j : Nat => PyData.int (j : Int)) := fun ns => by
    have := dpAll_ints (K := K) (H := H) (ns.map fun j : Nat => (j : Int))
    rw [List.map_map, List.map_map] at this
    exact this
  exact .tup h (e ns)
theorem dok_nats (ns : List Nat) : DOk (dNats ns) 1 := by
  refine (dok_list (n := 0) fun d hd => ?_).2
  obtain ⟨j, _, rfl⟩ := List.mem_map.mp hd
  exact ⟨by simp [PyData.canLay0], by simp [PyData.depth]⟩
/-! ### a cut: what holds behind a statement, whichever way it went -/
theorem cut_seq {t1 t2 : TS} {D : Ends} {σ : L2.St} {H : Hp} (R : L2.St → Hp → Prop) (h1 : ∀ N : L2.St → Hp → Prop, (∀ σ' H', R σ' H' → N σ' H') → t1 { D with nx := N } σ H) (h2 : ∀ σ' H', R σ' H' → t2 D σ' H') : tSeq t1 t2 D σ H := h1 _ h2
theorem cut_val {te : TE} {σ : L2.St} {H : Hp} {Q : VK} (R : V → Hp → Prop) (h1 : ∀ N : VK, (∀ v H', R v H' → N v H') → te σ H N) (h2 : ∀ v H', R v H' → Q v H') : te σ H Q := h1 _ h2
theorem c_splitB {y z : Str} {ys : List Str} {H : Hp} {Q : VK} (e : Txt.split y z = ys) (h0 : (z.length == 0) = false) (hl : y.length + 2 ≤ sizeLine) (h : ∀ p H2, H p = none → Same H H2 → H2 p = some (.lst (ys.map V.str)) → Q (.ref p) H2) : rSplit (.str y) [.str z] H Q :=
  ⟨y, z, rfl, rfl, h0, hl, fun p np => by rw [e]; exact h p _ np (same_new np) upd_same⟩
theorem list_are {α : Type} {xs : List V} {l : List α} {f : α → V} (hl : xs.length = l.length) (h : ∀ (i : Nat) y, xs[i]? = some y → ∃ z, l[i]? = some z ∧ y = f z) : xs = l.map f := by
  refine List.ext_getElem? fun i => ?_
  rw [List.getElem?_map]
  cases e : xs[i]? with
  | none =>
    have h1 := List.getElem?_eq_none_iff.mp e
    rw [List.getElem?_eq_none_iff.mpr (by omega)]
    rfl
  | some y =>
    obtain ⟨z, ez, rfl⟩ := h i y e
    rw [ez]
    rfl
/-! ### C() by a local name that holds the class -/
def rMkL0 (C : Addr) (sp : Sp) (E : XK) (x : V) (H : Hp) (Q : VK) : Prop := x = .ref C ∧ rMkR C sp E [] H Q
def tMakeRL0 (i : Nat) (C : Addr) (sp : Sp) (E : XK) : TE := fun σ H Q => ∃ x, σ[i]? = some (some x) ∧ rMkL0 C sp E x H Q
theorem c_makeRL0 {i : Nat} {C : Addr} {sp : Sp} {E : XK} {σ : L2.St} {H : Hp} {Q : VK} (e : σ[i]? = some (some (.ref C))) (h : rMkR C sp E [] H Q) : tMakeRL0 i C sp E σ H Q := ⟨_, e, rfl, h⟩
section
variable {X : Cx} {CX : CXT} {k i : Nat} {f C : Addr} {sp : Sp} {E : XK} {x : Str} {p pos : Pos}
theorem pe_makeRL0 (M : Mk X.K C f) (F : FnR X.prog X.w X.K X.mg X.base CX k f sp) (hr : Room (k + 1) X.A) (hN : X.N[i]? = some x) (hv : Vis X.env.scope x) (hx : Passes CX X E) (hdb : (x == ("__debug__" : Str)) = false := by decide) (hcd : (x == ("__classdict__" : Str)) = false := by decide) :
    PE X (.Call (.Name x p) [] [] pos) (tMakeRL0 i C sp E) := by
  refine ⟨fun pins s σ H Q I h => ?_⟩
  obtain ⟨y, hs, ey, ht⟩ := h
  subst ey
  refine wpAny_Call_Name_kw (thn ((pe_var (pos := p) hN hv hdb hcd).run pins s σ H (fun v H1 => v = .ref C ∧ H1 = H) I ⟨.ref C, hs, rfl, rfl⟩) fun u s1 ⟨v, H1, I1, r1, q1⟩ => ?_)
  obtain ⟨rfl, rfl⟩ := q1
  cases r1
  exact PySem.W.callWith_K0 I1.kIn M.kp (StX.run_makeR (us := []) M F hr hx I1 .nil ht)
end
end Und
/-! definitions that print containers: a call with no printing under way -/
namespace Und
open PySem PySem.Spec PyProof.Rows L2
/-- no printing of a container is under way -/
def Still (A : Around) : Prop := A.guards = some []
theorem still_deeper {A : Around} {e : Env} (h : Still A) : Still (A.deeper e) := h
theorem still_caller : Still callerA := rfl
/-- a definition's promise where nothing is being printed -/
structure FnG (P : Program) (w : World) (K : PySem.W.Frag) (mg : Str → Option Value) (base : Heap) (CX : CXT) (k : Nat) (f : Addr) (fd : FuncData) (ps : List Str) (sp : Sp) : Prop where
  n : ∀ vs H Q E, sp vs H Q E → vs.length = ps.length
  go : ∀ (A : Around), Still A → Room k A → ∀ (outer : List Env) (s : Shared) (H : Hp) (args : Args) (us : List Value) (vs : List V) (Q : VK) (E : XK), Env0 P w K mg base A outer s H → BindsTo s fd args (ps.zip us) → Vals vs us → sp vs H Q E →
    codeAny (model P w) A (.call (.ref f) args) (CR CX outer P w H s Q E) s
section
variable {P : Program} {w : World} {K : PySem.W.Frag} {mg : Str → Option Value} {base : Heap} {CX : CXT} {j k : Nat} {f : Addr} {fd : FuncData} {ps N : List Str} {sp : Sp} {x qual : Str} {st : Stmt}
theorem FnG.of (F : FnOk P w K mg base CX k f fd ps sp) : FnG P w K mg base CX k f fd ps sp := ⟨F.len, fun A _ r o s H a us vs Q E => F.run A o s H a us vs Q E r⟩
theorem FnG.mono (F : FnG P w K mg base CX j f fd ps sp) (h : j ≤ k) : FnG P w K mg base CX k f fd ps sp := ⟨F.n, fun A g r => F.go A g (r.mono h)⟩
/-- by its body -/
theorem okG (F : Fun K x qual st f fd) (S : FnScope N ps (defScope st)) (n : ∀ vs H Q E, sp vs H Q E → vs.length = ps.length)
    (body : ∀ (cdv : Value) (A : Around) (outer : List Env) (s : Shared) (H : Hp) (vs : List V) (Q : VK) (E : XK), Still (A.deeper (envOfC qual (defScope st) s.heap.objs.size f cdv)) → Room k (A.deeper (envOfC qual (defScope st) s.heap.objs.size f cdv)) → sp vs H Q E →
      ∃ t, PSs (cxOf CX P w K mg base N qual (defScope st) f cdv A outer s H E) (defBody st) t ∧ t { nx := fun _ H' => Q .non H', rt := Q } (start N vs) H) : FnG P w K mg base CX (k + 1) f fd ps sp := by
  obtain ⟨oc, od, kV, doc, pm, an, cdv, ct, osl, rfl, lk, hcd⟩ := F.ex
  exact ⟨n, fun A g r outer s H args us vs Q E e0 b v h => LamX.run_ofS lk hcd S r e0 b v (n _ _ _ _ h) fun r' => body cdv A outer s H vs Q E g r' h⟩
theorem okG0 (F : Fun K x qual st f fd) (S : FnScope N ps (defScope st)) (n : ∀ vs H Q E, sp vs H Q E → vs.length = ps.length)
    (body : ∀ (cdv : Value) (A : Around) (outer : List Env) (s : Shared) (H : Hp) (vs : List V) (Q : VK) (E : XK), Still (A.deeper (envOfC qual (defScope st) s.heap.objs.size f cdv)) → Room k (A.deeper (envOfC qual (defScope st) s.heap.objs.size f cdv)) → sp vs H Q E →
      ∃ t, PSs (cxOf CX0 P w K mg base N qual (defScope st) f cdv A outer s H E).nox (defBody st) t ∧ t { nx := fun _ H' => Q .non H', rt := Q } (start N vs) H) : FnG P w K mg base CX0 (k + 1) f fd ps sp :=
  okG F S n fun cdv A outer s H vs Q E g r h => let ⟨t, p, q⟩ := body cdv A outer s H vs Q E g r h; ⟨t, p.nox, q⟩
end
section
variable {X : Cx} {CX : CXT} {k : Nat} {f : Addr} {fd : FuncData} {ps : List Str} {sp : Sp} {E : XK} {x : Str} {st : Stmt} {p pos : Pos} {e : Expr} {es : List Expr} {t : TA} {te : TE}
theorem callG {pins : List (Addr × Obj)} {σ : L2.St} {H : Hp} {s : Shared} {Q : VK} {us : List Value} {vs : List V} (F : FnG X.prog X.w X.K X.mg X.base CX k f fd ps sp) (g : Still X.A) (r : Room k X.A) (b : Binds X.K fd ps []) (ex : Passes CX X E)
    (I : Inv X pins σ H s) (v : Vals vs us) (h : sp vs H Q E) : wpAny (model X.prog X.w) X.A (call (.ref f) us) (EP X pins σ Q) X.xe s := by
  have hl : (us ++ []).length = ps.length := by
    rw [List.append_nil, ← v.length]
    exact F.n _ _ _ _ h
  have bb := b s us I.kIn hl
  rw [List.append_nil] at bb
  refine wpAny_call (codeAny_mono (F.go X.A g r X.stack s H ⟨us, []⟩ us vs Q E I.env0 bb v h) fun z s' q => ?_)
  match z, q with
  | .error e, q => exact ex pins σ H s e s' I q
  | .ok (.ret u), q => exact I.after q
/-- f(e, ..) of such a definition -/
theorem pcallG (D : FD X.K X.mg x st ps f fd) (F : FnG X.prog X.w X.K X.mg X.base CX k f fd ps sp) (g : Still X.A) (r : Room k X.A) (hg : Gl X x) (ex : Passes CX X E) (ha : PA X (e :: es) t) (hdb : (x == ("__debug__" : Str)) = false := by decide)
    (he : starEach (e :: es) X.env = (false, eval e X.env) :: starEach es X.env := by rfl) (hpl : (backTo pos (starEach es X.env)).any (·.1) = false := by rfl) : PE X (.Call (.Name x p) (e :: es) [] pos) (tCall sp [] E t) :=
  ⟨fun pins s σ H Q I h => wpAny_Call_Name_kw (ld_glob I hg D.m (PySem.W.callWith_K (h₀ := X.base) I.ok.mod.kin D.F.kp (thn (ha.run pos pins s σ H _ I h) fun us s1 ⟨vs, H1, I1, v, q⟩ => ⟨I1.kIn, callG F g r D.b ex I1 v (by have q' : sp (vs ++ []) H1 Q E := q; rw [List.append_nil] at q'; exact q')⟩) he hpl) hdb)⟩
/-! ### repr -/
/-- repr of data; K is named -/
def crRepr (K : PySem.W.Frag) : List V → Hp → VK → Prop := fun xs H Q => ∃ (a : Addr) (d : PyData), xs = [.ref a] ∧ Dp K H (.ref a) d ∧ d.showable = true ∧ d.hasDict = false ∧ d.depth ≤ 32 ∧ d.shown.length ≤ sizeLine ∧ Q (.str d.shown) H
theorem cr_repr (g : Still X.A) (r : Room k X.A) : CallR X (.builtin "repr") (crRepr X.K) := by
  intro pins s σ H xs us Q I v h
  obtain ⟨a, d, rfl, hd, hs, hn, hz, hl, q⟩ := h
  obtain ⟨u, rfl, hu⟩ : ∃ u, us = [u] ∧ u = Value.ref a := by
    cases v with
    | cons h1 h2 =>
      cases h2
      exact ⟨_, rfl, h1⟩
  subst hu
  obtain ⟨as, rd⟩ := Dp.reads I d _ (.ref a) hd rfl
  have ru := r.units
  exact repr_of_reads' rd hs (fun z => by rw [hn] at z; cases z) g (by omega) (fun _ _ e => e) (fun h' u tk k => ⟨.str d.shown, H, I.kept k, ⟨u, rfl⟩, q⟩) hl
end
/-! ### the law's own call -/
section
variable {P : Program} {w : World} {K : PySem.W.Frag} {mg mb : Str → Option Value} {CX : CXT} {k : Nat} {fa a : Addr} {fd : FuncData} {x : Str} {sp : Sp} {s : Shared} {vs : List Value} {ns : List Int}
/-- how the script is seen: nothing else is, and all else is the base -/
structure Seen (K : PySem.W.Frag) (P : Program) (w : World) (s : Shared) (a : Addr) (ns : List Int) (H : Hp) : Prop where
  only : Only H
  seq : SqL K H a (ns.map V.int)
  ok : HOk P w H s.heap
  base : ∀ b o, s.heap.get? b = some o → H b = none ∨ (b = a ∧ K.lookup a = none)
theorem seen (KX : K.In s.heap) (ha : s.heap.get? a = some { cls := .type "list", data := .seq vs.toArray }) (hi : IntsAre vs ns) (hl : ns.length ≤ sizeLine) : ∃ H, Seen K P w s a ns H := by
  have rv := vals_ints hi
  have le := hi.length
  match hk : K.lookup a with
  | some o =>
    obtain rfl : o = _ := Option.some.inj ((KX a o hk).symm.trans ha)
    exact ⟨fun _ => none, fun _ => .inl rfl, .inr ⟨_, vs.toArray, _, hk, rfl, rfl, rfl, by rw [List.size_toArray, le]; exact hl, by simpa using rv⟩, (fun b u z => by cases (show (none : Option HO) = some u from z)), fun _ _ _ => .inl rfl⟩
  | none =>
    refine ⟨upd (fun _ => none) a (.frz { cls := .type "list", data := .seq vs.toArray } (.lst (ns.map V.int))), fun b => ?_, .inl (.inr ⟨_, upd_same⟩), fun b u z => ?_, fun b o e => ?_⟩
    · by_cases e : b = a
      · rw [e]
        exact .inr ⟨_, _, upd_same⟩
      · rw [upd_ne e]
        exact .inl rfl
    · by_cases e : b = a
      · rw [e, upd_same] at z
        cases z
        rw [e]
        exact ⟨ha, by rw [List.length_map]; exact hl, vs, _, rv, ha⟩
      · rw [upd_ne e] at z
        cases z
    · by_cases e : b = a
      · exact .inr ⟨e, hk⟩
      · rw [upd_ne e]
        exact .inl rfl
theorem Seen.at {H : Hp} {b : Addr} {o : Obj} (S : Seen K P w s a ns H) (e : s.heap.get? b = some o) (n : K.lookup b ≠ none ∨ b ≠ a) : (hidT s.heap H).get? b = some o :=
  hidT_get e ((S.base b o e).elim id fun ⟨h, h'⟩ => n.elim (fun q => absurd (h ▸ h') q) fun q => absurd h q)
theorem Seen.names {H : Hp} {b : Addr} {m : Str → Option Value} (S : Seen K P w s a ns H) (ha : s.heap.get? a = some { cls := .type "list", data := .seq vs.toArray }) (h : s.heap.Ns b m) : (hidT s.heap H).Ns b m := by
  obtain ⟨o, es, ep, e, d, r⟩ := h
  refine ⟨o, es, ep, S.at e (.inr fun z => ?_), d, r⟩
  rw [z, ha] at e
  cases e
  cases d
/-- the law's call with its script, where the promise holds while nothing is being printed -/
theorem law_callG (KX : K.In s.heap) (hns : s.heap.Ns mainGlobals mg) (hb : s.heap.Ns builtinsNs mb) (hbb : ∀ x : Str, x ≠ "__name__" → mb x = bootBuiltins x) (hlim : s.heap.NoLimit) (hg : s.gens = #[])
    (ha : s.heap.get? a = some { cls := .type "list", data := .seq vs.toArray }) (hi : IntsAre vs ns) (hl : ns.length ≤ sizeLine) (hr : Room k callerA)
    (F : ∀ base : Heap, K.In base → base.Ns mainGlobals mg → FnG P w K mg base CX k fa fd [x] sp) (hbind : ∀ (s : Shared) (u : Value), BindsTo s fd ⟨[u], []⟩ [(x, u)])
    (hsp : ∀ H : Hp, Only H → SqL K H a (ns.map V.int) → sp [.ref a] H (fun v _ => v = .bl true) fun _ _ _ => False)
    (hCX : ∀ H e s', CX [] H s (fun _ _ _ => False) e s' → False) :
    codeAny (model P w) callerA (.call (.ref fa) ⟨[.ref a], []⟩) (fun r s' => r = .ok (.ret (.bool true)) ∧ OldK s.heap s'.heap ∧ s'.os = s.os ∧ AllBare s'.gens) s := by
  obtain ⟨H, S⟩ := seen (P := P) (w := w) KX ha hi hl
  have kb : K.In (hidT s.heap H) := fun b o e => S.at (KX b o e) (.inl fun z => by rw [e] at z; cases z)
  have mod : Mod K mg (hidT s.heap H) := ⟨kb, S.names ha hns, ⟨mb, S.names ha hb, hbb⟩, hlim.elim fun mc h => ⟨mc, S.names ha h.1, h.2⟩⟩
  have no : ∀ b : Addr, b ∉ frs ([] : List Env) := fun b z => nomatch (show b ∈ ([] : List Addr) from z)
  have e0 : Env0 P w K mg (hidT s.heap H) callerA [] s H := ⟨rfl, mod, fun _ _ => of_hidT, Nat.le_of_eq (hidT_size _ _), trivial, fun b z => absurd z (no b), S.ok, .of_eq hg⟩
  refine codeAny_mono ((F _ kb mod.glob).go callerA still_caller hr [] s H _ [.ref a] [.ref a] _ _ e0 (hbind s (.ref a)) (.cons rfl .nil) (hsp H S.only S.seq)) fun r s' h => ?_
  match r, h with
  | .error e, h => exact (hCX H e s' h).elim
  | .ok (.ret u), ⟨v, H', os, bare, un, ok', rv, (qv : v = .bl true)⟩ =>
    subst qv
    obtain rfl : u = Value.bool true := rv
    refine ⟨rfl, OldK.of_keep fun b o e => ?_, os, bare⟩
    rcases S.only b with n | ⟨o', xs, n⟩
    · exact un.keep b o e n (no b) (by simp)
    · have o1 := (S.ok b _ n).1
      have o2 := (ok' b _ (un.frzs b o' _ n)).1
      rw [e] at o1
      cases o1
      exact o2
end
theorem walk_ofG {l : PySem.W.OpenLaw} {n k : Nat} {q : Program} {loose : List Str} {XP : (Str → Option Value) → Heap → Prop} {YP : World → Heap → Prop} {d : DefRec} {K : Params → PySem.W.Frag} {CX : World → CXT} {sp : World → Sp} {x : Str}
    (hn : l.most = some n) (hn2 : n ≤ sizeLine) (hdf : d.params.defaults = []) (hr : Room k callerA)
    (hY : ∀ (w : World) (h : Heap), YP w h → (K w.params).In h)
    (F : ∀ (w : World) (mg : Str → Option Value) (fa : Addr) (h : Heap), (K w.params).In h → h.Ns mainGlobals mg → mg d.name = some (.ref fa) →
      ∃ fd : FuncData, (∀ (s : Shared) (u : Value), BindsTo s fd ⟨[u], []⟩ [(x, u)]) ∧
        ∀ base : Heap, (K w.params).In base → base.Ns mainGlobals mg → FnG l.prog w (K w.params) mg base (CX w) k fa fd [x] (sp w))
    (hsp : ∀ (w : World) (H : Hp) (a : Addr) (ns : List Int), ns.length ≤ n → (∀ z ∈ ns, Builtin.Int.intBits z ≤ 1048576) → Only H → SqL (K w.params) H a (ns.map V.int) → sp w [.ref a] H (fun v _ => v = .bl true) fun _ _ _ => False)
    (hCX : ∀ (w : World) (H : Hp) (s : Shared) (e : Value) (s' : Shared), CX w [] H s (fun _ _ _ => False) e s' → False) :
    PySem.W.WalkO q loose XP YP l.row.toRowW d [] (fun f vs => PySem.call f vs) :=
  Att.attach_callB hn hdf fun w _ s mg mb fa _ _ _ _ a vs ns G Y _ _ _ hmg hobj hints hlen hbits hg =>
    let KX := hY w _ Y
    let ⟨fd, hb, hF⟩ := F w mg fa _ KX G.T.g hmg
    law_callG KX G.T.g G.T.b G.T.builtins G.T.nolimit hg hobj hints (Nat.le_trans hlen hn2) hr hF hb (fun H hO hS => hsp w H a ns hlen hbits hO hS) fun H e s' => hCX w H s e s'
end Und
/-! calls without arguments -/
namespace Und
open PySem PySem.Spec PyProof.Rows L2
section
variable {X : Cx} {CX : CXT} {k : Nat} {f : Addr} {fd : FuncData} {sp : Sp} {E : XK} {x : Str} {st : Stmt} {p pos : Pos}
theorem pcallG0 (D : FD X.K X.mg x st [] f fd) (F : FnG X.prog X.w X.K X.mg X.base CX k f fd [] sp) (g : Still X.A) (r : Room k X.A) (hg : Gl X x) (ex : Passes CX X E) (hdb : (x == ("__debug__" : Str)) = false := by decide) :
    PE X (.Call (.Name x p) [] [] pos) (tCall sp [] E tNil) :=
  ⟨fun pins s σ H Q I h => wpAny_Call_Name_kw (ld_glob I hg D.m (PySem.W.callWith_K0 I.kIn D.F.kp (callG (us := []) F g r D.b ex I .nil h)) hdb)⟩
theorem pcall0 (D : FD X.K X.mg x st [] f fd) (F : FnOk X.prog X.w X.K X.mg X.base CX k f fd [] sp) (r : Room k X.A) (hg : Gl X x) (ex : Passes CX X E) (hdb : (x == ("__debug__" : Str)) = false := by decide) :
    PE X (.Call (.Name x p) [] [] pos) (tCall sp [] E tNil) := pe_call0 F r hg D.m D.F.kp D.b .nil ex hdb
end
end Und
/-! methods called by keyword; len, repr and in of a class's own; f-strings -/
namespace Und
open PySem PySem.Spec PyProof.Rows L2
def gK (n m : Nat) {α : Type} (us ws : List α) : List α := if us.length = n ∧ ws.length = m then us ++ ws else []
theorem gK_rel {n m : Nat} {vs : List V} {us : List Value} {zs : List V} {ws : List Value} (a : Vals vs us) (b : Vals zs ws) : Vals (gK n m vs zs) (gK n m us ws) := by
  unfold gK
  rw [a.length, b.length]
  split
  · exact a.append b
  · exact .nil
section
variable {K : PySem.W.Frag} {x qual : Str} {params : Arguments} {body : List Stmt} {scope : Scope} {dvs : List V} {kws : List (Str × V)} {f : Addr} {fd : FuncData} {ps ks : List Str}
theorem kb0 (F : FunD K x qual params body scope [] kws f fd) (n : Nat) (hps : ps ≠ [])
    (h : ∀ (kV doc pm : Value) (an : Option Addr) (cdv ct : Value) (us ws : List Value), us.length = n → ws.length = ks.length → bindArgs (PySem.W.fnOf x qual params body scope .none kV doc pm an cdv ct) ⟨us, ks.zip ws⟩ = pure (ps.zip (us ++ ws))) :
    KBinds K fd ps ks (gK n ks.length) (gK n ks.length) := by
  obtain ⟨oc, od, dV, kV, doc, pm, an, cdv, ct, osl, rfl, lk, hcd, hD, hK⟩ := F.ex
  rcases hD with ⟨_, rfl⟩ | ⟨e, _⟩
  · refine ⟨fun s us ws _ hl => ?_, gK_rel⟩
    by_cases c : us.length = n ∧ ws.length = ks.length
    · have e : gK n ks.length us ws = us ++ ws := if_pos c
      rw [e]
      exact .of_eq (h kV doc pm an cdv ct us ws c.1 c.2)
    · have e : gK n ks.length us ws = [] := if_neg c
      rw [e] at hl
      exact absurd (List.length_eq_zero_iff.mp hl.symm) hps
  · exact absurd rfl e
theorem kb1 (F : FunD K x qual params body scope dvs kws f fd) (n : Nat) (hd : dvs ≠ []) (hps : ps ≠ [])
    (h : ∀ (T : Addr) (kV doc pm : Value) (an : Option Addr) (cdv ct : Value) (us ws its : List Value), us.length = n → ws.length = ks.length → its.length = dvs.length →
      ∃ k, bindArgs (PySem.W.fnOf x qual params body scope (.ref T) kV doc pm an cdv ct) ⟨us, ks.zip ws⟩ = seqItems? (.ref T) >>= k ∧ k (some its.toArray) = pure (ps.zip (us ++ ws))) :
    KBinds K fd ps ks (gK n ks.length) (gK n ks.length) := by
  obtain ⟨oc, od, dV, kV, doc, pm, an, cdv, ct, osl, rfl, lk, hcd, hD, hK⟩ := F.ex
  rcases hD with ⟨e, _⟩ | ⟨_, T, o, its, m, rfl, lT, oT, rT⟩
  · exact absurd e hd
  · refine ⟨fun s us ws X hl => ?_, gK_rel⟩
    by_cases c : us.length = n ∧ ws.length = ks.length
    · have e : gK n ks.length us ws = us ++ ws := if_pos c
      rw [e]
      obtain ⟨k, e1, e2⟩ := h T kV doc pm an cdv ct us ws its c.1 c.2 rT.length.symm
      refine BindsTo.of_looks fun M => ?_
      rw [e1]
      exact looks_items X lT oT (.of_pure e2)
    · have e : gK n ks.length us ws = [] := if_neg c
      rw [e] at hl
      exact absurd (List.length_eq_zero_iff.mp hl.symm) hps
end
section
variable {X : Cx} {CX : CXT} {k n : Nat} {C f g p : Addr} {mc : Value} {fd : FuncData} {ps ks : List Str} {sp : Sp} {E : XK} {o : Expr} {m : Str} {kws : List Keyword} {pos apos : Pos} {ta : TE} {tk : TA} {pl : Sem Bool}
theorem run_kw {pins : List (Addr × Obj)} {σ : L2.St} {H : Hp} {s : Shared} {Q : VK} {us ws : List Value} {vs zs : List V} (F : FnOk X.prog X.w X.K X.mg X.base CX k f fd ps sp) (hr : Room k X.A) (hb : KBinds X.K fd ps ks (gK vs.length ks.length) (gK vs.length ks.length)) (hx : Passes CX X E)
    (I : Inv X pins σ H s) (r : Vals vs us) (rz : Vals zs ws) (hz : zs.length = ks.length) (h : sp (vs ++ zs) H Q E) : codeAny (model X.prog X.w) X.A (.call (.ref f) ⟨us, ks.zip ws⟩) (fun r s' => match r with
      | .ok (.ret u) => EP X pins σ Q u s'
      | .ok _ => False
      | .error e => X.xe e s') s := by
  have r2 := hb.rel r rz
  have e : gK vs.length ks.length vs zs = vs ++ zs := if_pos ⟨rfl, hz⟩
  have hl : (gK vs.length ks.length us ws).length = ps.length := by
    rw [← r2.length, e]
    exact F.len _ _ _ _ h
  rw [e] at r2
  refine codeAny_mono (F.run X.A X.stack s H ⟨us, ks.zip ws⟩ _ (vs ++ zs) Q E hr I.env0 (hb.to s us ws I.kIn hl) r2 h) fun r s' hq => ?_
  match r, hq with
  | .error e, hq => exact hx pins σ H s e s' I hq
  | .ok (.ret u), hq => exact I.after hq
  | .ok .next, hq => exact hq
  | .ok .brk, hq => exact hq
  | .ok .cont, hq => exact hq
/-- o.m(k = v, ..) -/
def tMethK (C : Addr) (m : Str) (nk : Nat) (sp : Sp) (E : XK) (ta : TE) (tk : TA) : TE := fun σ H Q => ta σ H fun x H1 => ∃ a dx fs, x = .ref a ∧ H1 a = some (.ins C dx fs) ∧ fs.lookup m = none ∧ tk σ H1 fun zs H2 => zs.length = nk ∧ sp (.ref a :: zs) H2 Q E
theorem pe_methK0 (he : PE X o ta) (c : Cls X.K C) (hm : Meth X.K C m f) (F : FnOk X.prog X.w X.K X.mg X.base CX k f fd ps sp) (hr : Room k X.A) (hb : KBinds X.K fd ps ks (gK 1 ks.length) (gK 1 ks.length)) (hx : Passes CX X E) (hkw : PK X kws tk)
    (hall : (backToKw pos (keywordEach kws X.env)).all (·.1.isSome) = true := by rfl) (hks : (backToKw pos (keywordEach kws X.env)).filterMap (·.1) = ks := by rfl)
    (hpl : ((backTo pos (starEach [] X.env)).any (·.1) || (backToKw pos (keywordEach kws X.env)).any (·.1.isNone)) = false := by rfl)
    (ht : eval (.Call (.Attribute o m apos) [] kws pos) X.env = (do
      let ov ← eval o X.env
      standAt apos.atName
      let (f, first) ← holding [ov] (getMethod ov m pl)
      callWith pos f first (backTo pos (starEach [] X.env)) (backToKw pos (keywordEach kws X.env))) := by rfl) : PE X (.Call (.Attribute o m apos) [] kws pos) (tMethK C m ks.length sp E ta tk) := by
  constructor
  intro pins s σ H Q I h
  refine PySem.W.methodCall_KW (pl := pl) (thn (he.run pins s σ H _ I h) ?_) ht
  rintro u s1 ⟨x, H1, I1, rx, a, dx, fs, rfl, ea, l, q⟩
  obtain rfl : u = Value.ref a := rx
  refine getmeth_ok I1 ea c hm l (PySem.W.callWith_KW0 (first := [.ref a]) (h₀ := X.base) I1.ok.mod.kin hm.kp hall ?_ hpl)
  refine thn (hkw.run pos pins s1 σ H1 _ I1 q) ?_
  rintro ws s2 ⟨zs, H2, I2, rz, hz, q2⟩
  refine ⟨I2.kIn, ?_⟩
  rw [hks]
  exact wpAny_call (run_kw (us := [.ref a]) (vs := [.ref a]) F hr hb hx I2 (.cons rfl .nil) rz hz q2)
/-- C.m(k = v, ..), m a static method -/
def tSMethK (C : Addr) (nk : Nat) (sp : Sp) (E : XK) (ta : TE) (tk : TA) : TE := fun σ H Q => ta σ H fun x H1 => x = .ref C ∧ tk σ H1 fun zs H2 => zs.length = nk ∧ sp zs H2 Q E
theorem pe_smethK0 (he : PE X o ta) (r : ClX.CRead X.K C mc) (c : CStat X.K C mc m p g) (F : FnOk X.prog X.w X.K X.mg X.base CX k g fd ps sp) (hr : Room k X.A) (hb : KBinds X.K fd ps ks (gK 0 ks.length) (gK 0 ks.length)) (hx : Passes CX X E) (hkw : PK X kws tk)
    (hall : (backToKw pos (keywordEach kws X.env)).all (·.1.isSome) = true := by rfl) (hks : (backToKw pos (keywordEach kws X.env)).filterMap (·.1) = ks := by rfl)
    (hpl : ((backTo pos (starEach [] X.env)).any (·.1) || (backToKw pos (keywordEach kws X.env)).any (·.1.isNone)) = false := by rfl)
    (ht : eval (.Call (.Attribute o m apos) [] kws pos) X.env = (do
      let ov ← eval o X.env
      standAt apos.atName
      let (f, first) ← holding [ov] (getMethod ov m pl)
      callWith pos f first (backTo pos (starEach [] X.env)) (backToKw pos (keywordEach kws X.env))) := by rfl) : PE X (.Call (.Attribute o m apos) [] kws pos) (tSMethK C ks.length sp E ta tk) := by
  constructor
  intro pins s σ H Q I h
  refine PySem.W.methodCall_KW (pl := pl) (thn (he.run pins s σ H _ I h) ?_) ht
  rintro u s1 ⟨x, H1, I1, rx, rfl, q⟩
  obtain rfl : u = Value.ref C := rx
  obtain ⟨rest, hp⟩ := c.rc
  refine PySem.W.method_cls I1.kIn r.ga (PySem.W.cls_bind I1.kIn r.rd c.at_ (wpAny_call (PySem.W.sm_get (s := { s1 with toks := s1.toks + 1 }) I1.kIn hp (PySem.W.handed_on rfl ?_))))
  have I2 := I1.tok (s1.toks + 1)
  refine PySem.W.callWith_KW0 (first := []) (h₀ := X.base) I2.ok.mod.kin c.kp hall ?_ hpl
  refine thn (hkw.run pos pins _ σ H1 _ I2 q) ?_
  rintro ws s2 ⟨zs, H2, I3, rz, hz, q2⟩
  refine ⟨I3.kIn, ?_⟩
  rw [hks]
  exact wpAny_call (run_kw (us := []) (vs := []) F hr hb hx I3 .nil rz hz q2)
/-- C.m(k = v, ..), m a class method -/
def tCMethK (C : Addr) (nk : Nat) (sp : Sp) (E : XK) (ta : TE) (tk : TA) : TE := fun σ H Q => ta σ H fun x H1 => x = .ref C ∧ tk σ H1 fun zs H2 => zs.length = nk ∧ sp (.ref C :: zs) H2 Q E
theorem pe_cmethK0 (he : PE X o ta) (r : ClX.CRead X.K C mc) (c : ClX.CMet X.K C mc m p g) (F : FnOk X.prog X.w X.K X.mg X.base CX k g fd ps sp) (hr : Room k X.A) (hb : KBinds X.K fd ps ks (gK 1 ks.length) (gK 1 ks.length)) (hx : Passes CX X E) (hkw : PK X kws tk)
    (hall : (backToKw pos (keywordEach kws X.env)).all (·.1.isSome) = true := by rfl) (hks : (backToKw pos (keywordEach kws X.env)).filterMap (·.1) = ks := by rfl)
    (hpl : ((backTo pos (starEach [] X.env)).any (·.1) || (backToKw pos (keywordEach kws X.env)).any (·.1.isNone)) = false := by rfl)
    (ht : eval (.Call (.Attribute o m apos) [] kws pos) X.env = (do
      let ov ← eval o X.env
      standAt apos.atName
      let (f, first) ← holding [ov] (getMethod ov m pl)
      callWith pos f first (backTo pos (starEach [] X.env)) (backToKw pos (keywordEach kws X.env))) := by rfl) : PE X (.Call (.Attribute o m apos) [] kws pos) (tCMethK C ks.length sp E ta tk) := by
  constructor
  intro pins s σ H Q I h
  refine PySem.W.methodCall_KW (pl := pl) (thn (he.run pins s σ H _ I h) ?_) ht
  rintro u s1 ⟨x, H1, I1, rx, rfl, q⟩
  obtain rfl : u = Value.ref C := rx
  refine ClX.getmethcm_ok I1 r c fun s2 I2 => ?_
  refine PySem.W.callWith_of hpl (PySem.W.keeps_M (self := .ref C) (q := s1.heap.objs.size) c.fi) (evalArgs_kw2_nil hall ?_)
  refine thn (hkw.run pos _ s2 σ H1 _ I2 q) ?_
  rintro ws s3 ⟨zs, H2, I3, rz, hz, q2⟩
  refine ⟨⟨ClX.pin_at I3, I3.kIn⟩, ?_⟩
  rw [hks]
  have z := wpAny_call (PySem.W.method_call (ClX.pin_at I3) (run_kw (us := [.ref C]) (vs := [.ref C]) F hr hb hx I3 (.cons rfl .nil) rz hz q2))
  exact thn z fun _ _ y => ClX.unpinE y
end
section
variable {σ : L2.St} {H : Hp} {Q : VK} {C : Addr} {m : Str} {nk : Nat} {sp : Sp} {E : XK} {ta : TE} {tk : TA}
theorem c_methK (h : ta σ H fun x H1 => ∃ a dx fs, x = .ref a ∧ H1 a = some (.ins C dx fs) ∧ fs.lookup m = none ∧ tk σ H1 fun zs H2 => zs.length = nk ∧ sp (.ref a :: zs) H2 Q E) : tMethK C m nk sp E ta tk σ H Q := h
theorem c_smethK (h : ta σ H fun x H1 => x = .ref C ∧ tk σ H1 fun zs H2 => zs.length = nk ∧ sp zs H2 Q E) : tSMethK C nk sp E ta tk σ H Q := h
theorem c_cmethK (h : ta σ H fun x H1 => x = .ref C ∧ tk σ H1 fun zs H2 => zs.length = nk ∧ sp (.ref C :: zs) H2 Q E) : tCMethK C nk sp E ta tk σ H Q := h
end
/-! ### len, repr, in, truth of a class's own -/
structure OwnM (K : PySem.W.Frag) (C : Addr) (m : Str) (f : Addr) : Prop where
  at_ : PySem.W.findIn K (.ref C) m = some (some (.ref f))
  fn : PySem.W.isFn K (.ref f) = true
section
variable {X : Cx} {CX : CXT} {n : Nat} {C f : Addr} {fd : FuncData} {ps : List Str} {sp : Sp} {E : XK}
def rLenO (C : Addr) (sp : Sp) (E : XK) : List V → Hp → VK → Prop := fun xs H Q => ∃ a dx fs, xs = [.ref a] ∧ H a = some (.ins C dx fs) ∧ sp [.ref a] H (fun z H' => ∃ r : Nat, z = .int (r : Int) ∧ r ≤ 1000000 ∧ Q (.int (r : Int)) H') E
theorem callLenO (W : OwnM X.K C "__len__" f) (F : FnOk X.prog X.w X.K X.mg X.base CX n f fd ps sp) (hr : Room (n + 1) X.A) (hb : Binds X.K fd ps []) (hx : Passes CX X E) : CallR X (.builtin "len") (rLenO C sp E) := by
  intro pins s σ H xs us Q I r h
  obtain ⟨a, dx, fs, rfl, ha, q⟩ := h
  obtain ⟨u, rfl, ru⟩ := vals1 r
  cases ru
  obtain ⟨mA, J, _⟩ := ins_get I.hok ha
  obtain ⟨od, J, _⟩ := J.look
  obtain ⟨m, hF⟩ := I.fr
  refine PySem.W.len_K hF I.ok.mod.kin J W.at_ W.fn (wpAny_mono (own_call1 F hb hx I hr.in1 rfl q) (fun w s' z => ?_) fun _ _ z => z)
  obtain ⟨v, H', I', rv, r, rfl, hl, qk⟩ := z
  obtain ⟨t, rfl⟩ := rv
  exact ⟨⟨by omega, by omega⟩, .int r, H', I'.tok _, ⟨_, rfl⟩, qk⟩
def rReprO (C : Addr) (sp : Sp) (E : XK) : List V → Hp → VK → Prop := fun xs H Q => ∃ a dx fs, xs = [.ref a] ∧ H a = some (.ins C dx fs) ∧ sp [.ref a] H (fun z H' => ∃ r, z = .str r ∧ Q (.str r) H') E
theorem callReprO (W : OwnM X.K C "__repr__" f) (F : FnOk X.prog X.w X.K X.mg X.base CX n f fd ps sp) (hr : Room (n + 1) X.A) (hb : Binds X.K fd ps []) (hx : Passes CX X E) : CallR X (.builtin "repr") (rReprO C sp E) := by
  intro pins s σ H xs us Q I r h
  obtain ⟨a, dx, fs, rfl, ha, q⟩ := h
  obtain ⟨u, rfl, ru⟩ := vals1 r
  cases ru
  obtain ⟨mA, J, _⟩ := ins_get I.hok ha
  obtain ⟨od, J, _⟩ := J.look
  obtain ⟨m, hF⟩ := I.fr
  have h2 : Room n X.A.in1 := hr.in1
  refine PySem.W.repr_K h2.units0 hF I.ok.mod.kin J W.at_ W.fn (wpAny_mono (own_call1 F hb hx I h2 rfl q) (fun w s' z => ?_) fun _ _ z => z)
  obtain ⟨v, H', I', rv, r, rfl, qk⟩ := z
  obtain ⟨t, rfl⟩ := rv
  exact ⟨.str r, H', I', ⟨t, rfl⟩, qk⟩
end
/-! ### f-strings -/
section
variable {σ : L2.St} {H : Hp} {Q : VK} {te : TE} {R : Str → Hp → Prop} {ts : List TE} {acc : Str}
def tJsE (ts : List TE) : TE := fun σ H Q => tJs ts Str.empty σ H fun out H1 => Q (.str out) H1
theorem peJs {X : Cx} {v1 v2 : Expr} {rest : List Expr} {pos : Pos} (h : PJ X (v1 :: v2 :: rest) ts) : PE X (.JoinedStr (v1 :: v2 :: rest) pos) (tJsE ts) := pe_joined h
def rFmt (x : V) (H : Hp) (Q : VK) : Prop := (∃ y : Str, x = .str y ∧ y.length ≤ sizeLine ∧ Q (.str y) H) ∨ ∃ i : Int, x = .int i ∧ i.natAbs.log2 < 1920 ∧ Q (.str (toString i)) H
theorem c_fmt (h : te σ H fun x H1 => rFmt x H1 Q) : tFmt te σ H Q := h
theorem c_fmtS {y : Str} (hy : y.length ≤ 1000000) (h : Q (.str y) H) : rFmt (.str y) H Q := .inl ⟨y, rfl, Nat.le_trans hy (by decide), h⟩
theorem c_fmtI {i : Int} (hi : i.natAbs.log2 < 1920) (h : Q (.str (toString i)) H) : rFmt (.int i) H Q := .inr ⟨i, rfl, hi, h⟩
theorem c_jsE (h : tJs ts Str.empty σ H fun out H1 => Q (.str out) H1) : tJsE ts σ H Q := h
def rJs (ts : List TE) (acc : Str) (σ : L2.St) (x : V) (H : Hp) (R : Str → Hp → Prop) : Prop := ∃ y : Str, x = .str y ∧ (acc ++ y).length ≤ sizeLine ∧ tJs ts (acc ++ y) σ H R
theorem c_js (h : te σ H fun x H1 => rJs ts acc σ x H1 R) : tJs (te :: ts) acc σ H R := h
theorem c_js0 (h : R acc H) : tJs [] acc σ H R := h
theorem c_rjs {y : Str} (hy : (acc ++ y).length ≤ 10000000) (h : tJs ts (acc ++ y) σ H R) : rJs ts acc σ (.str y) H R := ⟨y, rfl, Nat.le_trans hy (by decide), h⟩
end
end Und
/-! defs with *names and one keyword-only parameter that has a default; classes made by them -/
namespace Und
open PySem PySem.Spec PyProof.Rows L2
/-- a def f(a, .., *v, q=d): what stands behind the top, and what its two kinds of calls bind -/
structure FunSK (K : PySem.W.Frag) (name qual : Str) (st : Stmt) (ps : List Str) (q pv : Str) (dv : V) (f : Addr) : Prop where
  ex : ∃ (oc : Value) (od : Option Addr) (doc pm : Value) (D : Addr) (an : Option Addr) (cdv ct : Value) (osl : Array (Option Value)) (d : Value),
    K.lookup f = some ⟨oc, od, .func (PySem.W.fnOf name qual (defArgs st) (defBody st) (defScope st) .none (.ref D) doc pm an cdv ct), osl⟩ ∧ PySem.W.codeIn K cdv qual = true ∧ PySem.W.nsIn K D q = some (some d) ∧ RelV dv d ∧
    (∀ us rest : List Value, us.length = ps.length → ∃ (β γ : Type) (k1 : Option Value → Sem β) (k2 : β → Sem γ) (k3 : γ → Sem (List (Str × Value))) (a : β),
      bindArgs (PySem.W.fnOf name qual (defArgs st) (defBody st) (defScope st) .none (.ref D) doc pm an cdv ct) ⟨us ++ rest, []⟩ = ((nsGet D q >>= k1) >>= k2) >>= k3 ∧ k1 (some d) = pure a ∧
      (k2 a >>= k3) = (newTuple rest >>= fun t => pure (ps.zip us ++ [(q, d), (pv, t)]))) ∧
    (∀ (us : List Value) (v : Value), us.length = ps.length → bindArgs (PySem.W.fnOf name qual (defArgs st) (defBody st) (defScope st) .none (.ref D) doc pm an cdv ct) ⟨us, [(q, v)]⟩ = (newTuple [] >>= fun t => pure (ps.zip us ++ [(q, v), (pv, t)])))
  kp : PySem.W.keepIn K (.ref f) = true
def spStarK (n : Nat) (dv : V) (sp : Sp) : Sp := fun vs H Q E => ∃ ws rest, vs = ws ++ rest ∧ ws.length = n ∧ rest.length ≤ sizeLine ∧ ∀ p, H p = none → sp (ws ++ [dv, V.ref p]) (upd H p (.tup rest)) Q E
def spStarKW (n : Nat) (sp : Sp) : Sp := fun vs H Q E => ∃ ws x, vs = ws ++ [x] ∧ ws.length = n ∧ ∀ p, H p = none → sp (ws ++ [x, V.ref p]) (upd H p (.tup [])) Q E
/-- called with positional values and the one keyword -/
def FnRK (P : Program) (w : World) (K : PySem.W.Frag) (mg : Str → Option Value) (base : Heap) (CX : CXT) (k : Nat) (f : Addr) (q : Str) (sp : Sp) : Prop :=
  ∀ (A : Around) (outer : List Env) (s : Shared) (H : Hp) (us : List Value) (v : Value) (vs : List V) (x : V) (Q : VK) (E : XK), Room k A → Env0 P w K mg base A outer s H → Vals vs us → RelV x v → sp (vs ++ [x]) H Q E →
    codeAny (model P w) A (.call (.ref f) ⟨us, [(q, v)]⟩) (CR CX outer P w H s Q E) s
section
variable {P : Program} {w : World} {K : PySem.W.Frag} {mg : Str → Option Value} {base : Heap}
theorem FunSK.ok {name qual q pv : Str} {st : Stmt} {ps N : List Str} {dv : V} {f : Addr} {k : Nat} {sp : Sp} (F : FunSK K name qual st ps q pv dv f) (S : FnScope N (ps ++ [q, pv]) (defScope st))
    (hbody : ∀ (cdv : Value) (A : Around) (outer : List Env) (s : Shared) (H : Hp) (vs : List V) (Q : VK) (E : XK), Room k (A.deeper (envOfC qual (defScope st) s.heap.objs.size f cdv)) → sp vs H Q E →
      ∃ t, PSs (cxOf CX0 P w K mg base N qual (defScope st) f cdv A outer s H E).nox (defBody st) t ∧ t { nx := fun _ H' => Q .non H', rt := Q } (start N vs) H) :
    FnR P w K mg base CX0 (k + 1) f (spStarK ps.length dv sp) ∧ FnRK P w K mg base CX0 (k + 1) f q (spStarKW ps.length sp) := by
  obtain ⟨oc, od, doc, pm, D, an, cdv, ct, osl, d, lk, hcd, hd, rd, hA, hB⟩ := F.ex
  have body : ∀ (A : Around) (outer : List Env) (s : Shared) (H : Hp) (vs : List V) (Q : VK) (E : XK), Room k (A.deeper (envOfC qual (defScope st) s.heap.objs.size f cdv)) → sp vs H Q E →
      ∃ t, PSs (cxOf CX0 P w K mg base N qual (defScope st) f cdv A outer s H E) (defBody st) t ∧ t { nx := fun _ H' => Q .non H', rt := Q } (start N vs) H := fun A outer s H vs Q E hr hsp => by
    obtain ⟨t, h, q⟩ := hbody cdv A outer s H vs Q E hr hsp
    exact ⟨t, h.nox, q⟩
  refine ⟨fun A outer s H us vs Q E hr e0 r hsp => ?_, fun A outer s H us v vs x Q E hr e0 r rx hsp => ?_⟩
  · obtain ⟨ws, rest, ev, hl, hz, hq⟩ := hsp
    subst ev
    obtain ⟨u1, u2, eu, r1, r2⟩ := StX.vals_split r
    subst eu
    have hn : H s.heap.objs.size = Option.none := e0.hok.fresh (Nat.le_refl _)
    have hl1 : u1.length = ps.length := by rw [← r1.length]; exact hl
    have hl2 : u2.length ≤ sizeLine := by rw [← r2.length]; exact hz
    refine StX.run_bnd lk hcd S hr e0 (G := fun xs H2 => ∃ p, H p = Option.none ∧ xs = ws ++ [dv, V.ref p] ∧ H2 = upd H p (.tup rest)) (fun A' Ex Q' h => ?_) fun s2 H2 xs ⟨p, hp, ex, eH⟩ hr' => ?_
    · obtain ⟨β, γ, k1, k2, k3, a, e1, e2, e3⟩ := hA u1 u2 hl1
      have KX : K.In s.heap := e0.mod.kin.keeps fun b o e => (e0.bs b o e).1
      have L : PySem.W.Looks (model P w) s.heap (nsGet D q >>= k1) a := (PySem.W.looks_nsIn KX hd).andThen (PySem.W.Looks.of_pure e2)
      rw [e1, bind_assoc]
      refine wpAny_bind (L.here ?_)
      show wpAny (model P w) A' (k2 a >>= k3) Q' Ex s
      rw [e3]
      refine wpAny_bind (wpAny_newTuple (wpAny_pure ?_) hl2)
      have new : ObjOk P w (upd H s.heap.objs.size (.tup rest)) (s.heap.push ({ cls := .type "tuple", data := .seq u2.toArray } : Obj)) s.heap.objs.size (.tup rest) := ⟨hz, u2, r2, ⟨_, Heap.get?_push_size _ rfl, rfl, _, rfl⟩⟩
      have un := StX.un_laid (fs := frs outer) (s := s) (o := ({ cls := .type "tuple", data := .seq u2.toArray } : Obj)) (u := .tup rest) hn
      have z := h _ _ (ws ++ [dv, V.ref s.heap.objs.size]) (u1 ++ [d, Value.ref s.heap.objs.size]) (StX.env0_laid e0 new) un rfl (fun e s' z => z) (r1.append (.cons rd (.cons rfl .nil)))
        (by rw [List.length_append, List.length_append, hl] <;> rfl) ⟨_, hn, rfl, rfl⟩
      rw [List.zip_append hl1.symm] at z
      exact z
    · subst ex eH
      exact body A outer s2 _ _ Q E hr' (hq p hp)
  · obtain ⟨ws, y, ev, hl, hq⟩ := hsp
    obtain ⟨rfl, e2⟩ := List.append_inj' ev rfl
    obtain rfl : x = y := by simpa using e2
    have hn : H s.heap.objs.size = Option.none := e0.hok.fresh (Nat.le_refl _)
    have hl1 : us.length = ps.length := by rw [← r.length]; exact hl
    refine StX.run_bnd lk hcd S hr e0 (G := fun xs H2 => ∃ p, H p = Option.none ∧ xs = vs ++ [x, V.ref p] ∧ H2 = upd H p (.tup [])) (fun A' Ex Q' h => ?_) fun s2 H2 xs ⟨p, hp, ex, eH⟩ hr' => ?_
    · rw [hB us v hl1]
      refine wpAny_bind (wpAny_newTuple (wpAny_pure ?_) (Nat.zero_le _))
      have new : ObjOk P w (upd H s.heap.objs.size (.tup [])) (s.heap.push ({ cls := .type "tuple", data := .seq #[] } : Obj)) s.heap.objs.size (.tup []) := ⟨Nat.zero_le _, [], .nil, ⟨_, Heap.get?_push_size _ rfl, rfl, _, rfl⟩⟩
      have un := StX.un_laid (fs := frs outer) (s := s) (o := ({ cls := .type "tuple", data := .seq #[] } : Obj)) (u := .tup []) hn
      have z := h _ _ (vs ++ [x, V.ref s.heap.objs.size]) (us ++ [v, Value.ref s.heap.objs.size]) (StX.env0_laid e0 new) un rfl (fun e s' z => z) (r.append (.cons rx (.cons rfl .nil)))
        (by rw [List.length_append, List.length_append, hl] <;> rfl) ⟨_, hn, rfl, rfl⟩
      rw [List.zip_append hl1.symm] at z
      exact z
    · subst ex eH
      exact body A outer s2 _ _ Q E hr' (hq p hp)
end
/-- C(q = e): a new instance and its dict, then __init__ -/
def rMkRK (C : Addr) (sp : Sp) (E : XK) (vs : List V) (H : Hp) (Q : VK) : Prop := ∃ z, vs = [z] ∧ ∀ x dx, H x = none → H dx = none → dx ≠ x → sp [V.ref x, z] (upd (upd H dx (.own x)) x (.ins C dx [])) (fun v H2 => v = .non ∧ Q (.ref x) H2) E
def tMakeRK (C : Addr) (sp : Sp) (E : XK) (t : TA) : TE := fun σ H Q => t σ H fun vs H1 => rMkRK C sp E vs H1 Q
theorem c_makeRK {C : Addr} {sp : Sp} {E : XK} {t : TA} {σ : L2.St} {H : Hp} {Q : VK} (h : t σ H fun vs H1 => rMkRK C sp E vs H1 Q) : tMakeRK C sp E t σ H Q := h
section
variable {X : Cx} {CX : CXT} {k : Nat} {f C : Addr} {sp : Sp} {E : XK} {x q : Str} {kws : List Keyword} {tk : TA} {p pos : Pos}
theorem run_makeRK {pins : List (Addr × Obj)} {σ : L2.St} {H : Hp} {s : Shared} {Q : VK} {z : V} {v : Value} (M : Mk X.K C f) (F : FnRK X.prog X.w X.K X.mg X.base CX k f q sp) (hr : Room (k + 1) X.A) (hx : Passes CX X E) (I : Inv X pins σ H s) (rz : RelV z v)
    (h : ∀ x dx, H x = Option.none → H dx = Option.none → dx ≠ x → sp [V.ref x, z] (upd (upd H dx (.own x)) x (.ins C dx [])) (fun v H2 => v = .non ∧ Q (.ref x) H2) E) :
    wpAny (model X.prog X.w) X.A (call (.ref C) [] [(q, v)]) (EP X pins σ Q) X.xe s := by
  have hq := h (s.heap.objs.size + 1) s.heap.objs.size (I.hok.fresh (Nat.le_succ _)) (I.hok.fresh (Nat.le_refl _)) (Nat.ne_of_lt (Nat.lt_succ_self _))
  have I2 := Inv.made (C := C) I
  have r2 : Vals [V.ref (s.heap.objs.size + 1)] [Value.ref (s.heap.objs.size + 1)] := .cons rfl .nil
  refine wpAny_call (make_map (f := f) I.kIn M.makes M.init (beq_iff_eq.mp M.fn) (codeAny_mono (F _ X.stack _ _ [Value.ref (s.heap.objs.size + 1)] v [V.ref (s.heap.objs.size + 1)] z _ E (hr.make C [] [(q, v)]) (I2.env0.make C [] [(q, v)]) r2 rz hq) fun r s' hq' => ?_))
  cases r with
  | error e => exact hx pins σ _ _ e s' I2 hq'
  | ok fl =>
    cases fl with
    | ret u =>
      obtain ⟨v, H', I3, rv, ev, q3⟩ := I2.after hq'
      subst ev
      exact ⟨rv, ⟨V.ref (s.heap.objs.size + 1), H', I3, rfl, q3⟩⟩
    | next => exact False.elim hq'
    | brk => exact False.elim hq'
    | cont => exact False.elim hq'
theorem pe_makeRK (M : Mk X.K C f) (F : FnRK X.prog X.w X.K X.mg X.base CX k f q sp) (hr : Room (k + 1) X.A) (hg : Gl X x) (hm : X.mg x = some (.ref C)) (hx : Passes CX X E) (hkw : PK X kws tk)
    (hall : (backToKw pos (keywordEach kws X.env)).all (·.1.isSome) = true := by rfl) (hks : (backToKw pos (keywordEach kws X.env)).filterMap (·.1) = [q] := by rfl) (hdb : (x == ("__debug__" : Str)) = false := by decide)
    (hpl : ((backTo pos (starEach [] X.env)).any (·.1) || (backToKw pos (keywordEach kws X.env)).any (·.1.isNone)) = false := by rfl) :
    PE X (.Call (.Name x p) [] kws pos) (tMakeRK C sp E tk) := by
  refine ⟨fun pins s σ H Q I h => ?_⟩
  refine wpAny_Call_Name_kw (ld_glob I hg hm ?_ hdb)
  refine PySem.W.callWith_KW0 (h₀ := X.base) I.ok.mod.kin M.kp hall ?_ hpl
  refine thn (hkw.run pos pins s σ H _ I h) fun ws s2 ⟨zs, H2, I2, rz, z, ez, q2⟩ => ⟨I2.kIn, ?_⟩
  subst ez
  obtain ⟨v, rfl, rv⟩ := vals1 rz
  rw [hks]
  exact run_makeRK M F hr hx I2 rv q2
end
/-- what a def with one parameter ahead binds -/
theorem bindK1 {B : List Value → Sem (List (Str × Value))} {p1 q pv : Str} {d : Value} {D : Addr}
    (h0 : ∀ a, ∃ (β γ : Type) (k1 : Option Value → Sem β) (k2 : β → Sem γ) (k3 : γ → Sem (List (Str × Value))) (b : β), B [a] = ((nsGet D q >>= k1) >>= k2) >>= k3 ∧ k1 (some d) = pure b ∧ (k2 b >>= k3) = (newTuple [] >>= fun t => pure [(p1, a), (q, d), (pv, t)]))
    (h1 : ∀ a r rs, ∃ (β γ : Type) (k1 : Option Value → Sem β) (k2 : β → Sem γ) (k3 : γ → Sem (List (Str × Value))) (b : β), B (a :: r :: rs) = ((nsGet D q >>= k1) >>= k2) >>= k3 ∧ k1 (some d) = pure b ∧ (k2 b >>= k3) = (newTuple (r :: rs) >>= fun t => pure [(p1, a), (q, d), (pv, t)])) :
    ∀ us rest : List Value, us.length = [p1].length → ∃ (β γ : Type) (k1 : Option Value → Sem β) (k2 : β → Sem γ) (k3 : γ → Sem (List (Str × Value))) (b : β), B (us ++ rest) = ((nsGet D q >>= k1) >>= k2) >>= k3 ∧ k1 (some d) = pure b ∧
      (k2 b >>= k3) = (newTuple rest >>= fun t => pure ([p1].zip us ++ [(q, d), (pv, t)]))
  | [a], [], _ => h0 a
  | [a], r :: rs, _ => h1 a r rs
theorem bindK1w {B : List Value → Value → Sem (List (Str × Value))} {p1 q pv : Str} (h : ∀ a v, B [a] v = (newTuple [] >>= fun t => pure [(p1, a), (q, v), (pv, t)])) :
    ∀ (us : List Value) (v : Value), us.length = [p1].length → B us v = (newTuple [] >>= fun t => pure ([p1].zip us ++ [(q, v), (pv, t)]))
  | [a], v, _ => h a v
end Und
/-! calls by keywords alone; texts of data -/
namespace Und
open PySem PySem.Spec PyProof.Rows L2
/-- two parameters, named the other way round -/
def gSwap {α : Type} : List α → List α → List α
  | [], [a, b] => [b, a]
  | _, _ => []
/-- one parameter by its name -/
def gOne {α : Type} : List α → List α → List α
  | [], [a] => [a]
  | _, _ => []
theorem gSwap_rel : ∀ {vs : List V} {us : List Value} {zs : List V} {ws : List Value}, Vals vs us → Vals zs ws → Vals (gSwap vs zs) (gSwap us ws) := by
  intro vs us zs ws h g
  cases h with
  | nil =>
    cases g with
    | nil => exact .nil
    | cons a g =>
      cases g with
      | nil => exact .nil
      | cons b g =>
        cases g with
        | nil => exact .cons b (.cons a .nil)
        | cons c g => exact .nil
  | cons a h => cases g <;> exact .nil
theorem gOne_rel : ∀ {vs : List V} {us : List Value} {zs : List V} {ws : List Value}, Vals vs us → Vals zs ws → Vals (gOne vs zs) (gOne us ws) := by
  intro vs us zs ws h g
  cases h with
  | nil =>
    cases g with
    | nil => exact .nil
    | cons a g =>
      cases g with
      | nil => exact .cons a .nil
      | cons b g => exact .nil
  | cons a h => cases g <;> exact .nil
theorem fun_swap {K : PySem.W.Frag} {x qual : Str} {st : Stmt} {f : Addr} {fd : FuncData} {p1 p2 : Str} (F : Fun K x qual st f fd)
    (h : ∀ (kV doc pm : Value) (an : Option Addr) (cdv ct a b : Value), bindArgs (PySem.W.fnOf x qual (defArgs st) (defBody st) (defScope st) .none kV doc pm an cdv ct) ⟨[], [(p2, a), (p1, b)]⟩ = pure [(p1, b), (p2, a)]) : KBinds K fd [p1, p2] [p2, p1] gSwap gSwap := by
  obtain ⟨oc, od, kV, doc, pm, an, cdv, ct, osl, rfl, lk, hcd⟩ := F.ex
  refine ⟨fun s us ws _ hl => ?_, gSwap_rel⟩
  match us, ws, hl with
  | [], [a, b], _ => exact .of_eq (h kV doc pm an cdv ct a b)
  | [], [], hl => exact absurd hl (by simp [gSwap])
  | [], [_], hl => exact absurd hl (by simp [gSwap])
  | [], _ :: _ :: _ :: _, hl => exact absurd hl (by simp [gSwap])
  | _ :: _, ws, hl => exact absurd hl (by simp [gSwap])
section
variable {X : Cx} {CX : CXT} {k : Nat} {f : Addr} {fd : FuncData} {ps ks : List Str} {sp : Sp} {E : XK} {x : Str} {p pos : Pos} {kws : List Keyword} {tk : TA} {g : List Value → List Value → List Value} {gV : List V → List V → List V}
def tCallK0 (sp : Sp) (gV : List V → List V → List V) (E : XK) (tk : TA) : TE := fun σ H Q => tk σ H fun zs H2 => sp (gV [] zs) H2 Q E
/-- f(k = v, ..) -/
theorem pe_callK0 (F : FnOk X.prog X.w X.K X.mg X.base CX k f fd ps sp) (hr : Room k X.A) (hg : Gl X x) (hm : X.mg x = some (.ref f)) (hk : PySem.W.keepIn X.K (.ref f) = true) (hb : KBinds X.K fd ps ks g gV) (hx : Passes CX X E)
    (hkw : PK X kws tk) (hall : (backToKw pos (keywordEach kws X.env)).all (·.1.isSome) = true := by rfl) (hks : (backToKw pos (keywordEach kws X.env)).filterMap (·.1) = ks := by rfl)
    (hdb : (x == ("__debug__" : Str)) = false := by decide)
    (hpl : ((backTo pos (starEach [] X.env)).any (·.1) || (backToKw pos (keywordEach kws X.env)).any (·.1.isNone)) = false := by rfl) :
    PE X (.Call (.Name x p) [] kws pos) (tCallK0 sp gV E tk) := by
  refine ⟨fun pins s σ H Q I h => ?_⟩
  refine wpAny_Call_Name_kw (ld_glob I hg hm ?_ hdb)
  refine PySem.W.callWith_KW0 (h₀ := X.base) I.ok.mod.kin hk hall ?_ hpl
  refine thn (hkw.run pos pins s σ H _ I h) fun ws s2 ⟨zs, H2, I2, rz, q2⟩ => ⟨I2.kIn, ?_⟩
  rw [hks]
  exact run_fnk F hr hb hx I2 .nil rz q2
end
theorem c_callK0 {sp : Sp} {gV : List V → List V → List V} {E : XK} {tk : TA} {σ : L2.St} {H : Hp} {Q : VK} (h : tk σ H fun zs H2 => sp (gV [] zs) H2 Q E) : tCallK0 sp gV E tk σ H Q := h
/-! ### how long the texts of data are -/
def Shw (d : PyData) (n : Nat) : Prop := d.showable = true ∧ d.shown.length ≤ n
theorem Shw.mono {d : PyData} {n m : Nat} (h : Shw d n) (l : n ≤ m) : Shw d m := ⟨h.1, Nat.le_trans h.2 l⟩
theorem shw_all {n : Nat} : ∀ {ds : List PyData}, (∀ d ∈ ds, Shw d n) → PyData.showableAll ds = true ∧ ∀ t ∈ PyData.shownAll ds, t.length ≤ n
  | [], _ => ⟨by simp [PyData.showableAll], fun t ht => by simp [PyData.shownAll] at ht⟩
  | d :: ds, h => by
    have ih := shw_all fun x hx => h x (List.mem_cons_of_mem _ hx)
    have hd := h d List.mem_cons_self
    refine ⟨by rw [PyData.showableAll, hd.1, ih.1]; rfl, fun t ht => ?_⟩
    rw [PyData.shownAll] at ht
    rcases List.mem_cons.mp ht with rfl | ht
    · exact hd.2
    · exact ih.2 t ht
theorem shownAll_len : ∀ ds : List PyData, (PyData.shownAll ds).length = ds.length
  | [] => by simp [PyData.shownAll]
  | d :: ds => by rw [PyData.shownAll, List.length_cons, List.length_cons, shownAll_len ds]
theorem joinC_len {n : Nat} : ∀ ts : List Str, (∀ t ∈ ts, t.length ≤ n) → (Str.join ", " ts).length ≤ (n + 2) * ts.length
  | [], _ => Nat.zero_le _
  | [x], h => by
    have := h x List.mem_cons_self
    show x.length ≤ (n + 2) * 1
    omega
  | x :: y :: r, h => by
    have ih := joinC_len (y :: r) fun t ht => h t (List.mem_cons_of_mem _ ht)
    have hx := h x List.mem_cons_self
    have e2 : ((", " : String) : Str).length = 2 := rfl
    show (x ++ ", " ++ Str.join ", " (y :: r)).length ≤ _
    rw [PySem.Str.length_append, PySem.Str.length_append, e2, List.length_cons (a := x), Nat.mul_succ]
    omega
theorem shw_tuple {ds : List PyData} {n : Nat} (h : ∀ d ∈ ds, Shw d n) : Shw (.tuple ds) ((n + 2) * ds.length + 3) := by
  obtain ⟨a, b⟩ := shw_all h
  refine ⟨by rw [PyData.showable]; exact a, ?_⟩
  rw [PyData.shown]
  have := joinC_len _ b
  rw [shownAll_len] at this
  unfold tupleText
  have e1 : ((("(" : String) : Str)).length = 1 := rfl
  have e3 : (((if (PyData.shownAll ds).length == 1 then ",)" else ")" : String) : Str)).length ≤ 2 := by split <;> decide
  rw [PySem.Str.length_append, PySem.Str.length_append, e1]
  omega
theorem textFrom_le {n : Nat} : ∀ (ts : List Str) (k : Nat) (acc : Str), (∀ t ∈ ts, t.length ≤ n) → (textFrom k acc ts).length ≤ acc.length + (n + 2) * ts.length
  | [], _, _, _ => Nat.le_add_right _ _
  | t :: r, k, acc, h => by
    have ht := h t List.mem_cons_self
    have ih := textFrom_le r (k + 1) (acc ++ (if k > 0 then ", " else "" : String) ++ t) fun x hx => h x (List.mem_cons_of_mem _ hx)
    have e : (acc ++ (if k > 0 then ", " else "" : String) ++ t).length ≤ acc.length + 2 + t.length := by
      rw [PySem.Str.length_append, PySem.Str.length_append]
      have : (((if k > 0 then ", " else "" : String)) : Str).length ≤ 2 := by split <;> decide
      omega
    rw [List.length_cons, Nat.mul_succ]
    show (textFrom (k + 1) (acc ++ (if k > 0 then ", " else "" : String) ++ t) r).length ≤ _
    omega
theorem shw_list {ds : List PyData} {n : Nat} (h : ∀ d ∈ ds, Shw d n) : Shw (.list ds) ((n + 2) * ds.length + 3) := by
  obtain ⟨a, b⟩ := shw_all h
  refine ⟨by rw [PyData.showable]; exact a, ?_⟩
  rw [PyData.shown]
  have := textFrom_le (PyData.shownAll ds) 0 "[" b
  rw [shownAll_len] at this
  unfold listText
  have e1 : ((("[" : String) : Str)).length = 1 := rfl
  have e3 : ((("]" : String) : Str)).length = 1 := rfl
  rw [PySem.Str.length_append, e3]
  omega
theorem shw_int {i : Int} (h0 : 0 ≤ i) (h : i < 10 ^ 510) : Shw (.int i) 510 := by
  have hb : i.natAbs < 2 ^ 1700 := by
    have c : (10 : Int) ^ 510 < ((2 ^ 1700 : Nat) : Int) := by decide +kernel
    omega
  refine ⟨?_, ?_⟩
  · rw [PyData.showable]
    exact decide_eq_true (Nat.lt_trans (PySem.Flt.log2_lt_of (by decide) hb) (by decide))
  · rw [PyData.shown]
    exact toString_length_le h0 (by decide) h
theorem shw_name {z : Str} (h : IsName z) : Shw (.str z) 82 := by
  refine ⟨by rw [PyData.showable], ?_⟩
  rw [PyData.shown]
  have h1 := PySem.StrLaws.reprText_len z (fun c hc => Nat.lt_of_le_of_lt (h.low c hc).2 (by decide))
  have h2 := h.hi
  omega
theorem crR {X : Cx} {K : PySem.W.Frag} {k : Nat} (g : Still X.A) (r : Room k X.A) (h : X.K = K := by rfl) : CallR X (.builtin "repr") (crRepr K) := h ▸ cr_repr g r
/-- repr of data that is not long -/
theorem c_repr {K : PySem.W.Frag} {a : Addr} {d : PyData} {n m : Nat} {H : Hp} {Q : VK} (hd : Dp K H (.ref a) d) (ok : DOk d n) (ln : n ≤ 32) (sh : Shw d m) (lm : m ≤ 10000000) (h : Q (.str d.shown) H) : crRepr K [.ref a] H Q :=
  ⟨a, d, rfl, hd, sh.1, PyData.hasDict_of_canLay d ok.lay, Nat.le_trans ok.dep ln, Nat.le_trans sh.2 (Nat.le_trans lm (by decide)), h⟩
/-! ### a list is unpacked -/
theorem pgLst {X : Cx} {K : PySem.W.Frag} {es : List Expr} {k : Nat} {t : TGs} {n : Nat} {pos : Pos} (hc : X.calm = true) (ht : PGs X es t) (h : X.K = K := by rfl) (hn : (assignEach es X.env).length = n := by rfl) (hst : (assignEach es X.env).findIdx? (·.1) = none := by rfl) :
    PG X (.Tuple es k pos) (gLst K n t) := h ▸ pg_lst hc ht hn hst
theorem c_glst {K : PySem.W.Frag} {a : Addr} {xs : List V} {n : Nat} {t : TGs} {σ : L2.St} {H : Hp} {Q : L2.St → Hp → Prop} (e : SqL K H a xs) (hn : xs.length = n) (h : t xs σ H Q) : gLst K n t (.ref a) σ H Q := ⟨a, xs, rfl, e, hn, h⟩
end Und
/-! a def f(a, *v) of the module, called with positional values or with its one name -/
namespace Und
open PySem PySem.Spec PyProof.Rows L2
/-- what stands behind the top, and what its two kinds of calls bind -/
structure FunSt (K : PySem.W.Frag) (name : Str) (st : Stmt) (p1 pv : Str) (f : Addr) : Prop where
  ex : ∃ (oc : Value) (od : Option Addr) (dV kV doc pm : Value) (an : Option Addr) (cdv ct : Value) (osl : Array (Option Value)),
    K.lookup f = some ⟨oc, od, .func (PySem.W.fnOf name name (defArgs st) (defBody st) (defScope st) dV kV doc pm an cdv ct), osl⟩ ∧ PySem.W.codeIn K cdv name = true ∧
    (∀ us rest : List Value, us.length = [p1].length → bindArgs (PySem.W.fnOf name name (defArgs st) (defBody st) (defScope st) dV kV doc pm an cdv ct) ⟨us ++ rest, []⟩ = (newTuple rest >>= fun t => pure ([p1].zip us ++ [(pv, t)]))) ∧
    (∀ v : Value, bindArgs (PySem.W.fnOf name name (defArgs st) (defBody st) (defScope st) dV kV doc pm an cdv ct) ⟨[], [(p1, v)]⟩ = (newTuple [] >>= fun t => pure [(p1, v), (pv, t)]))
  kp : PySem.W.keepIn K (.ref f) = true
/-- called with its one name -/
def spOneK (sp : Sp) : Sp := fun vs H Q E => ∃ x, vs = [x] ∧ ∀ p, H p = none → sp [x, V.ref p] (upd H p (.tup [])) Q E
section
variable {P : Program} {w : World} {K : PySem.W.Frag} {mg : Str → Option Value} {base : Heap}
theorem FunSt.ok {name p1 pv : Str} {st : Stmt} {N : List Str} {f : Addr} {k : Nat} {sp : Sp} (F : FunSt K name st p1 pv f) (S : FnScope N [p1, pv] (defScope st))
    (hbody : ∀ (cdv : Value) (A : Around) (outer : List Env) (s : Shared) (H : Hp) (vs : List V) (Q : VK) (E : XK), Room k (A.deeper (envOfC name (defScope st) s.heap.objs.size f cdv)) → sp vs H Q E →
      ∃ t, PSs (cxOf CX0 P w K mg base N name (defScope st) f cdv A outer s H E).nox (defBody st) t ∧ t { nx := fun _ H' => Q .non H', rt := Q } (start N vs) H) :
    FnR P w K mg base CX0 (k + 1) f (spStar 1 sp) ∧ FnRK P w K mg base CX0 (k + 1) f p1 (spOneK sp) := by
  obtain ⟨oc, od, dV, kV, doc, pm, an, cdv, ct, osl, lk, hcd, hb, hw⟩ := F.ex
  refine ⟨FunS.ok (ps := [p1]) ⟨⟨oc, od, dV, kV, doc, pm, an, cdv, ct, osl, lk, hcd, hb⟩, F.kp⟩ S hbody, fun A outer s H us v vs x Q E hr e0 r rx hsp => ?_⟩
  obtain ⟨y, ev, hq⟩ := hsp
  obtain ⟨rfl, e2⟩ := List.append_inj' (s₂ := []) ev rfl
  obtain rfl : x = y := by simpa using e2
  obtain rfl : us = [] := by cases r; rfl
  have hn : H s.heap.objs.size = Option.none := e0.hok.fresh (Nat.le_refl _)
  refine StX.run_bnd (ps := [p1, pv]) lk hcd S hr e0 (G := fun xs H2 => ∃ p, H p = Option.none ∧ xs = [x, V.ref p] ∧ H2 = upd H p (.tup [])) (fun A' Ex Q' h => ?_) fun s2 H2 xs ⟨p, hp, ex, eH⟩ hr' => ?_
  · rw [hw v]
    refine wpAny_bind (wpAny_newTuple (wpAny_pure ?_) (Nat.zero_le _))
    have new : ObjOk P w (upd H s.heap.objs.size (.tup [])) (s.heap.push ({ cls := .type "tuple", data := .seq #[] } : Obj)) s.heap.objs.size (.tup []) := ⟨Nat.zero_le _, [], .nil, ⟨_, Heap.get?_push_size _ rfl, rfl, _, rfl⟩⟩
    have un := StX.un_laid (fs := frs outer) (s := s) (o := ({ cls := .type "tuple", data := .seq #[] } : Obj)) (u := .tup []) hn
    exact h _ _ [x, V.ref s.heap.objs.size] [v, Value.ref s.heap.objs.size] (StX.env0_laid e0 new) un rfl (fun e s' z => z) (.cons rx (.cons rfl .nil)) rfl ⟨_, hn, rfl, rfl⟩
  · subst ex eH
    obtain ⟨t, h, q⟩ := hbody cdv A outer s2 _ _ Q E hr' (hq p hp)
    exact ⟨t, h.nox, q⟩
end
section
variable {X : Cx} {CX : CXT} {k : Nat} {f : Addr} {sp : Sp} {E : XK} {x q : Str} {kws : List Keyword} {tk : TA} {p pos : Pos}
theorem run_fnRK {pins : List (Addr × Obj)} {σ : L2.St} {H : Hp} {s : Shared} {Q : VK} {z : V} {v : Value} (F : FnRK X.prog X.w X.K X.mg X.base CX k f q sp) (hr : Room k X.A) (hx : Passes CX X E) (I : Inv X pins σ H s) (rz : RelV z v)
    (h : sp [z] H Q E) : wpAny (model X.prog X.w) X.A (call (.ref f) [] [(q, v)]) (EP X pins σ Q) X.xe s := by
  refine wpAny_call (codeAny_mono (F X.A X.stack s H [] v [] z Q E hr I.env0 .nil rz h) fun r s' hq => ?_)
  cases r with
  | error e => exact hx pins σ H s e s' I hq
  | ok fl =>
    cases fl with
    | ret u => exact I.after hq
    | next => exact False.elim hq
    | brk => exact False.elim hq
    | cont => exact False.elim hq
/-- f(q = e) -/
def tCallOK (sp : Sp) (E : XK) (tk : TA) : TE := fun σ H Q => tk σ H fun vs H1 => ∃ z, vs = [z] ∧ sp [z] H1 Q E
theorem c_callOK {σ : L2.St} {H : Hp} {Q : VK} (h : tk σ H fun vs H1 => ∃ z, vs = [z] ∧ sp [z] H1 Q E) : tCallOK sp E tk σ H Q := h
theorem pe_callOK (F : FnRK X.prog X.w X.K X.mg X.base CX k f q sp) (hr : Room k X.A) (hg : Gl X x) (hm : X.mg x = some (.ref f)) (hk : PySem.W.keepIn X.K (.ref f) = true) (hx : Passes CX X E) (hkw : PK X kws tk)
    (hall : (backToKw pos (keywordEach kws X.env)).all (·.1.isSome) = true := by rfl) (hks : (backToKw pos (keywordEach kws X.env)).filterMap (·.1) = [q] := by rfl) (hdb : (x == ("__debug__" : Str)) = false := by decide)
    (hpl : ((backTo pos (starEach [] X.env)).any (·.1) || (backToKw pos (keywordEach kws X.env)).any (·.1.isNone)) = false := by rfl) :
    PE X (.Call (.Name x p) [] kws pos) (tCallOK sp E tk) := by
  refine ⟨fun pins s σ H Q I h => ?_⟩
  refine wpAny_Call_Name_kw (ld_glob I hg hm ?_ hdb)
  refine PySem.W.callWith_KW0 (h₀ := X.base) I.ok.mod.kin hk hall ?_ hpl
  refine thn (hkw.run pos pins s σ H _ I h) fun ws s2 ⟨zs, H2, I2, rz, z, ez, q2⟩ => ⟨I2.kIn, ?_⟩
  subst ez
  obtain ⟨v, rfl, rv⟩ := vals1 rz
  rw [hks]
  exact run_fnRK F hr hx I2 rv q2
variable {e : Expr} {es : List Expr} {t : TA}
/-- f(e, ..), by a positional promise -/
def tCallPR (sp : Sp) (E : XK) (t : TA) : TE := fun σ H Q => t σ H fun vs H1 => sp vs H1 Q E
theorem c_callPR {σ : L2.St} {H : Hp} {Q : VK} (h : t σ H fun vs H1 => sp vs H1 Q E) : tCallPR sp E t σ H Q := h
theorem pe_callPR (F : FnR X.prog X.w X.K X.mg X.base CX k f sp) (hr : Room k X.A) (hg : Gl X x) (hm : X.mg x = some (.ref f)) (hk : PySem.W.keepIn X.K (.ref f) = true) (hx : Passes CX X E)
    (ha : PA X (e :: es) t) (hdb : (x == ("__debug__" : Str)) = false := by decide) (he : starEach (e :: es) X.env = (false, eval e X.env) :: starEach es X.env := by rfl) (hpl : (backTo pos (starEach es X.env)).any (·.1) = false := by rfl) :
    PE X (.Call (.Name x p) (e :: es) [] pos) (tCallPR sp E t) := by
  refine ⟨fun pins s σ H Q I h => ?_⟩
  refine wpAny_Call_Name_kw (ld_glob I hg hm ?_ hdb)
  refine PySem.W.callWith_K (h₀ := X.base) I.ok.mod.kin hk (thn (ha.run pos pins s σ H _ I h) fun us s1 ⟨vs, H1, I1, r, q⟩ => ⟨I1.kIn, ?_⟩) he hpl
  exact wpAny_call (run_fnR F hr hx I1 r q)
theorem pe_callPR0 (F : FnR X.prog X.w X.K X.mg X.base CX k f sp) (hr : Room k X.A) (hg : Gl X x) (hm : X.mg x = some (.ref f)) (hk : PySem.W.keepIn X.K (.ref f) = true) (hx : Passes CX X E) (hdb : (x == ("__debug__" : Str)) = false := by decide) :
    PE X (.Call (.Name x p) [] [] pos) (tCallPR sp E tNil) := by
  constructor
  intro pins s σ H Q I h
  refine wpAny_Call_Name_kw (ld_glob I hg hm ?_ hdb)
  exact PySem.W.callWith_K0 I.kIn hk (wpAny_call (run_fnR F hr hx I .nil h))
/-- never asked for -/
def tNo : TE := fun _ _ _ => False
theorem pe_no {e : Expr} : PE X e tNo := ⟨fun _ _ _ _ _ _ h => h.elim⟩
end
/-- what a def f(*v) binds -/
theorem bind_star0 {B : List Value → Sem (List (Str × Value))} {pv : Str} (h0 : B [] = (newTuple [] >>= fun t => pure [(pv, t)])) (h1 : ∀ r rs, B (r :: rs) = (newTuple (r :: rs) >>= fun t => pure [(pv, t)])) : ∀ us rest : List Value, us.length = ([] : List Str).length → B (us ++ rest) = (newTuple rest >>= fun t => pure (([] : List Str).zip us ++ [(pv, t)]))
  | [], [], _ => h0
  | [], r :: rs, _ => h1 r rs
end Und
/-! f'{n:>8}'; o.m(e, ..) of a method def m(self, *v) -/
namespace Und
open PySem PySem.Spec PyProof.Rows L2
def spec8 : Str := Str.ofString ">8"
def digs (a : Int) : List Nat := (Nat.toDigits 10 a.natAbs).map Char.toNat
def txt8 (a : Int) : Str := ⟨(List.replicate (8 - (digs a).length) 32 ++ digs a).toArray⟩
theorem digs_pos (a : Int) : (digs a).isEmpty = false := by
  have h := PyProof.Rows.tDigits_len_ge 10 a.natAbs
  unfold digs
  cases e : Nat.toDigits 10 a.natAbs with
  | nil =>
    rw [e] at h
    cases h
  | cons c cs => rfl
theorem digs_len {a : Int} (h0 : 0 ≤ a) (hb : a < 10 ^ 510) : (digs a).length ≤ 510 := by
  unfold digs
  rw [List.length_map]
  refine PyProof.Rows.digits10_le (by decide) ?_
  have c : (10 : Int) ^ 510 = ((10 ^ 510 : Nat) : Int) := by decide +kernel
  omega
theorem fld8 (a : Int) : PyProof.Rows.intField' ⟨32, 62, none, false, false, some 8, none, none, none⟩ false [] (digs a) [] 3 = txt8 a := by
  unfold PyProof.Rows.intField' txt8
  have hd := digs_pos a
  generalize digs a = d at *
  simp [hd]
theorem m8 (a : Int) (t u : Tok) (h0 : 0 ≤ a) (hb : a < 10 ^ 510) : Meets (Builtin.«int.__format__» ⟨[.int a t, .str spec8 u], []⟩) (fun _ R s => ∀ t' k, R (.ok (.ret (.str (txt8 a) t'))) { s with toks := k }) := by
  have h : a.natAbs.log2 < 1920 := by
    have hb : a.natAbs < 2 ^ 1700 := by
      have c : (10 : Int) ^ 510 < ((2 ^ 1700 : Nat) : Int) := by decide +kernel
      omega
    exact Nat.lt_trans (PySem.Flt.log2_lt_of (by decide) hb) (by decide)
  apply PySem.W.KPc.meets_of
  intro prog w A s Q E q
  unfold Builtin.«int.__format__»
  refine wpAny_bind (wpAny_of_eq (a := (_, _)) rfl ?_)
  refine wpAny_bind (wpAny_of_eq (a := _) rfl ?_)
  kxf_if
  refine wpAny_bind (wpAny_typeNameOf (T := "str") (typeIs_str _ _ _) (by decide) fun _ => ?_)
  refine wpAny_bind (wpAny_of_eq (a := some _) rfl ?_)
  kxf_if
  kxf_if
  refine wpAny_bind (wpAny_typeNameOfCut_int ?_)
  (repeat kxf_if)
  refine wpAny_bind (wpAny_of_eq (PyProof.Rows.overDigitLimit_small h) ?_)
  (repeat kxf_if)
  have e0 : decide (a < 0) = false := decide_eq_false (by omega)
  rw [e0]
  refine PySem.W.KXf.ret_text (X := PyProof.Rows.intField' ⟨32, 62, none, false, false, some 8, none, none, none⟩ false [] (digs a) [] 3) (fld8 a) ?_ q
  rw [fld8 a, sizeLine_eq]
  have hl := digs_len h0 hb
  show (List.replicate (8 - (digs a).length) 32 ++ digs a).toArray.size ≤ _
  simp
  omega
section
variable {X : Cx} {e sp : Expr} {te : TE} {pos : Pos} {σ : L2.St} {H : Hp} {Q : VK}
def rFmt8 (x : V) (H : Hp) (Q : VK) : Prop := ∃ i : Int, x = .int i ∧ 0 ≤ i ∧ i < 10 ^ 510 ∧ Q (.str (txt8 i)) H
def tFmt8 (te : TE) : TE := fun σ H Q => te σ H fun x H1 => rFmt8 x H1 Q
theorem pe_fmt8 (he : PE X e te) (hs : PE X sp (tC (.str spec8))) : PE X (.FormattedValue e (-1) (some sp) pos) (tFmt8 te) := by
  constructor
  intro pins s σ H Q I h
  refine wpAny_FormattedValue_spec (thn (he.run pins s σ H _ I h) fun v s1 hv => ?_)
  obtain ⟨x, H1, I1, r1, i, rfl, h0, hb, q⟩ := hv
  obtain ⟨t, rfl⟩ := r1
  refine thn (hs.run pins s1 σ H1 (fun z H2 => z = .str spec8 ∧ Q (.str (txt8 i)) H2) I1 ⟨rfl, q⟩) fun r s2 hr => ?_
  obtain ⟨z, H2, I2, r2, rfl, q2⟩ := hr
  obtain ⟨t2, rfl⟩ := r2
  exact ⟨_, _, rfl, PySem.W.KXf.field_int (spec' := spec8) rfl (by decide) (by decide +kernel) (fun u => m8 i t u h0 hb) fun t' k => ⟨.str (txt8 i), H2, I2.tok _, ⟨_, rfl⟩, q2⟩⟩
theorem c_fmt8 (h : te σ H fun x H1 => rFmt8 x H1 Q) : tFmt8 te σ H Q := h
theorem c_rfmt8 {i : Int} (h0 : 0 ≤ i) (hb : i < 10 ^ 510) (h : Q (.str (txt8 i)) H) : rFmt8 (.int i) H Q := ⟨i, rfl, h0, hb, h⟩
end
section
variable {X : Cx} {CX : CXT} {k : Nat} {C f : Addr} {m : Str} {sp : Sp} {E : XK} {o e : Expr} {es : List Expr} {apos pos : Pos} {ta : TE} {t : TA} {pl : Sem Bool}
theorem pe_methR (he : PE X o ta) (c : Cls X.K C) (hm : Meth X.K C m f) (F : FnR X.prog X.w X.K X.mg X.base CX k f sp) (hr : Room k X.A) (hx : Passes CX X E) (ha : PA X (e :: es) t)
    (hst : starEach (e :: es) X.env = (false, eval e X.env) :: starEach es X.env := by rfl) (hpl : (backTo pos (starEach es X.env)).any (·.1) = false := by rfl)
    (ht : eval (.Call (.Attribute o m apos) (e :: es) [] pos) X.env = (do
      let ov ← eval o X.env
      standAt apos.atName
      let (f, first) ← holding [ov] (getMethod ov m pl)
      callWith pos f first (backTo pos (starEach (e :: es) X.env)) (backToKw pos (keywordEach [] X.env))) := by rfl) : PE X (.Call (.Attribute o m apos) (e :: es) [] pos) (tMeth C m sp [] E ta t) := by
  constructor
  intro pins s σ H Q I h
  refine PySem.W.methodCall_KW (pl := pl) (thn (he.run pins s σ H _ I h) ?_) ht
  rintro u s1 ⟨x, H1, I1, rx, a, dx, fs, rfl, ea, l, q⟩
  obtain rfl : u = Value.ref a := rx
  refine getmeth_ok I1 ea c hm l ?_
  refine PySem.W.callWith_K (first := [.ref a]) (h₀ := X.base) I1.ok.mod.kin hm.kp (thn (ha.run pos pins s1 σ H1 _ I1 q) ?_) hst hpl
  rintro us s2 ⟨vs, H2, I2, r, q2⟩
  refine ⟨I2.kIn, ?_⟩
  rw [List.append_nil] at q2
  exact wpAny_call (run_fnR (us := .ref a :: us) (vs := .ref a :: vs) F hr hx I2 (.cons rfl r) q2)
theorem pe_methR0 (he : PE X o ta) (c : Cls X.K C) (hm : Meth X.K C m f) (F : FnR X.prog X.w X.K X.mg X.base CX k f sp) (hr : Room k X.A) (hx : Passes CX X E)
    (ht : eval (.Call (.Attribute o m apos) [] [] pos) X.env = (do
      let ov ← eval o X.env
      standAt apos.atName
      let (f, first) ← holding [ov] (getMethod ov m pl)
      callWith pos f first (backTo pos (starEach [] X.env)) (backToKw pos (keywordEach [] X.env))) := by rfl) : PE X (.Call (.Attribute o m apos) [] [] pos) (tMeth C m sp [] E ta tNil) := by
  constructor
  intro pins s σ H Q I h
  refine PySem.W.methodCall_KW (pl := pl) (thn (he.run pins s σ H _ I h) ?_) ht
  rintro u s1 ⟨x, H1, I1, rx, a, dx, fs, rfl, ea, l, q⟩
  obtain rfl : u = Value.ref a := rx
  refine getmeth_ok I1 ea c hm l ?_
  exact PySem.W.callWith_K0 (first := [.ref a]) I1.kIn hm.kp (wpAny_call (run_fnR (us := [.ref a]) (vs := [.ref a]) F hr hx I1 (.cons rfl .nil) q))
end
end Und
/-! in, == with any value, truth of a class's own -/
namespace Und
open PySem PySem.Spec PyProof.Rows L2 Builtin
section
variable {X : Cx} {CX : CXT} {n : Nat} {C f : Addr} {fd : FuncData} {ps : List Str} {sp : Sp} {E : XK}
theorem own_call2 {A : Around} {pins : List (Addr × Obj)} {σ : L2.St} {H : Hp} {s : Shared} {a : Addr} {y : V} {v : Value} {Q : VK} (F : FnOk X.prog X.w X.K X.mg X.base CX n f fd ps sp) (hb : Binds X.K fd ps []) (hx : Passes CX X E) (I : Inv X pins σ H s) (hr : Room n A) (hf : A.frames = X.A.frames)
    (ry : RelV y v) (h : sp [.ref a, y] H Q E) : wpAny (model X.prog X.w) A (call (.ref f) [.ref a, v]) (EP X pins σ Q) X.xe s := by
  have e0 : Env0 X.prog X.w X.K X.mg X.base A X.stack s H := by
    have e := I.env0
    exact ⟨by rw [hf]; exact e.frames, e.mod, e.bs, e.bsz, e.funs, e.frf, e.hok, e.bare⟩
  have hl := F.len _ _ _ _ h
  have r2 : Vals [V.ref a, y] [Value.ref a, v] := .cons rfl (.cons ry .nil)
  refine wpAny_call (codeAny_mono (F.run A X.stack s H ⟨[.ref a, v], []⟩ [.ref a, v] [.ref a, y] Q E hr e0 (by
    have z := hb s [.ref a, v] I.kIn (by simpa using hl)
    simpa using z) r2 h) fun r s' hq => ?_)
  cases r with
  | error e => exact hx pins σ H s e s' I hq
  | ok fl =>
    cases fl with
    | ret w => exact I.after hq
    | next => exact False.elim hq
    | brk => exact False.elim hq
    | cont => exact False.elim hq
/-! ### x in obj -/
def rInO (C : Addr) (sp : Sp) (E : XK) (neg : Bool) : R2 := fun x y H Q => ∃ b dy gs, y = .ref b ∧ H b = some (.ins C dy gs) ∧ sp [.ref b, x] H (fun z H' => ∃ k, z = .bl k ∧ Q (.bl (if neg then !k else k)) H') E
theorem opInO (W : OwnM X.K C "__contains__" f) (F : FnOk X.prog X.w X.K X.mg X.base CX n f fd ps sp) (hr : Room n X.A) (hb : Binds X.K fd ps []) (hx : Passes CX X E) : OpR X (compareOp .In) (rInO C sp E false) := by
  intro pins s σ H x y v u Q I rx ry h
  obtain ⟨b, dy, gs, rfl, hb', q⟩ := h
  cases ry
  obtain ⟨mA, J, _⟩ := ins_get I.hok hb'
  obtain ⟨od, J, _⟩ := J.look
  obtain ⟨m, hF⟩ := I.fr
  refine PySem.W.in_K hF I.ok.mod.kin J W.at_ W.fn ?_
  refine wpAny_mono (own_call2 F hb hx I hr rfl rx q) (fun w s' z => ?_) fun _ _ z => z
  obtain ⟨v, H', I', rv, k, rfl, qk⟩ := z
  cases rv
  exact wpAny_truthy_bool ⟨.bl k, H', I', rfl, qk⟩
theorem opNotInO (W : OwnM X.K C "__contains__" f) (F : FnOk X.prog X.w X.K X.mg X.base CX n f fd ps sp) (hr : Room n X.A) (hb : Binds X.K fd ps []) (hx : Passes CX X E) : OpR X (compareOp .NotIn) (rInO C sp E true) := by
  intro pins s σ H x y v u Q I rx ry h
  obtain ⟨b, dy, gs, rfl, hb', q⟩ := h
  cases ry
  obtain ⟨mA, J, _⟩ := ins_get I.hok hb'
  obtain ⟨od, J, _⟩ := J.look
  obtain ⟨m, hF⟩ := I.fr
  refine PySem.W.notIn_K hF I.ok.mod.kin J W.at_ W.fn ?_
  refine wpAny_mono (own_call2 F hb hx I hr rfl rx q) (fun w s' z => ?_) fun _ _ z => z
  obtain ⟨v, H', I', rv, k, rfl, qk⟩ := z
  cases rv
  exact wpAny_truthy_bool ⟨.bl (!k), H', I', rfl, qk⟩
theorem c_inO {neg : Bool} {H : Hp} {Q : VK} {x : V} {b dy : Addr} {gs : List (Str × V)} (h : H b = some (.ins C dy gs)) (q : sp [.ref b, x] H (fun z H' => ∃ k, z = .bl k ∧ Q (.bl (if neg then !k else k)) H') E) : rInO C sp E neg x (.ref b) H Q := ⟨b, dy, gs, rfl, h, q⟩
/-! ### obj == any value -/
theorem notFirst_of {K : PySem.W.Frag} {t : Value} (h : PySem.W.kitOne K t (.ref C) = some false) : PySem.W.notFirst K C t = true := by
  unfold PySem.W.kitOne at h
  by_cases e : (t == Value.ref C) = true
  · rw [if_pos e] at h
    cases h
  · rw [if_neg e] at h
    simp only [PySem.W.kitCls] at h
    split at h
    · unfold PySem.W.notFirst
      rw [h]
      simp
    · cases h
def rOwnX (K : PySem.W.Frag) (C : Addr) (sp : Sp) (E : XK) (neg : Bool) : R2 := fun x y H Q => ∃ a dx fs t, x = .ref a ∧ H a = some (.ins C dx fs) ∧ TyX K H y t ∧ PySem.W.kitOne K t (.ref C) = some false ∧ sp [.ref a, y] H (fun z H' => ∃ k, z = .bl k ∧ Q (.bl (if neg then !k else k)) H') E
theorem opEqOwnX {K : PySem.W.Frag} (W : EqOwn X.K C f) (F : FnOk X.prog X.w X.K X.mg X.base CX n f fd ps sp) (hr : Room n X.A) (hb : Binds X.K fd ps []) (hx : Passes CX X E) (hK : X.K = K := by rfl) : OpR X (compareOp .Eq) (rOwnX K C sp E false) := by
  subst hK
  intro pins s σ H x y v u Q I rx ry h
  obtain ⟨a, dx, fs, t, rfl, ha, ty, kt, q⟩ := h
  cases rx
  obtain ⟨mA, J, _⟩ := ins_get I.hok ha
  obtain ⟨od, J, _⟩ := J.look
  obtain ⟨m, hF⟩ := I.fr
  obtain ⟨P, Z, p, _⟩ := kit_of I ry ty
  show wpAny (model X.prog X.w) X.A (richCompare .Eq (.ref a) u) (EP X pins σ Q) X.xe s
  refine PySem.W.cmp_K (op := .Eq) (tb := t) hr.units0 hF I.ok.mod.kin J (Z.ty _ _ I.kIn p) (notFirst_of kt) W.eq W.fn ?_
  refine wpAny_mono (own_call2 F hb hx I hr rfl ry q) (fun w s' z => ?_) fun _ _ z => z
  obtain ⟨v, H', I', rv, k, rfl, qk⟩ := z
  cases rv
  exact ⟨.bl k, H', I', rfl, qk⟩
end
section
variable {prog : Program} {w : World} {A : Around} {E : Value → Shared → Prop} {s : Shared} {K : PySem.W.Frag} {x C f : Addr} {ox : Obj} {od : Option Obj} {y tb : Value}
theorem rich_neX (X : K.In s.heap) (I : PySem.W.InstAt s.heap x ox C od) (hb : PySem.W.Looks (model prog w) s.heap (typeOf y) tb) (hn : PySem.W.notFirst K C tb = true) (W : EqOwn K C f) (hu : A.units + 1 < cLine) {Q : Value → Shared → Prop}
    (h : wpAny (model prog w) A.in1 (call (.ref f) [.ref x, y]) (fun v s' => ∃ k, v = .bool k ∧ Q (.bool (!k)) s') E s) : wpAny (model prog w) A (richCompare .NotEq (.ref x) y) Q E s := by
  have one : wpAny (model prog w) A (tryCompare (.ref x) "__ne__" y) (fun r s' => ∃ v, r = some v ∧ Q v s') E s := by
    unfold tryCompare
    refine wpAny_bind (bound_ne X I W (wpAny_call (codeAny_call_builtin F.cmp_object.ne.plain F.cmpEntry_ne (PySem.W.check_slot F.cmpKind_ne F.cmpSplit_ne (I.type.andThen (PySem.W.looks_mroIn X W.ob)) (F.cmpArgs_ne _ _)
      (entry_ne (A := A.in1) X I W hu (wpAny_mono h (fun v s' z => ?_) fun _ _ z => z))))))
    obtain ⟨k, rfl, q⟩ := z
    exact ⟨k, rfl, wpAny_pure ⟨_, rfl, q⟩⟩
  unfold richCompare
  simp only [oneThing_ref]
  refine wpAny_holding (wpAny_bind (wpAny_cRoomFor (Nat.lt_of_succ_lt hu) ?_))
  rw [cmpInfo_NotEq]
  dsimp only
  refine wpAny_bind (I.type.here (wpAny_bind (hb.here ?_)))
  split
  · rename_i q
    have e : PySem.W.subIn K tb (.ref C) = some false := by
      rcases Bool.or_eq_true_iff.mp hn with e | e
      · rw [beq_iff_eq.mp e] at q; simp at q
      · exact beq_iff_eq.mp e
    refine wpAny_bind ((PySem.W.looks_subIn X e).here ?_)
    simp only [Bool.false_eq_true, if_false]
    refine wpAny_bind (wpAny_mono one (fun r s' z => ?_) fun _ _ e => e)
    obtain ⟨v, rfl, hq⟩ := z
    exact wpAny_pure hq
  · refine wpAny_bind (wpAny_pure ?_)
    simp only [Bool.false_eq_true, if_false]
    refine wpAny_bind (wpAny_mono one (fun r s' z => ?_) fun _ _ e => e)
    obtain ⟨v, rfl, hq⟩ := z
    exact wpAny_pure hq
end
section
variable {X : Cx} {CX : CXT} {n : Nat} {C f : Addr} {fd : FuncData} {ps : List Str} {sp : Sp} {E : XK}
theorem opNeOwnX {K : PySem.W.Frag} (W : EqOwn X.K C f) (F : FnOk X.prog X.w X.K X.mg X.base CX n f fd ps sp) (hr : Room (n + 1) X.A) (hb : Binds X.K fd ps []) (hx : Passes CX X E) (hK : X.K = K := by rfl) : OpR X (compareOp .NotEq) (rOwnX K C sp E true) := by
  subst hK
  intro pins s σ H x y v u Q I rx ry h
  obtain ⟨a, dx, fs, t, rfl, ha, ty, kt, q⟩ := h
  cases rx
  obtain ⟨mA, J, _⟩ := ins_get I.hok ha
  obtain ⟨od, J, _⟩ := J.look
  obtain ⟨P, Z, p, _⟩ := kit_of I ry ty
  have hu := hr.un
  show wpAny (model X.prog X.w) X.A (richCompare .NotEq (.ref a) u) (EP X pins σ Q) X.xe s
  refine rich_neX I.kIn J (Z.ty _ _ I.kIn p) (notFirst_of kt) W (by omega) ?_
  refine wpAny_mono (own_call2 F hb hx I hr.in1 rfl ry q) (fun w s' z => ?_) fun _ _ z => z
  obtain ⟨v, H', I', rv, k, rfl, qk⟩ := z
  cases rv
  exact ⟨k, rfl, .bl (!k), H', I', rfl, qk⟩
end
/-! ### bool(obj) by its len -/
section
variable {prog : Program} {w : World} {A : Around} {E : Value → Shared → Prop} {s : Shared} {K : PySem.W.Frag} {x C L f : Addr} {h₀ : Heap} {m : Str → Option Value} {ox : Obj} {od : Option Obj}
theorem truthy_KL {Q : Bool → Shared → Prop} (F : Fr h₀ L s.heap m) (X₀ : K.In h₀) (I : PySem.W.InstAt s.heap x ox C od) (hs : PySem.W.findIn K (.ref C) "__bool__" = some none) (hl : PySem.W.findIn K (.ref C) "__len__" = some (some (.ref f))) (hf : PySem.W.isFn K (.ref f) = true)
    (h : wpAny (model prog w) A.in1 (call (.ref f) [.ref x]) (PySem.W.LenBack fun v s' => ∃ i t, v = .int i t ∧ Q (i != 0) s') E s) : wpAny (model prog w) A (truthy (.ref x)) Q E s := by
  have X := X₀.keeps F.keep
  unfold truthy
  refine wpAny_bind (m := callSpecial? (.ref x) (Str.ofString "__bool__")) (wpAny_bind (wpAny_bind (I.type.here ((PySem.W.looks_findIn X hs).here (wpAny_pure ?_)))))
  refine wpAny_bind (wpAny_bind (I.type.here ((PySem.W.looks_findIn X hl).here ?_)))
  show wpAny (model prog w) A (if (some (Value.ref f)).isNone = true then _ else _) _ _ _
  rw [if_neg (by simp)]
  refine wpAny_bind (wpAny_runValue (codeAny_builtin entry_len ?_))
  unfold Builtin.«len»
  refine wpAny_bind (m := oneArg "len" _) (wpAny_pure ?_)
  refine wpAny_bind (m := callSpecial? (.ref x) (Str.ofString "__len__")) (PySem.W.special_fn X I hl (beq_iff_eq.mp hf) (wpAny_mono h (fun r s' hr => ?_) fun _ _ y => y))
  cases r <;> first | exact hr.elim | skip
  rename_i n u
  obtain ⟨⟨h0, h1⟩, i, t, e, hq⟩ := hr
  cases e
  refine wpAny_bind (wpAny_holding (wpAny_pure ?_))
  refine wpAny_bind (wpAny_letGo ?_)
  show wpAny _ _ (if n < 0 then _ else _) _ _ _
  rw [if_neg (by omega)]
  show wpAny _ _ (if n ≥ 2 ^ 63 then _ else _) _ _ _
  rw [if_neg (by omega)]
  exact wpAny_bind (wpAny_mkInt (wpAny_pure (wpAny_pure hq)))
theorem bool_obj : MeetsIn prog w (Builtin.«bool.__new__» ⟨[.type "bool", .ref x], []⟩) (fun A R s => wpAny (model prog w) A.in1 (truthy (.ref x)) (fun b s' => R (.ok (.ret (.bool b))) s') (fun e s' => R (.error e) s') s) :=
  .of_wp fun A R s hs => by
    have f1 := F.conv_sub_bool
    have q1 : ∀ {Q : Bool → Shared → Prop}, (∀ b s', R (.ok (.ret (.bool b))) s' → Q b s') → wpAny (model prog w) A.in1 (truthy (.ref x)) Q (fun e s' => R (.error e) s') s := fun h => wpAny_mono hs h fun _ _ z => z
    unfold Builtin.«bool.__new__»
    repeat (any_goals (first | assumption | (refine wpAny_bind (q1 fun b s' z => ?_)) | wp_step))
    all_goals first | exact ⟨_, rfl, ‹_›⟩ | skip
theorem call_bool_obj {Q : Value → Shared → Prop} (h : wpAny (model prog w) A.in1.in1 (truthy (.ref x)) (fun b s' => Q (.bool b) s') E s) : wpAny (model prog w) A (call (.type "bool") [.ref x]) Q E s :=
  callType_newIn F.called_bool F.newNe_bool (F.typeCall_bool_1 _) (F.newCall_bool_1 _) (fun obj => F.args_object_init_2 obj _) F.entry_bool_new bool_obj (wpAny_mono h (fun b s' z => ⟨rfl, z⟩) fun _ _ z => z)
end
section
variable {X : Cx} {CX : CXT} {n : Nat} {C f : Addr} {fd : FuncData} {ps : List Str} {sp : Sp} {E : XK}
def rBoolO (C : Addr) (sp : Sp) (E : XK) : List V → Hp → VK → Prop := fun xs H Q => ∃ a dx fs, xs = [.ref a] ∧ H a = some (.ins C dx fs) ∧ sp [.ref a] H (fun z H' => ∃ r : Nat, z = .int (r : Int) ∧ r ≤ 1000000 ∧ Q (.bl (decide (0 < r))) H') E
theorem ne0 (r : Nat) : ((r : Int) != 0) = decide (0 < r) := by
  cases r with
  | zero => rfl
  | succ r =>
    rw [decide_eq_true (Nat.succ_pos r)]
    exact bne_iff_ne.mpr (by omega)
theorem callBoolO (nb : NoAttr X.K C "__bool__") (W : OwnM X.K C "__len__" f) (F : FnOk X.prog X.w X.K X.mg X.base CX n f fd ps sp) (hr : Room (n + 3) X.A) (hb : Binds X.K fd ps []) (hx : Passes CX X E) : CallR X (.type "bool") (rBoolO C sp E) := by
  intro pins s σ H xs us Q I r h
  obtain ⟨a, dx, fs, rfl, ha, q⟩ := h
  obtain ⟨u, rfl, ru⟩ := vals1 r
  cases ru
  obtain ⟨mA, J, _⟩ := ins_get I.hok ha
  obtain ⟨od, J, _⟩ := J.look
  obtain ⟨m, hF⟩ := I.fr
  refine call_bool_obj (truthy_KL hF I.ok.mod.kin J nb W.at_ W.fn (wpAny_mono (own_call1 F hb hx I hr.in1.in1.in1 rfl q) (fun w s' z => ?_) fun _ _ z => z))
  obtain ⟨v, H', I', rv, r, rfl, hl, qk⟩ := z
  obtain ⟨t, rfl⟩ := rv
  refine ⟨⟨by omega, by omega⟩, _, _, rfl, ?_⟩
  rw [ne0]
  exact ⟨.bl _, H', I'.tok _, rfl, qk⟩
/-! ### making by a local that holds the class -/
def tMakeL (i : Nat) (C : Addr) (sp : Sp) (dvs : List V) (E : XK) (t : TA) : TE := fun σ H Q => ∃ y, σ[i]? = some (some y) ∧ y = .ref C ∧ t σ H fun vs H1 => rMk C sp E (vs ++ dvs) H1 Q
theorem c_makeL {i : Nat} {dvs : List V} {t : TA} {σ : L2.St} {H : Hp} {Q : VK} (e : σ[i]? = some (some (.ref C))) (h : t σ H fun vs H1 => rMk C sp E (vs ++ dvs) H1 Q) : tMakeL i C sp dvs E t σ H Q := ⟨_, e, rfl, h⟩
theorem pe_makeL {i : Nat} {x : Str} {e : Expr} {es : List Expr} {t : TA} {p pos : Pos} {ds : List Value} {dvs : List V} (M : Mk X.K C f) (F : FnOk X.prog X.w X.K X.mg X.base CX n f fd ps sp) (hr : Room (n + 1) X.A) (hN : X.N[i]? = some x) (hv : Vis X.env.scope x) (hb : Binds X.K fd ps ds) (hd : Vals dvs ds) (hx : Passes CX X E)
    (ha : PA X (e :: es) t) (hdb : (x == ("__debug__" : Str)) = false := by decide) (hcd : (x == ("__classdict__" : Str)) = false := by decide) (he : starEach (e :: es) X.env = (false, eval e X.env) :: starEach es X.env := by rfl) (hpl : (backTo pos (starEach es X.env)).any (·.1) = false := by rfl) :
    PE X (.Call (.Name x p) (e :: es) [] pos) (tMakeL i C sp dvs E t) := by
  refine ⟨fun pins s σ H Q I h => ?_⟩
  obtain ⟨y, hs, ey, ht⟩ := h
  subst ey
  refine wpAny_Call_Name_kw (thn ((pe_var (pos := p) hN hv hdb hcd).run pins s σ H (fun v H1 => v = .ref C ∧ H1 = H) I ⟨.ref C, hs, rfl, rfl⟩) fun u s1 ⟨v, H1, I1, r1, q1⟩ => ?_)
  obtain ⟨rfl, rfl⟩ := q1
  cases r1
  exact PySem.W.callWith_K (h₀ := X.base) I1.ok.mod.kin M.kp (thn (ha.run pos pins s1 σ _ _ I1 ht) fun us s2 ⟨vs, H2, I2, r, q⟩ => ⟨I2.kIn, run_make M F hr hb hd hx I2 r q⟩) he hpl
end
/-! ### what stays of a value's type -/
theorem tyx_mono {K : PySem.W.Frag} {H H' : Hp} {x : V} {t : Value} (s : Same H H') (h : TyX K H x t) : TyX K H' x t := by
  cases h with
  | base b =>
    cases b with
    | non => exact .base .non
    | bl y => exact .base (.bl y)
    | int y => exact .base (.int y)
    | str y => exact .base (.str y)
    | flt y => exact .base (.flt y)
    | lst e => exact .base (.lst (s _ _ e))
    | frz e => exact .base (.frz (s _ _ e))
    | tup e => exact .base (.tup (s _ _ e))
    | dK e => exact .base (.dK (s _ _ e))
    | dT e => exact .base (.dT (s _ _ e))
    | ins e a b c d f => exact .base (.ins (s _ _ e) a b c d f)
  | byt y => exact .byt y
  | set e => exact .set (s _ _ e)
  | kList a b => exact .kList a b
  | kTuple a b => exact .kTuple a b
  | kDict a b => exact .kDict a b
  | fTuple e => exact .fTuple (s _ _ e)
  | fDict e => exact .fDict (s _ _ e)
/-- isinstance(x, T): x of a kind that is none of T's -/
theorem c_isiN {K : PySem.W.Frag} {H : Hp} {Q : VK} {x : V} {t : Value} {b : String} (ty : TyX K H x t) (kt : PySem.W.kitOne K t (.type b) = some false) (h : Q (.bl false) H) : rIsi K [x, .ty b] H Q := ⟨x, .ty b, t, .type b, false, rfl, .ty b, ty, kt, h⟩
theorem c_isiNC {K : PySem.W.Frag} {H : Hp} {Q : VK} {x : V} {t : Value} {C : Addr} (ty : TyX K H x t) (kt : PySem.W.kitOne K t (.ref C) = some false) (h : Q (.bl false) H) : rIsi K [x, .ref C] H Q := ⟨x, .ref C, t, .ref C, false, rfl, .own C, ty, kt, h⟩
/-- no two kinds: a name is no text that is none -/
theorem inV_names {x : Str} {ns : List Str} (h : ∀ z ∈ ns, IsName z) (hx : ¬ IsName x) : inV (.str x) (ns.map V.str) = false := by
  cases e : inV (.str x) (ns.map V.str) with
  | false => rfl
  | true =>
    unfold inV at e
    simp [eqV] at e
    exact absurd (h x e) hx
end Und
/-! o[i] by a class's own __getitem__ -/
namespace Und
open PySem PySem.Spec PyProof.Rows L2
structure ItemOwn (K : PySem.W.Frag) (C f : Addr) : Prop where
  at_ : PySem.W.findIn K (.ref C) "__getitem__" = some (some (.ref f))
  fn : PySem.W.isFn K (.ref f) = true
  fi : PySem.W.fnIn K f = true
def OwnIx (b : Expr) : Prop := ∀ o i, subscripted b true o i = runValue (.builtin "lifetime.subscript" ⟨[o, i], []⟩)
def rItO (C : Addr) (sp : Sp) (E : XK) : R2 := fun x y H Q => ∃ a dx fs, x = .ref a ∧ H a = some (.ins C dx fs) ∧ sp [.ref a, y] H Q E
section
variable {X : Cx} {CX : CXT} {C f : Addr} {fd : FuncData} {ps : List Str} {n : Nat} {sp : Sp} {E : XK} {a b : Expr} {ta tb : TE} {pos : Pos}
theorem peIxO (W : ItemOwn X.K C f) (F : FnOk X.prog X.w X.K X.mg X.base CX n f fd ps sp) (hr : Room (n + 1) X.A) (hb : Binds X.K fd ps []) (hx : Passes CX X E) (ha : PE X a ta) (hb2 : PE X b tb) (hs : OwnIx b) : PE X (.Subscript a b pos) (tOp (rItO C sp E) ta tb) := by
  refine ⟨fun pins s σ H Q I h => ?_⟩
  refine Subscript_ (binT ha hb2 I h fun v u s2 x y H2 I2 rx ry q => ?_)
  obtain ⟨x, dx, fs, rfl, hx2, q⟩ := q
  cases rx
  obtain ⟨mA, J, _⟩ := ins_get I2.hok hx2
  obtain ⟨od, J, _⟩ := J.look
  obtain ⟨m, hF⟩ := I2.fr
  exact PySem.W.sub_K hF I2.ok.mod.kin J W.at_ W.fi W.fn (own_call2 F hb hx I2 hr.in1 rfl ry q) (hs _ _)
end
theorem c_ixO {C a dx : Addr} {fs : List (Str × V)} {sp : Sp} {E : XK} {y : V} {H : Hp} {Q : VK} (e : H a = some (.ins C dx fs)) (h : sp [.ref a, y] H Q E) : rItO C sp E (.ref a) y H Q := ⟨a, dx, fs, rfl, e, h⟩
end Und
/-! walks over what is a list or a tuple; how often an int stands in a list; a list repeated -/
namespace Und
open PySem PySem.Spec PyProof.Rows L2
section
variable {X : Cx} {tg : Expr}
def rItS (K : PySem.W.Frag) (x : V) (G : Hp) (R : It → Hp → Prop) : Prop := ∃ a, x = .ref a ∧ (((∃ ys, SqL K G a ys) ∧ R (Itl K a) G) ∨ ((∃ ys, SqT K G a ys) ∧ R (Itt K a) G))
def iSeq (K : PySem.W.Frag) (tl : TE) : TI := fun σ H R => tl σ H fun x G => rItS K x G R
theorem new_ok {pins : List (Addr × Obj)} {σ : L2.St} {G : Hp} {s : Shared} (I : Inv X pins σ G s) : ∀ b ∈ [s.heap.objs.size], FpOk X pins G b := fun b m => by
  cases List.mem_singleton.mp m
  exact I.fpOk (Nat.le_refl _) (I.hok.fresh (Nat.le_refl _))
theorem pi_seq {l : Expr} {tl : TE} (hl : PE X l tl) : PI X tg l (iSeq X.K tl) := by
  constructor
  intro pins s σ H R I h
  apply thn (hl.run pins s σ H _ I h)
  rintro v s1 ⟨x, G, J, rx, a, rfl, hx⟩
  cases rx
  rcases hx with ⟨⟨ys, hy⟩, q⟩ | ⟨⟨ys, hy⟩, q⟩
  · obtain ⟨its, _, p, _⟩ := J.list hy
    exact wpAny_pyIter_list p.isList ⟨_, [s1.heap.objs.size], _, _, G, rfl, J.kept (t' := s1.toks) fun _ _ e => Heap.get?_push_of_some _ e, turn_list a _, ⟨_, Heap.get?_push_size _ rfl, rfl, rfl⟩, new_ok J, q⟩
  · obtain ⟨its, _, p, _⟩ := J.tuple hy
    exact wpAny_pyIter_tuple (items := its.toArray) p ⟨_, [s1.heap.objs.size], _, _, G, rfl, J.kept (t' := s1.toks) fun _ _ e => Heap.get?_push_of_some _ e, turn_tuple a _, ⟨_, Heap.get?_push_size _ rfl, rfl, rfl⟩, new_ok J, q⟩
theorem piSeq {K : PySem.W.Frag} {l : Expr} {tl : TE} (hl : PE X l tl) (h : X.K = K := by rfl) : PI X tg l (iSeq K tl) := h ▸ pi_seq hl
end
section
variable {K : PySem.W.Frag} {a : Addr} {xs : List V} {g : TG} {tb : TS} {D : Ends} {σ : L2.St} {H : Hp} {Q : VK}
theorem c_iseq {tl : TE} {R : It → Hp → Prop} (h : tl σ H fun x G => rItS K x G R) : iSeq K tl σ H R := h
/-- a list or a tuple -/
def SqA (K : PySem.W.Frag) (H : Hp) (a : Addr) (xs : List V) : Prop := SqL K H a xs ∨ SqT K H a xs
theorem SqA.same {H' : Hp} (s : Same H H') (h : SqA K H a xs) : SqA K H' a xs := h.elim (fun h => .inl (s.seq h)) fun h => .inr (same_seqT s h)
abbrev ForW (J : It) (g : TG) (tb : TS) (D : Ends) (σ : L2.St) (H : Hp) : Prop := ∃ W : Nat → Nat → L2.St → Hp → Prop, (∃ m, W 0 m σ H) ∧ ∀ i m σ H, W i m σ H →
  (J.stop i H ∧ D.nx σ H) ∨ (J.go i H ∧ ∃ N : L2.St → Hp → Prop, (∀ σ' H', N σ' H' → ∃ m', m' < m ∧ W (i + 1) m' σ' H') ∧ ∀ x H', J.yld i H x H' → g x σ H' fun σ2 H2 => tb { D with nx := N, ct := N, bk := D.nx } σ2 H2)
/-- over a list or a tuple that stays as it is -/
theorem for_any {H0 : Hp} (hS : SqA K H0 a xs) (Pv : Nat → L2.St → Hp → Prop) (h0 : Pv 0 σ H) (hl : ∀ i σ' H', Pv i σ' H' → Same H0 H')
    (hs : ∀ i x σ' H', xs[i]? = some x → Pv i σ' H' → g x σ' H' fun σ2 H2 => tb { D with nx := Pv (i + 1), ct := Pv (i + 1), bk := D.nx } σ2 H2) (hd : ∀ σ' H', Pv xs.length σ' H' → D.nx σ' H') :
    rItS K (.ref a) H fun J H1 => ForW J g tb D σ H1 := by
  rcases hS with hS | hS
  · exact ⟨a, rfl, .inl ⟨⟨xs, (hl _ _ _ h0).seq hS⟩, for_list (xs := xs) Pv h0 (fun i σ' H' _ p => (hl i σ' H' p).seq hS) hs hd⟩⟩
  · exact ⟨a, rfl, .inr ⟨⟨xs, same_seqT (hl _ _ _ h0) hS⟩, for_tup (xs := xs) Pv h0 (fun i σ' H' _ p => same_seqT (hl i σ' H' p) hS) hs hd⟩⟩
end
/-! ### count, and a list repeated -/
section
variable {X : Cx} {K : PySem.W.Frag} {a : Addr} {H : Hp} {Q : VK}
def rCnt (K : PySem.W.Frag) (x : V) (xs : List V) (H : Hp) (Q : VK) : Prop := rCntI K x xs H Q
theorem mtCnt (h : X.K = K := by rfl) : MtR X "list.count" (rCnt K) := h ▸ mt_lcount
theorem c_cnt {ns : List Int} {k : Int} (e : SqL K H a (ns.map V.int)) (h : Q (.int (ns.count k : Nat)) H) : rCnt K (.ref a) [.int k] H Q := ⟨a, ns, k, rfl, rfl, e, h⟩
theorem c_rep1 {x : V} {k : Nat} (e : H a = some (.lst [x])) (hk : k ≤ 100000) (h : ∀ p H2, H p = none → Same H H2 → H2 p = some (.lst (List.replicate k x)) → Q (.ref p) H2) : rRep (.ref a) (.int (k : Int)) H Q := by
  refine ⟨a, k, [x], rfl, rfl, e, by omega, by omega, ?_, fun p np => ?_⟩
  · rw [Int.toNat_natCast, List.length_singleton, Nat.one_mul]
    exact sz hk
  · have e2 : (List.replicate (k : Int).toNat [x]).flatten = List.replicate k x := by
      rw [Int.toNat_natCast]
      clear e h hk
      induction k with
      | zero => rfl
      | succ k ih => rw [List.replicate_succ, List.flatten_cons, ih, List.replicate_succ]; rfl
    rw [e2]
    exact h p _ np (same_new np) upd_same
theorem cut_past (xs : List V) (k : Nat) : cutV xs none (some (k : Int)) = xs.take k ∧ cutV xs (some (k : Int)) none = xs.drop k := by
  unfold cutV
  rw [HT.sIx_none, HT.sIx_none, HT.sIx_nat, HT.sIx_nat, List.drop_zero, Nat.sub_zero]
  by_cases h : k ≤ xs.length
  · rw [Nat.min_eq_left h]
    exact ⟨rfl, List.take_of_length_le (by rw [List.length_drop]; omega)⟩
  · rw [Nat.min_eq_right (by omega), List.take_of_length_le (Nat.le_refl _), List.take_of_length_le (by omega : xs.length ≤ k), List.drop_eq_nil_of_le (by omega : xs.length ≤ k), List.drop_length, List.take_nil]
    exact ⟨rfl, rfl⟩
end
/-! ### zip -/
section
variable {X : Cx} {K : PySem.W.Frag}
def rItZ (K : PySem.W.Frag) (vs : List V) (G : Hp) (R : It → Hp → Prop) : Prop := ∃ (a b : Addr) (xs ys : List V), vs = [.ref a, .ref b] ∧ SqL K G a xs ∧ SqL K G b ys ∧ R (Itz K a b) G
def iZp (K : PySem.W.Frag) (ta : TA) : TI := fun σ H R => ta σ H fun vs G => rItZ K vs G R
theorem piZip {e e2 : Expr} {ta : TA} {p pos tpos : Pos} {elts : List Expr} {kk : Nat} (hg : Gl X "zip") (hm : X.mg "zip" = none) (ha : PA X [e, e2] ta) (h : X.K = K := by rfl)
    (hs : starEach [e, e2] X.env = (false, eval e X.env) :: starEach [e2] X.env := by rfl) (hpl : (backTo pos (starEach [e2] X.env)).any (·.1) = false := by rfl) : PI X (.Tuple elts kk tpos) (.Call (.Name "zip" p) [e, e2] [] pos) (iZp K ta) := h ▸ pi_zip hg hm ha hs hpl
theorem c_izp {ta : TA} {σ : L2.St} {H : Hp} {R : It → Hp → Prop} (h : ta σ H fun vs G => rItZ K vs G R) : iZp K ta σ H R := h
theorem c_ritz {a b : Addr} {xs ys : List V} {H : Hp} {R : It → Hp → Prop} (h1 : SqL K H a xs) (h2 : SqL K H b ys) (h : R (Itz K a b) H) : rItZ K [.ref a, .ref b] H R := ⟨a, b, xs, ys, rfl, h1, h2, h⟩
end
section
variable {K : PySem.W.Frag} {te : TE} {g : TG} {vs : List Nat} {σ : L2.St} {H1 : Hp} {D a b : Addr} {Qd : Hp → Prop} {xs ys : List V}
theorem lc_zp (R : Nat → V → Prop) (hl : xs.length = ys.length) (nD : H1 D = none) (hn : xs.length ≤ 100000) (hA : SqL K H1 a xs) (hB : SqL K H1 b ys)
    (hs : ∀ i x y T H (Q' : VK), xs[i]? = some x → ys[i]? = some y → Same H1 H → H T = some (.tup [x, y]) → (∀ v H4, Same H H4 → R i v → Q' v H4) → g (.ref T) (wipe σ vs) H fun σ2 H2 => wipe σ2 vs = wipe σ vs ∧ te σ2 H2 Q')
    (hd : ∀ H zs, Same H1 H → H D = some (.lst zs) → zs.length = xs.length → (∀ i y, zs[i]? = some y → R i y) → Qd H) : LcW (Itz K a b) te g tYes vs σ H1 D Qd := by
  refine ⟨fun i m H => m = xs.length - i ∧ i ≤ xs.length ∧ Same H1 H ∧ Acc R D i H, ⟨xs.length, by simp, Nat.zero_le _, same_new nD, [], upd_same, rfl, fun j y e => by simp at e⟩, ?_⟩
  rintro i m H ⟨rfl, hi, s, zs, e, l, r⟩
  by_cases hlt : i < xs.length
  · have hlt2 : i < ys.length := by omega
    refine .inr ⟨⟨xs, ys, xs[i], ys[i], s.seq hA, s.seq hB, by simp [hlt], by simp [hlt2]⟩, fun H' => Same H1 H' ∧ Acc R D (i + 1) H', fun H' p' => ⟨xs.length - (i + 1), by omega, rfl, hlt, p'⟩, fun x H' y => ?_⟩
    obtain ⟨T, x0, y0, rfl, nT, rfl, hx, hy⟩ := y
    have hx := hx xs (s.seq hA)
    have hy := hy ys (s.seq hB)
    have sT : Same H (upd H T (.tup [x0, y0])) := same_new nT
    exact hs i x0 y0 T _ (fun y H4 => ∃ acc, H4 D = some (.lst acc) ∧ acc.length < sizeLine ∧ (Same H1 (upd H4 D (.lst (acc ++ [y]))) ∧ Acc R D (i + 1) (upd H4 D (.lst (acc ++ [y]))))) hx hy (s.trans sT) upd_same fun y H4 s4 ry =>
      ⟨zs, s4 _ _ (sT _ _ e), szl (by omega), Same.mut ((s.trans sT).trans s4) nD, Acc.put l r ry⟩
  · have e' : i = xs.length := by omega
    subst e'
    exact .inl ⟨⟨xs, ys, s.seq hA, s.seq hB, .inl (Nat.le_refl _)⟩, hd H zs s e l r⟩
end
theorem dpAll_bls {K : PySem.W.Frag} {H : Hp} : ∀ bs : List Bool, DpAll K H (bs.map V.bl) (bs.map PyData.bool)
  | [] => .nil
  | b :: bs => .cons (.bl b) (dpAll_bls bs)
end Und
/-! places in a line: what moves and repeats of moves make of them -/
namespace Und
/-- so many of the available items move -/
def mvN (am : Option Int) (n : Nat) : Nat := match am with
  | none => n
  | some m => min m.toNat n
abbrev Mv := Bool × Option Int
def mvP (n p : Nat) (m : Mv) : Nat := if m.1 = true then p - mvN m.2 p else p + mvN m.2 (n - p)
def stP (n p : Nat) (ms : List Mv) : Nat := ms.foldl (mvP n) p
def itP (n : Nat) (ms : List Mv) : Nat → Nat → Nat
  | 0, p => p
  | k + 1, p => itP n ms k (stP n p ms)
theorem mvN_le (am : Option Int) (n : Nat) : mvN am n ≤ n := by
  unfold mvN
  split
  · exact Nat.le_refl _
  · exact Nat.min_le_right _ _
theorem mvP_le {n p : Nat} (m : Mv) (h : p ≤ n) : mvP n p m ≤ n := by
  unfold mvP
  split
  · omega
  · have := mvN_le m.2 (n - p)
    omega
theorem stP_le {n : Nat} : ∀ (ms : List Mv) {p : Nat}, p ≤ n → stP n p ms ≤ n
  | [], _, h => h
  | m :: ms, _, h => stP_le ms (mvP_le m h)
theorem itP_le {n : Nat} {ms : List Mv} : ∀ (k : Nat) {p : Nat}, p ≤ n → itP n ms k p ≤ n
  | 0, _, h => h
  | k + 1, _, h => itP_le k (stP_le ms h)
theorem stP_app (n p : Nat) (as bs : List Mv) : stP n p (as ++ bs) = stP n (stP n p as) bs := List.foldl_append
theorem itP_add (n : Nat) (ms : List Mv) : ∀ (a b p : Nat), itP n ms b (itP n ms a p) = itP n ms (a + b) p
  | 0, b, p => by rw [Nat.zero_add]; rfl
  | a + 1, b, p => by
    rw [show a + 1 + b = (a + b) + 1 from by omega]
    exact itP_add n ms a b (stP n p ms)
theorem itP_one (n : Nat) (ms : List Mv) (p : Nat) : itP n ms 1 p = stP n p ms := rfl
theorem itP_succ' (n : Nat) (ms : List Mv) (k p : Nat) : itP n ms (k + 1) p = stP n (itP n ms k p) ms := by
  rw [← itP_add n ms k 1 p]
  rfl
theorem itP_twice (n : Nat) (ms : List Mv) : ∀ (k p : Nat), itP n (ms ++ ms) k p = itP n ms (2 * k) p
  | 0, _ => rfl
  | k + 1, p => by
    rw [show 2 * (k + 1) = (2 * k) + 1 + 1 from by omega]
    show itP n (ms ++ ms) k (stP n p (ms ++ ms)) = itP n ms (2 * k) (stP n (stP n p ms) ms)
    rw [stP_app]
    exact itP_twice n ms k _
/-! ### one round is a shift between two ends -/
def mvS (n : Nat) (m : Mv) : Int := if m.1 = true then -(mvN m.2 n : Int) else (mvN m.2 n : Int)
def stS (n : Nat) (ms : List Mv) : Int := (ms.map (mvS n)).sum
theorem mvP_at {n p : Nat} (m : Mv) (h : p ≤ n) : (mvP n p m : Int) = if m.1 = true then max 0 ((p : Int) - mvN m.2 n) else min (n : Int) ((p : Int) + mvN m.2 n) := by
  unfold mvP
  cases m with
  | mk b am =>
    cases am with
    | none => cases b <;> simp [mvN] <;> omega
    | some a => cases b <;> simp [mvN] <;> omega
theorem mvP_mono {n p q : Nat} (m : Mv) (h : p ≤ q) (hq : q ≤ n) : mvP n p m ≤ mvP n q m := by
  have h1 := mvP_at m (Nat.le_trans h hq)
  have h2 := mvP_at m hq
  split at h1
  · rw [if_pos (by assumption)] at h2
    omega
  · rw [if_neg (by assumption)] at h2
    omega
theorem stP_mono {n : Nat} : ∀ (ms : List Mv) {p q : Nat}, p ≤ q → q ≤ n → stP n p ms ≤ stP n q ms
  | [], _, _, h, _ => h
  | m :: ms, _, _, h, hq => stP_mono ms (mvP_mono m h hq) (mvP_le m hq)
theorem stP_shift {n : Nat} : ∀ (ms : List Mv) {p : Nat}, p ≤ n → (stP n p ms : Int) = max (stP n 0 ms : Int) (min (stP n n ms : Int) ((p : Int) + stS n ms))
  | [], p, h => by
    show (p : Int) = max ((0 : Nat) : Int) (min (n : Int) ((p : Int) + 0))
    omega
  | m :: ms, p, h => by
    have e0 := stP_shift ms (mvP_le m (Nat.zero_le n))
    have en := stP_shift ms (mvP_le m (Nat.le_refl n))
    have ep := stP_shift ms (mvP_le m h)
    have f0 := stP_shift ms (Nat.zero_le n)
    have fn := stP_shift ms (Nat.le_refl n)
    have lo := stP_mono ms (Nat.zero_le n) (Nat.le_refl n)
    have g0 := mvP_at m (Nat.zero_le n)
    have gn := mvP_at m (Nat.le_refl n)
    have gp := mvP_at m h
    have hs : stS n (m :: ms) = mvS n m + stS n ms := by
      unfold stS
      rw [List.map_cons, List.sum_cons]
    show (stP n (mvP n p m) ms : Int) = max (stP n (mvP n 0 m) ms : Int) (min (stP n (mvP n n m) ms : Int) ((p : Int) + stS n (m :: ms)))
    rw [hs]
    have hm := mvN_le m.2 n
    unfold mvS
    split at g0
    · rw [if_pos (by assumption)] at gn gp ⊢
      omega
    · rw [if_neg (by assumption)] at gn gp ⊢
      omega
theorem itP_shift {n : Nat} (ms : List Mv) {p : Nat} (h : p ≤ n) : ∀ k : Nat, (itP n ms (k + 1) p : Int) = max (stP n 0 ms : Int) (min (stP n n ms : Int) ((stP n p ms : Int) + (k : Int) * stS n ms))
  | 0 => by
    rw [itP_one]
    have a := stP_mono ms (Nat.zero_le p) h
    have b := stP_mono ms h (Nat.le_refl n)
    simp only [Int.ofNat_zero, Int.zero_mul, Int.add_zero]
    omega
  | k + 1 => by
    have ih := itP_shift ms h k
    rw [itP_succ']
    have e := stP_shift ms (itP_le (ms := ms) (k + 1) h)
    rw [e, ih]
    have a := stP_mono ms (Nat.zero_le p) h
    have b := stP_mono ms h (Nat.le_refl n)
    have hk : ((k + 1 : Nat) : Int) * stS n ms = (k : Int) * stS n ms + stS n ms := by
      rw [Int.natCast_add, Int.add_mul]
      simp
    rw [hk]
    have s1 : 0 ≤ stS n ms → 0 ≤ (k : Int) * stS n ms := fun z => Int.mul_nonneg (Int.natCast_nonneg k) z
    have s2 : stS n ms ≤ 0 → (k : Int) * stS n ms ≤ 0 := fun z => Int.mul_nonpos_of_nonneg_of_nonpos (Int.natCast_nonneg k) z
    generalize (k : Int) * stS n ms = y at *
    generalize stS n ms = s at *
    omega
/-- what the program works out for a repeat -/
theorem itP_calc {n : Nat} (ms : List Mv) {p : Nat} (h : p ≤ n) {t : Int} (ht : 1 ≤ t) : max (stP n 0 ms : Int) (min (stP n n ms : Int) ((stP n p ms : Int) + (t - 1) * stS n ms)) = (itP n ms t.toNat p : Int) := by
  obtain ⟨k, rfl⟩ : ∃ k : Nat, t = (k : Int) + 1 := ⟨(t - 1).toNat, by omega⟩
  rw [show ((k : Int) + 1).toNat = k + 1 from by omega, itP_shift ms h k]
  rw [show (k : Int) + 1 - 1 = (k : Int) from by omega]
theorem itP_fix {n : Nat} {ms : List Mv} {p : Nat} (h : stP n p ms = p) : ∀ k, itP n ms k p = p
  | 0 => rfl
  | k + 1 => by
    show itP n ms k (stP n p ms) = p
    rw [h]
    exact itP_fix h k
/-! ### a place that comes again stays -/
theorem itP_up {n : Nat} {ms : List Mv} {p : Nat} (hp : p ≤ n) (h : p ≤ stP n p ms) : ∀ k, itP n ms k p ≤ itP n ms (k + 1) p
  | 0 => h
  | k + 1 => by
    rw [itP_succ' n ms k p, itP_succ' n ms (k + 1) p]
    exact stP_mono ms (itP_up hp h k) (itP_le _ hp)
theorem itP_down {n : Nat} {ms : List Mv} {p : Nat} (hp : p ≤ n) (h : stP n p ms ≤ p) : ∀ k, itP n ms (k + 1) p ≤ itP n ms k p
  | 0 => h
  | k + 1 => by
    rw [itP_succ' n ms k p, itP_succ' n ms (k + 1) p]
    exact stP_mono ms (itP_down hp h k) (itP_le _ hp)
theorem up_chain {f : Nat → Nat} (h : ∀ k, f k ≤ f (k + 1)) : ∀ {a b : Nat}, a ≤ b → f a ≤ f b := by
  intro a b hab
  induction b with
  | zero =>
    have : a = 0 := by omega
    rw [this]
    exact Nat.le_refl _
  | succ b ih =>
    by_cases e : a = b + 1
    · rw [e]
      exact Nat.le_refl _
    · exact Nat.le_trans (ih (by omega)) (h b)
theorem down_chain {f : Nat → Nat} (h : ∀ k, f (k + 1) ≤ f k) : ∀ {a b : Nat}, a ≤ b → f b ≤ f a := by
  intro a b hab
  induction b with
  | zero =>
    have : a = 0 := by omega
    rw [this]
    exact Nat.le_refl _
  | succ b ih =>
    by_cases e : a = b + 1
    · rw [e]
      exact Nat.le_refl _
    · exact Nat.le_trans (h b) (ih (by omega))
/-- the place after k + 1 rounds was there before: then it is that after k rounds -/
theorem itP_again {n : Nat} {ms : List Mv} {p k j : Nat} (hp : p ≤ n) (hj : j ≤ k) (e : itP n ms (k + 1) p = itP n ms j p) : itP n ms k p = itP n ms (k + 1) p := by
  by_cases h : p ≤ stP n p ms
  · have u := itP_up hp h
    have a := up_chain (f := fun k => itP n ms k p) u hj
    have b := u k
    have a' : itP n ms j p ≤ itP n ms k p := a
    omega
  · have u := itP_down hp (show stP n p ms ≤ p by omega)
    have a := down_chain (f := fun k => itP n ms k p) u hj
    have b := u k
    have a' : itP n ms k p ≤ itP n ms j p := a
    omega
/-- while no place comes again, each round moves on -/
theorem itP_far {n : Nat} {ms : List Mv} {p : Nat} (hp : p ≤ n) : ∀ k : Nat, (∀ i, i < k → itP n ms (i + 1) p ≠ itP n ms i p) → k ≤ n := by
  by_cases h : p ≤ stP n p ms
  · have u := itP_up hp h
    intro k hk
    have : ∀ i, i ≤ k → p + i ≤ itP n ms i p := by
      intro i
      induction i with
      | zero => intro _; exact Nat.le_refl _
      | succ i ih =>
        intro hi
        have a := ih (by omega)
        have b := u i
        have c := hk i (by omega)
        omega
    have a := this k (Nat.le_refl k)
    have b := itP_le (ms := ms) k hp
    omega
  · have u := itP_down hp (show stP n p ms ≤ p by omega)
    intro k hk
    have : ∀ i, i ≤ k → itP n ms i p + i ≤ p := by
      intro i
      induction i with
      | zero => intro _; exact Nat.le_refl _
      | succ i ih =>
        intro hi
        have a := ih (by omega)
        have b := u i
        have c := hk i (by omega)
        omega
    have a := this k (Nat.le_refl k)
    omega
/-! ### commands -/
open PySem in
def wdM (b : Bool) : Str := if b = true then "undo" else "redo"
inductive Cmd where
  | dd (z : PySem.Str)
  | mv (m : Mv)
  | rep (n : Int) (ms : List Mv)
/-- the place after a command that is no do -/
def cmP (n p : Nat) : Cmd → Nat
  | .dd _ => p
  | .mv m => mvP n p m
  | .rep t ms => itP n ms t.toNat p
def runP (n p : Nat) (cs : List Cmd) : Nat := cs.foldl (cmP n) p
theorem cmP_le {n p : Nat} (c : Cmd) (h : p ≤ n) : cmP n p c ≤ n := by
  cases c with
  | dd z => exact h
  | mv m => exact mvP_le m h
  | rep t ms => exact itP_le _ h
theorem runP_le {n : Nat} : ∀ (cs : List Cmd) {p : Nat}, p ≤ n → runP n p cs ≤ n
  | [], _, h => h
  | c :: cs, _, h => runP_le cs (cmP_le c h)
theorem runP_app (n p : Nat) (as bs : List Cmd) : runP n p (as ++ bs) = runP n (runP n p as) bs := List.foldl_append
def NoDo (cs : List Cmd) : Prop := ∀ z, Cmd.dd z ∉ cs
end Und
/-! errors as values: made by position and by name, asked for their class, their field read -/
namespace Und
open PySem PySem.Spec PyProof.Rows L2 PySem.HandSPX Builtin Builtin.ObjectAttr
/-! ### a call of such a class with a keyword -/
section
variable {M : Model} {prog : Program} {w : World} {A : Around} {E : Value → Shared → Prop} {R : Result → Shared → Prop} {h : Heap} {g : Array GenState} {d : Drawn} {t : Nat} {os : OsState}
variable {nm q : Str} {C N : Addr} {bs bm bmB : List Value} {hdct : Bool} {sn : List Str} {sub : List Value} {ab : Bool} {col : Option Bool} {dd : Option Addr} {k0 k1 k2 k3 k5 : Option Value} {B newId initId : String}
theorem kw_check (F : ExcBaseFacts B newId initId bmB) (hT : ∀ X : String, bm.contains (.type X) = bmB.contains (.type X)) {kw : List (Str × Value)} {Q : Unit → Shared → Prop}
    (hC : h.get? C = some (excClassObj nm q C N bs bm hdct sn sub ab col dd k0 k1 k2 k3 k5 newId)) (hq : Q () ⟨h, g, d, t, os⟩) : wpAny M A (checkBuiltinCall newId ⟨[.ref C], kw⟩) Q E ⟨h, g, d, t, os⟩ := by
  have hcont : (Value.ref C :: bm).contains (.type B) = true := by rw [List.contains_cons, hT, F.hasB, Bool.or_true]
  have hstar := F.noStar
  simp only [checkBuiltinCall, F.newKind, F.newSplit, F.newRow]
  repeat (first | refine wpAny_loadPart_at hC ?_ | (refine wpAny_isSubtype_exc hC ?_; rw [hcont]) | refine wpAny_staticBase_exc hC ?_ | refine wpAny_madeBy_exc hC ?_ | simp only [bne_self_eq_false, Bool.false_eq_true, if_false] | wp_step)
  exact hq
theorem kw_new (F : ExcBaseFacts B newId initId bmB) (hT : ∀ X : String, bm.contains (.type X) = bmB.contains (.type X)) {kw : List (Str × Value)}
    (hC : h.get? C = some (excClassObj nm q C N bs bm hdct sn sub ab col dd k0 k1 k2 k3 k5 newId))
    (hq : R (.ok (.ret (.ref (h.objs.size + 1)))) ⟨(h.push { cls := .type "tuple", data := .seq ([] : List Value).toArray }).push
      { cls := .ref C, data := .fields #[.ref h.objs.size, .none, .none, .none, .bool false, .none] }, g, d, t, os⟩) :
    codeAny (model prog w) A (.builtin newId ⟨[.ref C], kw⟩) R ⟨h, g, d, t, os⟩ := by
  have hends := F.ends
  have hcB : (Value.ref C :: bm).contains (.type B) = true := by rw [List.contains_cons, hT, F.hasB, Bool.or_true]
  have hcA : (Value.ref C :: bm).contains (.type "AttributeError") = false := by rw [List.contains_cons, hT, F.noAttr]; rfl
  have hcN : (Value.ref C :: bm).contains (.type "NameError") = false := by rw [List.contains_cons, hT, F.noName]; rfl
  refine codeAny_builtinAt F.entry ?_
  unfold Builtin.«BaseException.__new__»
  refine PySem.wpAt_bind ?_
  show PySem.wpAt _ _ _ (stack >>= _) _ _ _
  refine PySem.wpAt_bind (PySem.wpAt_stack fun p below => PySem.wpAt_of_wpAny ?_)
  wp_walk
  refine PySem.wpAt_of_wpAny ?_
  rw [F.owner]
  repeat (first | with_reducible refine wpAny_madeHere_exc F.canon hC ?_ | with_reducible refine wpAny_loadPart_at hC ?_ | (with_reducible refine wpAny_isSubtype_exc hC ?_; first | rw [hcB] | rw [hcA] | rw [hcN]) | wp_step)
  show R _ _
  rw [Heap.size_push]
  exact hq
theorem kw_type (F : ExcBaseFacts B newId initId bmB) (hT : ∀ X : String, bm.contains (.type X) = bmB.contains (.type X)) {kw : List (Str × Value)} {fI : Addr} {Q : Fin → Shared → Prop}
    (hC : h.get? C = some (excClassObj nm q C N bs bm hdct sn sub ab col dd k0 k1 k2 k3 k5 newId))
    (hi : W.Looks (model prog w) h (typeLookup (.ref C) "__init__") (some (.ref fI))) (hb : ∀ self, W.Looks (model prog w) h (bindSpecial (.ref fI) self) (.ref fI, [self]))
    (hq : codeAny (model prog w) A (.call (.ref fI) ⟨[.ref (h.objs.size + 1)], kw⟩)
      (fun r s' => match r with | .ok (.ret v) => v = .none ∧ Q (.done (.ret (.ref (h.objs.size + 1)))) s' | .ok _ => False | .error e => E e s')
      ⟨(h.push (W.kdv_tup [])).push (excO C h.objs.size), g, d, t, os⟩) :
    wpAny (model prog w) A (Builtin.«type.__call__» ⟨[.ref C], kw⟩) Q E ⟨h, g, d, t, os⟩ := by
  repeat (first | with_reducible refine wpAny_loadPart_at hC ?_ | with_reducible refine wpAny_madeBy_exc hC ?_ | wp_step)
  refine codeAny_call_builtin_code (Code.quiet_builtin _ F.quiet) (kw_check F hT hC ?_)
  refine kw_new F hT hC ?_
  show wpAny _ _ _ _ _ _
  have k : ∀ b o, h.get? b = some o → ((h.push (W.kdv_tup [])).push (excO C h.objs.size)).get? b = some o := fun b o e => Heap.get?_push_of_some _ (Heap.get?_push_of_some _ e)
  have hC₁ := k _ _ hC
  have hget : ((h.push (W.kdv_tup [])).push (excO C h.objs.size)).get? (h.objs.size + 1) = some (excO C h.objs.size) := by heap_get
  have hcC : (Value.ref C :: bm).contains (.ref C) = true := by simp
  have i1 := hi.keeps k
  have b1 := (hb (.ref (h.objs.size + 1))).keeps k
  unfold isInstance
  repeat (first | with_reducible refine wpAny_loadPart_at hget ?_ | (with_reducible refine wpAny_isSubtype_exc hC₁ ?_; rw [hcC]) | wp_step)
  show wpAny _ _ (typeLookup (.ref C) _) _ _ _
  refine i1.at ?_
  refine wpAny_holding (wpAny_bind (b1.at ?_))
  refine wpAny_bind (wpAny_call (codeAny_mono hq fun r s' z => ?_))
  rcases r with e | (v | _ | _ | _) <;> first | exact z | exact z.elim | skip
  obtain ⟨rfl, z⟩ := z
  first
    | exact wpAny_pure (wpAny_pure z)
    | (wp_walk; exact z)
theorem kw_call (F : ExcBaseFacts B newId initId bmB) (hT : ∀ X : String, bm.contains (.type X) = bmB.contains (.type X)) {kw : List (Str × Value)} {fI : Addr}
    (hC : h.get? C = some (excClassObj nm q C N bs bm hdct sn sub ab col dd k0 k1 k2 k3 k5 newId))
    (hi : W.Looks (model prog w) h (typeLookup (.ref C) "__init__") (some (.ref fI))) (hb : ∀ self, W.Looks (model prog w) h (bindSpecial (.ref fI) self) (.ref fI, [self]))
    (hq : codeAny (model prog w) (A.under (.builtin "type.__call__" ⟨[.ref C], kw⟩)) (.call (.ref fI) ⟨[.ref (h.objs.size + 1)], kw⟩) (W.InitBack (h.objs.size + 1) R)
      ⟨(h.push (W.kdv_tup [])).push (excO C h.objs.size), g, d, t, os⟩) :
    codeAny (model prog w) A (.call (.ref C) ⟨[], kw⟩) R ⟨h, g, d, t, os⟩ := by
  have f1 := tc_lookup
  have f2 := tc_bind (.ref C)
  have hTy : (⟨h, g, d, t, os⟩ : Shared).TypeIs (.ref C) "type" := ⟨_, hC, rfl⟩
  refine codeAny_of_tree ?_
  show wpAny _ _ (callAny (.ref C) _) _ _ _
  repeat (any_goals (first | assumption | with_reducible refine wpAny_loadPart_at hC ?_ | wp_step))
  refine ⟨rfl, ?_⟩
  refine codeAny_call_builtin_at (Code.quiet_builtin _ (by decide +kernel)) entry_typeCall (wpAny_check_type_call_sub hC (kw_type F hT hC hi hb ?_))
  refine codeAny_mono hq fun r s' z => ?_
  rcases r with e | (v | _ | _ | _) <;> exact z
end
/-! ### the field is set -/
section
variable {prog : Program} {w : World} {A : Around} {R : Result → Shared → Prop} {hp : Heap} {g : Array GenState} {d : Drawn} {t : Nat} {os : OsState}
theorem osa_gen {K : W.Frag} {name : Str} {tk : Tok} {v : Value} {x C : Addr} {fv : Array Value} {cd : ClassData}
    (X : K.In hp) (hx : hp.get? x = some { cls := .ref C, data := .fields fv }) (hcd : W.clsIn K C = some cd) (ne : cd.mro.isEmpty = false) (hob : cd.mro.contains (.type "object") = true) (pass : refuseLoop (.ref x) "__setattr__" cd.mro = pure ()) (hh : cd.hasDict = true) (ha : W.findIn K (.ref C) name = some none)
    (hq : ∀ h' tk' dx, (∀ b o, b ≠ x → hp.get? b = some o → h'.get? b = some o) → hp.objs.size ≤ dx → dx ≠ x → h'.get? x = some { cls := .ref C, dict := some dx, data := .fields fv } →
      h'.Ns1 dx (fun y => if y = name then some v else none) → R (.ok (.ret .none)) ⟨h', g, d, tk', os⟩) :
    codeAny (model prog w) A (.call (.builtin "object.__setattr__") ⟨[.ref x, .str name tk, v], []⟩) R ⟨hp, g, d, t, os⟩ := by
  have I : W.InstAt hp x { cls := .ref C, data := .fields fv } C none := ⟨hx, rfl, rfl, trivial⟩
  have SF := F.store_object
  have hxs : x ≠ hp.objs.size := Nat.ne_of_lt (Heap.lt_size hx)
  have sub : W.Looks (model prog w) hp (isInstance (.ref x) (.type "object")) true := I.type.andThen (W.looks_mroIn X (by unfold W.mroIn; rw [hcd, Option.bind_some, if_neg (by rw [ne]; decide), hob]))
  refine codeAny_call_builtin SF.slot.plain SF.entry (@W.check_slot (model prog w) _ _ ⟨hp, g, d, t, os⟩ "object.__setattr__" "object" "__setattr__" (.ref x) [.str name tk, v] [] _ SF.kind SF.split sub (SF.args (.ref x) (.str name tk) v) ?_)
  have hmr : W.Looks (model prog w) hp (mroOf (.ref C)) cd.mro := (W.looks_clsIn X hcd).andThen .now
  have L3 : W.Looks (model prog w) hp (storeTaker? none) none := .now
  have hcls : W.Looks (model prog w) hp (classData C) cd := W.looks_clsIn X hcd
  rw [W.osa_eq, refuse_eq]
  refine wpAny_bind (wpAny_bind (I.type.at (wpAny_bind (hmr.at ?_))))
  rw [pass]
  refine wpAny_pure (wpAny_bind (I.type.at (wpAny_bind ((W.looks_findIn X ha).at (wpAny_bind (L3.at ?_))))))
  show wpAny _ _ (storeInOwnDict (.ref x) (.ref C) (.str name tk) name v false) _ _ _
  obtain ⟨nm, bs, mro, ns, qn, hd, sn, sb, ab, col, del⟩ := cd
  dsimp only at hh
  subst hh
  unfold storeInOwnDict ownDictForStores
  repeat (first | with_reducible refine store_in_new ?_ ?_ | with_reducible refine wpAny_loadPart_at hx ?_ | with_reducible refine hcls.at ?_ | wp_step)
  · exact ⟨_, #[], _, (Heap.get?_update_ne _ _ _ _ hxs.symm).trans (Heap.get?_push_at rfl rfl), rfl, fun e he => absurd he (by simp), fun _ => rfl⟩
  · intro h' tk' hn' hs
    have hx₁ : (hp.push { cls := .type "dict", data := .dict #[] }).get? x = some { cls := .ref C, data := .fields fv } := Heap.get?_push_of_some _ hx
    refine hq h' tk' hp.objs.size (fun b o hb ho => ?_) (Nat.le_refl _) hxs.symm ?_ hn'
    · exact (hs.2 b (Nat.ne_of_lt (Heap.lt_size ho))).trans ((Heap.get?_update_ne _ _ _ _ hb).trans (Heap.get?_push_of_some _ ho))
    · exact (hs.2 x hxs).trans (Heap.get?_update_self _ hx₁ rfl)
end
/-! ### what the written part says of an error's class -/
/-- a built-in family of errors -/
structure Fam (B newId initId : String) (bmB : List Value) : Prop where
  F : ExcBaseFacts B newId initId bmB
  pass : ∀ self, refuseLoop self "__setattr__" bmB = pure ()
  obj : bmB.contains (.type "object") = true
theorem famV : Fam "ValueError" "ValueError.__new__" "ValueError.__init__" [.type "ValueError", .type "Exception", .type "BaseException", .type "object"] := ⟨F.excBase_ValueError, fun self => F.store_ValueError.passes self, by decide +kernel⟩
theorem famA : Fam "ArithmeticError" "ArithmeticError.__new__" "ArithmeticError.__init__" [.type "ArithmeticError", .type "Exception", .type "BaseException", .type "object"] := ⟨F.excBase_ArithmeticError, fun self => by kernel_rfl, by decide +kernel⟩
theorem famL : Fam "LookupError" "LookupError.__new__" "LookupError.__init__" [.type "LookupError", .type "Exception", .type "BaseException", .type "object"] := ⟨F.excBase_LookupError, fun self => by kernel_rfl, by decide +kernel⟩
structure ErrC (K : PySem.W.Frag) (C : Addr) (refs : List Addr) (newId : String) (bmB : List Value) : Prop where
  cls : ∃ nm q N bs sn sub ab col dd k0 k1 k2 k3 k5, K.lookup C = some (excClassObj nm q C N bs (refs.map Value.ref ++ bmB) true sn sub ab col dd k0 k1 k2 k3 k5 newId)
  sa : PySem.W.findIn K (.ref C) "__setattr__" = some (some (.builtin "object.__setattr__"))
  ga : PySem.W.findIn K (.ref C) "__getattribute__" = some (some (.builtin "BaseException.__getattribute__"))
  gg : PySem.W.findIn K (.ref C) "__getattr__" = some none
  ca : PySem.W.findIn K (.ref C) "__class__" = some (some (.builtin "object.__class__"))
  tyC : PySem.W.typeIn K (.ref C) = some (.type "type")
  kC : PySem.W.keepIn K (.ref C) = true
section
variable {K : PySem.W.Frag} {C : Addr} {refs : List Addr} {B newId initId : String} {bmB : List Value}
theorem ErrC.cd (T : ErrC K C refs newId bmB) : ∃ cd, PySem.W.clsIn K C = some cd ∧ cd.mro = .ref C :: (refs.map Value.ref ++ bmB) ∧ cd.hasDict = true := by
  obtain ⟨nm, q, N, bs, sn, sub, ab, col, dd, k0, k1, k2, k3, k5, hC⟩ := T.cls
  exact ⟨{ name := nm, bases := bs, mro := .ref C :: (refs.map Value.ref ++ bmB), ns := N, qualname := q, hasDict := true, slotNames := sn, subclasses := sub, abstract := ab, collection := col, hasDel := false }, by unfold PySem.W.clsIn; rw [hC] <;> rfl, rfl, rfl⟩
theorem ErrC.mro (T : ErrC K C refs newId bmB) (base : Value) : PySem.W.mroIn K C base = some ((Value.ref C :: (refs.map Value.ref ++ bmB)).contains base) := by
  obtain ⟨cd, hcd, hm, _⟩ := T.cd
  unfold PySem.W.mroIn
  rw [hcd, Option.bind_some, hm]
  exact if_neg Bool.false_ne_true
theorem refs_has (T : String) : ∀ l : List Addr, (l.map Value.ref ++ bmB).contains (.type T) = bmB.contains (.type T)
  | [] => rfl
  | a :: r => by
    rw [List.map_cons, List.cons_append, List.contains_cons, refs_has T r]
    rfl
theorem refs_pass (m : Fam B newId initId bmB) (self : Value) : ∀ l : List Addr, refuseLoop self "__setattr__" (l.map Value.ref ++ bmB) = pure ()
  | [] => m.pass self
  | a :: r => by
    rw [List.map_cons, List.cons_append, PySem.refuseLoop_ref]
    exact refs_pass m self r
theorem ErrC.exC (T : ErrC K C refs newId bmB) (m : Fam B newId initId bmB) : PySem.W.subIn K (.ref C) (.type "BaseException") = some true := by
  show PySem.W.mroIn K C _ = _
  rw [T.mro, List.contains_cons, refs_has, m.F.hasBase, Bool.or_true]
theorem ErrC.hdC (T : ErrC K C refs newId bmB) : PySem.W.hasDictIn K C = true := by
  obtain ⟨cd, hcd, _, hd⟩ := T.cd
  unfold PySem.W.hasDictIn
  rw [hcd]
  exact hd
end
section
variable {X : Cx} {pins : List (Addr × Obj)} {σ : L2.St} {H : Hp} {s : Shared} {a C dx : Addr} {refs : List Addr} {B newId initId : String} {bmB : List Value} {f : Str} {y : V} {u : Value} {Q : Unit → Shared → Prop} {E : Value → Shared → Prop} {A : Around}
/-- self.f = y -/
theorem err_new (T : ErrC X.K C refs newId bmB) (m : Fam B newId initId bmB) (I : Inv X pins σ H s) (e : H a = some (exo a C none)) (hno : PySem.W.findIn X.K (.ref C) f = some none) (ry : RelV y u)
    (h : ∀ dx s', H dx = none → dx ≠ a → Inv X pins σ (upd (upd H dx (exd dx [(f, y)])) a (exo a C (some dx))) s' → Q () s') : wpAny (model X.prog X.w) A (setAttr (.ref a) f u) Q E s := by
  obtain ⟨cd, hcl, hmro, hdic⟩ := T.cd
  obtain ⟨t1, ho⟩ := exo_at I.hok e
  obtain ⟨hp, g, d, t, os⟩ := s
  refine PySem.W.set_plain I.kIn (ox := { cls := .ref C, dict := none, data := .fields #[.ref t1, .none, .none, .none, .bool false, .none] }) (od := none) ⟨ho, rfl, rfl, trivial⟩ T.sa ?_
  refine osa_gen I.kIn ho hcl (by rw [hmro]; rfl) (by rw [hmro, List.contains_cons, refs_has, m.obj, Bool.or_true]) (by rw [hmro, PySem.refuseLoop_ref]; exact refs_pass m _ refs) hdic hno (fun h' tk' dx k dn dne hx hn => ?_)
  have hnd : H dx = none := I.hok.fresh dn
  have nd : ∀ {b : Addr} {o : Obj}, hp.get? b = some o → b ≠ dx := fun {b o} q => Nat.ne_of_lt (Nat.lt_of_lt_of_le (Heap.lt_size q) dn)
  have na : ∀ {b : Addr}, H b = none → b ≠ a := fun {b} n z => by
    rw [z, e] at n
    cases n
  have Un1 : Un X.fs [] H (upd (upd H dx (exd dx [(f, y)])) a (exo a C (some dx))) hp h' := {
    keep := fun b o q n _ _ => k b o (na n) q
    slot := fun b o q n _ _ => ⟨o.slots, k b o (na n) q⟩
    free := fun b o q n _ => by rw [upd_ne (na n), upd_ne (nd q)]; exact n
    there := fun b o q _ => by
      by_cases hb : b = a
      · exact ⟨_, by rw [hb]; exact hx⟩
      · exact ⟨o, k b o hb q⟩
    tups := fun b xs q => by rw [upd_ne (at_ne e q exo_tup), upd_ne (ne_of_none q hnd)]; exact q
    frzs := fun b o v q => by rw [upd_ne (at_ne e q exo_frz), upd_ne (ne_of_none q hnd)]; exact q
    tbls := fun b ps q => ⟨#[], by rw [upd_ne (at_ne e q exo_tbl), upd_ne (ne_of_none q hnd), q]; simp⟩ }
  refine h dx _ hnd dne (I.un (t' := tk') Un1 fun b o q => ?_)
  by_cases hb : b = a
  · subst hb
    rw [upd_same] at q
    cases q
    exact exo_ok hx
  · rw [upd_ne hb] at q
    by_cases hd : b = dx
    · subst hd
      rw [upd_same] at q
      cases q
      exact exd_ok hn (relO_put (fs := []) ry fun g => True.intro)
    · rw [upd_ne hd] at q
      exact (I.hok b o q).stay (fun c v hc z => k c v (by
          rcases hc with hc | hc
          · rw [hc]
            exact hb
          · exact at_ne e hc exo_own) z)
        (fun c hc => by rw [upd_ne (at_ne e hc exo_own), upd_ne (ne_of_none hc hnd)]; exact hc) (fun c xs hc => by rw [upd_ne (at_ne e hc exo_tup), upd_ne (ne_of_none hc hnd)]; exact hc)
end
end Und
/-! errors as values: the rules -/
namespace Und
open PySem PySem.Spec PyProof.Rows L2 PySem.HandSPX
/-! ### isinstance of an error that has a dict of its own, or none -/
section
open PySem.W
variable {prog : Program} {w : World} {A : Around} {E : Value → Shared → Prop} {s : Shared} {K : Frag} {x D : Addr} {ox : Obj} {od : Option Obj}
theorem class_at {Q : Option Value → Shared → Prop} (hga : findIn K (.ref D) "__getattribute__" = some (some (.builtin "BaseException.__getattribute__"))) (hgt : findIn K (.ref D) "__getattr__" = some none) (hsub : subIn K (.ref D) (.type "BaseException") = some true)
    (hdct : hasDictIn K D = true) (ha : findIn K (.ref D) "__class__" = some (some (.builtin "object.__class__")))
    (hn : specialIn K (.builtin "object.__class__") "__get__" = some (some (.builtin "getset_descriptor.__get__"))) (htk : takesIn K (.builtin "object.__class__") = some true) (hm : mroIn K D (.type "object") = some true)
    (X : K.In s.heap) (I : InstAt s.heap x ox D od) (h : Q (some (.ref D)) { s with toks := s.toks + 1 }) : wpAny (model prog w) A (getAttr? (.ref x) "__class__") Q E s := by
  have hs0 : (clsIn K D).isSome = true := by obtain ⟨cd, hc, _⟩ := any_some hdct; rw [hc]; rfl
  have hf : findObj K D od "__class__" = some (.bind (.builtin "getset_descriptor.__get__") (.builtin "object.__class__")) := by
    cases od with
    | none => exact findObj_dataN hs0 ha hn htk
    | some od => exact findObj_data hs0 ha hn htk
  obtain ⟨hp, g, d, t, os⟩ := s
  have L0 := I.type (M := model prog w)
  have L1 := looks_findIn (M := model prog w) X hga
  have L2 := looks_findIn (M := model prog w) X hgt
  have L3 := looks_find (M := model prog w) X I hf
  have sub : Looks (model prog w) hp (isInstance (.ref x) (.type "BaseException")) true := L0.andThen (looks_subIn X hsub)
  have hx0 : (false && onTheHeap (Value.builtin "BaseException.__getattribute__")) = false := rfl
  have hx2 : (Value.builtin "BaseException.__getattribute__" == Value.builtin "object.__getattribute__") = false := by decide +kernel
  have hx1 : (onTheHeap (Value.ref D) && Value.builtin "BaseException.__getattribute__" == Value.builtin "object.__getattribute__") = false := by rw [hx2]; rfl
  unfold getAttr? getAttrBy? getAttrBy
  refine wpAny_bind (wpAny_mkText (wpAny_bind (wpAny_attempt (wpAny_holding (wpAny_bind (L0.at (wpAny_bind (L1.at ?_))))))))
  show wpAny _ _ (if (onTheHeap (Value.ref D) && Value.builtin "BaseException.__getattribute__" == Value.builtin "object.__getattribute__") = true then _ else _) _ _ _
  rw [hx1, if_neg Bool.false_ne_true]
  unfold getAttrByItsOwn hookBefore
  refine wpAny_bind ?_
  rw [if_pos (show onTheHeap (Value.ref D) = true from rfl)]
  refine L2.at ?_
  refine wpAny_bind (wpAny_attempt (wpAny_holding ?_))
  unfold callGetattribute
  rw [hx0, if_neg Bool.false_ne_true]
  unfold boundAndCalled
  rw [PySem.F.excAttr_ValueError.ga.bind (.ref x)]
  refine wpAny_bind (wpAny_pure ?_)
  show wpAny _ _ (call (.builtin "BaseException.__getattribute__") [.ref x, .str "__class__" t]) _ _ _
  refine wpAny_call (codeAny_call_builtin PySem.F.excAttr_ValueError.ga.plain PySem.F.entry_bexc_ga ?_)
  refine @check_slot (model prog w) _ _ ⟨hp, g, d, t + 1, os⟩ "BaseException.__getattribute__" "BaseException" "__getattribute__" (.ref x) [.str "__class__" t] [] _ (by decide +kernel) (by decide +kernel) sub (PySem.F.args_bexc_ga (.ref x) (.str "__class__" t)) ?_
  unfold Builtin.«object.__getattribute__»
  refine wpAny_bind (wpAny_of_eq (a := ((Value.ref x : Value), [Value.str "__class__" t])) (by first | rfl | (simp only [slotArgs]; rfl)) ?_)
  refine wpAny_bind (wpAny_pure (wpAny_bind (L0.at (wpAny_bind (L3.at ?_)))))
  show wpAny _ _ (holding [Value.builtin "object.__class__"] (call (.builtin "getset_descriptor.__get__") [.builtin "object.__class__", .ref x, .ref D]) >>= ret) _ _ _
  refine wpAny_bind (wpAny_holding (wpAny_call (class_get (s := ⟨hp, g, d, t + 1, os⟩) (ox := ox) (od := od) X I hm ?_)))
  refine wpAny_pure ?_
  show wpAny _ _ (handedOut (.ref D)) _ _ _
  rw [handedOut_of (v := .ref D) rfl]
  first
    | exact wpAny_pure (wpAny_pure h)
    | exact wpAny_pure h
    | exact wpAny_pure (wpAny_bind (wpAny_pure (wpAny_pure h)))
theorem kit_err (hga : findIn K (.ref D) "__getattribute__" = some (some (.builtin "BaseException.__getattribute__"))) (hgt : findIn K (.ref D) "__getattr__" = some none) (hsub : subIn K (.ref D) (.type "BaseException") = some true) (hdct : hasDictIn K D = true) (ha : findIn K (.ref D) "__class__" = some (some (.builtin "object.__class__")))
    (hn : specialIn K (.builtin "object.__class__") "__get__" = some (some (.builtin "getset_descriptor.__get__"))) (htk : takesIn K (.builtin "object.__class__") = some true) (hm : mroIn K D (.type "object") = some true) :
    KitX K (.ref x) (.ref D) (fun h => ∃ ox od, InstAt h x ox D od) where
  ty := fun _ _ _ ⟨_, _, I⟩ => I.type
  it := fun _ _ X _ => by
    obtain ⟨cdD, hcD, _⟩ := any_some hdct
    unfold clsIn at hcD
    split at hcD
    · rename_i c' d' cd' sl' ho
      intro A' Q' E' s' k q
      unfold isType loadHead
      exact wpAny_bind (wpAny_loadPart (k _ _ (X _ _ ho)) (wpAny_pure q))
    · cases hcD
  ne := fun h tp dd its n sl X htp => by
    obtain ⟨cdD, hcD, _⟩ := any_some hdct
    refine Bool.eq_false_iff.mpr fun q => ?_
    have e : D = tp := Value.ref.inj (beq_iff_eq.mp q)
    subst e
    unfold clsIn at hcD
    split at hcD
    · rename_i c' d' cd' sl' ho
      have z := (X _ _ ho).symm.trans htp
      cases z
    · cases hcD
  ca := fun X ⟨_, _, I⟩ k => class_at hga hgt hsub hdct ha hn htk hm X I k
end
/-- what the built-in members say of __class__ -/
structure ClsG (K : PySem.W.Frag) : Prop where
  hn : PySem.W.specialIn K (.builtin "object.__class__") "__get__" = some (some (.builtin "getset_descriptor.__get__"))
  ht : PySem.W.takesIn K (.builtin "object.__class__") = some true
/-- an error that was caught: its object as it stands -/
def exq (a : Addr) (oe : Obj) : HO := .ext fun h => h.get? a = some oe
theorem exq_at {P : Program} {w : World} {H : Hp} {h : Heap} {a : Addr} {oe : Obj} (ok : HOk P w H h) (e : H a = some (exq a oe)) : h.get? a = some oe := (ok a _ e).1
theorem exq_ok {P : Program} {w : World} {H : Hp} {h : Heap} {a : Addr} {oe : Obj} (e : h.get? a = some oe) : ObjOk P w H h a (exq a oe) := ⟨e, ⟨oe, e⟩, fun h1 h2 x k => k _ x⟩
/-- an error of the class at C stands at a, with its dict -/
def ErrAt (H : Hp) (a C : Addr) (fs : List (Str × V)) : Prop := (H a = some (exo a C none) ∧ fs = []) ∨ (∃ d, H a = some (exo a C (some d)) ∧ H d = some (exd d fs)) ∨ ∃ oe, H a = some (exq a oe) ∧ oe.cls = .ref C ∧ PySem.W.notCls oe = true ∧ ((oe.dict = none ∧ fs = []) ∨ ∃ d, oe.dict = some d ∧ H d = some (.xd fs))
theorem ErrAt.mono {H H' : Hp} {a C : Addr} {fs : List (Str × V)} (s : Same H H') (h : ErrAt H a C fs) : ErrAt H' a C fs := by
  rcases h with ⟨h, e⟩ | ⟨d, h1, h2⟩ | ⟨oe, h1, h2, hn, h3⟩
  · exact .inl ⟨s _ _ h, e⟩
  · exact .inr (.inl ⟨d, s _ _ h1, s _ _ h2⟩)
  · exact .inr (.inr ⟨oe, s _ _ h1, h2, hn, h3.imp id fun ⟨d, h4, h5⟩ => ⟨d, h4, s _ _ h5⟩⟩)
theorem exo_lst {e C : Addr} {d : Option Addr} {xs : List V} : exo e C d ≠ .lst xs := fun z => by
  have z' : HO.ext _ = HO.lst xs := z
  cases z'
theorem exq_lst {e : Addr} {o : Obj} {xs : List V} : exq e o ≠ .lst xs := fun z => by
  have z' : HO.ext _ = HO.lst xs := z
  cases z'
theorem exd_lst {e : Addr} {fs : List (Str × V)} {xs : List V} : exd e fs ≠ .lst xs := fun z => by
  have z' : HO.ext _ = HO.lst xs := z
  cases z'
theorem ErrAt.mut {H : Hp} {a C S : Addr} {fs : List (Str × V)} {l : List V} {o : HO} (e : H S = some (.lst l)) (h : ErrAt H a C fs) : ErrAt (upd H S o) a C fs := by
  rcases h with ⟨h, e2⟩ | ⟨d, h1, h2⟩ | ⟨oe, h1, h2, hn, h3⟩
  · exact .inl ⟨by rw [upd_ne (Ne.symm (at_ne h e exo_lst))]; exact h, e2⟩
  · exact .inr (.inl ⟨d, by rw [upd_ne (Ne.symm (at_ne h1 e exo_lst))]; exact h1, by rw [upd_ne (Ne.symm (at_ne h2 e exd_lst))]; exact h2⟩)
  · exact .inr (.inr ⟨oe, by rw [upd_ne (Ne.symm (at_ne h1 e exq_lst))]; exact h1, h2, hn, h3.imp id fun ⟨d, h4, h5⟩ => ⟨d, h4, by rw [upd_ne (ne_of h5 e (fun z => by cases z))]; exact h5⟩⟩)
section
variable {X : Cx} {pins : List (Addr × Obj)} {σ : L2.St} {H : Hp} {s : Shared} {a C : Addr} {fs : List (Str × V)}
theorem err_inst (I : Inv X pins σ H s) (h : ErrAt H a C fs) : ∃ (ox : Obj) (od : Option Obj) (mA : Str → Option Value), PySem.W.InstAt s.heap a ox C od ∧ (∀ o, od = some o → ∀ n, PySem.W.lookIn n o = some (mA n)) ∧ (fs ≠ [] → od.isSome = true) ∧ ∀ f, RelO (fs.lookup f) (mA f) := by
  rcases h with ⟨h, rfl⟩ | ⟨d, h1, h2⟩ | ⟨oe, h1, h2, hn, h3⟩
  · obtain ⟨t1, ho⟩ := exo_at I.hok h
    exact ⟨_, none, fun _ => none, ⟨ho, rfl, rfl, trivial⟩, fun o e => (by cases e), fun z => (z rfl).elim, fun f => trivial⟩
  · obtain ⟨t1, ho⟩ := exo_at I.hok h1
    obtain ⟨mA, hns, hr⟩ := exd_at I.hok h2
    obtain ⟨od, hod, hl⟩ := lookIn_ns hns
    exact ⟨_, some od, mA, ⟨ho, rfl, rfl, hod⟩, fun o e n => by cases e; exact hl n, fun _ => rfl, hr⟩
  · have ho := exq_at I.hok h1
    rcases h3 with ⟨hd, rfl⟩ | ⟨d, hd, h4⟩
    · exact ⟨_, none, fun _ => none, ⟨ho, h2, hn, by rw [hd]; trivial⟩, fun o e => (by cases e), fun z => (z rfl).elim, fun f => trivial⟩
    · obtain ⟨mA, hns, hr⟩ := (show ∃ mA, s.heap.Ns1 d mA ∧ ∀ f, RelO (fs.lookup f) (mA f) from I.hok d _ h4)
      obtain ⟨od, hod, hl⟩ := lookIn_ns hns
      exact ⟨_, some od, mA, ⟨ho, h2, hn, by rw [hd]; exact hod⟩, fun o e n => by cases e; exact hl n, fun _ => rfl, hr⟩
end
section
variable {X : Cx} {K : PySem.W.Frag} {C fI : Addr} {refs : List Addr} {B newId initId : String} {bmB : List Value}
/-- isinstance(e, c), e an error -/
def rIsErr (K : PySem.W.Frag) : List V → Hp → VK → Prop := fun xs H Q => ∃ (a C : Addr) (fs : List (Str × V)) (refs : List Addr) (B newId initId : String) (bmB : List Value) (c : V) (cv : Value) (b : Bool), xs = [.ref a, c] ∧ ClsV c cv ∧ ErrAt H a C fs ∧ ErrC K C refs newId bmB ∧ Fam B newId initId bmB ∧ ClsG K ∧ PySem.W.kitOne K (.ref C) cv = some b ∧ Q (.bl b) H
theorem callIsErr (hK : X.K = K := by rfl) : CallR X (.builtin "isinstance") (rIsErr K) := by
  subst hK
  intro pins s σ H xs us Q I r h
  obtain ⟨a, C, fs, refs, B, newId, initId, bmB, c, cv, b, rfl, k, hE, T, m, G, e, q⟩ := h
  obtain ⟨u1, u2, rfl, r1, r2⟩ := vals2 r
  have e2 := k.eq r2
  subst e2
  cases r1
  obtain ⟨ox, od, mA, J, _⟩ := err_inst I hE
  have hob : PySem.W.mroIn X.K C (.type "object") = some true := by rw [T.mro, List.contains_cons, refs_has, m.obj, Bool.or_true]
  exact PySem.W.kia_one (kit_err T.ga T.gg (T.exC m) T.hdC T.ca G.hn G.ht hob) I.kIn ⟨ox, od, J⟩ e (fun z => nomatch z) fun tk => ⟨.bl b, H, I.kept (t' := tk) fun _ _ z => z, rfl, q⟩
/-- e.f, e an error -/
def rFldE (K : PySem.W.Frag) (f : Str) (x : V) (H : Hp) (Q : VK) : Prop := ∃ (a C : Addr) (fs : List (Str × V)) (refs : List Addr) (B newId initId : String) (bmB : List Value) (v : V), x = .ref a ∧ ErrAt H a C fs ∧ ErrC K C refs newId bmB ∧ Fam B newId initId bmB ∧ PySem.W.findIn K (.ref C) f = some none ∧ fs.lookup f = some v ∧ Q v H
def tFldE (K : PySem.W.Frag) (f : Str) (te : TE) : TE := fun σ H Q => te σ H fun x H1 => rFldE K f x H1 Q
theorem c_fldE {f : Str} {te : TE} {σ : L2.St} {H : Hp} {Q : VK} (h : te σ H fun x H1 => rFldE K f x H1 Q) : tFldE K f te σ H Q := h
theorem peFldE {e : Expr} {f : Str} {te : TE} {pos : Pos} (he : PE X e te) (hb : attributeBase e f X.env (eval e X.env) = eval e X.env := by rfl) (hK : X.K = K := by rfl) : PE X (.Attribute e f pos) (tFldE K f te) := by
  subst hK
  refine ⟨fun pins s σ H Q I h => ?_⟩
  refine attr_of hb (thn (he.run pins s σ H _ I h) fun u s1 hh => ?_)
  obtain ⟨x, H1, I1, rx, a, C, fs, refs, B, newId, initId, bmB, v, rfl, hE, T, m, hno, l, q⟩ := hh
  obtain rfl : u = Value.ref a := rx
  obtain ⟨ox, od, mA, J, hl, hsome, hr⟩ := err_inst I1 hE
  have hne : fs ≠ [] := fun z => by
    rw [z] at l
    cases l
  obtain ⟨o, rfl⟩ := Option.isSome_iff_exists.mp (hsome hne)
  obtain ⟨u, hu, ru⟩ := RelO.some_of (v := v) (o := mA f) (by rw [← l]; exact hr f)
  exact HandSPX.exc_get I1.kIn J T.ga T.gg (T.exC m) (PySem.W.findObj_own T.hdC hno rfl (by rw [hl o rfl, hu])) (handed_of ru) ⟨v, H1, I1.tok _, ru, q⟩
/-- self.f = e, self an error that is being made -/
def rSetE (K : PySem.W.Frag) (f : Str) (y x : V) (σ : L2.St) (H : Hp) (D : Ends) : Prop := ∃ (a C : Addr) (refs : List Addr) (B newId initId : String) (bmB : List Value), x = .ref a ∧ ErrC K C refs newId bmB ∧ Fam B newId initId bmB ∧ PySem.W.findIn K (.ref C) f = some none ∧ H a = some (exo a C none) ∧ ∀ dx, H dx = none → dx ≠ a → D.nx σ (upd (upd H dx (exd dx [(f, y)])) a (exo a C (some dx)))
def tSetE (K : PySem.W.Frag) (f : Str) (to te : TE) : TS := fun D σ H => te σ H fun y H1 => to σ H1 fun x H2 => rSetE K f y x σ H2 D
theorem c_setE {f : Str} {to te : TE} {D : Ends} {σ : L2.St} {H : Hp} (h : te σ H fun y H1 => to σ H1 fun x H2 => rSetE K f y x σ H2 D) : tSetE K f to te D σ H := h
theorem psSetE {o e : Expr} {f : Str} {to te : TE} {p' pos : Pos} (ho : PE X o to) (he : PE X e te) (hs : swapsWith e (some (.Attribute o f p')) pos.line X.env = pure false := by rfl) (hK : X.K = K := by rfl) : PS X (.Assign [.Attribute o f p'] e pos) (tSetE K f to te) := by
  subst hK
  refine ⟨fun pins s σ H D I h => ?_⟩
  refine plainObj_wpAny_Assign_Attribute (thn (he.run pins s σ H _ I h) fun v s1 ⟨y, H1, I1, r1, q1⟩ => thn (ho.run pins s1 σ H1 _ I1 q1) fun u s2 ⟨x, H2, I2, r2, a, C, refs, B, newId, initId, bmB, ex, T, m, hno, ea, q⟩ => ?_) hs
  subst ex
  obtain rfl : u = Value.ref a := r2
  exact err_new T m I2 ea hno r1 fun dx s' n ne J => ⟨σ, _, J, q dx n ne⟩
/-- what __init__(self, f) of an error promises -/
def spErr (C : Addr) (f : Str) : Sp := fun vs H Q _ => ∃ (a : Addr) (v : V), vs = [.ref a, v] ∧ H a = some (exo a C none) ∧ ∀ dx, H dx = none → dx ≠ a → Q .non (upd (upd H dx (exd dx [(f, v)])) a (exo a C (some dx)))
/-- C(v): a new error that has its field -/
def rMkE (C : Addr) (f : Str) (vs : List V) (H : Hp) (Q : VK) : Prop := ∃ v, vs = [v] ∧ ∀ a d, H a = none → H d = none → d ≠ a → Q (.ref a) (upd (upd H d (exd d [(f, v)])) a (exo a C (some d)))
def tMkE (C : Addr) (f : Str) (t : TA) : TE := fun σ H Q => t σ H fun vs H1 => rMkE C f vs H1 Q
theorem c_mkE {f : Str} {t : TA} {σ : L2.St} {H : Hp} {Q : VK} (h : t σ H fun vs H1 => rMkE C f vs H1 Q) : tMkE C f t σ H Q := h
theorem c_rmkE {f : Str} {v : V} {H : Hp} {Q : VK} (h : ∀ a H', H a = none → Same H H' → ErrAt H' a C [(f, v)] → Q (.ref a) H') : rMkE C f [v] H Q := by
  refine ⟨v, rfl, fun a d na nd ne => h a _ na (fun b o e => ?_) (.inr (.inl ⟨d, upd_same, ?_⟩))⟩
  · rw [upd_ne (ne_of_none e na), upd_ne (ne_of_none e nd)]
    exact e
  · rw [upd_ne ne, upd_same]
/-- an error's own __init__ -/
structure ErrI (K : PySem.W.Frag) (C fI : Addr) : Prop where
  iC : PySem.W.findIn K (.ref C) "__init__" = some (some (.ref fI))
  tI : PySem.W.typeIn K (.ref fI) = some (.type "function")
end
section
variable {X : Cx} {C fI : Addr} {refs : List Addr} {B newId initId : String} {bmB : List Value} {k : Nat} {fd : FuncData} {ps : List Str} {f x : Str} {e : Expr} {t : TA} {p pos : Pos}
theorem mk_back {pins : List (Addr × Obj)} {σ : L2.St} {H1 : Hp} {Q : VK} {hp h2 : Heap} {g : Array GenState} {d : Drawn} {tk : Nat} {os : OsState} {us : List Value} {s' : Shared} {r : Result} {v : V}
    (I2 : Inv X pins σ (upd H1 (hp.objs.size + 1) (exo (hp.objs.size + 1) C none)) ⟨h2, g, d, tk, os⟩) (hn : H1 (hp.objs.size + 1) = none) (q1 : ∀ a d, H1 a = none → H1 d = none → d ≠ a → Q (.ref a) (upd (upd H1 d (exd d [(f, v)])) a (exo a C (some d))))
    (hq : CR CX0 X.stack X.prog X.w (upd H1 (hp.objs.size + 1) (exo (hp.objs.size + 1) C none)) ⟨h2, g, d, tk, os⟩ (fun z H2 => z = .non ∧ ∃ dx, H1 dx = none ∧ dx ≠ hp.objs.size + 1 ∧ H2 = upd (upd (upd H1 (hp.objs.size + 1) (exo (hp.objs.size + 1) C none)) dx (exd dx [(f, v)])) (hp.objs.size + 1) (exo (hp.objs.size + 1) C (some dx))) (fun _ _ _ => False) r s') :
    PySem.W.InitBack (hp.objs.size + 1) (fun r s' => match r with | .ok (.ret u) => EP X pins σ Q u s' | .ok _ => False | .error e => X.xe e s') r s' := by
  cases r with
  | error er => exact (show False from hq).elim
  | ok fl =>
    cases fl with
    | ret u =>
      obtain ⟨z, H2, I3, rv, ez, dx, n1, n2, eH⟩ := I2.after hq
      subst ez
      refine ⟨rv, .ref (hp.objs.size + 1), H2, I3, rfl, ?_⟩
      have e3 : H2 = upd (upd H1 dx (exd dx [(f, v)])) (hp.objs.size + 1) (exo (hp.objs.size + 1) C (some dx)) := by
        rw [eH]
        funext b
        by_cases h1 : b = hp.objs.size + 1
        · rw [h1, upd_same, upd_same]
        · rw [upd_ne h1, upd_ne h1]
          by_cases h2 : b = dx
          · rw [h2, upd_same, upd_same]
          · rw [upd_ne h2, upd_ne h2, upd_ne h1]
      rw [e3]
      exact q1 _ dx hn n1 n2
    | next => exact False.elim hq
    | brk => exact False.elim hq
    | cont => exact False.elim hq
theorem pe_mkE (T : ErrC X.K C refs newId bmB) (m : Fam B newId initId bmB) (W : ErrI X.K C fI) (F1 : FnOk X.prog X.w X.K X.mg X.base CX0 k fI fd ps (spErr C f)) (hr : Room (k + 1) X.A) (hb : Binds X.K fd ps []) (hg : Gl X x) (hm : X.mg x = some (.ref C)) (ha : PA X [e] t)
    (hdb : (x == ("__debug__" : Str)) = false := by decide) (he : starEach [e] X.env = (false, eval e X.env) :: starEach [] X.env := by rfl) (hpl : (backTo pos (starEach [] X.env)).any (·.1) = false := by rfl) :
    PE X (.Call (.Name x p) [e] [] pos) (tMkE C f t) := by
  refine ⟨fun pins s σ H Q I h => ?_⟩
  obtain ⟨nm, q, N, bs, sn, sub, ab, col, dd, k0, k1, k2, k3, k5, hC⟩ := T.cls
  refine wpAny_Call_Name_kw (ld_glob I hg hm ?_ hdb)
  refine PySem.W.callWith_K (h₀ := X.base) I.ok.mod.kin T.kC (thn (ha.run pos pins s σ H _ I h) fun us s1 ⟨vs, H1, I1, r1, v, ev, q1⟩ => ⟨I1.kIn, ?_⟩) he hpl
  subst ev
  obtain ⟨u, rfl, ru⟩ := vals1 r1
  show wpAny _ _ (call (.ref C) [u]) _ _ _
  obtain ⟨hp, g, dr, tk, os⟩ := s1
  have hsz : hp.objs.size ≤ hp.objs.size + 1 := Nat.le_succ _
  have hn : H1 (hp.objs.size + 1) = none := I1.hok.fresh hsz
  have kk : ∀ b o, hp.get? b = some o → ((hp.push (PySem.W.kdv_tup [u])).push (PySem.HandSPX.excO C hp.objs.size)).get? b = some o := fun b o e => Heap.get?_push_of_some _ (Heap.get?_push_of_some _ e)
  have hget : ((hp.push (PySem.W.kdv_tup [u])).push (PySem.HandSPX.excO C hp.objs.size)).get? (hp.objs.size + 1) = some (PySem.HandSPX.excO C hp.objs.size) := by heap_get
  have I2 : Inv X pins σ (upd H1 (hp.objs.size + 1) (exo (hp.objs.size + 1) C none)) ⟨(hp.push (PySem.W.kdv_tup [u])).push (PySem.HandSPX.excO C hp.objs.size), g, dr, tk, os⟩ :=
    I1.laid (t' := tk) (a := hp.objs.size + 1) (o := exo (hp.objs.size + 1) C none) (h' := (hp.push (PySem.W.kdv_tup [u])).push (PySem.HandSPX.excO C hp.objs.size)) kk hsz (exo_ok hget)
  have r2 : Vals [V.ref (hp.objs.size + 1), v] [Value.ref (hp.objs.size + 1), u] := .cons rfl (.cons ru .nil)
  have hq : spErr C f [V.ref (hp.objs.size + 1), v] (upd H1 (hp.objs.size + 1) (exo (hp.objs.size + 1) C none)) (fun z H2 => z = .non ∧ ∃ dx, H1 dx = none ∧ dx ≠ hp.objs.size + 1 ∧ H2 = upd (upd (upd H1 (hp.objs.size + 1) (exo (hp.objs.size + 1) C none)) dx (exd dx [(f, v)])) (hp.objs.size + 1) (exo (hp.objs.size + 1) C (some dx))) (fun _ _ _ => False) :=
    ⟨_, v, rfl, upd_same, fun dx n ne => ⟨rfl, dx, by rw [upd_ne ne] at n; exact n, ne, rfl⟩⟩
  have hl := F1.len _ _ _ _ hq
  refine wpAny_call (PySem.HandSPX.call_own m.F (fun Y => refs_has Y refs) (I1.kIn _ _ hC) (PySem.W.looks_findIn I1.kIn W.iC) (fun self => PySem.W.bind_fn I1.kIn self W.tI) (by rw [sizeLine_eq]; show 1 ≤ _; decide)
    (codeAny_mono (F1.run _ X.stack _ _ ⟨[Value.ref (hp.objs.size + 1), u], []⟩ [Value.ref (hp.objs.size + 1), u] _ _ (fun _ _ _ => False) (hr.make C [u] []) (I2.env0.make C [u] []) (by
      have z := hb ⟨(hp.push (PySem.W.kdv_tup [u])).push (PySem.HandSPX.excO C hp.objs.size), g, dr, tk, os⟩ [Value.ref (hp.objs.size + 1), u] I2.kIn (by simpa using hl)
      simpa using z) r2 hq) fun r s' hq' => ?_))
  exact mk_back (us := [u]) I2 hn q1 hq'
theorem pe_mkEK {kws : List Keyword} {tk : TA} (T : ErrC X.K C refs newId bmB) (m : Fam B newId initId bmB) (W : ErrI X.K C fI) (F1 : FnOk X.prog X.w X.K X.mg X.base CX0 k fI fd ps (spErr C f)) (hr : Room (k + 1) X.A) (hb : KBinds X.K fd ps [f] (gK 1 1) (gK 1 1)) (hg : Gl X x) (hm : X.mg x = some (.ref C)) (hkw : PK X kws tk)
    (hdb : (x == ("__debug__" : Str)) = false := by decide) (hall : (backToKw pos (keywordEach kws X.env)).all (·.1.isSome) = true := by rfl) (hks : (backToKw pos (keywordEach kws X.env)).filterMap (·.1) = [f] := by rfl)
    (hpl : ((backTo pos (starEach [] X.env)).any (·.1) || (backToKw pos (keywordEach kws X.env)).any (·.1.isNone)) = false := by rfl) :
    PE X (.Call (.Name x p) [] kws pos) (tMkE C f tk) := by
  refine ⟨fun pins s σ H Q I h => ?_⟩
  obtain ⟨nm, q, N, bs, sn, sub, ab, col, dd, k0, k1, k2, k3, k5, hC⟩ := T.cls
  refine wpAny_Call_Name_kw (ld_glob I hg hm ?_ hdb)
  refine PySem.W.callWith_KW0 (first := []) (h₀ := X.base) I.ok.mod.kin T.kC hall (thn (hkw.run pos pins s σ H _ I h) fun us s1 ⟨vs, H1, I1, r1, v, ev, q1⟩ => ⟨I1.kIn, ?_⟩) hpl
  subst ev
  obtain ⟨u, rfl, ru⟩ := vals1 r1
  rw [hks]
  show wpAny _ _ (call (.ref C) [] [(f, u)]) _ _ _
  obtain ⟨hp, g, dr, tk, os⟩ := s1
  have hsz : hp.objs.size ≤ hp.objs.size + 1 := Nat.le_succ _
  have hn : H1 (hp.objs.size + 1) = none := I1.hok.fresh hsz
  have kk : ∀ b o, hp.get? b = some o → ((hp.push (PySem.W.kdv_tup [])).push (PySem.HandSPX.excO C hp.objs.size)).get? b = some o := fun b o e => Heap.get?_push_of_some _ (Heap.get?_push_of_some _ e)
  have hget : ((hp.push (PySem.W.kdv_tup [])).push (PySem.HandSPX.excO C hp.objs.size)).get? (hp.objs.size + 1) = some (PySem.HandSPX.excO C hp.objs.size) := by heap_get
  have I2 : Inv X pins σ (upd H1 (hp.objs.size + 1) (exo (hp.objs.size + 1) C none)) ⟨(hp.push (PySem.W.kdv_tup [])).push (PySem.HandSPX.excO C hp.objs.size), g, dr, tk, os⟩ :=
    I1.laid (t' := tk) (a := hp.objs.size + 1) (o := exo (hp.objs.size + 1) C none) (h' := (hp.push (PySem.W.kdv_tup [])).push (PySem.HandSPX.excO C hp.objs.size)) kk hsz (exo_ok hget)
  have r2 : Vals [V.ref (hp.objs.size + 1), v] [Value.ref (hp.objs.size + 1), u] := .cons rfl (.cons ru .nil)
  have hq : spErr C f [V.ref (hp.objs.size + 1), v] (upd H1 (hp.objs.size + 1) (exo (hp.objs.size + 1) C none)) (fun z H2 => z = .non ∧ ∃ dx, H1 dx = none ∧ dx ≠ hp.objs.size + 1 ∧ H2 = upd (upd (upd H1 (hp.objs.size + 1) (exo (hp.objs.size + 1) C none)) dx (exd dx [(f, v)])) (hp.objs.size + 1) (exo (hp.objs.size + 1) C (some dx))) (fun _ _ _ => False) :=
    ⟨_, v, rfl, upd_same, fun dx n ne => ⟨rfl, dx, by rw [upd_ne ne] at n; exact n, ne, rfl⟩⟩
  have hl := F1.len _ _ _ _ hq
  refine wpAny_call (kw_call m.F (fun Y => refs_has Y refs) (I1.kIn _ _ hC) (PySem.W.looks_findIn I1.kIn W.iC) (fun self => PySem.W.bind_fn I1.kIn self W.tI)
    (codeAny_mono (F1.run _ X.stack _ _ ⟨[Value.ref (hp.objs.size + 1)], [(f, u)]⟩ [Value.ref (hp.objs.size + 1), u] _ _ (fun _ _ _ => False) (hr.make C [] [(f, u)]) (I2.env0.make C [] [(f, u)]) (by
      have z := hb.to ⟨(hp.push (PySem.W.kdv_tup [])).push (PySem.HandSPX.excO C hp.objs.size), g, dr, tk, os⟩ [Value.ref (hp.objs.size + 1)] [u] I2.kIn (by show (gK 1 1 _ _).length = _; exact hl)
      exact z) r2 hq) fun r s' hq' => ?_))
  exact mk_back (us := []) I2 hn q1 hq'
/-- C(), an error of a class without an __init__ of its own -/
def rMkE0 (C : Addr) (H : Hp) (Q : VK) : Prop := ∀ a H', H a = none → Same H H' → ErrAt H' a C [] → Q (.ref a) H'
def tMkE0 (C : Addr) : TE := fun σ H Q => rMkE0 C H Q
theorem c_mkE0 {σ : L2.St} {H : Hp} {Q : VK} (h : ∀ a H', H a = none → Same H H' → ErrAt H' a C [] → Q (.ref a) H') : tMkE0 C σ H Q := h
theorem pe_mkE0 (m : ExcBaseFacts B newId initId bmB) (q : PySem.W.excIn X.K C bmB newId = true) (kC : PySem.W.keepIn X.K (.ref C) = true) (hg : Gl X x) (hm : X.mg x = some (.ref C)) (hdb : (x == ("__debug__" : Str)) = false := by decide) :
    PE X (.Call (.Name x p) [] [] pos) (tMkE0 C) := by
  refine ⟨fun pins s σ H Q I h => ?_⟩
  refine wpAny_Call_Name_kw (ld_glob I hg hm ?_ hdb)
  refine PySem.W.callWith_K0 I.kIn kC ?_
  show wpAny _ _ (call (.ref C) []) _ _ _
  obtain ⟨bm, N, nm, qn, bs, hdct, sn, sub, ab, col, dd, k0, k1, k2, k3, k5, mN, hC, hN, hni, T⟩ := exc_obj I.kIn q
  refine wpAny_call_exc_subT m T hC hN hni (fun h' a hmade => ?_) (by show 0 ≤ sizeLine; exact Nat.zero_le _)
  have hn : H a = none := I.hok.gone hmade.new
  obtain ⟨t, ht, _, _⟩ := hmade.there
  exact ⟨.ref a, upd H a (exo a C none), I.laidN hmade.keeps hmade.new hn (exo_ok ht), rfl, h a _ hn (same_new hn) (.inl ⟨upd_same, rfl⟩)⟩
end
end Und
/-! count and index over flat values; repr of a list of empty dicts -/
namespace Und
open PySem PySem.Spec PyProof.Rows L2
section
variable {X : Cx} {K : PySem.W.Frag} {a : Addr} {H : Hp} {Q : VK}
/-- list.count over flat values -/
def rCntV (K : PySem.W.Frag) (x : V) (xs : List V) (H : Hp) (Q : VK) : Prop := ∃ (a : Addr) (ys : List V) (y : V), x = V.ref a ∧ xs = [y] ∧ SqL K H a ys ∧ flatV y = true ∧ ys.all flatV = true ∧ Q (.int ((ys.countP fun z => eqV z y : Nat))) H
theorem cnt_eqU {y : V} : ∀ {ys : List V} {us : List Value}, Vals ys us → ys.all flatV = true → us.countP (eqU y) = ys.countP fun z => eqV z y
  | _, _, .nil, _ => rfl
  | z :: ys, u :: us, .cons r t, f => by
    rw [List.all_cons, Bool.and_eq_true] at f
    rw [List.countP_cons, List.countP_cons, cnt_eqU t f.2, eqU_of r f.1]
theorem mtCntV (h : X.K = K := by rfl) : MtR X "list.count" (rCntV K) := by
  subst h
  intro pins s σ H x xs v us Q I rx rxs h
  obtain ⟨a, ys, y, rfl, rfl, hs, fy, fys, q⟩ := h
  cases rx
  cases rxs with
  | cons ry rt =>
    rename_i uy ut
    cases rt
    obtain ⟨its, rv, ⟨⟨cls, dd, data, sl⟩, n, ho, hc, hdn, hd⟩, hlen⟩ := I.list hs
    simp only at hc hd
    subst hc hd
    refine call_meets PySem.F.slot_list_count ⟨_, ho, rfl⟩ PySem.F.entry_list_count (PySem.F.args_list_count_2 _ _)
      (SeqAt.list_countAt a its.toArray n dd sl uy (eqU y)) ⟨ho, fun u' hu' => mem_eqAt ry fy rv fys u' (by simpa using hu'), ?_⟩
    refine ⟨.int ((ys.countP fun z => eqV z y : Nat)), H, I.tok _, ⟨s.toks, ?_⟩, q⟩
    show Value.int ((its.toArray.toList.countP (eqU y) : Nat) : Int) s.toks = _
    rw [show its.toArray.toList = its from rfl, cnt_eqU rv fys]
theorem c_cntV {ys : List V} {y : V} (e : SqL K H a ys) (fy : flatV y = true) (fys : ys.all flatV = true) (h : Q (.int ((ys.countP fun z => eqV z y : Nat))) H) : rCntV K (.ref a) [y] H Q := ⟨a, ys, y, rfl, rfl, e, fy, fys, h⟩
def rIdxV (K : PySem.W.Frag) (x : V) (xs : List V) (H : Hp) (Q : VK) : Prop := rIndex K x xs H Q
theorem mtIdxV (h : X.K = K := by rfl) : MtR X "list.index" (rIdxV K) := h ▸ mt_index
theorem c_idxV {ys : List V} {y z : V} {j : Nat} (e : SqL K H a ys) (fy : flatV y = true) (fys : ys.all flatV = true) (hz : ys[j]? = some z) (hj : eqV z y = true) (hno : ∀ (m : Nat) (z' : V), m < j → ys[m]? = some z' → eqV z' y = false) (h : Q (.int (j : Nat)) H) : rIdxV K (.ref a) [y] H Q := ⟨a, ys, y, j, z, rfl, rfl, e, fy, fys, hz, hj, hno, h⟩
end
/-! ### a list display; a dict display -/
section
variable {X : Cx} {es : List Expr} {t : TA} {pos : Pos}
/-- a new list, which is not the table of modules -/
def rNewLB (xs : List V) (H : Hp) (Q : VK) : Prop := xs.length ≤ sizeLine ∧ ∀ p, H p = none → p ≠ sysModules → Q (.ref p) (upd H p (.lst xs))
def tLstB (t : TA) : TE := fun σ H Q => t σ H fun xs H1 => rNewLB xs H1 Q
theorem peLstB (h : PA X es t) : PE X (.List es pos) (tLstB t) := by
  refine ⟨fun pins s σ H Q I hq => ?_⟩
  refine wpAny_List_spliced (thn (h.run pos pins s σ H _ I hq) fun us s1 ⟨xs, H1, I1, r, z, q⟩ => ⟨by rw [← r.length]; exact z, ?_⟩)
  have hf : H1 s1.heap.objs.size = none := I1.hok.fresh (Nat.le_refl _)
  refine ⟨.ref s1.heap.objs.size, upd H1 s1.heap.objs.size (.lst xs), I1.laid (t' := s1.toks) (fun b u e => Heap.get?_push_of_some _ e) (Nat.le_refl _) ?_, rfl, q _ hf (Nat.ne_of_gt I1.big)⟩
  exact ⟨z, us, 0, r, Heap.get?_push_size _ rfl⟩
theorem c_lstB {σ : L2.St} {H : Hp} {Q : VK} (h : t σ H fun xs H1 => rNewLB xs H1 Q) : tLstB t σ H Q := h
theorem c_newLB {xs : List V} {H : Hp} {Q : VK} (z : xs.length ≤ 100000) (h : ∀ p H2, H p = none → p ≠ sysModules → Same H H2 → H2 p = some (.lst xs) → Q (.ref p) H2) : rNewLB xs H Q := ⟨sz z, fun p np nb => h p _ np nb (same_new np) upd_same⟩
end
/-! ### repr -/
section
variable {X : Cx} {K : PySem.W.Frag}
/-- a list of two empty dicts -/
theorem reads_two {pins : List (Addr × Obj)} {σ : L2.St} {H : Hp} {s : Shared} {a b : Addr} (I : Inv X pins σ H s) (e : H a = some (.lst [.ref b, .ref b])) (eb : H b = some (.dK [])) (ne : a ≠ sysModules) :
    ∃ as, Reads s.heap (.ref a) (.list [.dict [], .dict []]) as ∧ sysModules ∉ as := by
  obtain ⟨_, hsm, vs, kv, o, es, ep, ho, hx, hd, _, hp, _⟩ := dk_of I.hok eb
  have nb : b ≠ sysModules := beq_eq_false_iff_ne.mp hsm
  cases kv
  have hes : es.toList = [] := by
    generalize es.toList = l at hp
    cases hp
    rfl
  have rb : Reads s.heap (.ref b) (.dict []) (b :: [] ++ []) := Reads.dict ho hx.1 hd (by rw [hes]; exact .nil) (by rw [hes]; exact .nil)
  obtain ⟨_, us, n, r, ha⟩ := (show ObjOk X.prog X.w H s.heap a (.lst [.ref b, .ref b]) from I.hok a _ e)
  obtain ⟨u1, u2, rfl, r1, r2⟩ := vals2 r
  obtain rfl : u1 = Value.ref b := r1
  obtain rfl : u2 = Value.ref b := r2
  refine ⟨_, Reads.list ha rfl rfl (.cons rb (.cons rb .nil)), fun z => ?_⟩
  simp only [List.cons_append, List.nil_append, List.append_nil, List.mem_cons, List.not_mem_nil, or_false] at z
  rcases z with z | z | z
  · exact ne z.symm
  · exact nb z.symm
  · exact nb z.symm
/-- repr of data or of a list of two empty dicts -/
def crRepr2 (K : PySem.W.Frag) : List V → Hp → VK → Prop := fun xs H Q => crRepr K xs H Q ∨ ∃ (a b : Addr), xs = [.ref a] ∧ H a = some (.lst [.ref b, .ref b]) ∧ H b = some (.dK []) ∧ a ≠ sysModules ∧ Q (.str (PyData.list [.dict [], .dict []]).shown) H
theorem crR2 {k : Nat} (g : Still X.A) (r : Room k X.A) (h : X.K = K := by rfl) : CallR X (.builtin "repr") (crRepr2 K) := by
  subst h
  intro pins s σ H xs us Q I v h
  rcases h with h | ⟨a, b, rfl, ha, hb, ne, q⟩
  · exact cr_repr g r pins s σ H xs us Q I v h
  obtain ⟨u, rfl, hu⟩ : ∃ u, us = [u] ∧ u = Value.ref a := by
    cases v with
    | cons h1 h2 =>
      cases h2
      exact ⟨_, rfl, h1⟩
  subst hu
  obtain ⟨as, rd, hns⟩ := reads_two I ha hb ne
  have ru := r.units
  exact repr_of_reads' rd (by decide +kernel) (fun _ => hns) g (by show X.A.units + (_ + 1) < _; have : (PyData.list [.dict [], .dict []]).depth ≤ 32 := by decide +kernel
                                                                   omega) (fun _ _ e => e) (fun h' u tk k => ⟨.str _, H, I.kept k, ⟨u, rfl⟩, q⟩) (by decide +kernel)
theorem c_repr2 {a : Addr} {d : PyData} {n m : Nat} {H : Hp} {Q : VK} (hd : Dp K H (.ref a) d) (ok : DOk d n) (ln : n ≤ 32) (sh : Shw d m) (lm : m ≤ 10000000) (h : Q (.str d.shown) H) : crRepr2 K [.ref a] H Q := .inl (c_repr hd ok ln sh lm h)
theorem c_reprTwo {a b : Addr} {H : Hp} {Q : VK} (ha : H a = some (.lst [.ref b, .ref b])) (hb : H b = some (.dK [])) (ne : a ≠ sysModules) (h : Q (.str (PyData.list [.dict [], .dict []]).shown) H) : crRepr2 K [.ref a] H Q := .inr ⟨a, b, rfl, ha, hb, ne, h⟩
end
end Und
namespace Und
open PySem PySem.Spec PyProof.Rows L2
/-! ### isinstance of an error, by its place in the list of classes -/
section
variable {K : PySem.W.Frag} {C D : Addr} {refs : List Addr} {newId : String} {bmB : List Value}
/-- a class written in a module -/
structure ClsX (K : PySem.W.Frag) (D : Addr) : Prop where
  i : (PySem.W.clsIn K D).isSome = true
  t : PySem.W.typeIn K (.ref D) = some (.type "type")
theorem ErrC.clsx (T : ErrC K C refs newId bmB) : ClsX K C := by
  obtain ⟨cd, h, _⟩ := T.cd
  exact ⟨by rw [h]; rfl, T.tyC⟩
theorem refs_addr : ∀ l : List Addr, (∀ a, bmB.contains (Value.ref a) = false) → (l.map Value.ref ++ bmB).contains (.ref D) = l.contains D
  | [], h => h D
  | a :: r, h => by
    rw [List.map_cons, List.cons_append, List.contains_cons, List.contains_cons, refs_addr r h]
    have e : (Value.ref D == Value.ref a) = (D == a) := by
      rw [Bool.eq_iff_iff, beq_iff_eq, beq_iff_eq]
      exact ⟨Value.ref.inj, congrArg _⟩
    rw [e]
theorem ErrC.kit (T : ErrC K C refs newId bmB) (h : ∀ a, bmB.contains (Value.ref a) = false) (cx : ClsX K D) : PySem.W.kitOne K (.ref C) (.ref D) = some (decide (D = C) || refs.contains D) := by
  show (if (Value.ref C == Value.ref D) = true then some true else if ((PySem.W.clsIn K D).isSome && PySem.W.typeIn K (.ref D) == some (.type "type")) = true then PySem.W.subIn K (.ref C) (.ref D) else none) = _
  rw [cx.i, cx.t]
  by_cases e : D = C
  · subst e
    rw [if_pos (by simp)]
    simp
  · have e1 : (Value.ref C == Value.ref D) = false := beq_eq_false_iff_ne.mpr fun z => e (Value.ref.inj z).symm
    have e2 : (Value.ref D == Value.ref C) = false := beq_eq_false_iff_ne.mpr fun z => e (Value.ref.inj z)
    rw [if_neg (by rw [e1]; decide), if_pos (by rfl)]
    show PySem.W.mroIn K C _ = _
    rw [T.mro, List.contains_cons, refs_addr refs h, e2, decide_eq_false e]
theorem ErrC.kitT (T : ErrC K C refs newId bmB) {b : String} (hm : PySem.W.kitMeta b = true) : PySem.W.kitOne K (.ref C) (.type b) = some (bmB.contains (.type b)) := by
  show (if (Value.ref C == Value.type b) = true then some true else if PySem.W.kitMeta b = true then PySem.W.subIn K (.ref C) (.type b) else none) = _
  rw [if_neg (by intro z; cases (beq_iff_eq.mp z)), if_pos hm]
  show PySem.W.mroIn K C _ = _
  rw [T.mro, List.contains_cons, refs_has]
  rfl
/-- which base the error class at this place has -/
def bsI (j : Nat) : Nat := if j < 14 then 17 else if j < 16 then 18 else 19
/-- the class C stands at j among the classes L -/
structure ErrK (K : PySem.W.Frag) (L : List Addr) (C : Addr) (j : Nat) : Prop where
  e : ∃ refs B newId initId bmB, ErrC K C refs newId bmB ∧ Fam B newId initId bmB
  lt : j < 17
  k : ∀ (i : Nat) (D : Addr), i < 17 → L[i]? = some D → PySem.W.kitOne K (.ref C) (.ref D) = some (decide (i = j))
  b : ∀ (i : Nat) (D : Addr), 17 ≤ i → L[i]? = some D → PySem.W.kitOne K (.ref C) (.ref D) = some (decide (i = bsI j))
  c : ∀ (i : Nat) (D : Addr), 17 ≤ i → L[i]? = some D → PySem.W.kitCls K (.ref C) (.ref D) = some (decide (i = bsI j))
  v : PySem.W.kitOne K (.ref C) (.type "ValueError") = some (decide (17 = bsI j))
  l : PySem.W.kitOne K (.ref C) (.type "LookupError") = some (decide (18 = bsI j))
  a : PySem.W.kitOne K (.ref C) (.type "ArithmeticError") = some (decide (19 = bsI j))
theorem errK {L : List Addr} {j : Nat} {B newId initId : String} {Bs : Addr} (nd : L.Nodup) (T : ErrC K C [Bs] newId bmB) (m : Fam B newId initId bmB) (h : ∀ a, bmB.contains (Value.ref a) = false) (hj : j < 17) (hC : L[j]? = some C) (hB : L[bsI j]? = some Bs)
    (cx : ∀ (i : Nat) (D : Addr), L[i]? = some D → ClsX K D) (v : bmB.contains (.type "ValueError") = decide (17 = bsI j)) (l : bmB.contains (.type "LookupError") = decide (18 = bsI j)) (a : bmB.contains (.type "ArithmeticError") = decide (19 = bsI j)) : ErrK K L C j := by
  have inj : ∀ {i k : Nat} {x : Addr}, L[i]? = some x → L[k]? = some x → i = k := fun {i k x} e1 e2 => by
    obtain ⟨h1, r1⟩ := List.getElem?_eq_some_iff.mp e1
    obtain ⟨h2, r2⟩ := List.getElem?_eq_some_iff.mp e2
    have pw := List.pairwise_iff_getElem.mp nd
    rcases Nat.lt_trichotomy i k with z | z | z
    · exact (pw i k h1 h2 z (r1.trans r2.symm)).elim
    · exact z
    · exact (pw k i h2 h1 z (r2.trans r1.symm)).elim
  have hb : 17 ≤ bsI j := by
    unfold bsI
    split
    · omega
    · split <;> omega
  have key : ∀ i D, L[i]? = some D → PySem.W.kitOne K (.ref C) (.ref D) = some (decide (i = j) || decide (i = bsI j)) := fun i D e => by
    rw [T.kit h (cx i D e)]
    have e1 : (D = C) = (i = j) := propext ⟨fun z => inj e (z ▸ hC), fun z => Option.some.inj ((z ▸ e).symm.trans hC)⟩
    have e2 : [Bs].contains D = decide (i = bsI j) := by
      rw [List.contains_cons, List.contains_nil, Bool.or_false]
      have e3 : (D = Bs) = (i = bsI j) := propext ⟨fun z => inj e (z ▸ hB), fun z => Option.some.inj ((z ▸ e).symm.trans hB)⟩
      show decide (D = Bs) = _
      simp only [e3]
    rw [e2]
    simp only [e1]
  refine ⟨⟨_, _, _, _, _, T, m⟩, hj, fun i D hi e => ?_, fun i D hi e => ?_, fun i D hi e => ?_, (T.kitT (by decide +kernel)).trans (congrArg some v), (T.kitT (by decide +kernel)).trans (congrArg some l), (T.kitT (by decide +kernel)).trans (congrArg some a)⟩
  · rw [key i D e, decide_eq_false (p := i = bsI j) (by omega), Bool.or_false]
  · rw [key i D e, decide_eq_false (p := i = j) (by omega), Bool.false_or]
  · have h1 := key i D e
    rw [decide_eq_false (p := i = j) (by omega), Bool.false_or] at h1
    have ne : (Value.ref C == Value.ref D) = false := beq_eq_false_iff_ne.mpr fun z => by
      have z' := Value.ref.inj z
      rw [← z'] at e
      have := inj e hC
      omega
    unfold PySem.W.kitOne at h1
    rw [ne, if_neg Bool.false_ne_true] at h1
    exact h1
end
end Und
/-! errors that are raised and caught -/
namespace Und
open PySem PySem.Spec PyProof.Rows L2 PySem.HandSPX
open L2H (RoomH)
/-! ### what may leave a body -/
section
variable {X : Cx} {E : XK} {E₁ : Value → Shared → Prop}
theorem takesE (hs : X.stack = X.env :: X.outer) (hf : X.env.frame = some X.env.locals) (hex : X.ex = []) (hx : X.xe = fun e s' => wpAny (model X.prog X.w) X.A (leaving X.env e) (fun _ s'' => L2.CX X.prog X.w X.outer X.H_0 X.s_0 E e s'') E₁ s') :
    Takes X (fun c d _ H => E c d H) := takes_of hs hf hex hx
theorem passT {W : WX} (tk : Takes X W) (h : ∀ c d σ H, E c d H → W c d σ H) : Passes (L2.CX X.prog X.w) X E := fun p σ H s e s' I c => passes_call tk h p σ H s e s' I c
theorem passX (hs : X.stack = X.env :: X.outer := by rfl) (hf : X.env.frame = some X.env.locals := by rfl) (hex : X.ex = [] := by rfl)
    (hx : X.xe = fun e s' => wpAny (model X.prog X.w) X.A (leaving X.env e) (fun _ s'' => L2.CX X.prog X.w X.outer X.H_0 X.s_0 E e s'') E₁ s' := by rfl) : Passes (L2.CX X.prog X.w) X E := passT (takesE hs hf hex hx) fun _ _ _ _ h => h
end
/-! ### raise C(v) -/
/-- C(v) is raised: its dict is new, and holds v -/
def Rsd (C : Addr) (f : Str) (v : V) (H : Hp) (E : XK) : Prop := ∀ d H', H d = none → Same H H' → H' d = some (.xd [(f, v)]) → E (.ref C) (some d) H'
def rMkX (C : Addr) (f : Str) (vs : List V) (H : Hp) (E : XK) : Prop := ∃ v, vs = [v] ∧ Rsd C f v H E
def tMkX (C : Addr) (f : Str) (t : TA) : L2.St → Hp → XK → Prop := fun σ H E => t σ H fun vs H1 => rMkX C f vs H1 E
section
variable {X : Cx} {C fI : Addr} {refs : List Addr} {B newId initId : String} {bmB : List Value} {k : Nat} {fd : FuncData} {ps : List Str} {f x : Str} {e : Expr} {t : TA} {p pos : Pos}
theorem pmk_E (T : ErrC X.K C refs newId bmB) (m : Fam B newId initId bmB) (W : ErrI X.K C fI) (F1 : FnOk X.prog X.w X.K X.mg X.base CX0 k fI fd ps (spErr C f)) (hr : Room (k + 1) X.A) (hb : Binds X.K fd ps []) (hg : Gl X x) (hm : X.mg x = some (.ref C)) (ha : PA X [e] t)
    (hdb : (x == ("__debug__" : Str)) = false := by decide) (he : starEach [e] X.env = (false, eval e X.env) :: starEach [] X.env := by rfl) (hpl : (backTo pos (starEach [] X.env)).any (·.1) = false := by rfl) : PMk X (.Call (.Name x p) [e] [] pos) (tMkX C f t) := by
  intro pins s σ H Q I h
  obtain ⟨nm, q, N, bs, sn, sub, ab, col, dd, k0, k1, k2, k3, k5, hC⟩ := T.cls
  refine wpAny_Call_Name_kw (ld_glob I hg hm ?_ hdb)
  refine PySem.W.callWith_K (h₀ := X.base) I.ok.mod.kin T.kC (thn (ha.run pos pins s σ H _ I h) fun us s1 ⟨vs, H1, I1, r1, v, ev, q1⟩ => ⟨I1.kIn, ?_⟩) he hpl
  subst ev
  obtain ⟨u, rfl, ru⟩ := vals1 r1
  show wpAny _ _ (call (.ref C) [u]) _ _ _
  obtain ⟨hp, g, dr, tk, os⟩ := s1
  have sz1 : hp.objs.size ≤ hp.objs.size + 1 := Nat.le_succ _
  have hn : H1 (hp.objs.size + 1) = none := I1.hok.fresh sz1
  have keep2 : ∀ b o, hp.get? b = some o → ((hp.push (PySem.W.kdv_tup [u])).push (PySem.HandSPX.excO C hp.objs.size)).get? b = some o := fun b o e => Heap.get?_push_of_some _ (Heap.get?_push_of_some _ e)
  have there : ((hp.push (PySem.W.kdv_tup [u])).push (PySem.HandSPX.excO C hp.objs.size)).get? (hp.objs.size + 1) = some (PySem.HandSPX.excO C hp.objs.size) := by heap_get
  have I2 : Inv X pins σ (upd H1 (hp.objs.size + 1) (exo (hp.objs.size + 1) C none)) ⟨(hp.push (PySem.W.kdv_tup [u])).push (PySem.HandSPX.excO C hp.objs.size), g, dr, tk, os⟩ :=
    I1.laid (t' := tk) keep2 sz1 (exo_ok there)
  have r2 : Vals [V.ref (hp.objs.size + 1), v] [Value.ref (hp.objs.size + 1), u] := .cons rfl (.cons ru .nil)
  have hq : spErr C f [V.ref (hp.objs.size + 1), v] (upd H1 (hp.objs.size + 1) (exo (hp.objs.size + 1) C none)) (fun z H2 => z = .non ∧ ∃ dx, H1 dx = none ∧ dx ≠ hp.objs.size + 1 ∧ H2 = upd (upd (upd H1 (hp.objs.size + 1) (exo (hp.objs.size + 1) C none)) dx (exd dx [(f, v)])) (hp.objs.size + 1) (exo (hp.objs.size + 1) C (some dx))) (fun _ _ _ => False) :=
    ⟨_, v, rfl, upd_same, fun dx n ne => ⟨rfl, dx, by rw [upd_ne ne] at n; exact n, ne, rfl⟩⟩
  have hl := F1.len _ _ _ _ hq
  refine wpAny_call (PySem.HandSPX.call_own m.F (fun Y => refs_has Y refs) (I1.kIn _ _ hC) (PySem.W.looks_findIn I1.kIn W.iC) (fun self => PySem.W.bind_fn I1.kIn self W.tI) (by rw [sizeLine_eq]; show 1 ≤ _; decide)
    (codeAny_mono (F1.run _ X.stack _ _ ⟨[Value.ref (hp.objs.size + 1), u], []⟩ [Value.ref (hp.objs.size + 1), u] _ _ (fun _ _ _ => False) (hr.make C [u] []) (I2.env0.make C [u] []) (by
      have z := hb ⟨(hp.push (PySem.W.kdv_tup [u])).push (PySem.HandSPX.excO C hp.objs.size), g, dr, tk, os⟩ [Value.ref (hp.objs.size + 1), u] I2.kIn (by simpa using hl)
      simpa using z) r2 hq) fun r s' hq' => ?_))
  match r, hq' with
  | .error er, hq' => exact (show False from hq').elim
  | .ok (.ret u'), hq' =>
    obtain ⟨z, H2, os2, bare2, un2, hok2, rv, ez, dx, n1, n2, eH⟩ := hq'
    subst ez
    obtain ⟨h2, g2, d2, t2, os'⟩ := s'
    have nd : ∀ {b : Addr} {o : HO}, H1 b = some o → b ≠ dx := fun {b o} e => ne_of_none e n1
    have na : ∀ {b : Addr} {o : HO}, H1 b = some o → b ≠ hp.objs.size + 1 := fun {b o} e => ne_of_none e hn
    refine ⟨rv, mk_end (raises_own (T.exC m) T.tyC) I1 sz1 keep2 un2 hok2 os2 bare2 (by rw [eH, upd_same]) (fs := [(f, v)]) (d := dx) (by rw [eH, upd_ne n2, upd_same]) n1 (q1 dx _ n1 (fun b o e => ?_) upd_same)⟩
    rw [upd_ne (nd e), del_ne (na e), eH, upd_ne (na e), upd_ne (nd e), upd_ne (na e)]
    exact e
  | .ok .next, hq' => exact False.elim hq'
  | .ok .brk, hq' => exact False.elim hq'
  | .ok .cont, hq' => exact False.elim hq'
/-- raise C(v) -/
def tRse (t : L2.St → Hp → XK → Prop) (E : XK) : TS := fun _ σ H => t σ H E
theorem c_rse {E : XK} {D : Ends} {σ : L2.St} {H : Hp} (h : t σ H fun vs H1 => rMkX C f vs H1 E) : tRse (tMkX C f t) E D σ H := h
theorem c_rsd {E : XK} {v : V} {H : Hp} (h : Rsd C f v H E) : rMkX C f [v] H E := ⟨v, rfl, h⟩
theorem ps_rse {E : XK} {t : L2.St → Hp → XK → Prop} {E₁ : Value → Shared → Prop} (he : PMk X e t) (hc : X.calm = true := by rfl) (hs : X.stack = X.env :: X.outer := by rfl) (hf : X.env.frame = some X.env.locals := by rfl) (hex : X.ex = [] := by rfl)
    (hx : X.xe = fun e s' => wpAny (model X.prog X.w) X.A (leaving X.env e) (fun _ s'' => L2.CX X.prog X.w X.outer X.H_0 X.s_0 E e s'') E₁ s' := by rfl) : PS X (.Raise (some e) none pos) (tRse t E) :=
  ps_raise hc (takesE hs hf hex hx) he
end
/-- a promise of either kind -/
theorem FnOk.or {P : Program} {w : World} {K : PySem.W.Frag} {mg : Str → Option Value} {base : Heap} {k : Nat} {f : Addr} {fd : FuncData} {ps : List Str} {sp sp' : Sp} (F : FnOk P w K mg base CX0 k f fd ps sp) (G : FnOk P w K mg base (L2.CX P w) k f fd ps sp') :
    FnOk P w K mg base (L2.CX P w) k f fd ps (fun vs H Q E => sp vs H Q E ∨ sp' vs H Q E) := by
  refine ⟨fun vs H Q E h => h.elim (F.len vs H Q E) (G.len vs H Q E), fun A outer s H args us vs Q E r e0 b v h => ?_⟩
  rcases h with h | h
  · refine codeAny_mono (F.run A outer s H args us vs Q E r e0 b v h) fun z s' q => ?_
    match z, q with
    | .error e, q => exact (show False from q).elim
    | .ok (.ret u), q => exact q
    | .ok .next, q => exact False.elim q
    | .ok .brk, q => exact False.elim q
    | .ok .cont, q => exact False.elim q
  · exact G.run A outer s H args us vs Q E r e0 b v h
/-- .. whose errors are not of interest -/
theorem FnOk.cx {P : Program} {w : World} {K : PySem.W.Frag} {mg : Str → Option Value} {base : Heap} {k : Nat} {f : Addr} {fd : FuncData} {ps : List Str} {sp : Sp} (F : FnOk P w K mg base CX0 k f fd ps sp) : FnOk P w K mg base (L2.CX P w) k f fd ps sp :=
  ⟨F.len, fun A outer s H args us vs Q E r e0 b v h => codeAny_mono (F.run A outer s H args us vs Q E r e0 b v h) fun z s' q => match z, q with
    | .error _, q => (show False from q).elim
    | .ok (.ret _), q => q
    | .ok .next, q => False.elim q
    | .ok .brk, q => False.elim q
    | .ok .cont, q => False.elim q⟩
/-! ### try: .. except (x1, x2, x3) as n: suite -/
theorem flyZ_keeps {B : Heap} {l : List Env} {e : Addr} {Z : Obj → Prop} {h h' : Heap} (F : FlyingZ B l e Z h) (k : ∀ b o, h.get? b = some o → h'.get? b = some o) : FlyingZ B l e Z h' := by
  obtain ⟨f1, f2, f3, oe, vs, T, oT, ts, he, hz, hd, h1, hn, hne, hT, hdT, h3⟩ := F
  exact ⟨fun b o q => k b o (f1 b o q), f2, f3.of_keeps fun b o q _ => ⟨o, k b o q, rfl⟩, oe, vs, T, oT, ts, k _ _ he, hz, hd, h1, hn, hne, k _ _ hT, hdT, h3⟩
/-- the ends of a suite at whose end the slot i is gone -/
def goneD (i : Nat) (D : Ends) : Ends := { nx := fun σ' H' => D.nx (σ'.set i none) H', rt := D.rt, bk := fun σ' H' => D.bk (σ'.set i none) H', ct := fun σ' H' => D.ct (σ'.set i none) H' }
def wT (K : PySem.W.Frag) (cs : List Value) (i n : Nat) (ts : TS) (D : Ends) : WX := fun cls d σ H =>
  PySem.W.exmAny K cls cs = some true ∧ ∀ a oe, σ.length = n → H a = none → oe.cls = cls → oe.dict = d → PySem.W.notCls oe = true → ts (goneD i D) (σ.set i (some (.ref a))) (upd H a (exq a oe))
def tTry (K : PySem.W.Frag) (cs : List Value) (i n : Nat) (tb : WX → TS) (ts : TS) : TS := fun D σ H => tb (wT K cs i n ts D) D σ H
section
variable {X : Cx} {pins : List (Addr × Obj)} {σ : L2.St} {H : Hp} {s : Shared}
/-- the caught error is tracked, where the suite begins -/
theorem suite_in {B : Heap} {a : Addr} {oe : Obj} {sI s' : Shared} (ok : X.Ok) (J : Inv X pins σ H sI) (nb : ∀ b o, sI.heap.get? b = some o → b ∉ frs X.stack → B.get? b = some o) (nB : B.get? a = none) (nF : a ∉ frs X.stack)
    (st : B.StaysIn s'.heap) (up : sI.heap.UpToSlots s'.heap) (os : s'.os = sI.os) (ag : AllBare s'.gens) (he : s'.heap.get? a = some oe) (na : H a = none) : Inv (X.suite a (X.pn ++ pins)) [] σ (upd H a (exq a oe)) s' := by
  obtain ⟨G, g1, g2⟩ := restrict s'.heap fun b => decide (b ≠ a)
  have gk : ∀ b, b ≠ a → G.get? b = s'.heap.get? b := fun b hb => g1 b (decide_eq_true hb)
  have ga : G.get? a = none := g2 a (by simp)
  have nI : sI.heap.get? a = none := by
    cases q : sI.heap.get? a with
    | none => rfl
    | some o =>
      have z := nb a o q nF
      rw [nB] at z
      cases z
  have stG : B.StaysIn G := fun b o e => by
    have hb : b ≠ a := fun z => by
      rw [z, nB] at e
      cases e
    rw [gk b hb]
    exact st b o e
  have upG : sI.heap.UpToSlots G := fun b o e hd => by
    have hb : b ≠ a := fun z => by
      rw [z, nI] at e
      cases e
    rw [gk b hb]
    exact up b o e hd
  have J1 : Inv X pins σ H ⟨G, s'.gens, s'.drawn, s'.toks, s'.os⟩ := J.landed (s' := ⟨G, s'.gens, s'.drawn, s'.toks, s'.os⟩) nb stG upG os ag
  have J2 : Inv X pins σ (upd H a (exq a oe)) s' := J1.laidN (t' := s'.toks) (h' := s'.heap) (fun b o e => by
    have hb : b ≠ a := fun z => by
      rw [z, ga] at e
      cases e
    rw [← gk b hb]
    exact e) ga na (exq_ok he)
  exact ⟨ok.suite _ _, J2.os, J2.bare, J2.base, J2.loc, J2.cell, J2.free, J2.freeC, fun p hp => J2.pin p (by rw [List.append_nil] at hp; exact hp), J2.hok, J2.len⟩
theorem suite_out {a : Addr} {pn' : List (Addr × Obj)} (I : Inv (X.suite a (X.pn ++ pins)) pn' σ H s) (ok : X.Ok) : Inv X pins σ H s :=
  ⟨ok, I.os, I.bare, I.base, I.loc, I.cell, I.free, I.freeC, fun p hp => I.pin p (List.mem_append_left _ hp), I.hok, I.len⟩
end
section
variable {X : Cx} {x1 x2 x3 n : Str} {c1 c2 c3 : Value} {i kk : Nat} {body suite : List Stmt} {b₀ : Stmt} {p1 p2 p3 tp pos pos' : Pos} {tb : WX → TS} {ts : TS}
theorem ps_tryT (hs : X.stack = X.env :: X.outer) (hf : X.env.frame = some X.env.locals) (hN : X.N.Nodup) (hi : X.N[i]? = some n) (hln : X.env.kindOf n = some .local) (n1 : Names X x1 c1) (n2 : Names X x2 c2) (n3 : Names X x3 c3)
    (hb : ∀ (W : WX) (pn : List (Addr × Obj)) (xe : Value → Shared → Prop), Takes (X.tr pn xe) W → PSs (X.tr pn xe) body (tb W)) (hsu : ∀ (a : Addr) (pn : List (Addr × Obj)), PSs (X.suite a pn) (b₀ :: suite) ts) :
    PS X (.Try body [.ExceptHandler (some (.Tuple [.Name x1 p1, .Name x2 p2, .Name x3 p3] kk tp)) (some n) (b₀ :: suite) pos'] [] [] pos) (tTry X.K [c1, c2, c3] i X.N.length tb ts) := by
  refine ⟨fun pins s σ H D I h => ?_⟩
  have ok := I.ok
  have fr2 : X.A.frames = some (X.env :: X.outer) := by rw [ok.frames, hs]
  refine wpAny_Try_except ?_
  refine wpAny_mono ((hb (wT X.K [c1, c2, c3] i X.N.length ts D) (X.pn ++ pins) _ (fun u s' xx => ?_)).run [] s σ H D (I.toTry (fun e s₁ => wpAny (model X.prog X.w) X.A (noteFrame e X.env) (fun _ s₂ => wpAny (model X.prog X.w) X.A (setFlight e none) (fun _ s₃ =>
    wpAny (model X.prog X.w) X.A (handleBy e X.env [.ExceptHandler (some (.Tuple [.Name x1 p1, .Name x2 p2, .Name x3 p3] kk tp)) (some n) (b₀ :: suite) pos']) (SP X pins D) X.xe s₃) X.xe s₂) X.xe s₁)) h) (fun f s1 hsp => ?_) (fun e s1 he => he)
  · obtain ⟨a, B, sI, pins', σ', H', cls, d, rfl, J', nb, up, sky, na, os, ag, ex, hyes⟩ := xx
    have J : Inv X pins σ' H' sI := J'.ofTry ok
    have sky' : Sky B (X.env :: X.outer) a (Zc cls d) X.env.locals s'.heap := by rw [← hs]; exact sky
    show wpAny (model X.prog X.w) X.A (noteFrame (.ref a) X.env) _ _ _
    refine Sky.land Zc.steady fr2 hf sky' fun h3 fl3 up3 => ?_
    have J3 : Inv X pins σ' H' ⟨h3, s'.gens, s'.drawn, s'.toks, s'.os⟩ := J.landed (s' := ⟨h3, s'.gens, s'.drawn, s'.toks, s'.os⟩) nb fl3.1 (up.trans up3) os ag
    obtain ⟨oe3, vs3, he3, hz3, hd3⟩ := fl3.there
    have nfr : a ∉ frs (X.env :: X.outer) := fun hm => by
      obtain ⟨_, o', e', hnf⟩ := fl3.2.2.1.mem hm
      rw [he3] at e'
      cases e'
      exact hnf _ hd3
    have nL : a ≠ X.env.locals := fun z => nfr (List.mem_filterMap.mpr ⟨X.env, List.mem_cons_self, by rw [hf, z]⟩)
    have nF : a ∉ X.fs := fun hm => by
      obtain ⟨e, he, q⟩ := List.mem_filterMap.mp hm
      exact nfr (List.mem_filterMap.mpr ⟨e, List.mem_cons_of_mem _ he, q⟩)
    have nfr' : a ∉ frs X.stack := by
      rw [hs]
      exact nfr
    have S3 := J3.suite he3 hd3 na nL nF
    refine wpAny_handleBy_cons (codeAny_handlers_test ?_) (by intro q; cases q)
    have LT : PySem.W.Looks (model X.prog X.w) h3 (typeOf (.ref a)) cls := fun A Q E s k q => wpAny_typeOf_ref (k _ _ he3) (by rw [hz3.1]; exact q)
    have name : ∀ {x : Str} {c : Value} {np : Pos} {Q : Value → Shared → Prop} {E : Value → Shared → Prop}, Names X x c → Q c ⟨h3, s'.gens, s'.drawn, s'.toks, s'.os⟩ → wpAny (model X.prog X.w) (X.A.mark (some (.ref a))) (eval (.Name x np) X.env) Q E ⟨h3, s'.gens, s'.drawn, s'.toks, s'.os⟩ := fun {x c np Q E} hc q => by
      obtain ⟨hg, hdbg, hm | ⟨hm, hv, hnn⟩⟩ := hc
      · exact ld_glob (X := X.suite a ((a, oe3) :: (X.pn ++ pins))) S3 hg hm q hdbg
      · exact ld_blt (X := X.suite a ((a, oe3) :: (X.pn ++ pins))) S3 hg hm hv q hnn hdbg
    refine wpAny_Tuple (wpAny_items_cons (name n1 (wpAny_items_cons (name n2 (wpAny_items_cons (name n3 (wpAny_items_nil ⟨by size_fits, ?_⟩)))))))
    have kp : ∀ b o, h3.get? b = some o → (h3.push { cls := .type "tuple", data := .seq [c1, c2, c3].toArray }).get? b = some o := fun _ _ z => Heap.get?_push_of_some _ z
    have fl3' := flyZ_keeps fl3 kp
    have up3' : h3.UpToSlots (h3.push { cls := .type "tuple", data := .seq [c1, c2, c3].toArray }) := Heap.UpToSlots.of_keeps kp
    refine (PySem.W.exm_tup3 (J3.kIn.keeps kp) (LT.keeps kp) (Heap.get?_push_size h3 rfl) ex).here ?_
    refine codeAny_handlers_suite_as ?_
    refine HandSPX.lands_againZ fl3' fun h4 fl4 up4 => ?_
    obtain ⟨oe4, vs4, he4, hz4, hd4⟩ := fl4.there
    have S4 := suite_in (s' := ⟨h4, s'.gens, s'.drawn, s'.toks, s'.os⟩) ok J nb fl3.2.1 nfr' fl4.1 (((up.trans up3).trans up3').trans up4) os ag he4 na
    refine store_ok (X := X.suite a (X.pn ++ pins)) (v := .ref a) S4 hN hi (.inl hln) rfl (fun s5 S5 => ?_) (.inr hln)
    refine wpAny_mono ((hsu a (X.pn ++ pins)).run [] s5 _ _ _ S5 (hyes a oe4 J.len na hz4.1 hz4.2 (by unfold PySem.W.notCls; rw [hd4]))) (fun f s6 hsp => ?_) (fun _ _ z => False.elim z)
    have end_ : ∀ {σ6 : L2.St} {H6 : Hp} {Q : Shared → Prop}, Inv (X.suite a (X.pn ++ pins)) [] σ6 H6 s6 → (∀ s7, Inv X pins (σ6.set i none) H6 s7 → Q s7) →
        wpAny (model X.prog X.w) X.A (do bindName X.env n .none; unbindBehindTheSuite X.env n pos') (fun _ s7 => Q s7) X.xe s6 := fun {σ6 H6 Q} S6 hq => gone_ok (suite_out S6 ok) hN hi hln hq
    match f, hsp with
    | .next, ⟨σ6, H6, S6, q6⟩ => exact end_ S6 fun s7 J7 => ⟨_, _, J7, q6⟩
    | .brk, ⟨σ6, H6, S6, q6⟩ => exact end_ S6 fun s7 J7 => ⟨_, _, J7, q6⟩
    | .cont, ⟨σ6, H6, S6, q6⟩ => exact end_ S6 fun s7 J7 => ⟨_, _, J7, q6⟩
    | .ret u, ⟨v6, σ6, H6, S6, r6, q6⟩ => exact end_ S6 fun s7 J7 => ⟨_, _, _, J7, r6, q6⟩
  · match f, hsp with
    | .next, ⟨σ', H', J', q⟩ => exact wpAny_execs_nil ⟨σ', H', J'.ofTry ok, q⟩
    | .brk, ⟨σ', H', J', q⟩ => exact ⟨σ', H', J'.ofTry ok, q⟩
    | .cont, ⟨σ', H', J', q⟩ => exact ⟨σ', H', J'.ofTry ok, q⟩
    | .ret u, ⟨v, σ', H', J', r, q⟩ => exact ⟨v, σ', H', J'.ofTry ok, r, q⟩
end
end Und
/-! texts: what split, partition, startswith, endswith and int make of joined parts -/
namespace Und
open PySem PySem.StrLaws Builtin Builtin.Str
/-- the signs of parts with two signs between -/
def jc (a b : Nat) : List Str → List Nat
  | [] => []
  | x :: r => x.cps.toList ++ (match r with
    | [] => []
    | _ :: _ => a :: b :: jc a b r)
theorem jc_one (a b : Nat) (x : Str) : jc a b [x] = x.cps.toList := by
  show x.cps.toList ++ [] = _
  rw [List.append_nil]
theorem jc_cons (a b : Nat) (x y : Str) (r : List Str) : jc a b (x :: y :: r) = x.cps.toList ++ a :: b :: jc a b (y :: r) := rfl
theorem join_codes (a b : Nat) : ∀ xs : List Str, (Str.join ⟨#[a, b]⟩ xs).cps.toList = jc a b xs
  | [] => rfl
  | [x] => (jc_one a b x).symm
  | x :: y :: r => by
    show ((x ++ ⟨#[a, b]⟩) ++ Str.join ⟨#[a, b]⟩ (y :: r) : Str).cps.toList = _
    rw [PySem.Str.cps_append, PySem.Str.cps_append, Array.toList_append, Array.toList_append, join_codes a b (y :: r), jc_cons]
    simp
theorem join_codes' (a b : Nat) (xs : List Str) : (Txt.join ⟨#[a, b]⟩ xs).cps.toList = jc a b xs := by
  rw [← join_codes, ← glued_eq_join]
  rfl
theorem at_iff {x : Str} {a b k : Nat} : At x ⟨#[a, b]⟩ x.length k ↔ (x.cps.toList.drop k).take 2 = [a, b] := by
  have hl : x.cps.toList.length = x.length := Array.length_toList
  unfold At
  rw [subAt_eq]
  constructor
  · rintro ⟨_, h⟩
    exact eq_of_beq h
  · intro h
    have h2 := congrArg List.length h
    rw [List.length_take, List.length_drop, hl] at h2
    refine ⟨?_, ?_⟩
    · show k + 2 ≤ x.length
      simp at h2
      omega
    · show ((x.cps.toList.drop k).take 2 == [a, b]) = true
      rw [h]
      simp
theorem drop_more {l m : List Nat} {k : Nat} (h : l.drop k = m) (j : Nat) : l.drop (k + j) = m.drop j := by
  rw [← h, List.drop_drop]
/-- where the pieces are joined the cuts are the joints -/
theorem parts_of (a b : Nat) (x : Str) : ∀ (cuts : List Nat) (p : Str) (ps : List Str) (k f : Nat), x.cps.toList.drop k = jc a b (p :: ps) → (∀ z ∈ p :: ps, a ∉ z.cps.toList) → ChainG x ⟨#[a, b]⟩ x.length k cuts f → (∀ j, f ≤ j → ¬ At x ⟨#[a, b]⟩ x.length j) → partsFrom x 2 k cuts = p :: ps
  | [], p, ps, k, f, hd, hz, hc, hn => by
    have hl : x.cps.toList.length = x.length := Array.length_toList
    have e : f = k := hc
    subst e
    cases ps with
    | nil =>
      rw [jc_one] at hd
      show [strSub x f x.length] = [p]
      congr 1
      refine PySem.Str.ext' (Array.toList_inj.mp ?_)
      rw [strSub_toList, hd, List.take_of_length_le]
      have := congrArg List.length hd
      rw [List.length_drop, hl] at this
      omega
    | cons q qs =>
      exfalso
      refine hn (f + p.cps.toList.length) (by omega) (at_iff.mpr ?_)
      rw [drop_more hd, jc_cons, List.drop_left]
      rfl
  | c :: r, p, ps, k, f, hd, hz, hc, hn => by
    have hl : x.cps.toList.length = x.length := Array.length_toList
    obtain ⟨h1, h2, h3, h4⟩ := hc
    obtain ⟨d, rfl⟩ : ∃ d, c = k + d := ⟨c - k, by omega⟩
    have hA := at_iff.mp h2
    rw [drop_more hd] at hA
    have hp := hz p List.mem_cons_self
    -- a sign of the first part is no joint
    have hge : ¬ d < p.cps.toList.length := fun hlt => by
      have : (p.cps.toList.drop d).head? = some a := by
        cases ps with
        | nil =>
          rw [jc_one] at hA
          cases e : p.cps.toList.drop d with
          | nil => rw [e] at hA; cases hA
          | cons u v =>
            rw [e] at hA
            have := List.cons.inj hA
            rw [this.1]
            rfl
        | cons q qs =>
          rw [jc_cons, List.drop_append_of_le_length (by omega)] at hA
          cases e : p.cps.toList.drop d with
          | nil =>
            have := congrArg List.length e
            rw [List.length_drop] at this
            simp at this
            simp at hlt
            omega
          | cons u v =>
            rw [e] at hA
            have := List.cons.inj hA
            rw [this.1]
            rfl
      exact hp (List.mem_of_mem_drop (List.mem_of_mem_head? (by rw [this]; rfl)))
    cases ps with
    | nil =>
      exfalso
      rw [jc_one, List.drop_eq_nil_of_le (by omega)] at hA
      cases hA
    | cons q qs =>
      have hd' : d = p.cps.toList.length := by
        by_cases hgt : p.cps.toList.length < d
        · exfalso
          refine h3 (k + p.cps.toList.length) (by omega) (by omega) (at_iff.mpr ?_)
          rw [drop_more hd, jc_cons, List.drop_left]
          rfl
        · omega
      subst hd'
      have e1 : strSub x k (k + p.cps.toList.length) = p := by
        refine PySem.Str.ext' (Array.toList_inj.mp ?_)
        rw [strSub_toList, hd, jc_cons, show k + p.cps.toList.length - k = p.cps.toList.length from by omega, List.take_left]
      show strSub x k (k + p.cps.toList.length) :: partsFrom x 2 (k + p.cps.toList.length + 2) r = p :: q :: qs
      rw [e1]
      congr 1
      refine parts_of a b x r q qs _ f ?_ (fun z h => hz z (List.mem_cons_of_mem _ h)) h4 hn
      rw [Nat.add_assoc, drop_more hd, jc_cons, ← List.drop_drop, List.drop_left]
      rfl
theorem kind_low (x y : Str) (h : y.cps.all (· < 256) = true) : decide (Builtin.Str.strKind x < Builtin.Str.strKind y) = false := by
  refine decide_eq_false ?_
  unfold Builtin.Str.strKind
  rw [if_pos h]
  split
  · omega
  · split <;> omega
theorem split_join {a b : Nat} (ha : a < 256) (hb : b < 256) (p : Str) (ps : List Str) (hz : ∀ z ∈ p :: ps, a ∉ z.cps.toList) : Txt.split (Txt.join ⟨#[a, b]⟩ (p :: ps)) ⟨#[a, b]⟩ = p :: ps := by
  have hcodes := join_codes' a b (p :: ps)
  generalize hx : Txt.join ⟨#[a, b]⟩ (p :: ps) = x at *
  have hl : x.cps.toList.length = x.length := Array.length_toList
  obtain ⟨f, hc, hn⟩ := occ_tight x ⟨#[a, b]⟩ (by show 1 ≤ 2; omega)
  have key := parts_of a b x _ p ps 0 f (by rw [List.drop_zero]; exact hcodes) hz hc hn
  have e0 : partsFrom x 2 0 [] = [x] := by
    show [strSub x 0 x.length] = [x]
    rw [sub_whole]
  have hk : decide (Builtin.Str.strKind x < Builtin.Str.strKind ⟨#[a, b]⟩) = false := kind_low x _ (by simp [ha, hb])
  unfold Txt.split
  rw [hk, Bool.or_false]
  by_cases h1 : x.length < 2
  · rw [if_pos (decide_eq_true (show x.length < (⟨#[a, b]⟩ : Str).length from h1))]
    cases ps with
    | nil =>
      rw [jc_one] at hcodes
      have : x = p := PySem.Str.ext' (Array.toList_inj.mp hcodes)
      rw [this]
    | cons q qs =>
      exfalso
      have := congrArg List.length hcodes
      rw [jc_cons, List.length_append, hl] at this
      simp at this
      omega
  · rw [if_neg (by
      rw [decide_eq_true_eq]
      exact h1)]
    split
    · rename_i he
      rw [List.isEmpty_iff.mp he] at key
      rw [← key, e0]
    · rw [partsBetween_eq]
      exact key
end Und
namespace Und
open PySem PySem.W PySem.StrLaws PySem.NumText PyProof.Rows Builtin Builtin.Str
/-! ### numbers as texts -/
abbrev nt (n : Int) : Str := Str.ofString (toString n)
theorem nt_signs (m : Nat) : (nt (m : Int)).cps.toList = (Nat.toDigits 10 m).map Char.toNat := PySem.W.KIN.signs_num m
theorem nt_dig (m : Nat) : AllDigits (nt (m : Int)).cps.toList := fun c hc => by
  rw [nt_signs] at hc
  obtain ⟨d, hd, rfl⟩ := List.mem_map.mp hc
  exact digit_range (Nat.isDigit_of_mem_toDigits (by decide) (by decide) hd)
/-- the first sign of a number from 1 on is 1 to 9 -/
theorem nt_first : ∀ m : Nat, 1 ≤ m → ∃ c r, (Nat.toDigits 10 m).map Char.toNat = c :: r ∧ 49 ≤ c ∧ c ≤ 57 := by
  intro m
  induction m using Nat.strongRecOn with
  | _ m ih =>
    intro h1
    by_cases h : m < 10
    · rw [Nat.toDigits_of_lt_base h]
      refine ⟨_, [], rfl, ?_⟩
      have t : ∀ d : Nat, d < 10 → 1 ≤ d → 49 ≤ (Nat.digitChar d).toNat ∧ (Nat.digitChar d).toNat ≤ 57 := by decide
      exact t m h h1
    · obtain ⟨c, r, e, hc⟩ := ih (m / 10) (by omega) (by omega)
      have t := Nat.toDigits_append_toDigits (b := 10) (n := m / 10) (d := m % 10) (by decide) (by omega) (Nat.mod_lt m (by decide))
      rw [Nat.div_add_mod] at t
      rw [← t, List.map_append, e]
      exact ⟨c, _, rfl, hc⟩
theorem nt_len {n : Int} (h0 : 0 ≤ n) (h : n < 10 ^ 500) : (nt n).length ≤ 600 := Nat.le_trans (toString_length_le h0 (by decide) h) (by decide)
theorem nt_reads {n : Int} (h0 : 1 ≤ n) (h1 : n < 10 ^ 500) : PySem.intText? (nt n) = some n := by
  have hl := nt_len (by omega) h1
  obtain ⟨m, rfl⟩ : ∃ m : Nat, n = (m : Int) := ⟨n.toNat, by omega⟩
  obtain ⟨c, r, e, _⟩ := nt_first m (by omega)
  have z := intText_digits (nt_dig m) (by rw [nt_signs, e]; exact List.cons_ne_nil _ _) (by omega)
  rw [nt_signs, PySem.W.KIN.val_back] at z
  exact z
theorem nt_fst {n : Int} (h0 : 1 ≤ n) : ∃ c r, (nt n).cps.toList = c :: r ∧ 49 ≤ c ∧ c ≤ 57 := by
  obtain ⟨m, rfl⟩ : ∃ m : Nat, n = (m : Int) := ⟨n.toNat, by omega⟩
  obtain ⟨c, r, e, h⟩ := nt_first m (by omega)
  exact ⟨c, r, (nt_signs m).trans e, h⟩
theorem nt_all {n : Int} (h0 : 0 ≤ n) : ∀ c ∈ (nt n).cps.toList, 48 ≤ c ∧ c ≤ 57 := by
  obtain ⟨m, rfl⟩ : ∃ m : Nat, n = (m : Int) := ⟨n.toNat, by omega⟩
  exact nt_dig m
theorem digit_table : ∀ c < 58, 48 ≤ c → Unicode.isDigit c = true := by decide +kernel
theorem nt_isdigit {n : Int} (h0 : 1 ≤ n) : Txt.isdigit (nt n) = true := by
  obtain ⟨c, r, e, _⟩ := nt_fst h0
  unfold Txt.isdigit
  have hl : (nt n).length > 0 := by
    rw [← len_codes, e]
    exact Nat.succ_pos _
  rw [decide_eq_true hl, Bool.true_and, ← Array.all_toList, List.all_eq_true]
  exact fun d hd => digit_table d (by have := nt_all (by omega : (0 : Int) ≤ n) d hd; omega) (nt_all (by omega) d hd).1
theorem nt_isascii {n : Int} (h0 : 1 ≤ n) : Txt.isascii (nt n) = true := by
  unfold Txt.isascii
  rw [← Array.all_toList, List.all_eq_true]
  exact fun d hd => decide_eq_true (by have := nt_all (by omega : (0 : Int) ≤ n) d hd; omega)
/-! ### cut at the first space -/
theorem one_at {x : Str} {c i : Nat} : At x ⟨#[c]⟩ x.length i ↔ x.cps.toList[i]? = some c := subAt_one x c i
theorem part_at (c : Nat) (a r : Str) (h : c ∉ a.cps.toList) : Txt.partition (a ++ ⟨#[c]⟩ ++ r) ⟨#[c]⟩ = (a, ⟨#[c]⟩, r) := by
  have hc : (a ++ ⟨#[c]⟩ ++ r : Str).cps.toList = a.cps.toList ++ c :: r.cps.toList := by
    rw [PySem.Str.cps_append, PySem.Str.cps_append, Array.toList_append, Array.toList_append]
    simp
  generalize hx : (a ++ ⟨#[c]⟩ ++ r : Str) = x at *
  have hl : x.cps.toList.length = x.length := Array.length_toList
  have here : At x ⟨#[c]⟩ x.length a.cps.toList.length := one_at.mpr (by rw [hc, List.getElem?_append_right (Nat.le_refl _), Nat.sub_self]; rfl)
  rcases occ_head x ⟨#[c]⟩ 1 (Nat.le_refl 1) with ⟨_, hn⟩ | ⟨i, t, e, hi, hb⟩
  · exact absurd here (hn _)
  · have ei : i = a.cps.toList.length := by
      by_cases h1 : i < a.cps.toList.length
      · exfalso
        have z := one_at.mp hi
        rw [hc, List.getElem?_append_left h1] at z
        exact h (List.mem_of_getElem? z)
      · by_cases h2 : a.cps.toList.length < i
        · exact absurd here (hb _ h2)
        · omega
    unfold Txt.partition
    rw [e]
    subst ei
    show (strSub x 0 a.cps.toList.length, (⟨#[c]⟩ : Str), strSub x (a.cps.toList.length + 1) x.length) = _
    have e1 : strSub x 0 a.cps.toList.length = a := by
      refine PySem.Str.ext' (Array.toList_inj.mp ?_)
      rw [strSub_toList, List.drop_zero, Nat.sub_zero, hc, List.take_left]
    have e2 : strSub x (a.cps.toList.length + 1) x.length = r := by
      refine PySem.Str.ext' (Array.toList_inj.mp ?_)
      rw [strSub_toList, hc, ← List.drop_drop, List.drop_left]
      show List.take _ r.cps.toList = _
      refine List.take_of_length_le ?_
      have := congrArg List.length hc
      rw [List.length_append, List.length_cons, hl] at this
      omega
    rw [e1, e2]
/-- what stands between a beginning and an end -/
theorem mid_cut (p m q : Str) (hq : 1 ≤ q.length) : L2.cutS (p ++ m ++ q) (some (p.length : Int)) (some (-(q.length : Int))) = m := by
  have hc : (p ++ m ++ q : Str).cps.toList = p.cps.toList ++ (m.cps.toList ++ q.cps.toList) := by
    rw [PySem.Str.cps_append, PySem.Str.cps_append, Array.toList_append, Array.toList_append]
    simp
  have hlen : (p ++ m ++ q : Str).length = p.length + m.length + q.length := by rw [PySem.Str.length_append, PySem.Str.length_append]
  refine PySem.Str.ext' (Array.toList_inj.mp ?_)
  unfold L2.cutS
  have i1 : HT.sIx (p ++ m ++ q : Str).length 0 (some (p.length : Int)) = p.length := by
    rw [HT.sIx_nat, hlen]
    omega
  have i2 : HT.sIx (p ++ m ++ q : Str).length (p ++ m ++ q : Str).length (some (-(q.length : Int))) = p.length + m.length := by
    show (if -(q.length : Int) < 0 then _ else _) = _
    rw [if_pos (by omega), hlen]
    omega
  rw [i1, i2, hc]
  show List.take _ (List.drop p.length _) = _
  rw [← len_codes p, List.drop_left, show p.cps.toList.length + m.length - p.cps.toList.length = m.cps.toList.length from by rw [len_codes m]; omega, List.take_left]
theorem nt_log {n : Int} (h0 : 0 ≤ n) (h : n < 10 ^ 500) : n.natAbs.log2 < 1920 := by
  have h1 : n.natAbs < 10 ^ 500 := by
    have e : ((n.natAbs : Nat) : Int) = n := Int.natAbs_of_nonneg h0
    rw [← e] at h
    exact_mod_cast h
  exact PySem.Flt.log2_lt_of (by decide) (Nat.lt_trans h1 (by decide))
end Und
namespace Und
open PySem
/-! the texts of commands and of programs, and what cutting them gives -/
abbrev sp1 : Str := ⟨#[32]⟩
def amT : Option Int → Str
  | none => Str.ofString "all"
  | some n => nt n
def mvT (m : Mv) : Str := wdM m.1 ++ sp1 ++ amT m.2
abbrev sepC : Str := ⟨#[44, 32]⟩
abbrev sepS : Str := ⟨#[59, 32]⟩
abbrev opnT : Str := Str.ofString "times ("
abbrev clsT : Str := Str.ofString ")"
def cmT : Cmd → Str
  | .dd z => Str.ofString "do" ++ sp1 ++ z
  | .mv m => mvT m
  | .rep n ms => nt n ++ sp1 ++ (opnT ++ Txt.join sepC (ms.map mvT) ++ clsT)
def pgT (cs : List Cmd) : Str := match cs with
  | [] => Str.ofString "nothing"
  | _ :: _ => Txt.join sepS (cs.map cmT)
/-- an amount that is one, not too great to be written -/
def AmOk : Option Int → Prop
  | none => True
  | some n => 1 ≤ n ∧ n < 10 ^ 500
def MvOk (m : Mv) : Prop := AmOk m.2
def CmdOk : Cmd → Prop
  | .dd z => IsName z
  | .mv m => MvOk m
  | .rep n ms => 1 ≤ n ∧ n < 10 ^ 500 ∧ ms ≠ [] ∧ ∀ m ∈ ms, MvOk m
/-- x has no sign of the list -/
def Free (bad : List Nat) (x : Str) : Prop := ∀ c ∈ x.cps.toList, c ∉ bad
def freeB (bad : List Nat) (x : Str) : Bool := x.cps.toList.all fun c => !bad.contains c
theorem free_of {bad : List Nat} {x : Str} (h : freeB bad x = true) : Free bad x := fun c hc => by
  have := List.all_eq_true.mp h c hc
  simpa using this
theorem Free.app {bad : List Nat} {x y : Str} (h : Free bad x) (g : Free bad y) : Free bad (x ++ y) := fun c hc => by
  rw [PySem.Str.cps_append, Array.toList_append] at hc
  rcases List.mem_append.mp hc with hc | hc
  · exact h c hc
  · exact g c hc
theorem free_name {z : Str} (h : IsName z) : Free [59, 44, 32, 41] z := fun c hc hb => by
  have := h.low c hc
  simp at hb
  omega
theorem free_nt {n : Int} (h : 0 ≤ n) : Free [59, 44, 32, 41] (nt n) := fun c hc hb => by
  have := nt_all h c hc
  simp at hb
  omega
theorem Free.sub {bad bad' : List Nat} {x : Str} (h : Free bad x) (s : ∀ b ∈ bad', b ∈ bad) : Free bad' x := fun c hc hb => h c hc (s c hb)
theorem free_am {am : Option Int} (h : AmOk am) : Free [59, 44, 32, 41] (amT am) := by
  cases am with
  | none => exact free_of (by decide +kernel)
  | some n => exact free_nt (by have := h.1; omega)
theorem wd_free : ∀ b : Bool, freeB [59, 44, 32] (wdM b) = true := by decide +kernel
theorem free_mv {m : Mv} (h : MvOk m) : Free [59, 44] (mvT m) := by
  exact Free.app (Free.app ((free_of (wd_free m.1)).sub (by simp)) (free_of (by decide +kernel))) ((free_am h).sub (by simp))
theorem free_jc {a b : Nat} {bad : List Nat} (ha : a ∉ bad) (hb : b ∉ bad) : ∀ xs : List Str, (∀ x ∈ xs, Free bad x) → ∀ c ∈ jc a b xs, c ∉ bad
  | [], _, c, hc => by cases hc
  | [x], h, c, hc => by
    rw [jc_one] at hc
    exact h x List.mem_cons_self c hc
  | x :: y :: r, h, c, hc => by
    rw [jc_cons] at hc
    rcases List.mem_append.mp hc with hc | hc
    · exact h x List.mem_cons_self c hc
    · rcases List.mem_cons.mp hc with rfl | hc
      · exact ha
      · rcases List.mem_cons.mp hc with rfl | hc
        · exact hb
        · exact free_jc ha hb (y :: r) (fun z hz => h z (List.mem_cons_of_mem _ hz)) c hc
theorem free_join {bad : List Nat} {a b : Nat} (ha : a ∉ bad) (hb : b ∉ bad) {xs : List Str} (h : ∀ x ∈ xs, Free bad x) : Free bad (Txt.join ⟨#[a, b]⟩ xs) := fun c hc => by
  rw [join_codes'] at hc
  exact free_jc ha hb xs h c hc
theorem free_cm {c : Cmd} (h : CmdOk c) : Free [59] (cmT c) := by
  cases c with
  | dd z => exact Free.app (Free.app (free_of (by decide +kernel)) (free_of (by decide +kernel))) ((free_name h).sub (by simp))
  | mv m => exact (free_mv h).sub (by simp)
  | rep n ms =>
    obtain ⟨h1, h2, h3, h4⟩ := h
    refine Free.app (Free.app ((free_nt (by omega)).sub (by simp)) (free_of (by decide +kernel))) (Free.app (Free.app (free_of (by decide +kernel)) ?_) (free_of (by decide +kernel)))
    refine free_join (by decide) (by decide) fun x hx => ?_
    obtain ⟨m, hm, rfl⟩ := List.mem_map.mp hx
    exact (free_mv (h4 m hm)).sub (by simp)
/-! ### cut -/
theorem cut_prog (c : Cmd) (cs : List Cmd) (h : ∀ x ∈ c :: cs, CmdOk x) : Txt.split (pgT (c :: cs)) sepS = (c :: cs).map cmT :=
  split_join (by decide) (by decide) (cmT c) (cs.map cmT) fun z hz => by
    obtain ⟨x, hx, rfl⟩ := List.mem_map.mp (show z ∈ (c :: cs).map cmT from hz)
    exact fun hm => free_cm (h x hx) 59 hm (by simp)
theorem cut_steps (m : Mv) (ms : List Mv) (h : ∀ x ∈ m :: ms, MvOk x) : Txt.split (Txt.join sepC ((m :: ms).map mvT)) sepC = (m :: ms).map mvT :=
  split_join (by decide) (by decide) (mvT m) (ms.map mvT) fun z hz => by
    obtain ⟨x, hx, rfl⟩ := List.mem_map.mp (show z ∈ (m :: ms).map mvT from hz)
    exact fun hm => free_mv (h x hx) 44 hm (by simp)
theorem part_do {z : Str} : Txt.partition (cmT (.dd z)) sp1 = (Str.ofString "do", sp1, z) := part_at 32 _ _ (by decide +kernel)
theorem part_mv (m : Mv) : Txt.partition (mvT m) sp1 = (wdM m.1, sp1, amT m.2) := part_at 32 _ _ fun hm => free_of (wd_free m.1) 32 hm (by simp)
theorem part_rep {n : Int} (ms : List Mv) (h : 0 ≤ n) : Txt.partition (cmT (.rep n ms)) sp1 = (nt n, sp1, opnT ++ Txt.join sepC (ms.map mvT) ++ clsT) := part_at 32 _ _ fun hm => free_nt h 32 hm (by simp)
theorem opn_len : opnT.length = 7 := by decide +kernel
theorem cls_len : clsT.length = 1 := by decide +kernel
theorem steps_cut (j : Str) : L2.cutS (opnT ++ j ++ clsT) (some 7) (some (-1)) = j := by
  have := mid_cut opnT j clsT (by rw [cls_len]; exact Nat.le_refl 1)
  rw [opn_len, cls_len] at this
  exact this
theorem steps_starts (j : Str) : Txt.startswith (opnT ++ j ++ clsT) opnT = true := by
  rw [PySem.Str.append_assoc]
  exact PySem.W.KT.starts_app _ _
theorem steps_ends (j : Str) : Txt.endswith (opnT ++ j ++ clsT) clsT = true := PySem.W.KT.ends_app _ _
/-- the text of a number is no word -/
theorem nt_word {n : Int} (h : 1 ≤ n) {z : Str} (hz : ∀ c ∈ z.cps.toList.head?, 97 ≤ c) : nt n ≠ z := fun e => by
  obtain ⟨c, r, ec, hc⟩ := nt_fst h
  rw [e] at ec
  have := hz c (by rw [ec]; rfl)
  omega
theorem nt_ne {n : Int} (h : 1 ≤ n) : nt n ≠ Str.ofString "undo" ∧ nt n ≠ Str.ofString "redo" ∧ nt n ≠ Str.ofString "do" ∧ nt n ≠ Str.ofString "all" :=
  ⟨nt_word h (by decide +kernel), nt_word h (by decide +kernel), nt_word h (by decide +kernel), nt_word h (by decide +kernel)⟩
end Und
namespace Und
open PySem
/-! sizes of texts, and how they are put together -/
def Sml (x : Str) : Prop := ∀ c ∈ x.cps.toList, c < 128
theorem Sml.app {x y : Str} (h : Sml x) (g : Sml y) : Sml (x ++ y) := fun c hc => by
  rw [PySem.Str.cps_append, Array.toList_append] at hc
  rcases List.mem_append.mp hc with hc | hc
  · exact h c hc
  · exact g c hc
def smlB (x : Str) : Bool := x.cps.toList.all fun c => decide (c < 128)
theorem sml_of {x : Str} (h : smlB x = true) : Sml x := fun c hc => by
  have := List.all_eq_true.mp h c hc
  simpa using this
theorem sml_nt {n : Int} (h : 0 ≤ n) : Sml (nt n) := fun c hc => by
  have := nt_all h c hc
  omega
theorem sml_jc {a b : Nat} (ha : a < 128) (hb : b < 128) : ∀ xs : List Str, (∀ x ∈ xs, Sml x) → ∀ c ∈ jc a b xs, c < 128
  | [], _, c, hc => by cases hc
  | [x], h, c, hc => by
    rw [jc_one] at hc
    exact h x List.mem_cons_self c hc
  | x :: y :: r, h, c, hc => by
    rw [jc_cons] at hc
    rcases List.mem_append.mp hc with hc | hc
    · exact h x List.mem_cons_self c hc
    · rcases List.mem_cons.mp hc with rfl | hc
      · exact ha
      · rcases List.mem_cons.mp hc with rfl | hc
        · exact hb
        · exact sml_jc ha hb (y :: r) (fun z hz => h z (List.mem_cons_of_mem _ hz)) c hc
theorem sml_wd : ∀ b : Bool, smlB (wdM b) = true := by decide +kernel
theorem sml_mv {m : Mv} (h : MvOk m) : Sml (mvT m) := by
  refine Sml.app (Sml.app (sml_of (sml_wd m.1)) (sml_of (by decide +kernel))) ?_
  obtain ⟨b, am⟩ := m
  cases am with
  | none => exact sml_of (show smlB (Str.ofString "all") = true by decide +kernel)
  | some n => exact sml_nt (by have : 1 ≤ n := h.1; omega)
theorem sml_cm {c : Cmd} (h : CmdOk c) : Sml (cmT c) := by
  cases c with
  | dd z => exact Sml.app (Sml.app (sml_of (by decide +kernel)) (sml_of (by decide +kernel))) fun c hc => by have := h.low c hc; omega
  | mv m => exact sml_mv h
  | rep n ms =>
    obtain ⟨h1, h2, h3, h4⟩ := h
    refine Sml.app (Sml.app (sml_nt (by omega)) (sml_of (by decide +kernel))) (Sml.app (Sml.app (sml_of (by decide +kernel)) fun c hc => ?_) (sml_of (by decide +kernel)))
    rw [join_codes'] at hc
    refine sml_jc (by decide) (by decide) _ (fun x hx => ?_) c hc
    obtain ⟨m, hm, rfl⟩ := List.mem_map.mp hx
    exact sml_mv (h4 m hm)
theorem sml_ok {x : Str} (h : Sml x) : PyData.strOk x = true := by
  unfold PyData.strOk
  rw [Array.all_eq_true_iff_forall_mem]
  intro c hc
  have := h c (by simpa using hc)
  exact decide_eq_true (by omega)
def dStrs (ns : List Str) : PyData := .list (ns.map .str)
theorem dp_strs {K : PySem.W.Frag} {H : L2.Hp} {a : Addr} {ns : List Str} (h : L2.SqL K H a (ns.map L2.V.str)) : L2.Dp K H (.ref a) (dStrs ns) := .lst h (dpAll_strs ns)
theorem dok_strs {ns : List Str} (h : ∀ z ∈ ns, Sml z) : DOk (dStrs ns) 1 := by
  refine ⟨?_, ?_⟩
  · unfold dStrs PyData.canLay0
    exact canAll_strs ns fun z hz => sml_ok (h z hz)
  · unfold dStrs PyData.depth
    rw [depthAll_strs]
    exact Nat.le_refl _
theorem eqv_strs_nil (ns : List Str) : PyData.eqv (dStrs ns) (dStrs []) = decide (ns = []) := by
  cases ns with
  | nil =>
    unfold dStrs
    rw [decide_eq_true rfl]
    simp [PyData.eqv, PyData.eqvAll]
  | cons z r =>
    unfold dStrs
    rw [decide_eq_false (by simp)]
    simp [PyData.eqv, PyData.eqvAll]
/-! ### sizes -/
theorem am_len {am : Option Int} (h : AmOk am) : (amT am).length ≤ 600 := by
  cases am with
  | none => exact (by decide +kernel : (Str.ofString "all").length ≤ 600)
  | some n => exact nt_len (by have := h.1; omega) h.2
theorem wd_len : ∀ b : Bool, (wdM b).length ≤ 4 := by decide +kernel
theorem sp_len : sp1.length = 1 := rfl
theorem mv_len {m : Mv} (h : MvOk m) : (mvT m).length ≤ 605 := by
  have h1 := wd_len m.1
  have h2 := am_len h
  unfold mvT
  rw [PySem.Str.length_append, PySem.Str.length_append, sp_len]
  omega
theorem sum_len {B : Nat} : ∀ (ns : List Str), (∀ z ∈ ns, z.length ≤ B) → (ns.map (·.length)).sum ≤ B * ns.length
  | [], _ => by simp
  | z :: ns, h => by
    have ih := sum_len ns fun y hy => h y (List.mem_cons_of_mem _ hy)
    have hz := h z List.mem_cons_self
    rw [List.map_cons, List.sum_cons, List.length_cons, Nat.mul_succ]
    omega
theorem jc_len {B a b : Nat} : ∀ (xs : List Str), (∀ z ∈ xs, z.length ≤ B) → (jc a b xs).length ≤ (B + 2) * xs.length
  | [], _ => by simp [jc]
  | [x], h => by
    rw [jc_one, len_codes]
    have := h x List.mem_cons_self
    simp
    omega
  | x :: y :: r, h => by
    have ih := jc_len (a := a) (b := b) (y :: r) fun z hz => h z (List.mem_cons_of_mem _ hz)
    have hx := h x List.mem_cons_self
    rw [jc_cons, List.length_append, List.length_cons, List.length_cons, len_codes]
    rw [List.length_cons (a := x), Nat.mul_succ]
    omega
theorem join_len {B a b : Nat} {xs : List Str} (h : ∀ z ∈ xs, z.length ≤ B) : (Txt.join ⟨#[a, b]⟩ xs).length ≤ (B + 2) * xs.length := by
  rw [← len_codes, join_codes']
  exact jc_len xs h
theorem mvs_len {ms : List Mv} (h : ∀ m ∈ ms, MvOk m) : ∀ z ∈ ms.map mvT, z.length ≤ 605 := fun z hz => by
  obtain ⟨m, hm, rfl⟩ := List.mem_map.mp hz
  exact mv_len (h m hm)
/-- few moves in a repeat -/
def CmdSz : Cmd → Prop
  | .rep _ ms => ms.length ≤ 100
  | _ => True
theorem cm_len {c : Cmd} (h : CmdOk c) (hs : CmdSz c) : (cmT c).length ≤ 62000 := by
  cases c with
  | dd z =>
    have h8 := h.hi
    have h2 : (Str.ofString "do").length = 2 := by decide +kernel
    show (Str.ofString "do" ++ sp1 ++ z : Str).length ≤ _
    rw [PySem.Str.length_append, PySem.Str.length_append, sp_len, h2]
    omega
  | mv m => exact Nat.le_trans (mv_len h) (by decide)
  | rep n ms =>
    obtain ⟨h1, h2, h3, h4⟩ := h
    have hl := nt_len (by omega : (0 : Int) ≤ n) h2
    have hj := join_len (a := 44) (b := 32) (mvs_len h4)
    have hm : ms.length ≤ 100 := hs
    rw [List.length_map] at hj
    show (nt n ++ sp1 ++ (opnT ++ Txt.join sepC (ms.map mvT) ++ clsT) : Str).length ≤ _
    rw [PySem.Str.length_append, PySem.Str.length_append, PySem.Str.length_append, PySem.Str.length_append, sp_len, opn_len, cls_len]
    have : (Txt.join sepC (ms.map mvT)).length ≤ 60700 := Nat.le_trans hj (Nat.le_trans (Nat.mul_le_mul_left _ hm) (by decide))
    omega
theorem cms_len {cs : List Cmd} (h : ∀ c ∈ cs, CmdOk c ∧ CmdSz c) : ∀ z ∈ cs.map cmT, z.length ≤ 62000 := fun z hz => by
  obtain ⟨c, hc, rfl⟩ := List.mem_map.mp hz
  exact cm_len (h c hc).1 (h c hc).2
/-! ### put together -/
theorem put_do (z : Str) : Str.ofString "do " ++ z = cmT (.dd z) := by
  show _ = Str.ofString "do" ++ sp1 ++ z
  rw [show Str.ofString "do" ++ sp1 = Str.ofString "do " from by decide +kernel]
theorem put_mv (m : Mv) : wdM m.1 ++ Str.ofString " " ++ amT m.2 = mvT m := by
  rw [show Str.ofString " " = sp1 from by decide +kernel]
  rfl
theorem put_rep (n : Int) (ms : List Mv) : nt n ++ Str.ofString " times (" ++ Txt.join sepC (ms.map mvT) ++ Str.ofString ")" = cmT (.rep n ms) := by
  show _ = nt n ++ sp1 ++ (opnT ++ Txt.join sepC (ms.map mvT) ++ clsT)
  rw [show Str.ofString " times (" = sp1 ++ opnT from by decide +kernel]
  rw [PySem.Str.append_assoc (nt n) sp1, PySem.Str.append_assoc opnT, ← PySem.Str.append_assoc (nt n) sp1 opnT, PySem.Str.append_assoc, PySem.Str.append_assoc, PySem.Str.append_assoc]
end Und
namespace Und
open PySem
/-! different commands have different texts -/
theorem nt_inj {n m : Int} (h1 : 1 ≤ n) (h2 : n < 10 ^ 500) (g1 : 1 ≤ m) (g2 : m < 10 ^ 500) (e : nt n = nt m) : n = m := by
  have a := nt_reads h1 h2
  rw [e, nt_reads g1 g2] at a
  exact (Option.some.inj a).symm
theorem amT_inj {a b : Option Int} (h : AmOk a) (g : AmOk b) (e : amT a = amT b) : a = b := by
  cases a with
  | none =>
    cases b with
    | none => rfl
    | some m => exact absurd e.symm (nt_ne g.1).2.2.2
  | some n =>
    cases b with
    | none => exact absurd e (nt_ne h.1).2.2.2
    | some m => rw [nt_inj h.1 h.2 g.1 g.2 e]
theorem wdM_inj : ∀ {a b : Bool}, wdM a = wdM b → a = b := by decide +kernel
theorem mvT_inj {m k : Mv} (h : MvOk m) (g : MvOk k) (e : mvT m = mvT k) : m = k := by
  have a := part_mv m
  rw [e, part_mv k] at a
  have a1 := (Prod.mk.inj a).1
  have a2 := (Prod.mk.inj (Prod.mk.inj a).2).2
  obtain ⟨b, x⟩ := m
  obtain ⟨c, y⟩ := k
  obtain rfl : c = b := wdM_inj a1
  obtain rfl : y = x := amT_inj g h a2
  rfl
theorem map_mvT_inj : ∀ {ms ks : List Mv}, (∀ m ∈ ms, MvOk m) → (∀ m ∈ ks, MvOk m) → ms.map mvT = ks.map mvT → ms = ks
  | [], [], _, _, _ => rfl
  | [], _ :: _, _, _, e => by simp at e
  | _ :: _, [], _, _, e => by simp at e
  | m :: ms, k :: ks, h, g, e => by
    have e' := List.cons.inj e
    rw [mvT_inj (h m List.mem_cons_self) (g k List.mem_cons_self) e'.1, map_mvT_inj (fun x hx => h x (List.mem_cons_of_mem _ hx)) (fun x hx => g x (List.mem_cons_of_mem _ hx)) e'.2]
def wdC : Cmd → Str
  | .dd _ => Str.ofString "do"
  | .mv m => wdM m.1
  | .rep n _ => nt n
def rsC : Cmd → Str
  | .dd z => z
  | .mv m => amT m.2
  | .rep _ ms => opnT ++ Txt.join sepC (ms.map mvT) ++ clsT
theorem part_cm {c : Cmd} (h : CmdOk c) : Txt.partition (cmT c) sp1 = (wdC c, sp1, rsC c) := by
  cases c with
  | dd z => exact part_do
  | mv m => exact part_mv m
  | rep n ms => exact part_rep ms (by have : 1 ≤ n := h.1; omega)
theorem wd_do : ∀ b : Bool, wdM b ≠ Str.ofString "do" := by decide +kernel
theorem wd_nt {n : Int} (h : 1 ≤ n) (b : Bool) : nt n ≠ wdM b := by
  cases b with
  | true => exact (nt_ne h).1
  | false => exact (nt_ne h).2.1
theorem cmT_inj {c d : Cmd} (h : CmdOk c) (g : CmdOk d) (e : cmT c = cmT d) : c = d := by
  have a := part_cm h
  rw [e, part_cm g] at a
  have a1 : wdC d = wdC c := (Prod.mk.inj a).1
  have a2 : rsC d = rsC c := (Prod.mk.inj (Prod.mk.inj a).2).2
  cases c with
  | dd z =>
    cases d with
    | dd y => rw [show y = z from a2]
    | mv m => exact absurd a1 (wd_do m.1)
    | rep n ms => exact absurd a1 (nt_ne g.1).2.2.1
  | mv m =>
    cases d with
    | dd y => exact absurd a1.symm (wd_do m.1)
    | mv k =>
      obtain ⟨b, x⟩ := m
      obtain ⟨c, y⟩ := k
      obtain rfl : c = b := wdM_inj a1
      obtain rfl : y = x := amT_inj g h a2
      rfl
    | rep n ms => exact absurd a1 (wd_nt g.1 m.1)
  | rep n ms =>
    cases d with
    | dd y => exact absurd a1.symm (nt_ne h.1).2.2.1
    | mv k => exact absurd a1.symm (wd_nt h.1 k.1)
    | rep k ks =>
      obtain ⟨h1, h2, h3, h4⟩ := h
      obtain ⟨g1, g2, g3, g4⟩ := g
      have en := nt_inj g1 g2 h1 h2 a1
      have ej := congrArg (fun x => L2.cutS x (some 7) (some (-1))) a2
      have ej : L2.cutS (opnT ++ Txt.join sepC (ks.map mvT) ++ clsT) (some 7) (some (-1)) = L2.cutS (opnT ++ Txt.join sepC (ms.map mvT) ++ clsT) (some 7) (some (-1)) := ej
      rw [steps_cut, steps_cut] at ej
      obtain ⟨m0, ms0, rfl⟩ := List.exists_cons_of_ne_nil h3
      obtain ⟨k0, ks0, rfl⟩ := List.exists_cons_of_ne_nil g3
      have es := congrArg (fun x => Txt.split x sepC) ej
      have es : Txt.split (Txt.join sepC ((k0 :: ks0).map mvT)) sepC = Txt.split (Txt.join sepC ((m0 :: ms0).map mvT)) sepC := es
      rw [cut_steps m0 ms0 h4, cut_steps k0 ks0 g4] at es
      rw [en, map_mvT_inj g4 h4 es]
end Und
/-! commands as data -/
namespace Und
open PySem PySem.Spec PyProof.Rows L2
def dAm : Option Int → PyData
  | none => .none
  | some k => .int k
def dMv (m : Mv) : PyData := .tuple [.str (wdM m.1), dAm m.2]
def dCm : Cmd → PyData
  | .dd z => .tuple [.str "do", .str z]
  | .mv m => dMv m
  | .rep n ms => .tuple [.str "repeat", .int n, .tuple (ms.map dMv)]
def dCs (cs : List Cmd) : PyData := .tuple (cs.map dCm)
theorem dok_str {z : Str} (h : PyData.strOk z = true) : DOk (.str z) 0 := ⟨by simp [PyData.canLay0, h], by simp [PyData.depth]⟩
theorem dok_int (i : Int) : DOk (.int i) 0 := ⟨by simp [PyData.canLay0], by simp [PyData.depth]⟩
theorem dok_non : DOk .none 0 := ⟨by simp [PyData.canLay0], by simp [PyData.depth]⟩
theorem dok_bool (b : Bool) : DOk (.bool b) 0 := ⟨by simp [PyData.canLay0], by simp [PyData.depth]⟩
theorem dok_am (am : Option Int) : DOk (dAm am) 0 := by
  cases am with
  | none => exact dok_non
  | some k => exact dok_int k
theorem wd_sok : ∀ b : Bool, PyData.strOk (wdM b) = true := by decide +kernel
theorem dok_mv (m : Mv) : DOk (dMv m) 1 := (dok_list (n := 0) fun d hd => by
  rcases List.mem_cons.mp hd with rfl | hd
  · exact dok_str (wd_sok m.1)
  · rw [List.mem_singleton.mp hd]
    exact dok_am m.2).2
theorem dok_cm {c : Cmd} (h : CmdOk c) : DOk (dCm c) 3 := by
  cases c with
  | dd z =>
    refine ((dok_list (n := 0) fun d hd => ?_).2).mono (by decide)
    rcases List.mem_cons.mp hd with rfl | hd
    · exact dok_str (by decide +kernel)
    · rw [List.mem_singleton.mp hd]
      exact dok_str (low_ok (IsName.low h))
  | mv m => exact (dok_mv m).mono (by decide)
  | rep n ms =>
    refine (dok_list (n := 2) fun d hd => ?_).2
    rcases List.mem_cons.mp hd with rfl | hd
    · exact (dok_str (by decide +kernel)).mono (by decide)
    rcases List.mem_cons.mp hd with rfl | hd
    · exact (dok_int n).mono (by decide)
    · rw [List.mem_singleton.mp hd]
      refine (dok_list (n := 1) fun d hd => ?_).2
      obtain ⟨m, _, rfl⟩ := List.mem_map.mp hd
      exact dok_mv m
theorem dok_cs {cs : List Cmd} (h : ∀ c ∈ cs, CmdOk c) : DOk (dCs cs) 4 := (dok_list (n := 3) fun d hd => by
  obtain ⟨c, hc, rfl⟩ := List.mem_map.mp hd
  exact dok_cm (h c hc)).2
/-! ### equal data, equal commands -/
theorem ev_tup (xs ys : List PyData) : PyData.eqv (.tuple xs) (.tuple ys) = PyData.eqvAll xs ys := by
  unfold PyData.eqv
  rfl
theorem ev_cons (x y : PyData) (xs ys : List PyData) : PyData.eqvAll (x :: xs) (y :: ys) = (PyData.eqv x y && PyData.eqvAll xs ys) := by
  conv => lhs; unfold PyData.eqvAll
theorem ev_nil : PyData.eqvAll [] [] = true := by
  unfold PyData.eqvAll
  rfl
theorem ev_nc (y : PyData) (ys : List PyData) : PyData.eqvAll [] (y :: ys) = false := by
  unfold PyData.eqvAll
  rfl
theorem ev_cn (x : PyData) (xs : List PyData) : PyData.eqvAll (x :: xs) [] = false := by
  unfold PyData.eqvAll
  rfl
theorem ev_str (x y : PySem.Str) : PyData.eqv (.str x) (.str y) = (x == y) := by
  unfold PyData.eqv
  rfl
theorem ev_int (x y : Int) : PyData.eqv (.int x) (.int y) = (x == y) := by
  unfold PyData.eqv
  rfl
theorem eqvAll_map {α : Type} {f : α → PyData} : ∀ {xs ys : List α}, (∀ x ∈ xs, ∀ y ∈ ys, PyData.eqv (f x) (f y) = true ↔ x = y) → (PyData.eqvAll (xs.map f) (ys.map f) = true ↔ xs = ys)
  | [], [], _ => by
    rw [List.map_nil, ev_nil]
    exact ⟨fun _ => rfl, fun _ => rfl⟩
  | [], y :: ys, _ => by
    rw [List.map_nil, List.map_cons, ev_nc]
    exact ⟨fun h => (nomatch h), fun h => (nomatch h)⟩
  | x :: xs, [], _ => by
    rw [List.map_nil, List.map_cons, ev_cn]
    exact ⟨fun h => (nomatch h), fun h => (nomatch h)⟩
  | x :: xs, y :: ys, h => by
    have ih := eqvAll_map (f := f) (xs := xs) (ys := ys) fun a ha b hb => h a (List.mem_cons_of_mem _ ha) b (List.mem_cons_of_mem _ hb)
    have h0 := h x List.mem_cons_self y List.mem_cons_self
    rw [List.map_cons, List.map_cons, ev_cons, Bool.and_eq_true, h0, ih, List.cons.injEq]
theorem ev_non : PyData.eqv .none .none = true := by
  unfold PyData.eqv
  rfl
theorem ev_ni (k : Int) : PyData.eqv .none (.int k) = false := by
  unfold PyData.eqv
  rfl
theorem ev_in (k : Int) : PyData.eqv (.int k) .none = false := by
  unfold PyData.eqv
  rfl
theorem eqv_am : ∀ (a b : Option Int), PyData.eqv (dAm a) (dAm b) = true ↔ a = b
  | none, none => ⟨fun _ => rfl, fun _ => ev_non⟩
  | none, some k => ⟨fun h => (nomatch (ev_ni k).symm.trans h), fun h => (nomatch h)⟩
  | some k, none => ⟨fun h => (nomatch (ev_in k).symm.trans h), fun h => (nomatch h)⟩
  | some j, some k => by
    show PyData.eqv (.int j) (.int k) = true ↔ _
    rw [ev_int, beq_iff_eq, Option.some.injEq]
theorem eqv_mv (m k : Mv) : PyData.eqv (dMv m) (dMv k) = true ↔ m = k := by
  obtain ⟨b, am⟩ := m
  obtain ⟨c, an⟩ := k
  have h := eqv_am am an
  unfold dMv
  rw [ev_tup, ev_cons, ev_cons, ev_nil, ev_str, Bool.and_true, Bool.and_eq_true, h, beq_iff_eq, Prod.mk.injEq]
  exact ⟨fun ⟨x, y⟩ => ⟨wdM_inj x, y⟩, fun ⟨x, y⟩ => ⟨by show wdM b = wdM c; rw [show b = c from x], y⟩⟩
theorem eqv_cm (c d : Cmd) : PyData.eqv (dCm c) (dCm d) = true ↔ c = d := by
  have w1 : ∀ b : Bool, (("do" : PySem.Str) == wdM b) = false := by decide +kernel
  have w2 : ∀ b : Bool, (wdM b == ("do" : PySem.Str)) = false := by decide +kernel
  cases c with
  | dd z =>
    cases d with
    | dd y =>
      unfold dCm
      rw [ev_tup, ev_cons, ev_cons, ev_nil, ev_str, ev_str, Bool.and_true, beq_self_eq_true, Bool.true_and, beq_iff_eq, Cmd.dd.injEq]
    | mv k =>
      unfold dCm dMv
      rw [ev_tup, ev_cons, ev_str, w1, Bool.false_and]
      exact ⟨fun h => (nomatch h), fun h => (nomatch h)⟩
    | rep n ms =>
      unfold dCm
      rw [ev_tup, ev_cons, ev_cons, ev_nc, Bool.and_false, Bool.and_false]
      exact ⟨fun h => (nomatch h), fun h => (nomatch h)⟩
  | mv m =>
    cases d with
    | dd y =>
      unfold dCm dMv
      rw [ev_tup, ev_cons, ev_str, w2, Bool.false_and]
      exact ⟨fun h => (nomatch h), fun h => (nomatch h)⟩
    | mv k =>
      rw [Cmd.mv.injEq]
      exact eqv_mv m k
    | rep n ms =>
      unfold dCm dMv
      rw [ev_tup, ev_cons, ev_cons, ev_nc, Bool.and_false, Bool.and_false]
      exact ⟨fun h => (nomatch h), fun h => (nomatch h)⟩
  | rep n ms =>
    cases d with
    | dd y =>
      unfold dCm
      rw [ev_tup, ev_cons, ev_cons, ev_cn, Bool.and_false, Bool.and_false]
      exact ⟨fun h => (nomatch h), fun h => (nomatch h)⟩
    | mv k =>
      unfold dCm dMv
      rw [ev_tup, ev_cons, ev_cons, ev_cn, Bool.and_false, Bool.and_false]
      exact ⟨fun h => (nomatch h), fun h => (nomatch h)⟩
    | rep n' ms' =>
      have h := eqvAll_map (f := dMv) (xs := ms) (ys := ms') fun x _ y _ => eqv_mv x y
      unfold dCm
      rw [ev_tup, ev_cons, ev_cons, ev_cons, ev_nil, ev_str, ev_int, ev_tup, Bool.and_true, beq_self_eq_true, Bool.true_and, Bool.and_eq_true, beq_iff_eq, h, Cmd.rep.injEq]
theorem eqv_cs (cs ds : List Cmd) : PyData.eqv (dCs cs) (dCs ds) = true ↔ cs = ds := by
  have h := eqvAll_map (f := dCm) (xs := cs) (ys := ds) fun x _ y _ => eqv_cm x y
  unfold dCs
  rw [ev_tup]
  exact h
/-! ### how long the texts of commands as data are -/
theorem shw_str8 {z : Str} (h : IsName z) : Shw (.str z) 82 := shw_name h
theorem shw_am {am : Option Int} (h : AmOk am) : Shw (dAm am) 510 := by
  cases am with
  | none => exact ⟨by decide +kernel, by decide +kernel⟩
  | some k => exact shw_int (by have := h.1; omega) (Int.lt_of_lt_of_le h.2 (by decide +kernel))
theorem shw_wd : ∀ b : Bool, Shw (.str (wdM b)) 82 := fun b => shw_name (name_of ((by decide +kernel : ∀ b : Bool, nameB (wdM b) = true) b))
theorem shw_mv {m : Mv} (h : MvOk m) : Shw (dMv m) 1030 := (shw_tuple (n := 510) fun d hd => by
  rcases List.mem_cons.mp hd with rfl | hd
  · exact (shw_wd m.1).mono (by decide)
  · rw [List.mem_singleton.mp hd]
    exact shw_am h).mono (by simp)
/-- repeats have few moves -/
def FewC : Cmd → Prop
  | .rep _ ms => ms.length ≤ 4
  | _ => True
theorem shw_cm {c : Cmd} (h : CmdOk c) (f : FewC c) : Shw (dCm c) 15000 := by
  cases c with
  | dd z =>
    refine (shw_tuple (n := 82) fun d hd => ?_).mono (by simp)
    rcases List.mem_cons.mp hd with rfl | hd
    · exact shw_name (name_of (by decide +kernel))
    · rw [List.mem_singleton.mp hd]
      exact shw_name h
  | mv m => exact (shw_mv h).mono (by decide)
  | rep n ms =>
    obtain ⟨h1, h2, h3, h4⟩ := h
    have f : ms.length ≤ 4 := f
    refine (shw_tuple (n := 4200) fun d hd => ?_).mono (by simp)
    rcases List.mem_cons.mp hd with rfl | hd
    · exact (shw_name (name_of (by decide +kernel))).mono (by decide)
    rcases List.mem_cons.mp hd with rfl | hd
    · exact (shw_int (by omega) (Int.lt_of_lt_of_le h2 (by decide +kernel))).mono (by decide)
    · rw [List.mem_singleton.mp hd]
      refine (shw_tuple (n := 1030) fun d hd => ?_).mono (by rw [List.length_map]; omega)
      obtain ⟨m, hm, rfl⟩ := List.mem_map.mp hd
      exact shw_mv (h4 m hm)
theorem shw_cs {cs : List Cmd} (h : ∀ c ∈ cs, CmdOk c) (f : ∀ c ∈ cs, FewC c) (hl : cs.length ≤ 600) : Shw (dCs cs) 9100000 := (shw_tuple (n := 15000) fun d hd => by
  obtain ⟨c, hc, rfl⟩ := List.mem_map.mp hd
  exact shw_cm (h c hc) (f c hc)).mono (by rw [List.length_map]; omega)
/-! ### texts tell programs apart -/
theorem pgT_inj {cs ds : List Cmd} (h : ∀ c ∈ cs, CmdOk c) (g : ∀ c ∈ ds, CmdOk c) (hn : ∀ c ds, (∀ x ∈ c :: ds, CmdOk x) → pgT (c :: ds) ≠ Str.ofString "nothing") (e : pgT cs = pgT ds) : cs = ds := by
  cases cs with
  | nil =>
    cases ds with
    | nil => rfl
    | cons d ds => exact absurd e.symm (hn d ds g)
  | cons c cs =>
    cases ds with
    | nil => exact absurd e (hn c cs h)
    | cons d ds =>
      have a := cut_prog c cs h
      rw [e, cut_prog d ds g] at a
      have : ∀ {xs ys : List Cmd}, (∀ x ∈ xs, CmdOk x) → (∀ x ∈ ys, CmdOk x) → xs.map cmT = ys.map cmT → xs = ys := by
        intro xs
        induction xs with
        | nil =>
          intro ys _ _ e
          cases ys with
          | nil => rfl
          | cons y ys => simp at e
        | cons x xs ih =>
          intro ys h g e
          cases ys with
          | nil => simp at e
          | cons y ys =>
            rw [List.map_cons, List.map_cons, List.cons.injEq] at e
            rw [cmT_inj (h x List.mem_cons_self) (g y List.mem_cons_self) e.1, ih (fun z hz => h z (List.mem_cons_of_mem _ hz)) (fun z hz => g z (List.mem_cons_of_mem _ hz)) e.2]
      exact this h g a.symm
end Und
/-! what a program leaves of a past of some length, and of one that is longer by one -/
namespace Und
/-- old items kept, the dos whose items are kept, the items in the past, the dos so far -/
structure LS where
  k : Nat
  D : List Nat
  p : Nat
  i : Nat
def LS.size (s : LS) : Nat := s.k + s.D.length
def LS.cm (s : LS) (c : Cmd) : LS := match c with
  | .dd _ => ⟨min s.k s.p, s.D.take (s.p - min s.k s.p) ++ [s.i], s.p + 1, s.i + 1⟩
  | .mv m => ⟨s.k, s.D, mvP s.size s.p m, s.i⟩
  | .rep t ms => ⟨s.k, s.D, itP s.size ms t.toNat s.p, s.i⟩
def lsOf (n : Nat) (cs : List Cmd) : LS := cs.foldl LS.cm ⟨n, [], n, 0⟩
theorem lsOf_app (n : Nat) (as bs : List Cmd) : lsOf n (as ++ bs) = bs.foldl LS.cm (lsOf n as) := List.foldl_append
theorem LS.ok_cm {s : LS} (h : s.p ≤ s.size) (c : Cmd) : (s.cm c).p ≤ (s.cm c).size := by
  cases c with
  | dd z =>
    show s.p + 1 ≤ min s.k s.p + (s.D.take (s.p - min s.k s.p) ++ [s.i]).length
    rw [List.length_append, List.length_take]
    unfold LS.size at h
    simp
    omega
  | mv m => exact mvP_le m h
  | rep t ms => exact itP_le _ h
theorem LS.ok_run : ∀ (cs : List Cmd) {s : LS}, s.p ≤ s.size → (cs.foldl LS.cm s).p ≤ (cs.foldl LS.cm s).size
  | [], _, h => h
  | c :: cs, _, h => LS.ok_run cs (LS.ok_cm h c)
/-! ### one item more -/
theorem mvP_near {n p q : Nat} (m : Mv) (hp : p ≤ n) (h : q = p ∨ q = p + 1) : mvP (n + 1) q m = mvP n p m ∨ mvP (n + 1) q m = mvP n p m + 1 := by
  unfold mvP
  obtain ⟨b, am⟩ := m
  cases am with
  | none => cases b <;> simp [mvN] <;> omega
  | some a => cases b <;> simp [mvN] <;> omega
theorem stP_near {n : Nat} : ∀ (ms : List Mv) {p q : Nat}, p ≤ n → (q = p ∨ q = p + 1) → stP (n + 1) q ms = stP n p ms ∨ stP (n + 1) q ms = stP n p ms + 1
  | [], _, _, _, h => h
  | m :: ms, _, _, hp, h => stP_near ms (mvP_le m hp) (mvP_near m hp h)
theorem itP_near {n : Nat} {ms : List Mv} : ∀ (k : Nat) {p q : Nat}, p ≤ n → (q = p ∨ q = p + 1) → itP (n + 1) ms k q = itP n ms k p ∨ itP (n + 1) ms k q = itP n ms k p + 1
  | 0, _, _, _, h => h
  | k + 1, _, _, hp, h => itP_near k (stP_le ms hp) (stP_near ms hp h)
/-- how the longer run stands to the shorter one -/
inductive Near (s t : LS) : Prop where
  | more (hk : t.k = s.k + 1) (hD : t.D = s.D) (hp : t.p = s.p ∨ t.p = s.p + 1)
  | same (hk : t.k = s.k) (hD : t.D = s.D) (hp : t.p = s.p)
  | less (hk : t.k = s.k + 1) (j : Nat) (hj : j + 1 < s.D.length) (hD : t.D = s.D.eraseIdx j) (hp : t.p = s.p)
theorem take_erase (D : List Nat) (j m : Nat) (h : j < m) (hm : m ≤ D.length) : (D.eraseIdx j).take (m - 1) = (D.take m).eraseIdx j := by
  apply List.ext_getElem?
  intro i
  rw [List.getElem?_take, List.getElem?_eraseIdx, List.getElem?_eraseIdx, List.getElem?_take, List.getElem?_take]
  by_cases h1 : i < m - 1
  · rw [if_pos h1]
    by_cases h2 : i < j
    · rw [if_pos h2, if_pos h2, if_pos (by omega)]
    · rw [if_neg h2, if_neg h2, if_pos (by omega)]
  · rw [if_neg h1]
    by_cases h2 : i < j
    · omega
    · rw [if_neg h2, if_neg (by omega)]
theorem take_erase2 (D : List Nat) (j m : Nat) (h : m ≤ j) (h0 : 1 ≤ m) (hm : m ≤ D.length) : (D.eraseIdx j).take (m - 1) = (D.take m).eraseIdx (m - 1) := by
  apply List.ext_getElem?
  intro i
  rw [List.getElem?_take, List.getElem?_eraseIdx, List.getElem?_eraseIdx, List.getElem?_take, List.getElem?_take]
  by_cases h1 : i < m - 1
  · rw [if_pos h1, if_pos (by omega), if_pos h1, if_pos (by omega)]
  · rw [if_neg h1, if_neg h1, if_neg (by omega)]
theorem erase_app {D : List Nat} {j x : Nat} (h : j < D.length) : (D ++ [x]).eraseIdx j = D.eraseIdx j ++ [x] := List.eraseIdx_append_of_lt_length h _
theorem Near.cm {s t : LS} (hs : s.p ≤ s.size) (hi : t.i = s.i) (h : Near s t) (c : Cmd) : Near (s.cm c) (t.cm c) := by
  cases h with
  | more hk hD hp =>
    have hz : t.size = s.size + 1 := by
      unfold LS.size
      rw [hk, hD]
      omega
    cases c with
    | mv m =>
      refine .more hk hD ?_
      show mvP t.size t.p m = _ ∨ mvP t.size t.p m = _
      rw [hz]
      exact mvP_near m hs hp
    | rep n ms =>
      refine .more hk hD ?_
      show itP t.size ms n.toNat t.p = _ ∨ itP t.size ms n.toNat t.p = _
      rw [hz]
      exact itP_near _ hs hp
    | dd z =>
      rcases hp with hp | hp
      · by_cases hle : s.p ≤ s.k
        · refine .same ?_ ?_ ?_
          · show min t.k t.p = min s.k s.p
            omega
          · show t.D.take (t.p - min t.k t.p) ++ [t.i] = s.D.take (s.p - min s.k s.p) ++ [s.i]
            rw [hD, hi, show t.p - min t.k t.p = 0 from by omega, show s.p - min s.k s.p = 0 from by omega]
          · show t.p + 1 = s.p + 1
            omega
        · unfold LS.size at hs
          refine .less ?_ (s.p - s.k - 1) ?_ ?_ ?_
          · show min t.k t.p = min s.k s.p + 1
            omega
          · show s.p - s.k - 1 + 1 < (s.D.take (s.p - min s.k s.p) ++ [s.i]).length
            rw [List.length_append, List.length_take]
            simp
            omega
          · show t.D.take (t.p - min t.k t.p) ++ [t.i] = (s.D.take (s.p - min s.k s.p) ++ [s.i]).eraseIdx (s.p - s.k - 1)
            rw [hD, hi, show t.p - min t.k t.p = s.p - s.k - 1 from by omega, show s.p - min s.k s.p = s.p - s.k from by omega]
            rw [erase_app (by rw [List.length_take]; omega)]
            congr 1
            rw [← take_erase2 s.D (s.p - s.k) (s.p - s.k) (Nat.le_refl _) (by omega) (by omega)]
            apply List.ext_getElem?
            intro i
            rw [List.getElem?_take, List.getElem?_take, List.getElem?_eraseIdx]
            by_cases h1 : i < s.p - s.k - 1
            · rw [if_pos h1, if_pos h1, if_pos (by omega)]
            · rw [if_neg h1, if_neg h1]
          · show t.p + 1 = s.p + 1
            omega
      · refine .more ?_ ?_ ?_
        · show min t.k t.p = min s.k s.p + 1
          omega
        · show t.D.take (t.p - min t.k t.p) ++ [t.i] = s.D.take (s.p - min s.k s.p) ++ [s.i]
          rw [hD, hi, show t.p - min t.k t.p = s.p - min s.k s.p from by omega]
        · right
          show t.p + 1 = s.p + 1 + 1
          omega
  | same hk hD hp =>
    have hz : t.size = s.size := by
      unfold LS.size
      rw [hk, hD]
    have e : t = ⟨s.k, s.D, s.p, t.i⟩ := by
      cases t
      simp_all
    rw [e, hi]
    exact .same rfl rfl rfl
  | less hk j hj hD hp =>
    have hl : t.D.length = s.D.length - 1 := by
      rw [hD, List.length_eraseIdx, if_pos (by omega)]
    have hz : t.size = s.size := by
      unfold LS.size
      rw [hk, hl]
      omega
    cases c with
    | mv m =>
      refine .less hk j hj hD ?_
      show mvP t.size t.p m = mvP s.size s.p m
      rw [hz, hp]
    | rep n ms =>
      refine .less hk j hj hD ?_
      show itP t.size ms n.toNat t.p = itP s.size ms n.toNat s.p
      rw [hz, hp]
    | dd z =>
      by_cases hle : s.p ≤ s.k
      · refine .same ?_ ?_ ?_
        · show min t.k t.p = min s.k s.p
          omega
        · show t.D.take (t.p - min t.k t.p) ++ [t.i] = s.D.take (s.p - min s.k s.p) ++ [s.i]
          rw [hi, show t.p - min t.k t.p = 0 from by omega, show s.p - min s.k s.p = 0 from by omega]
          rfl
        · show t.p + 1 = s.p + 1
          omega
      · unfold LS.size at hs
        by_cases hjm : j < s.p - s.k
        · refine .less ?_ j ?_ ?_ ?_
          · show min t.k t.p = min s.k s.p + 1
            omega
          · show j + 1 < (s.D.take (s.p - min s.k s.p) ++ [s.i]).length
            rw [List.length_append, List.length_take]
            simp
            omega
          · show t.D.take (t.p - min t.k t.p) ++ [t.i] = (s.D.take (s.p - min s.k s.p) ++ [s.i]).eraseIdx j
            rw [hD, hi, show t.p - min t.k t.p = s.p - s.k - 1 from by omega, show s.p - min s.k s.p = s.p - s.k from by omega]
            rw [erase_app (by rw [List.length_take]; omega), take_erase s.D j _ hjm (by omega)]
          · show t.p + 1 = s.p + 1
            omega
        · refine .less ?_ (s.p - s.k - 1) ?_ ?_ ?_
          · show min t.k t.p = min s.k s.p + 1
            omega
          · show s.p - s.k - 1 + 1 < (s.D.take (s.p - min s.k s.p) ++ [s.i]).length
            rw [List.length_append, List.length_take]
            simp
            omega
          · show t.D.take (t.p - min t.k t.p) ++ [t.i] = (s.D.take (s.p - min s.k s.p) ++ [s.i]).eraseIdx (s.p - s.k - 1)
            rw [hD, hi, show t.p - min t.k t.p = s.p - s.k - 1 from by omega, show s.p - min s.k s.p = s.p - s.k from by omega]
            rw [erase_app (by rw [List.length_take]; omega), take_erase2 s.D j _ (by omega) (by omega) (by omega)]
          · show t.p + 1 = s.p + 1
            omega
theorem LS.i_cm (s t : LS) (h : t.i = s.i) (c : Cmd) : (t.cm c).i = (s.cm c).i := by
  cases c with
  | dd z =>
    show t.i + 1 = s.i + 1
    rw [h]
  | mv m => exact h
  | rep n ms => exact h
theorem near_run : ∀ (cs : List Cmd) {s t : LS}, s.p ≤ s.size → t.i = s.i → Near s t → Near (cs.foldl LS.cm s) (cs.foldl LS.cm t)
  | [], _, _, _, _, h => h
  | c :: cs, s, t, hs, hi, h => near_run cs (LS.ok_cm hs c) (LS.i_cm s t hi c) (h.cm hs hi c)
/-- the outcome for one item more comes of the outcome in one of four ways -/
theorem near_of (n : Nat) (cs : List Cmd) : Near (lsOf n cs) (lsOf (n + 1) cs) := near_run cs (Nat.le_add_right _ _) rfl (.more rfl rfl (.inr rfl))
end Und
/-! outcomes and words, as numbers and names -/
namespace Und
open PySem
def doN : List Cmd → List Str
  | [] => []
  | .dd z :: cs => z :: doN cs
  | .mv _ :: cs => doN cs
  | .rep _ _ :: cs => doN cs
theorem doN_app : ∀ as bs : List Cmd, doN (as ++ bs) = doN as ++ doN bs
  | [], _ => rfl
  | .dd z :: as, bs => by rw [List.cons_append, doN, doN, doN_app as bs, List.cons_append]
  | .mv _ :: as, bs => by rw [List.cons_append, doN, doN, doN_app as bs]
  | .rep _ _ :: as, bs => by rw [List.cons_append, doN, doN, doN_app as bs]
theorem doN_len : ∀ cs : List Cmd, (doN cs).length ≤ cs.length
  | [] => Nat.le_refl _
  | .dd z :: cs => Nat.succ_le_succ (doN_len cs)
  | .mv _ :: cs => Nat.le_succ_of_le (doN_len cs)
  | .rep _ _ :: cs => Nat.le_succ_of_le (doN_len cs)
theorem doN_name : ∀ {cs : List Cmd}, (∀ c ∈ cs, CmdOk c) → ∀ z ∈ doN cs, IsName z
  | [], _, z, hz => by cases hz
  | .dd y :: cs, h, z, hz => by
    rcases List.mem_cons.mp hz with rfl | hz
    · exact h (.dd z) List.mem_cons_self
    · exact doN_name (fun c hc => h c (List.mem_cons_of_mem _ hc)) z hz
  | .mv _ :: cs, h, z, hz => doN_name (fun c hc => h c (List.mem_cons_of_mem _ hc)) z hz
  | .rep _ _ :: cs, h, z, hz => doN_name (fun c hc => h c (List.mem_cons_of_mem _ hc)) z hz
/-- a state that can be -/
structure LS.Ok (s : LS) : Prop where
  p : s.p ≤ s.size
  D : ∀ j ∈ s.D, j < s.i
  asc : s.D.Pairwise (· < ·)
theorem LS.Ok.cm {s : LS} (h : s.Ok) (c : Cmd) : (s.cm c).Ok := by
  refine ⟨LS.ok_cm h.p c, ?_, ?_⟩
  · cases c with
    | dd z =>
      intro j hj
      show j < s.i + 1
      rcases List.mem_append.mp hj with hj | hj
      · have := h.D j (List.mem_of_mem_take hj)
        omega
      · have : j = s.i := by simpa using hj
        omega
    | mv m => exact h.D
    | rep t ms => exact h.D
  · cases c with
    | dd z =>
      show (s.D.take (s.p - min s.k s.p) ++ [s.i]).Pairwise (· < ·)
      rw [List.pairwise_append]
      refine ⟨h.asc.sublist (List.take_sublist _ _), List.pairwise_singleton _ _, fun a ha b hb => ?_⟩
      have := h.D a (List.mem_of_mem_take ha)
      have : b = s.i := by simpa using hb
      omega
    | mv m => exact h.asc
    | rep t ms => exact h.asc
theorem LS.Ok.run : ∀ (cs : List Cmd) {s : LS}, s.Ok → (cs.foldl LS.cm s).Ok
  | [], _, h => h
  | c :: cs, _, h => LS.Ok.run cs (h.cm c)
theorem ls_ok (n : Nat) (cs : List Cmd) : (lsOf n cs).Ok := LS.Ok.run cs ⟨Nat.le_add_right _ _, (fun j hj => nomatch hj), List.Pairwise.nil⟩
theorem asc_len' : ∀ (l : List Nat) (lo i : Nat), l.Pairwise (· < ·) → (∀ j ∈ l, lo ≤ j ∧ j < i) → l.length ≤ i - lo
  | [], _, _, _, _ => Nat.zero_le _
  | x :: r, lo, i, h, g => by
    have hx := g x List.mem_cons_self
    have h' := List.pairwise_cons.mp h
    have ih := asc_len' r (x + 1) i h'.2 fun j hj => ⟨h'.1 j hj, (g j (List.mem_cons_of_mem _ hj)).2⟩
    rw [List.length_cons]
    omega
theorem asc_len {l : List Nat} {i : Nat} (h : l.Pairwise (· < ·)) (g : ∀ j ∈ l, j < i) : l.length ≤ i := asc_len' l 0 i h fun j hj => ⟨Nat.zero_le _, g j hj⟩
theorem LS.size_cm {s : LS} (h : s.p ≤ s.size) (c : Cmd) : (s.cm c).size ≤ s.size + 1 := by
  cases c with
  | dd z =>
    show min s.k s.p + (s.D.take (s.p - min s.k s.p) ++ [s.i]).length ≤ s.k + s.D.length + 1
    rw [List.length_append, List.length_take]
    unfold LS.size at h
    simp
    omega
  | mv m => exact Nat.le_succ _
  | rep t ms => exact Nat.le_succ _
theorem LS.size_run : ∀ (cs : List Cmd) {s : LS}, s.p ≤ s.size → (cs.foldl LS.cm s).size ≤ s.size + cs.length
  | [], _, _ => Nat.le_refl _
  | c :: cs, s, h => by
    have a := LS.size_run cs (LS.ok_cm h c)
    have b := LS.size_cm h c
    rw [List.length_cons]
    show (cs.foldl LS.cm (s.cm c)).size ≤ _
    omega
theorem ls_size (n : Nat) (cs : List Cmd) : (lsOf n cs).size ≤ n + cs.length := LS.size_run cs (Nat.le_add_right _ _)
theorem ls_snoc (n : Nat) (cs : List Cmd) (c : Cmd) : lsOf n (cs ++ [c]) = (lsOf n cs).cm c := lsOf_app n cs [c]
theorem LS.i_run : ∀ (cs : List Cmd) (s : LS), (cs.foldl LS.cm s).i = s.i + (doN cs).length
  | [], _ => rfl
  | .dd z :: cs, s => by
    rw [List.foldl_cons, LS.i_run cs]
    show s.i + 1 + _ = s.i + ((doN cs).length + 1)
    omega
  | .mv m :: cs, s => by
    rw [List.foldl_cons, LS.i_run cs]
    rfl
  | .rep t ms :: cs, s => by
    rw [List.foldl_cons, LS.i_run cs]
    rfl
theorem ls_i (n : Nat) (cs : List Cmd) : (lsOf n cs).i = (doN cs).length := by
  rw [lsOf, LS.i_run]
  exact Nat.zero_add _
def LS.u (s : LS) : Nat := s.size - s.p
/-- the names of the items that are kept -/
def itN (n : Nat) (cs : List Cmd) : List Str := (lsOf n cs).D.map fun j => (doN cs).getD j Str.empty
theorem ls_at {n : Nat} {cs : List Cmd} {j : Nat} (h : j ∈ (lsOf n cs).D) : (doN cs)[j]? = some ((doN cs).getD j Str.empty) := by
  have h1 := (ls_ok n cs).D j h
  rw [ls_i] at h1
  rw [List.getElem?_eq_getElem h1, List.getD_eq_getElem?_getD, List.getElem?_eq_getElem h1]
  rfl
def wordOf (n : Nat) (cs : List Cmd) : Str :=
  if (lsOf (n + 1) cs).k = (lsOf n cs).k then "old" else if (lsOf (n + 1) cs).D.length < (lsOf n cs).D.length then "item" else if (lsOf n cs).u < (lsOf (n + 1) cs).u then "undone" else "keep"
/-- the head of a command -/
def cw : Cmd → Str
  | .dd _ => "do"
  | .mv m => wdM m.1
  | .rep _ _ => "repeat"
theorem cw_do : ∀ c : Cmd, (∀ z, c ≠ .dd z) → cw c ≠ "do"
  | .dd z, h => (h z rfl).elim
  | .mv m, _ => (by decide +kernel : ∀ b : Bool, wdM b ≠ "do") m.1
  | .rep _ _, _ => (by decide +kernel : ("repeat" : Str) ≠ "do")
end Und
/-! what a program tells, as data -/
namespace Und
open PySem PySem.Spec PyProof.Rows L2
section
variable {K : PySem.W.Frag} {H H' : Hp}
mutual
theorem dp_mono (s : Same H H') : ∀ (d : PyData) (v : V), Dp K H v d → Dp K H' v d
  | .none, _, h => by
    cases h
    exact .non
  | .bool b, _, h => by
    cases h
    exact .bl b
  | .int i, _, h => by
    cases h
    exact .int i
  | .str x, _, h => by
    cases h
    exact .str x
  | .list ds, _, h => by
    cases h with
    | lst a b => exact .lst (s.seq a) (dpAll_mono s ds _ b)
  | .tuple ds, _, h => by
    cases h with
    | tup a b => exact .tup (same_seqT s a) (dpAll_mono s ds _ b)
  | .dict _, _, h => by cases h
theorem dpAll_mono (s : Same H H') : ∀ (ds : List PyData) (vs : List V), DpAll K H vs ds → DpAll K H' vs ds
  | [], _, h => by
    cases h
    exact .nil
  | d :: ds, _, h => by
    cases h with
    | cons a b => exact .cons (dp_mono s d _ a) (dpAll_mono s ds _ b)
end
theorem Dp.mono {d : PyData} {v : V} (s : Same H H') (h : Dp K H v d) : Dp K H' v d := dp_mono s d v h
end
theorem sml_pg {cs : List Cmd} (h : ∀ c ∈ cs, CmdOk c) : Sml (pgT cs) := by
  cases cs with
  | nil => exact sml_of (by decide +kernel)
  | cons c cs =>
    intro x hx
    change x ∈ (Txt.join sepS ((c :: cs).map cmT)).cps.toList at hx
    rw [join_codes'] at hx
    refine sml_jc (by decide) (by decide) _ (fun z hz => ?_) x hx
    obtain ⟨d, hd, rfl⟩ := List.mem_map.mp hz
    exact sml_cm (h d hd)
theorem cm_lenF {c : Cmd} (h : CmdOk c) (f : FewC c) : (cmT c).length ≤ 4000 := by
  cases c with
  | dd z =>
    have h8 := h.hi
    have h2 : (Str.ofString "do").length = 2 := by decide +kernel
    show (Str.ofString "do" ++ sp1 ++ z : Str).length ≤ _
    rw [PySem.Str.length_append, PySem.Str.length_append, sp_len, h2]
    omega
  | mv m => exact Nat.le_trans (mv_len h) (by decide)
  | rep n ms =>
    obtain ⟨h1, h2, h3, h4⟩ := h
    have hl := nt_len (by omega : (0 : Int) ≤ n) h2
    have hj := join_len (a := 44) (b := 32) (mvs_len h4)
    have hm : ms.length ≤ 4 := f
    rw [List.length_map] at hj
    show (nt n ++ sp1 ++ (opnT ++ Txt.join sepC (ms.map mvT) ++ clsT) : Str).length ≤ _
    rw [PySem.Str.length_append, PySem.Str.length_append, PySem.Str.length_append, PySem.Str.length_append, sp_len, opn_len, cls_len]
    have : (Txt.join sepC (ms.map mvT)).length ≤ 2428 := Nat.le_trans hj (Nat.le_trans (Nat.mul_le_mul_left _ hm) (by decide))
    omega
theorem pg_lenF {cs : List Cmd} (h : ∀ c ∈ cs, CmdOk c) (f : ∀ c ∈ cs, FewC c) : (pgT cs).length ≤ 4002 * cs.length + 7 := by
  cases cs with
  | nil => exact (by decide +kernel : (Str.ofString "nothing").length ≤ 7)
  | cons c cs =>
    have := join_len (a := 59) (b := 32) (B := 4000) (xs := (c :: cs).map cmT) fun z hz => by
      obtain ⟨d, hd, rfl⟩ := List.mem_map.mp hz
      exact cm_lenF (h d hd) (f d hd)
    rw [List.length_map] at this
    exact Nat.le_trans this (by omega)
theorem shw_txt {x : Str} {n : Nat} (h : Sml x) (hl : x.length ≤ n) : Shw (.str x) (10 * n + 2) := by
  refine ⟨by rw [PyData.showable], ?_⟩
  rw [PyData.shown]
  have h1 := PySem.StrLaws.reprText_len x (fun c hc => Nat.lt_trans (h c hc) (by decide))
  omega
theorem shw_bool (b : Bool) : Shw (.bool b) 5 := by
  refine ⟨by rw [PyData.showable], ?_⟩
  rw [PyData.shown]
  cases b <;> decide
theorem textFrom_sum : ∀ (ts : List Str) (k : Nat) (acc : Str), (textFrom k acc ts).length ≤ acc.length + (ts.map fun t => t.length + 2).sum
  | [], _, _ => Nat.le_add_right _ _
  | t :: r, k, acc => by
    have ih := textFrom_sum r (k + 1) (acc ++ (if k > 0 then ", " else "" : String) ++ t)
    have e : (acc ++ (if k > 0 then ", " else "" : String) ++ t).length ≤ acc.length + 2 + t.length := by
      rw [PySem.Str.length_append, PySem.Str.length_append]
      have : (((if k > 0 then ", " else "" : String)) : Str).length ≤ 2 := by split <;> decide
      omega
    rw [List.map_cons, List.sum_cons]
    show (textFrom (k + 1) (acc ++ (if k > 0 then ", " else "" : String) ++ t) r).length ≤ _
    omega
theorem shw_list6 {a b c d e f : PyData} {na nb nc nd ne nf : Nat} (ha : Shw a na) (hb : Shw b nb) (hc : Shw c nc) (hd : Shw d nd) (he : Shw e ne) (hf : Shw f nf) : Shw (.list [a, b, c, d, e, f]) (na + nb + nc + nd + ne + nf + 14) := by
  refine ⟨?_, ?_⟩
  · simp only [PyData.showable, PyData.showableAll, ha.1, hb.1, hc.1, hd.1, he.1, hf.1, Bool.and_true, Bool.and_self]
  rw [PyData.shown]
  have h := textFrom_sum (PyData.shownAll [a, b, c, d, e, f]) 0 "["
  have ex : PyData.shownAll [a, b, c, d, e, f] = [a.shown, b.shown, c.shown, d.shown, e.shown, f.shown] := by simp only [PyData.shownAll]
  rw [ex] at h ⊢
  simp only [List.map_cons, List.map_nil, List.sum_cons, List.sum_nil] at h
  unfold listText
  have e1 : ((("[" : String) : Str)).length = 1 := rfl
  have e3 : ((("]" : String) : Str)).length = 1 := rfl
  rw [PySem.Str.length_append, e3]
  have := ha.2
  have := hb.2
  have := hc.2
  have := hd.2
  have := he.2
  have := hf.2
  omega
/-- what a program with these commands tells -/
def dAsk (cs : List Cmd) : PyData := .list [dCs cs, dNames (doN cs), .int (cs.length : Nat), .str (pgT cs), .str (Str.ofString "Program(" ++ nt (cs.length : Nat) ++ Str.ofString ")"), .bool (decide (0 < cs.length))]
theorem sml_prt (n : Nat) : Sml (Str.ofString "Program(" ++ nt n ++ Str.ofString ")") := Sml.app (Sml.app (sml_of (by decide +kernel)) (sml_nt (by omega))) (sml_of (by decide +kernel))
theorem dok_ask {cs : List Cmd} (h : ∀ c ∈ cs, CmdOk c) : DOk (dAsk cs) 5 := (dok_list (n := 4) fun d hd => by
  simp only [List.mem_cons, List.not_mem_nil, or_false] at hd
  rcases hd with rfl | rfl | rfl | rfl | rfl | rfl
  · exact dok_cs h
  · exact (dok_names fun z hz => (doN_name h z hz).low).mono (by decide)
  · exact (dok_int _).mono (by decide)
  · exact (dok_str (sml_ok (sml_pg h))).mono (by decide)
  · exact (dok_str (sml_ok (sml_prt _))).mono (by decide)
  · exact (dok_bool _).mono (by decide)).1
theorem shw_ask {cs : List Cmd} (h : ∀ c ∈ cs, CmdOk c) (f : ∀ c ∈ cs, FewC c) (hl : cs.length ≤ 600) : Shw (dAsk cs) (60000 * cs.length + 20000) := by
  have h1 : Shw (dCs cs) (15002 * cs.length + 3) := (shw_tuple (n := 15000) fun d hd => by
    obtain ⟨c, hc, rfl⟩ := List.mem_map.mp hd
    exact shw_cm (h c hc) (f c hc)).mono (by rw [List.length_map]; omega)
  have h2 : Shw (dNames (doN cs)) (84 * cs.length + 3) := (shw_tuple (n := 82) fun d hd => by
    obtain ⟨z, hz, rfl⟩ := List.mem_map.mp hd
    exact shw_name (doN_name h z hz)).mono (by have := doN_len cs; rw [List.length_map]; omega)
  have h3 : Shw (.int (cs.length : Nat)) 510 := shw_int (by omega) (Int.lt_of_le_of_lt (show ((cs.length : Nat) : Int) ≤ 600 by omega) (by decide +kernel))
  have h4 := shw_txt (sml_pg h) (pg_lenF h f)
  have hn : (nt (cs.length : Nat)).length ≤ 600 := nt_len (by omega) (Int.lt_of_le_of_lt (show ((cs.length : Nat) : Int) ≤ 600 by omega) (by decide +kernel))
  have h5 : Shw (.str (Str.ofString "Program(" ++ nt (cs.length : Nat) ++ Str.ofString ")")) (10 * 609 + 2) := shw_txt (sml_prt _) (by
    have a1 : (Str.ofString "Program(").length = 8 := by decide +kernel
    have a2 : (Str.ofString ")").length = 1 := by decide +kernel
    rw [PySem.Str.length_append, PySem.Str.length_append, a1, a2]
    omega)
  exact (shw_list6 h1 h2 h3 h4 h5 (shw_bool _)).mono (by omega)
end Und
/-! definitions that are called while an error is handled; repr of any value -/
namespace Und
open PySem PySem.Spec PyProof.Rows L2 PySem.HandSPX
open L2H (RoomH roomH_of)
theorem RoomH.units {k : Nat} {A : Around} (r : RoomH k A) : A.units + 64 < cLine := by
  have := r.un
  omega
theorem roomH_mark {k : Nat} {A : Around} {u : Option Value} (r : RoomH k A) : RoomH k (A.mark u) := ⟨r.dp, r.un⟩
theorem still_mark {A : Around} {u : Option Value} (h : Still A) : Still (A.mark u) := h
/-- a definition's promise, whether an error is handled or not -/
structure FnQ (P : Program) (w : World) (K : PySem.W.Frag) (mg : Str → Option Value) (base : Heap) (k : Nat) (f : Addr) (fd : FuncData) (ps : List Str) (sp : Sp) : Prop where
  n : ∀ vs H Q E, sp vs H Q E → vs.length = ps.length
  go : ∀ (A : Around), Still A → RoomH k A → ∀ (outer : List Env) (s : Shared) (H : Hp) (args : Args) (us : List Value) (vs : List V) (Q : VK) (E : XK), Env0 P w K mg base A outer s H → BindsTo s fd args (ps.zip us) → Vals vs us → sp vs H Q E →
    codeAny (model P w) A (.call (.ref f) args) (CR CX0 outer P w H s Q E) s
section
variable {P : Program} {w : World} {K : PySem.W.Frag} {mg : Str → Option Value} {base : Heap} {j k : Nat} {f : Addr} {fd : FuncData} {ps N : List Str} {sp : Sp} {x qual : Str} {st : Stmt}
theorem FnQ.toG (F : FnQ P w K mg base k f fd ps sp) : FnG P w K mg base CX0 k f fd ps sp := ⟨F.n, fun A g r => F.go A g (roomH_of r)⟩
theorem FnQ.mono (F : FnQ P w K mg base j f fd ps sp) (h : j ≤ k) : FnQ P w K mg base k f fd ps sp := ⟨F.n, fun A g r => F.go A g (r.mono h)⟩
/-- the body's context: nothing is said of what is handled -/
def cxQ (P : Program) (w : World) (K : PySem.W.Frag) (mg : Str → Option Value) (base : Heap) (N : List Str) (qual : Str) (scope : Scope) (f : Addr) (cd : Value) (A : Around) (outer : List Env) (s : Shared) (H : Hp) (E : XK) : Cx :=
  { cxOf CX0 P w K mg base N qual scope f cd A outer s H E with calm := false }
theorem okQ (F : Fun K x qual st f fd) (S : FnScope N ps (defScope st)) (n : ∀ vs H Q E, sp vs H Q E → vs.length = ps.length)
    (body : ∀ (cdv : Value) (A : Around) (outer : List Env) (s : Shared) (H : Hp) (vs : List V) (Q : VK) (E : XK), Still (A.deeper (envOfC qual (defScope st) s.heap.objs.size f cdv)) → RoomH k (A.deeper (envOfC qual (defScope st) s.heap.objs.size f cdv)) → sp vs H Q E →
      ∃ t, PSs (cxQ P w K mg base N qual (defScope st) f cdv A outer s H E).nox (defBody st) t ∧ t { nx := fun _ H' => Q .non H', rt := Q } (start N vs) H) : FnQ P w K mg base (k + 1) f fd ps sp := by
  obtain ⟨oc, od, kV, doc, pm, an, cdv, ct, osl, rfl, lk, hcd⟩ := F.ex
  refine ⟨n, fun A g r outer s H args us vs Q E e0 hb v h => ?_⟩
  have kin : K.In s.heap := e0.mod.kin.keeps fun b o e => (e0.bs b o e).1
  have noLim : s.heap.NoLimit := e0.mod.nolimit.keeps fun b o e => (e0.bs b o e).1
  have kinds : ∀ y ∈ ps.zip us, (defScope st).names.lookup y.1 = some .local ∨ ((defScope st).names.lookup y.1 = some .cell ∧ ((cellsFrom (s.heap.objs.size + 1) (defScope st).names []).lookup y.1).isSome = true) := fun ⟨n, v⟩ hy => by
    rcases S.par n (List.of_mem_zip hy).1 with q | q
    · exact .inl q
    · exact .inr ⟨q, PySem.W.cellsFrom_some _ _ _ (.inl q)⟩
  refine codeAny_call_function r.depth (kin _ _ lk) rfl S.co S.gen rfl (PySem.W.codeRec_of kin hcd) (hb _ _ _ _ ?_)
  refine wpAny_newFunctionEnv_cells S.kind kinds fun env he s1 xx => ?_
  subst he
  refine ⟨noLim.keeps xx.toInCall.keep, codeAny_func ?_⟩
  obtain ⟨t, ht, hq⟩ := body cdv A outer s H vs Q E g (r.deeper _) h
  have e1 : Env0 P w K mg base { A with handled := none } outer s H := ⟨e0.frames, e0.mod, e0.bs, e0.bsz, e0.funs, e0.frf, e0.hok, e0.bare⟩
  have J : Inv (cxOf CX0 P w K mg base N qual (defScope st) f cdv { A with handled := none } outer s H E) [] (start N vs) H s1 := inv_start S rfl e1 (n _ _ _ _ h) v xx
  have J2 : Inv (cxQ P w K mg base N qual (defScope st) f cdv A outer s H E) [] (start N vs) H s1 :=
    ⟨⟨J.ok.mod, J.ok.kind, J.ok.glob, J.ok.blt, J.ok.above, J.ok.inj, J.ok.has, J.ok.cab, (fun z => Bool.noConfusion (show false = true from z)), Around.frames_deeper e0.frames, J.ok.stk, J.ok.exf, J.ok.bs, J.ok.bsz, J.ok.noex, J.ok.exfs, J.ok.funs, J.ok.frf⟩,
      J.os, J.bare, J.base, J.loc, J.cell, J.free, J.freeC, J.pin, J.hok, J.len⟩
  refine wpAny_mono (ht.nox.run [] s1 (start N vs) H _ J2 hq) (fun fl s' hs => ?_) fun e s' hs => hs
  have fin : ∀ {σ' : L2.St} {H' : Hp} {v : V} {u : Value}, Inv (cxQ P w K mg base N qual (defScope st) f cdv A outer s H E) [] σ' H' s' → RelV v u → Q v H' → CE outer P w H s Q u s' :=
    fun {σ' H' v u} J rv q => ⟨v, H', J.os, J.bare, J.base, J.hok, rv, q⟩
  match fl, hs with
  | .ret u, ⟨v, σ', H', J, rv, q⟩ => exact fin J rv q
  | .next, ⟨σ', H', J, q⟩ => exact fin (v := V.non) (u := Value.none) J rfl q
  | .brk, ⟨_, _, _, q⟩ => exact False.elim q
  | .cont, ⟨_, _, _, q⟩ => exact False.elim q
end
section
variable {X : Cx} {k : Nat} {f : Addr} {fd : FuncData} {ps : List Str} {sp : Sp} {E : XK} {x : Str} {st : Stmt} {p pos : Pos} {e : Expr} {es : List Expr} {t : TA}
theorem callQ {pins : List (Addr × Obj)} {σ : L2.St} {H : Hp} {s : Shared} {Q : VK} {us : List Value} {vs : List V} (F : FnQ X.prog X.w X.K X.mg X.base k f fd ps sp) (g : Still X.A) (r : RoomH k X.A) (b : Binds X.K fd ps [])
    (I : Inv X pins σ H s) (v : Vals vs us) (h : sp vs H Q E) : wpAny (model X.prog X.w) X.A (call (.ref f) us) (EP X pins σ Q) X.xe s := by
  have hl : (us ++ []).length = ps.length := by
    rw [List.append_nil, ← v.length]
    exact F.n _ _ _ _ h
  have bb := b s us I.kIn hl
  rw [List.append_nil] at bb
  refine wpAny_call (codeAny_mono (F.go X.A g r X.stack s H ⟨us, []⟩ us vs Q E I.env0 bb v h) fun z s' q => ?_)
  match z, q with
  | .error e, q => exact (show False from q).elim
  | .ok (.ret u), q => exact I.after q
/-- f(e, ..) of such a definition -/
theorem pcallQ (D : FD X.K X.mg x st ps f fd) (F : FnQ X.prog X.w X.K X.mg X.base k f fd ps sp) (g : Still X.A) (r : RoomH k X.A) (hg : Gl X x) (ha : PA X (e :: es) t) (hdb : (x == ("__debug__" : Str)) = false := by decide)
    (he : starEach (e :: es) X.env = (false, eval e X.env) :: starEach es X.env := by rfl) (hpl : (backTo pos (starEach es X.env)).any (·.1) = false := by rfl) :
    PE X (.Call (.Name x p) (e :: es) [] pos) (tCall sp [] E t) :=
  ⟨fun pins s σ H Q I h => wpAny_Call_Name_kw (ld_glob I hg D.m (PySem.W.callWith_K (h₀ := X.base) I.ok.mod.kin D.F.kp (thn (ha.run pos pins s σ H _ I h) fun us s1 ⟨vs, H1, I1, v, q⟩ => ⟨I1.kIn, callQ F g r D.b I1 v (by have q' : sp (vs ++ []) H1 Q E := q; rw [List.append_nil] at q'; exact q')⟩) he hpl) hdb)⟩
end
/-! ### repr of any value -/
/-- v is printed as x -/
inductive Rp (K : PySem.W.Frag) (H : Hp) : V → Str → Prop
  | non : Rp K H .non "None"
  | bl (b : Bool) : Rp K H (.bl b) (if b then "True" else "False")
  | int (i : Int) (h : i.natAbs.log2 < 1920) : Rp K H (.int i) (toString i)
  | str (x : Str) (h : (reprText x).length ≤ sizeLine) : Rp K H (.str x) (reprText x)
  | dat (a : Addr) (d : PyData) (h : Dp K H (.ref a) d) (h1 : d.showable = true) (h2 : d.hasDict = false) (h3 : d.depth ≤ 32) (h4 : d.shown.length ≤ sizeLine) : Rp K H (.ref a) d.shown
  | emp (a : Addr) (h : H a = some (.dK [])) : Rp K H (.ref a) (PyData.dict []).shown
theorem Rp.mono {K : PySem.W.Frag} {H H' : Hp} {v : V} {x : Str} (s : Same H H') (h : Rp K H v x) : Rp K H' v x := by
  cases h with
  | non => exact .non
  | bl b => exact .bl b
  | int i h => exact .int i h
  | str x h => exact .str x h
  | dat a d h h1 h2 h3 h4 => exact .dat a d (dp_mono s d _ h) h1 h2 h3 h4
  | emp a h => exact .emp a (s _ _ h)
def crReprA (K : PySem.W.Frag) : List V → Hp → VK → Prop := fun xs H Q => ∃ v x, xs = [v] ∧ Rp K H v x ∧ Q (.str x) H
theorem crRA {X : Cx} {K : PySem.W.Frag} {k : Nat} (g : Still X.A) (r : RoomH k X.A) (hK : X.K = K := by rfl) : CallR X (.builtin "repr") (crReprA K) := by
  subst hK
  intro pins s σ H xs us Q I v h
  obtain ⟨v0, x, rfl, hr, q⟩ := h
  obtain ⟨u, rfl, ru⟩ := vals1 v
  have un := r.un
  cases hr with
  | non =>
    obtain rfl : u = Value.none := ru
    exact PySem.P.repr_of_none ⟨.str _, H, I.tok _, ⟨_, rfl⟩, q⟩
  | bl b =>
    obtain rfl : u = Value.bool b := ru
    exact PySem.P.repr_of_bool ⟨.str _, H, I.tok _, ⟨_, rfl⟩, q⟩
  | int i h =>
    obtain ⟨t, rfl⟩ := ru
    exact PySem.P.repr_of_int h ⟨.str _, H, I.tok _, ⟨_, rfl⟩, q⟩
  | str y h =>
    obtain ⟨t, rfl⟩ := ru
    exact PySem.P.repr_of_str ⟨.str _, H, I.tok _, ⟨_, rfl⟩, q⟩ h
  | dat a d hd h1 h2 h3 h4 =>
    obtain rfl : u = Value.ref a := ru
    obtain ⟨as, rd⟩ := Dp.reads I d _ (.ref a) hd rfl
    exact repr_of_reads' rd h1 (fun z => by rw [h2] at z; cases z) g (by omega) (fun _ _ e => e) (fun h' u tk k => ⟨.str d.shown, H, I.kept k, ⟨u, rfl⟩, q⟩) h4
  | emp a ha =>
    obtain rfl : u = Value.ref a := ru
    obtain ⟨_, hsm, vs, kv, o, es, ep, ho, hx, hd, _, hp, _⟩ := dk_of I.hok ha
    have nb : a ≠ sysModules := beq_eq_false_iff_ne.mp hsm
    cases kv
    have hes : es.toList = [] := by
      generalize es.toList = l at hp
      cases hp
      rfl
    have rd : Reads s.heap (.ref a) (.dict []) (a :: [] ++ []) := Reads.dict ho hx.1 hd (by rw [hes]; exact .nil) (by rw [hes]; exact .nil)
    refine repr_of_reads' rd (by decide +kernel) (fun _ z => ?_) g (by show X.A.units + (_ + 1) < _; have : (PyData.dict []).depth ≤ 32 := by decide +kernel
                                                                       omega) (fun _ _ e => e) (fun h' u tk k => ⟨.str _, H, I.kept k, ⟨u, rfl⟩, q⟩) (by decide +kernel)
    simp only [List.cons_append, List.nil_append, List.append_nil, List.mem_cons, List.not_mem_nil, or_false] at z
    exact nb z.symm
theorem c_reprA {K : PySem.W.Frag} {v : V} {x : Str} {H : Hp} {Q : VK} (h : Rp K H v x) (q : Q (.str x) H) : crReprA K [v] H Q := ⟨v, x, rfl, h, q⟩
end Und
/-! lambdas that are handed to a definition which calls them in a try; the tables of code objects -/
namespace Und
open PySem PySem.Spec PyProof.Rows L2 PySem.HandSPX LamX
open L2H (RoomH roomH_of)
/-! ### data stays, where tables grow -/
theorem dp_ext {K : PySem.W.Frag} {H H' : Hp} (s : ExtN H H') : ∀ (d : PyData) (v : V), Dp K H v d → Dp K H' v d := by
  have e1 : ∃ H0 : Hp, H0 = fun b => match H b with | some (.tbl _) => none | o => o := ⟨_, rfl⟩
  obtain ⟨H0, e0⟩ := e1
  have sm : Same H0 H' := fun b o e => by
    have e' : (match H b with | some (.tbl _) => none | o => o) = some o := by
      rw [e0] at e
      exact e
    split at e'
    · cases e'
    · rename_i h
      exact s b o e' fun ps z => h ps (by rw [e', z])
  have get : ∀ (b : Addr) (o : HO), H b = some o → (∀ ps, o ≠ .tbl ps) → H0 b = some o := fun b o e n => by
    rw [e0]
    show (match H b with | some (.tbl _) => none | o => o) = some o
    rw [e]
    split
    · rename_i ps z
      exact absurd (Option.some.inj z) (n ps)
    · rfl
  have sq : ∀ {a : Addr} {xs : List V}, SqL K H a xs → SqL K H0 a xs := fun {a xs} h => by
    rcases h with (h | ⟨o, h⟩) | h
    · exact .inl (.inl (get _ _ h fun ps z => by cases z))
    · exact .inl (.inr ⟨o, get _ _ h fun ps z => by cases z⟩)
    · exact .inr h
  have st : ∀ {a : Addr} {xs : List V}, SqT K H a xs → SqT K H0 a xs := fun {a xs} h => by
    rcases h with (h | ⟨o, h⟩) | h
    · exact .inl (.inl (get _ _ h fun ps z => by cases z))
    · exact .inl (.inr ⟨o, get _ _ h fun ps z => by cases z⟩)
    · exact .inr h
  have all : ∀ (d : PyData) (v : V), Dp K H v d → Dp K H0 v d := by
    intro d v h
    induction h using Dp.rec (motive_2 := fun xs ds _ => DpAll K H0 xs ds) with
    | non => exact .non
    | bl b => exact .bl b
    | int i => exact .int i
    | str x => exact .str x
    | lst e _ ih => exact .lst (sq e) ih
    | tup e _ ih => exact .tup (st e) ih
    | nil => exact .nil
    | cons _ _ i1 i2 => exact .cons i1 i2
  exact fun d v h => dp_mono sm d v (all d v h)
theorem ExtN.seq {K : PySem.W.Frag} {H H' : Hp} {a : Addr} {xs : List V} (s : ExtN H H') (h : SqL K H a xs) : SqL K H' a xs := by
  rcases h with (h | ⟨o, h⟩) | h
  · exact .inl (.inl (s _ _ h fun ps z => by cases z))
  · exact .inl (.inr ⟨o, s _ _ h fun ps z => by cases z⟩)
  · exact .inr h
theorem ExtN.seqT {K : PySem.W.Frag} {H H' : Hp} {a : Addr} {xs : List V} (s : ExtN H H') (h : SqT K H a xs) : SqT K H' a xs := by
  rcases h with (h | ⟨o, h⟩) | h
  · exact .inl (.inl (s _ _ h fun ps z => by cases z))
  · exact .inl (.inr ⟨o, s _ _ h fun ps z => by cases z⟩)
  · exact .inr h
theorem Rp.ext {K : PySem.W.Frag} {H H' : Hp} {v : V} {x : Str} (s : ExtN H H') (h : Rp K H v x) : Rp K H' v x := by
  cases h with
  | non => exact .non
  | bl b => exact .bl b
  | int i h => exact .int i h
  | str x h => exact .str x h
  | dat a d h h1 h2 h3 h4 => exact .dat a d (dp_ext s d _ h) h1 h2 h3 h4
  | emp a h => exact .emp a (s _ _ h fun ps z => by cases z)
/-! ### a definition that makes lambdas -/
structure FunC (K : PySem.W.Frag) (x : Str) (st : Stmt) (f : Addr) (fd : FuncData) (c : Addr) : Prop where
  ex : ∃ (oc : Value) (od : Option Addr) (kV doc pm : Value) (an : Option Addr) (ct : Value) (osl : Array (Option Value)),
    fd = PySem.W.fnOf x x (defArgs st) (defBody st) (defScope st) .none kV doc pm an (.ref c) ct ∧ K.lookup f = some ⟨oc, od, .func fd, osl⟩ ∧ PySem.W.codeIn K (.ref c) x = true
section
variable {P : Program} {w : World} {K : PySem.W.Frag} {mg : Str → Option Value} {base : Heap} {k : Nat} {f c : Addr} {fd : FuncData} {ps N : List Str} {sp : Sp} {x : Str} {st : Stmt}
theorem okC (F : FunC K x st f fd c) (S : FnScope N ps (defScope st)) (n : ∀ vs H Q E, sp vs H Q E → vs.length = ps.length)
    (body : ∀ (A : Around) (outer : List Env) (s : Shared) (H : Hp) (vs : List V) (Q : VK) (E : XK), Still (A.deeper (envOfC x (defScope st) s.heap.objs.size f (.ref c))) → Room k (A.deeper (envOfC x (defScope st) s.heap.objs.size f (.ref c))) → sp vs H Q E →
      ∃ t, PSs (cxOf CX0 P w K mg base N x (defScope st) f (.ref c) A outer s H E).nox (defBody st) t ∧ t { nx := fun _ H' => Q .non H', rt := Q } (start N vs) H) : FnG P w K mg base CX0 (k + 1) f fd ps sp := by
  obtain ⟨oc, od, kV, doc, pm, an, ct, osl, rfl, lk, hcd⟩ := F.ex
  exact ⟨n, fun A g r outer s H args us vs Q E e0 b v h => LamX.run_ofS lk hcd S r e0 b v (n _ _ _ _ h) fun r' => let ⟨t, p, q⟩ := body A outer s H vs Q E g r' h; ⟨t, p.nox, q⟩⟩
end
/-! ### what the definition with the try makes of a lambda -/
section
variable {X : Cx}
/-- the call of the lambda in the try's body -/
def tAct (tl : XK → Hp → VK → Prop) (f c' : Addr) (q : Str) (W : WX) : TE := fun σ H Q => ∃ Ech : XK, (∀ cls d σ' H', Ech cls d H' → W cls d σ' H') ∧ σ[0]? = some (some (.ref f)) ∧ H c' = some (CodeO c' q) ∧ tl Ech H Q
theorem pe_actW {X : Cx} {tl : XK → Hp → VK → Prop} {f c' : Addr} {q : Str} {W : WX} {e : Expr} (act : ∀ E : XK, (∀ cls d σ' H', E cls d H' → W cls d σ' H') → PE X e (fun σZ HZ Q => σZ[0]? = some (some (.ref f)) ∧ HZ c' = some (CodeO c' q) ∧ tl E HZ Q)) : PE X e (tAct tl f c' q W) := by
  refine ⟨fun pins s σ H Q I h => ?_⟩
  obtain ⟨Ech, hW, h1, h2, h3⟩ := h
  exact (act Ech hW).run pins s σ H Q I ⟨h1, h2, h3⟩
theorem c_act {tl : XK → Hp → VK → Prop} {f c' : Addr} {q : Str} {W : WX} {σ : L2.St} {H : Hp} {Q : VK} (Ech : XK) (hW : ∀ cls d σ' H', Ech cls d H' → W cls d σ' H') (h1 : σ[0]? = some (some (.ref f))) (h2 : H c' = some (CodeO c' q)) (h3 : tl Ech H Q) : tAct tl f c' q W σ H Q := ⟨Ech, hW, h1, h2, h3⟩
/-- x(lambda: body) -/
theorem lamD {T : List (Addr × Str)} {TT : (XK → Hp → VK → Prop) → Hp → VK → Prop} {x a : Str} {stg : Stmt} {g c P : Addr} {k : Nat} {fdg : FuncData} {Ng : List Str} {params : Arguments} {body : Expr} {scope : Scope} {t : XK → TE} {p lpos pos : Pos}
    (D : FD X.K X.mg x stg [a] g fdg) (Sg : FnScope Ng [a] (defScope stg)) (hNg : Ng[0]? = some a) (hva : Vis (defScope stg) a) (hG : ∀ cdv, GivesTo X Ng x (defScope stg) g cdv (defBody stg) a (X.env.qual ++ "<lambda>") TT)
    (TB : TabB X.base X.mg c P) (hcode : X.env.code = .ref c) (hmT : (P, X.env.qual ++ "<lambda>") ∈ T) (hu : ∀ p ∈ T, p.1 = P → p.2 = X.env.qual ++ "<lambda>") (hr : Room (k + 2) X.A) (hg : Gl X x) (L : LamS X.env.scope scope) (hdef : defaultsOf params X.env = ([], []))
    (hbind : ∀ (q : Str) (cl : List (Str × Addr)) (pm cv ctv : Value), bindArgs (PySem.W.kla_fn "<lambda>" q params body scope cl pm cv ctv) ⟨[], []⟩ = pure [])
    (hbody : ∀ (A : Around) (outer : List Env) (s : Shared) (H : Hp) (E : XK) (f c' : Addr), Room k (A.deeper (lamEnv X scope s.heap.objs.size f c')) → PE (lamCx X A outer s H E scope f c') body (t E))
    (hdb : (x == ("__debug__" : Str)) = false := by decide) (hd : (a == ("__debug__" : Str)) = false := by decide) (hcd : (a == ("__classdict__" : Str)) = false := by decide) :
    PE X (.Call (.Name x p) [.Lambda params body scope lpos] [] pos) (tLam T TT t) := by
  obtain ⟨oc, od, kV, doc, pm, an, cdv, ct, osl, rfl, lk, hcg⟩ := D.F.ex
  exact pe_lamcall hg D.m D.F.kp lk hcg D.b Sg hNg hva (hG cdv) TB hcode hmT hu hr L hdef hbind hbody hdb hd hcd
theorem c_lam {T : List (Addr × Str)} {TT : (XK → Hp → VK → Prop) → Hp → VK → Prop} {t : XK → TE} {σ : L2.St} {H : Hp} {Q : VK} (hT : Tabs T H) (h : ∀ H1, ExtN H H1 → Tabs T H1 → TT (fun E H' Q' => t E σ H' Q') H1 Q) : tLam T TT t σ H Q := ⟨hT, h⟩
end
/-! ### the law's own call, with tables -/
section
variable {P : Program} {w : World} {K : PySem.W.Frag} {mg mb : Str → Option Value} {CX : CXT} {k : Nat} {fa a : Addr} {cs : List (Addr × Addr)} {fd : FuncData} {x : Str} {sp : Sp} {s : Shared} {vs : List Value} {ns : List Int}
/-- how the script and the tables are seen -/
structure SeenT (K : PySem.W.Frag) (P : Program) (w : World) (s : Shared) (a : Addr) (ns : List Int) (ts : List Addr) (H : Hp) : Prop where
  only : ∀ b, H b = none ∨ b ∈ ts ∨ ∃ o xs, H b = some (.frz o (.lst xs))
  tab : ∀ b ∈ ts, H b = some (.tbl #[])
  seq : SqL K H a (ns.map V.int)
  ok : HOk P w H s.heap
  base : ∀ b o, s.heap.get? b = some o → H b = none ∨ (b = a ∧ K.lookup a = none) ∨ b ∈ ts
theorem seenT {ts : List Addr} (hT : ∀ b ∈ ts, s.heap.get? b = some { cls := .none, data := .fields #[] }) (KX : K.In s.heap) (ha : s.heap.get? a = some { cls := .type "list", data := .seq vs.toArray }) (hi : IntsAre vs ns) (hl : ns.length ≤ sizeLine) : ∃ H, SeenT K P w s a ns ts H := by
  obtain ⟨H0, S⟩ := seen (P := P) (w := w) KX ha hi hl
  have na : a ∉ ts := fun z => by
    have q := (hT a z).symm.trans ha
    have q' : Data.fields #[] = Data.seq vs.toArray _ := congrArg Obj.data (Option.some.inj q)
    cases q'
  have nF : ∀ b ∈ ts, H0 b = none := fun b hb => by
    rcases S.only b with h | ⟨o, xs, h⟩
    · exact h
    · obtain ⟨e, _, its, n, _, e2⟩ := S.ok b _ h
      have q := (hT b hb).symm.trans e2
      have q' : Data.fields #[] = Data.seq _ _ := congrArg Obj.data (Option.some.inj q)
      cases q'
  refine ⟨fun b => if b ∈ ts then some (.tbl #[]) else H0 b, fun b => ?_, fun b hb => if_pos hb, ?_, fun b u e => ?_, fun b o e => ?_⟩
  · by_cases hb : b ∈ ts
    · exact .inr (.inl hb)
    · rcases S.only b with h | ⟨o, xs, h⟩
      · exact .inl ((if_neg hb).trans h)
      · exact .inr (.inr ⟨o, xs, (if_neg hb).trans h⟩)
  · rcases S.seq with (h | ⟨o, h⟩) | h
    · exact .inl (.inl ((if_neg na).trans h))
    · exact .inl (.inr ⟨o, (if_neg na).trans h⟩)
    · exact .inr h
  · by_cases hb : b ∈ ts
    · have e' := (if_pos hb).symm.trans e
      cases e'
      exact hT b hb
    · have e' := (if_neg hb).symm.trans e
      rcases S.only b with h | ⟨o, xs, h⟩
      · rw [h] at e'
        cases e'
      · rw [h] at e'
        cases e'
        exact S.ok b _ h
  · by_cases hb : b ∈ ts
    · exact .inr (.inr hb)
    · rcases S.base b o e with h | h
      · exact .inl ((if_neg hb).trans h)
      · exact .inr (.inl h)
theorem SeenT.at {ts : List Addr} {H : Hp} {b : Addr} {o : Obj} (S : SeenT K P w s a ns ts H) (e : s.heap.get? b = some o) (n : K.lookup b ≠ none ∨ b ≠ a) (nt : b ∉ ts) : (hidT s.heap H).get? b = some o := by
  rcases S.base b o e with h | ⟨h, h'⟩ | h
  · exact hidT_get e h
  · rcases n with n | n
    · rw [h] at n
      exact absurd h' n
    · exact absurd h n
  · exact absurd h nt
/-- what the end has to know of the law's promise -/
structure LawT (P : Program) (w : World) (K : PySem.W.Frag) (CX : CXT) (k n : Nat) (x : Str) (mg : Str → Option Value) (fa : Addr) (h : Heap) (fd : FuncData) (cs : List (Addr × Addr)) (sp : Sp) : Prop where
  tab : ∀ p ∈ cs, h.get? p.2 = some { cls := .none, data := .fields #[] }
  out : ∀ p ∈ cs, K.lookup p.2 = none
  code : ∀ p ∈ cs, PySem.W.CodeHd h p.1 p.2
  bind : ∀ (s : Shared) (u : Value), BindsTo s fd ⟨[u], []⟩ [(x, u)]
  say : ∀ (H : Hp) (a : Addr) (ns : List Int), ns.length ≤ n → (∀ p ∈ cs, H p.2 = some (.tbl #[])) → SqL K H a (ns.map V.int) → sp [.ref a] H (fun v _ => v = .bl true) fun _ _ _ => False
  run : ∀ base : Heap, K.In base → base.Ns mainGlobals mg → (∀ p ∈ cs, TabB base mg p.1 p.2) → FnG P w K mg base CX k fa fd [x] sp
theorem law_callT {n : Nat} (KX : K.In s.heap) (hns : s.heap.Ns mainGlobals mg) (hb : s.heap.Ns builtinsNs mb) (hbb : ∀ x : Str, x ≠ "__name__" → mb x = bootBuiltins x) (hlim : s.heap.NoLimit) (hg : s.gens = #[])
    (hbm : ∃ (bm : Addr) (ob : Obj), mg "__builtins__" = some (.ref bm) ∧ bm ≠ builtinsNs ∧ s.heap.get? bm = some ob ∧ ob.cls = .type "module" ∧ ob.dict = some builtinsNs ∧ ob.data = .plain)
    (ha : s.heap.get? a = some { cls := .type "list", data := .seq vs.toArray }) (hi : IntsAre vs ns) (hl : ns.length ≤ n) (hn : n ≤ sizeLine) (hr : Room k callerA) (L : LawT P w K CX k n x mg fa s.heap fd cs sp) (hCX : ∀ H e s', CX [] H s (fun _ _ _ => False) e s' → False) :
    codeAny (model P w) callerA (.call (.ref fa) ⟨[.ref a], []⟩) (fun r s' => r = .ok (.ret (.bool true)) ∧ OldK s.heap s'.heap ∧ s'.os = s.os ∧ AllBare s'.gens) s := by
  have hT : ∀ b ∈ cs.map (·.2), s.heap.get? b = some { cls := .none, data := .fields #[] } := fun b hb => by
    obtain ⟨p, hp, rfl⟩ := List.mem_map.mp hb
    exact L.tab p hp
  obtain ⟨H, S⟩ := seenT (P := P) (w := w) hT KX ha hi (Nat.le_trans hl hn)
  have notT : ∀ {b : Addr} {o : Obj}, s.heap.get? b = some o → o.data ≠ .fields #[] → b ∉ cs.map (·.2) := fun {b o} e d z => by
    rw [hT b z] at e
    cases e
    exact d rfl
  have notA : ∀ {b : Addr} {o : Obj}, s.heap.get? b = some o → (∀ vs n, o.data ≠ .seq vs n) → b ≠ a := fun {b o} e d z => by
    rw [z, ha] at e
    cases e
    exact d _ _ rfl
  have kOut : ∀ b ∈ cs.map (·.2), K.lookup b = none := fun b hb => by
    obtain ⟨p, hp, rfl⟩ := List.mem_map.mp hb
    exact L.out p hp
  have names : ∀ {b : Addr} {m : Str → Option Value}, s.heap.Ns b m → (hidT s.heap H).Ns b m := fun {b m} ⟨o, es, ep, e, d, r⟩ => by
    refine ⟨o, es, ep, S.at e (.inr (notA e fun vs n z => ?_)) (notT e fun z => ?_), d, r⟩
    · rw [d] at z
      cases z
    · rw [d] at z
      cases z
  have kb : K.In (hidT s.heap H) := fun b o e => S.at (KX b o e) (.inl fun z => by rw [e] at z; cases z) fun z => by
    rw [kOut b z] at e
    cases e
  have mod : Mod K mg (hidT s.heap H) := ⟨kb, names hns, ⟨mb, names hb, hbb⟩, hlim.elim fun mc h => ⟨mc, names h.1, h.2⟩⟩
  have TB : ∀ p ∈ cs, TabB (hidT s.heap H) mg p.1 p.2 := fun p hp => by
    have at2 := L.tab p hp
    have gP : mainGlobals ≠ p.2 := fun z => by
      obtain ⟨o, es, ep, e, d, _⟩ := hns
      rw [z, at2] at e
      cases e
      cases d
    refine ⟨?_, ?_, gP⟩
    · obtain ⟨o, us, file, tf, fl, tg, inF, tx, tt, e1, r1, r2, r3, rest⟩ := L.code p hp
      refine ⟨o, us, file, tf, fl, tg, inF, tx, tt, S.at e1 (.inr (notA e1 fun vs n z => ?_)) (notT e1 fun z => ?_), r1, r2, r3, rest⟩
      · rw [r2] at z
        cases z
      · rw [r2] at z
        cases z
        simp at r3
    · obtain ⟨bm, ob, b1, b2, b3, b4, b5, b6⟩ := hbm
      have n1 : bm ≠ mainGlobals := fun z => by
        obtain ⟨o, es, ep, e, d, _⟩ := hns
        rw [z, e] at b3
        cases b3
        rw [d] at b6
        cases b6
      have n2 : bm ≠ p.2 := fun z => by
        rw [z, at2] at b3
        cases b3
        cases b6
      refine ⟨bm, ob, b1, b2, n1, n2, S.at b3 (.inr (notA b3 fun vs n z => ?_)) (notT b3 fun z => ?_), b4, b5, b6⟩
      · rw [b6] at z
        cases z
      · rw [b6] at z
        cases z
  have no : ∀ b : Addr, b ∉ frs ([] : List Env) := fun b z => nomatch (show b ∈ ([] : List Addr) from z)
  have e0 : Env0 P w K mg (hidT s.heap H) callerA [] s H := ⟨rfl, mod, fun _ _ => of_hidT, Nat.le_of_eq (hidT_size _ _), trivial, fun b z => absurd z (no b), S.ok, .of_eq hg⟩
  refine codeAny_mono ((L.run _ kb mod.glob TB).go callerA still_caller hr [] s H _ [.ref a] [.ref a] _ _ e0 (L.bind s (.ref a)) (.cons rfl .nil) (L.say H a ns hl (fun p hp => S.tab _ (List.mem_map.mpr ⟨p, hp, rfl⟩)) S.seq)) fun r s' h => ?_
  match r, h with
  | .error e, h => exact (hCX H e s' h).elim
  | .ok (.ret u), ⟨v, H', os, bare, un, ok', rv, (qv : v = .bl true)⟩ =>
    subst qv
    obtain rfl : u = Value.bool true := rv
    have kept : ∀ b o, b ∉ cs.map (·.2) → s.heap.get? b = some o → s'.heap.get? b = some o := fun b o nb e => by
      rcases S.only b with n | n | ⟨o', xs, n⟩
      · exact un.keep b o e n (no b) (by simp)
      · exact absurd n nb
      · have o1 := (S.ok b _ n).1
        have o2 := (ok' b _ (un.frzs b o' _ n)).1
        rw [e] at o1
        cases o1
        exact o2
    have grown : ∀ b ∈ cs.map (·.2), ∃ more : Array Value, s'.heap.get? b = some { cls := .none, data := .fields more } := fun b hb => by
      obtain ⟨more, z⟩ := un.tbls b #[] (S.tab b hb)
      exact ⟨_, ok' b _ z⟩
    refine ⟨rfl, ⟨fun b o e => ?_, fun b o e => ?_⟩, os, bare⟩
    · by_cases hb : b ∈ cs.map (·.2)
      · obtain ⟨more, hm⟩ := grown b hb
        obtain ⟨p, hp, rfl⟩ := List.mem_map.mp hb
        rw [L.tab p hp] at e
        cases e
        exact .inr (.inl ⟨((L.code p hp).tab (L.tab p hp)).isCodeTable, rfl, #[], more, rfl, by rw [Array.empty_append]; exact hm⟩)
      · exact .inl (kept b o hb e)
    · by_cases hb : b ∈ cs.map (·.2)
      · obtain ⟨more, hm⟩ := grown b hb
        exact ⟨_, hm⟩
      · exact ⟨o, kept b o hb e⟩
end
theorem walk_ofT {l : PySem.W.OpenLaw} {n k : Nat} {q : Program} {loose : List Str} {XP : (Str → Option Value) → Heap → Prop} {YP : World → Heap → Prop} {d : DefRec} {K : Params → PySem.W.Frag} {CX : World → CXT} {x : Str}
    (hn : l.most = some n) (hn2 : n ≤ sizeLine) (hdf : d.params.defaults = []) (hr : Room k callerA) (hY : ∀ (w : World) (h : Heap), YP w h → (K w.params).In h)
    (F : ∀ (w : World) (mg : Str → Option Value) (fa : Addr) (h : Heap), YP w h → (K w.params).In h → h.Ns mainGlobals mg → mg d.name = some (.ref fa) → ∃ fd cs sp, LawT l.prog w (K w.params) (CX w) k n x mg fa h fd cs sp)
    (hCX : ∀ (w : World) (H : Hp) (s : Shared) (e : Value) (s' : Shared), CX w [] H s (fun _ _ _ => False) e s' → False) :
    PySem.W.WalkO q loose XP YP l.row.toRowW d [] (fun f vs => PySem.call f vs) :=
  Att.attach_callB hn hdf fun w _ s mg mb fa _ _ _ _ a vs ns G Y _ _ _ hmg hobj hints hlen _ hg =>
    let KX := hY w _ Y
    let ⟨_, _, _, L⟩ := F w mg fa _ Y KX G.T.g hmg
    law_callT KX G.T.g G.T.b G.T.builtins G.T.nolimit hg G.T.bmain hobj hints hlen hn2 hr L fun H e s' => hCX w H s e s'
/-! ### what the written part says of a maker's code -/
/-- the object is a code object, its table at P -/
def codeOk (o : Obj) (c P : Addr) : Bool := PySem.W.codeHdIn [(c, o)] c P
def codeTab (o : Obj) : Option Addr := match o.data with
  | .fields vs => (match (vs[11]? : Option Value) with | some (.ref P) => some P | _ => none)
  | _ => none
theorem codeHd_of {K : PySem.W.Frag} {h : Heap} {c P : Addr} {o : Obj} (X : K.In h) (e : K.lookup c = some o) (k : codeOk o c P = true) : PySem.W.CodeHd h c P := by
  refine PySem.W.codeHd_of_K X ?_
  have e2 : List.lookup c [(c, o)] = some o := by simp
  unfold codeOk PySem.W.codeHdIn at k
  unfold PySem.W.codeHdIn
  rw [e]
  rw [e2] at k
  exact k
end Und
namespace Und
open PySem PySem.Spec PyProof.Rows L2 LamX
theorem _root_.L2H.RoomH.units {k : Nat} {A : Around} (r : L2H.RoomH k A) : A.units + 64 < cLine := by
  have := r.un
  omega
/-- the name of the lambdas that the definition x makes -/
abbrev lamQ (x : Str) : Str := (x ++ ".<locals>.") ++ "<lambda>"
/-- what a definition that makes lambdas leans on -/
structure LTab (base : Heap) (mg : Str → Option Value) (Ts : List (Addr × Str)) (x : Str) (c P : Addr) : Prop where
  tb : TabB base mg c P
  mem : (P, lamQ x) ∈ Ts
  uq : ∀ p ∈ Ts, p.1 = P → p.2 = lamQ x
theorem tabs0 {Ts : List (Addr × Str)} {H : Hp} (h : ∀ p ∈ Ts, H p.1 = some (.tbl #[])) : Tabs Ts H := fun p hp => TabS.nil (h p hp)
theorem tab_uq : ∀ {Ts : List (Addr × Str)} {P : Addr} {q : Str}, (Ts.Pairwise fun a b => a.1 ≠ b.1) → (P, q) ∈ Ts → ∀ p ∈ Ts, p.1 = P → p.2 = q
  | [], _, _, _, h, _, _, _ => by cases h
  | a :: r, P, q, pw, h, p, hp, e => by
    obtain ⟨h1, h2⟩ := List.pairwise_cons.mp pw
    rcases List.mem_cons.mp h with h | h
    · rcases List.mem_cons.mp hp with hp | hp
      · rw [hp, ← h]
      · have := h1 p hp
        rw [← h] at this
        exact absurd e.symm this
    · rcases List.mem_cons.mp hp with hp | hp
      · have := h1 _ h
        rw [← hp] at this
        exact absurd e this
      · exact tab_uq h2 h p hp e
theorem c_try {K : PySem.W.Frag} {cs : List Value} {i n : Nat} {tb : WX → TS} {ts : TS} {D : Ends} {σ : L2.St} {H : Hp} (h : tb (wT K cs i n ts D) D σ H) : tTry K cs i n tb ts D σ H := h
end Und
/-! draws, comprehensions and the law's end where tables grow -/
namespace Und
open PySem PySem.Spec PyProof.Rows L2 LamX
/-- the pool is drawn from, tables grow -/
structure StpN (p : Addr) (H H' : Hp) : Prop where
  s : ExtN (hid p H) (hid p H')
  q : Pool H' p
section
variable {p a : Addr} {H H' H2 : Hp} {T : List (Addr × Str)}
theorem Pool.noT (q : Pool H p) : ∀ ps, H p ≠ some (.tbl ps) := fun ps z => by
  obtain ⟨a, b, c, e, _⟩ := q
  rw [e] at z
  cases z
theorem StpN.of (s : Stp p H H') : StpN p H H' := ⟨.of s.s, s.q⟩
theorem StpN.ext (q : Pool H p) (e : ExtN H H') : StpN p H H' := by
  refine ⟨fun b o h n => ?_, ?_⟩
  · by_cases hb : b = p
    · rw [hb] at h
      unfold hid at h
      rw [if_pos rfl] at h
      cases h
    · rw [hid_ne hb] at h ⊢
      exact e _ _ h n
  · obtain ⟨x, y, z, e1, r⟩ := q
    exact ⟨x, y, z, e _ _ e1 (fun ps z => by cases z), r⟩
theorem StpN.trans (s : StpN p H H') (t : StpN p H' H2) : StpN p H H2 := ⟨ExtN.trans s.s t.s, t.q⟩
theorem StpN.refl (q : Pool H p) : StpN p H H := ⟨.refl _, q⟩
theorem StpN.at {o : HO} (s : StpN p H H') (e : H a = some o) (ne : p ≠ a) (n : ∀ ps, o ≠ .tbl ps) : H' a = some o := by
  have h := s.s a o ((hid_ne ne.symm).trans e) n
  rwa [hid_ne ne.symm] at h
theorem tabs_hid (q : Pool H p) (t : Tabs T H) : Tabs T (hid p H) := fun x hx => by
  obtain ⟨ps, h1, h2, h3⟩ := t x hx
  have n1 : x.1 ≠ p := fun z => by
    rw [z] at h1
    exact q.noT ps h1
  refine ⟨ps, (hid_ne n1).trans h1, h2, fun pos cv hc => ?_⟩
  obtain ⟨c, e1, e2⟩ := h3 pos cv hc
  refine ⟨c, e1, (hid_ne fun z => ?_).trans e2⟩
  rw [z] at e2
  obtain ⟨x, y, w, e3, _⟩ := q
  rw [e3] at e2
  unfold CodeO at e2
  cases e2
theorem tabs_stp (q : Pool H p) (s : Stp p H H') (t : Tabs T H) : Tabs T H' := ((tabs_hid q t).ext s.s).ext (hid_same p H')
/-- an object that is neither a table nor a code object is laid or changed -/
theorem tabs_put {D : Addr} {l l' : List V} (t : Tabs T H) (e : H D = some (.lst l) ∨ H D = none) : Tabs T (upd H D (.lst l')) := fun x hx => by
  obtain ⟨ps, h1, h2, h3⟩ := t x hx
  have no : ∀ {b : Addr} {o : HO}, H b = some o → (∀ l, o ≠ .lst l) → b ≠ D := fun {b o} h n z => by
    rcases e with e | e
    · rw [z, e] at h
      exact n _ (Option.some.inj h).symm
    · rw [z, e] at h
      cases h
  refine ⟨ps, (upd_ne (no h1 fun l z => by cases z)).trans h1, h2, fun pos cv hc => ?_⟩
  obtain ⟨c, e1, e2⟩ := h3 pos cv hc
  exact ⟨c, e1, (upd_ne (no e2 fun l z => by
    unfold CodeO at z
    cases z)).trans e2⟩
theorem extN_put {D : Addr} {o : HO} (s : ExtN H H') (nD : H D = none) : ExtN H (upd H' D o) := fun b u e n => by
  rw [upd_ne (ne_of_none e nD)]
  exact s b u e n
end
section
variable {te : TE} {i0 n : Nat} {vs : List Nat} {σ : L2.St} {H1 : Hp} {D : Addr} {Qd : Hp → Prop} {T : List (Addr × Str)}
/-- a comprehension over range(n), tables grow on the way -/
theorem lc_rgT (R : Nat → V → Prop) (t1 : Tabs T H1) (nD : H1 D = none) (hn : n ≤ 100000) (hw : ∀ v, wipe ((wipe σ vs).set i0 (some v)) vs = wipe σ vs)
    (hs : ∀ i H (Q' : VK), i < n → ExtN H1 H → Tabs T H → (∀ y H4, ExtN H H4 → Tabs T H4 → R i y → Q' y H4) → te ((wipe σ vs).set i0 (some (.int (i : Int)))) H Q')
    (hd : ∀ H xs, ExtN H1 H → Tabs T H → H D = some (.lst xs) → xs.length = n → (∀ i y, xs[i]? = some y → R i y) → Qd H) : LcW (Itr 0 n) te (gName i0) tYes vs σ H1 D Qd := by
  refine lc_range (fun i H => ExtN H1 H ∧ Tabs T H ∧ Acc R D i H) ⟨.of (same_new nD), tabs_put (l := []) t1 (.inr nD), [], upd_same, rfl, fun j y e => by simp at e⟩ (fun i H hi h => ?_) (fun H h => ?_)
  · obtain ⟨st, tt, xs, e, l, r⟩ := h
    refine ⟨hw _, c_yes ?_⟩
    rw [if_pos rfl]
    rw [Int.zero_add]
    refine hs i H _ hi st tt fun y H4 s4 t4 ry => ?_
    have e4 := s4 _ _ e fun ps z => by cases z
    exact ⟨xs, e4, szl (by omega), extN_put (ExtN.trans st s4) nD, tabs_put t4 (.inl e4), Acc.put l r ry⟩
  · obtain ⟨st, tt, xs, e, l, r⟩ := h
    exact hd H xs st tt e l r
end
theorem Pool.neS {p f : Addr} {H : Hp} {ns : List Str} (q : Pool H p) (e : H f = some (.lst (ns.map V.str))) : p ≠ f := fun z => by
  obtain ⟨a, b, c, e2, _⟩ := q
  rw [z, e] at e2
  have := HO.lst.inj (Option.some.inj e2)
  cases ns with
  | nil => cases this
  | cons x r => cases this
end Und
namespace Und
open PySem PySem.Spec PyProof.Rows L2
/-- x is b, of an int or a truth value -/
def rIsBV : R2 := fun x y H Q => ∃ b : Bool, y = .bl b ∧ ((∃ a : Bool, x = .bl a ∧ Q (.bl (decide (a = b))) H) ∨ ∃ i : Int, x = .int i ∧ Q (.bl false) H)
theorem opIsBV {X : Cx} : OpR X (compareOp .Is) rIsBV := by
  intro pins s σ H x y v u Q I rx ry h
  obtain ⟨b, rfl, h⟩ := h
  cases (show u = Value.bool b from ry)
  rcases h with ⟨a, rfl, q⟩ | ⟨i, rfl, q⟩
  · cases (show v = Value.bool a from rx)
    by_cases e : a = b
    · subst e
      exact wpAny_is_self rfl ⟨.bl true, H, I, rfl, by simpa using q⟩
    · exact wpAny_is_other rfl (fun z => e (Value.bool.inj z)) ⟨.bl false, H, I, rfl, by simpa [e] using q⟩
  · obtain ⟨t, rfl⟩ := rx
    exact wpAny_is_other rfl (fun z => by cases z) ⟨.bl false, H, I, rfl, q⟩
theorem c_isBI {b : Bool} {i : Int} {H : Hp} {Q : VK} (q : Q (.bl false) H) : rIsBV (.int i) (.bl b) H Q := ⟨b, rfl, .inr ⟨i, rfl, q⟩⟩
theorem c_isBB {a b : Bool} {H : Hp} {Q : VK} (q : Q (.bl (decide (a = b))) H) : rIsBV (.bl a) (.bl b) H Q := ⟨b, rfl, .inl ⟨a, rfl, q⟩⟩
end Und
namespace Und
open PySem PySem.Spec PyProof.Rows L2
theorem opRepT {X : Cx} {K : PySem.W.Frag} (h : X.K = K := by rfl) : OpR X (binaryOp .Mult) (rRepT K) := h ▸ op_repT
theorem c_repT {K : PySem.W.Frag} {a : Addr} {xs : List V} {k : Nat} {H : Hp} {Q : VK} (e : SqT K H a xs) (h0 : xs ≠ []) (h1 : 2 ≤ k ∧ k ≤ 1000) (h2 : xs.length ≤ 1000) (h : ∀ p H2, Same H H2 → H2 p = some (.tup (List.replicate k xs).flatten) → Q (.ref p) H2) : rRepT K (.ref a) (.int (k : Int)) H Q :=
  ⟨a, k, xs, rfl, rfl, e, h0, by omega, by omega, h2, fun p np => h p _ (same_new np) (by rw [upd_same]; rfl)⟩
theorem c_repL {a : Addr} {xs : List V} {k : Nat} {H : Hp} {Q : VK} (e : H a = some (.lst xs)) (h1 : k ≤ 1000 ∧ xs.length ≤ 1000) (h : ∀ p H2, Same H H2 → H2 p = some (.lst (List.replicate k xs).flatten) → Q (.ref p) H2) : rRep (.ref a) (.int (k : Int)) H Q :=
  ⟨a, k, xs, rfl, rfl, e, by omega, by omega, Nat.le_trans (Nat.mul_le_mul h1.2 h1.1) (by decide), fun p np => h p _ (same_new np) (by rw [upd_same]; rfl)⟩
end Und
/-! C(k = v, ..) without positional values; star methods that raise -/
namespace Und
open PySem PySem.Spec PyProof.Rows L2
/-- keywords in any order, defaults for what lacks -/
structure KwD (K : PySem.W.Frag) (fd : FuncData) (ps : List Str) (n : Nat) (ks : List Str) (dvs : List V) (g : {α : Type} → List α → List α → List α → List α) : Prop where
  ex : ∃ its : List Value, KBn K fd ps n ks (fun us ws => g us its ws) (fun vs zs => g vs dvs zs)
def g2r {α : Type} (vs _ zs : List α) : List α := match vs, zs with
  | [s], [b, a] => [s, a, b]
  | _, _ => []
def g2f {α : Type} (vs ds zs : List α) : List α := match vs, ds, zs with
  | [s], [d, _], [b] => [s, d, b]
  | _, _, _ => []
theorem g2r_rel {vs ds zs : List V} {us its ws : List Value} (h1 : Vals vs us) (h2 : Vals ds its) (h3 : Vals zs ws) : Vals (g2r vs ds zs) (g2r us its ws) := by
  cases h1 with
  | nil => exact .nil
  | cons r t =>
    cases t with
    | nil =>
      cases h3 with
      | nil => exact .nil
      | cons r2 t2 =>
        cases t2 with
        | nil => exact .nil
        | cons r3 t3 =>
          cases t3 with
          | nil => exact .cons r (.cons r3 (.cons r2 .nil))
          | cons _ _ => exact .nil
    | cons _ _ => exact .nil
theorem g2f_rel {vs ds zs : List V} {us its ws : List Value} (h1 : Vals vs us) (h2 : Vals ds its) (h3 : Vals zs ws) : Vals (g2f vs ds zs) (g2f us its ws) := by
  cases h1 with
  | nil => exact .nil
  | cons r t =>
    cases t with
    | cons _ _ => exact .nil
    | nil =>
      cases h2 with
      | nil => exact .nil
      | cons q u =>
        cases u with
        | nil => exact .nil
        | cons q2 u2 =>
          cases u2 with
          | cons _ _ => exact .nil
          | nil =>
            cases h3 with
            | nil => exact .nil
            | cons r2 t2 =>
              cases t2 with
              | nil => exact .cons r (.cons q (.cons r2 .nil))
              | cons _ _ => exact .nil
section
variable {X : Cx} {CX : CXT} {k : Nat} {f C : Addr} {fd : FuncData} {ps ks : List Str} {sp : Sp} {E : XK} {x : Str} {p pos : Pos} {kws : List Keyword} {tk : TA} {dvs : List V} {g : {α : Type} → List α → List α → List α → List α}
def rMkK (C : Addr) (m : Nat) (sp : Sp) (dvs : List V) (g : {α : Type} → List α → List α → List α → List α) (E : XK) (zs : List V) (H : Hp) (Q : VK) : Prop := zs.length = m ∧ ∀ x dx, H x = none → H dx = none → dx ≠ x → sp (g [.ref x] dvs zs) (upd (upd H dx (.own x)) x (.ins C dx [])) (fun v H3 => v = .non ∧ Q (.ref x) H3) E
def tMkK (C : Addr) (m : Nat) (sp : Sp) (dvs : List V) (g : {α : Type} → List α → List α → List α → List α) (E : XK) (tk : TA) : TE := fun σ H Q => tk σ H fun zs H1 => rMkK C m sp dvs g E zs H1 Q
theorem c_mkK {σ : L2.St} {H : Hp} {Q : VK} {m : Nat} (h : tk σ H fun zs H1 => rMkK C m sp dvs g E zs H1 Q) : tMkK C m sp dvs g E tk σ H Q := h
theorem pe_makeK0 (M : Mk X.K C f) (F : FnOk X.prog X.w X.K X.mg X.base CX k f fd ps sp) (hr : Room (k + 1) X.A) (hg : Gl X x) (hm : X.mg x = some (.ref C)) (hb : KwD X.K fd ps 1 ks dvs g) (hx : Passes CX X E) (hkw : PK X kws tk)
    (hdb : (x == ("__debug__" : Str)) = false := by decide) (hall : (backToKw pos (keywordEach kws X.env)).all (·.1.isSome) = true := by rfl) (hks : (backToKw pos (keywordEach kws X.env)).filterMap (·.1) = ks := by rfl)
    (hpl : ((backTo pos (starEach [] X.env)).any (·.1) || (backToKw pos (keywordEach kws X.env)).any (·.1.isNone)) = false := by rfl) :
    PE X (.Call (.Name x p) [] kws pos) (tMkK C ks.length sp dvs g E tk) := by
  obtain ⟨its, hb⟩ := hb.ex
  refine ⟨fun pins s σ H Q I h => ?_⟩
  refine wpAny_Call_Name_kw (ld_glob I hg hm ?_ hdb)
  refine PySem.W.callWith_KW0 (first := []) (h₀ := X.base) I.ok.mod.kin M.kp hall (thn (hkw.run pos pins s σ H _ I h) fun ws s2 ⟨zs, H2, I2, rz, l2, q2⟩ => ⟨I2.kIn, ?_⟩) hpl
  rw [hks]
  exact run_makeN (n := 0) (us := []) M F hr hb hx I2 .nil rz rfl l2 q2
end
section
variable {X : Cx} {CX : CXT} {k : Nat} {C g p : Addr} {mc : Value} {sp : Sp} {E : XK} {o : Expr} {m : Str} {pos apos : Pos} {ta : TE} {pl : Sem Bool}
/-- C.m(), m a class method -/
theorem pe_cmeth0 (he : PE X o ta) (r : ClX.CRead X.K C mc) (c : ClX.CMet X.K C mc m p g) (F : FnR X.prog X.w X.K X.mg X.base CX k g sp) (hr : Room k X.A) (hx : Passes CX X E)
    (ht : eval (.Call (.Attribute o m apos) [] [] pos) X.env = (do
      let ov ← eval o X.env
      standAt apos.atName
      let (f, first) ← holding [ov] (getMethod ov m pl)
      callWith pos f first (backTo pos (starEach [] X.env)) (backToKw pos (keywordEach [] X.env))) := by rfl) : PE X (.Call (.Attribute o m apos) [] [] pos) (ClX.tCMeth C sp E ta tNil) := by
  constructor
  intro pins s σ H Q I h
  refine PySem.W.methodCall_KW (pl := pl) (thn (he.run pins s σ H _ I h) ?_) ht
  rintro u s1 ⟨x, H1, I1, rx, rfl, q⟩
  obtain rfl : u = Value.ref C := rx
  refine ClX.getmethcm_ok I1 r c fun s2 I2 => ?_
  refine PySem.W.callWith_M0 (first := []) ⟨ClX.pin_at I2, I2.kIn⟩ c.fi ?_
  exact ClX.run_cm (us := []) (vs := []) F hr hx I2 .nil q
end
section
variable {P : Program} {w : World} {K : PySem.W.Frag} {mg : Str → Option Value} {base : Heap}
/-- FunS.ok where something is raised -/
theorem FunS.okX {name qual pv : Str} {st : Stmt} {ps N : List Str} {f : Addr} {k : Nat} {sp : Sp} (F : FunS K name qual st ps pv f) (S : FnScope N (ps ++ [pv]) (defScope st))
    (hbody : ∀ (cdv : Value) (A : Around) (outer : List Env) (s : Shared) (H : Hp) (vs : List V) (Q : VK) (E : XK), Room k (A.deeper (envOfC qual (defScope st) s.heap.objs.size f cdv)) → sp vs H Q E →
      ∃ t, PSs (cxOf (L2.CX P w) P w K mg base N qual (defScope st) f cdv A outer s H E) (defBody st) t ∧ t { nx := fun _ H' => Q .non H', rt := Q } (start N vs) H) : FnR P w K mg base (L2.CX P w) (k + 1) f (spStar ps.length sp) := by
  obtain ⟨oc, od, dV, kV, doc, pm, an, cdv, ct, osl, lk, hcd, hb⟩ := F.ex
  exact StX.fn_star lk hcd S StX.cxUp hb fun A outer s H vs Q E hr hsp => hbody cdv A outer s H vs Q E hr hsp
end
end Und
namespace Und
open PySem PySem.Spec PyProof.Rows L2 LamX
/-! ### what stays where tables grow -/
section
variable {K : PySem.W.Frag} {H H' : Hp} {v : V}
theorem tyx_extN {t : Value} (s : ExtN H H') (h : TyX K H v t) : TyX K H' v t := by
  cases h with
  | base b =>
    cases b with
    | non => exact .base .non
    | bl y => exact .base (.bl y)
    | int y => exact .base (.int y)
    | str y => exact .base (.str y)
    | flt y => exact .base (.flt y)
    | lst e => exact .base (.lst (s _ _ e fun ps z => by cases z))
    | frz e => exact .base (.frz (s _ _ e fun ps z => by cases z))
    | tup e => exact .base (.tup (s _ _ e fun ps z => by cases z))
    | dK e => exact .base (.dK (s _ _ e fun ps z => by cases z))
    | dT e => exact .base (.dT (s _ _ e fun ps z => by cases z))
    | ins e a b c d f => exact .base (.ins (s _ _ e fun ps z => by cases z) a b c d f)
  | byt y => exact .byt y
  | set e => exact .set (s _ _ e fun ps z => by cases z)
  | kList a b => exact .kList a b
  | kTuple a b => exact .kTuple a b
  | kDict a b => exact .kDict a b
  | fTuple e => exact .fTuple (s _ _ e fun ps z => by cases z)
  | fDict e => exact .fDict (s _ _ e fun ps z => by cases z)
theorem rp_of {a : Addr} {d : PyData} {n m : Nat} (hd : Dp K H (.ref a) d) (ok : DOk d n) (ln : n ≤ 32) (sh : Shw d m) (lm : m ≤ 10000000) : Rp K H (.ref a) d.shown := .dat a d hd sh.1 (PyData.hasDict_of_canLay d ok.lay) (Nat.le_trans ok.dep ln) (Nat.le_trans sh.2 (Nat.le_trans lm (by decide)))
theorem dok_pair {d e : PyData} (h : DOk d 0) (g : DOk e 0) : DOk (.list [d, e]) 1 := (dok_list (n := 0) fun x hx => by
  simp only [List.mem_cons, List.not_mem_nil, or_false] at hx
  rcases hx with rfl | rfl
  · exact h
  · exact g).1
theorem pool_stay {o : HO} {p a : Addr} (q : Pool H p) (st : Stp p H H') (e : H a = some o) (no : ∀ l, o ≠ .lst l) : H' a = some o := by
  refine st.at e fun z => ?_
  obtain ⟨x, y, c, e2, _⟩ := q
  rw [z, e] at e2
  exact no _ (Option.some.inj e2)
theorem pool_stayT {p t : Addr} {xs : List V} (q : Pool H p) (st : Stp p H H') (h : SqT K H t xs) : SqT K H' t xs := by
  rcases h with (h | ⟨o, h⟩) | h
  · exact .inl (.inl (pool_stay q st h (by intro l z; cases z)))
  · exact .inl (.inr ⟨o, pool_stay q st h (by intro l z; cases z)⟩)
  · exact .inr h
end
end Und
/-! values of any kind: data with empty dicts, lists that are no pools -/
namespace Und
open PySem PySem.Spec PyProof.Rows L2 LamX
open L2H (RoomH)
mutual
inductive De (K : PySem.W.Frag) (H : Hp) : V → PyData → Prop
  | non : De K H .non .none
  | bl (b : Bool) : De K H (.bl b) (.bool b)
  | int (i : Int) : De K H (.int i) (.int i)
  | str (x : Str) : De K H (.str x) (.str x)
  | lst {a : Addr} {xs : List V} {ds : List PyData} : H a = some (.lst xs) → xs.length ≤ 2 → a ≠ sysModules → DeAll K H xs ds → De K H (.ref a) (.list ds)
  | tup {a : Addr} {xs : List V} {ds : List PyData} : SqT K H a xs → DeAll K H xs ds → De K H (.ref a) (.tuple ds)
  | emp {a : Addr} : H a = some (.dK []) → De K H (.ref a) (.dict [])
inductive DeAll (K : PySem.W.Frag) (H : Hp) : List V → List PyData → Prop
  | nil : DeAll K H [] []
  | cons {v : V} {vs : List V} {d : PyData} {ds : List PyData} : De K H v d → DeAll K H vs ds → DeAll K H (v :: vs) (d :: ds)
end
/-- what a value of any kind may stand on stays -/
structure Keep2 (K : PySem.W.Frag) (H H' : Hp) : Prop where
  l : ∀ a xs, H a = some (.lst xs) → xs.length ≤ 2 → H' a = some (.lst xs)
  t : ∀ a xs, SqT K H a xs → SqT K H' a xs
  d : ∀ a, H a = some (.dK []) → H' a = some (.dK [])
section
variable {K : PySem.W.Frag} {H H' : Hp}
mutual
theorem De.keep (s : Keep2 K H H') : ∀ (d : PyData) (v : V), De K H v d → De K H' v d
  | .none, _, h => by
    cases h
    exact .non
  | .bool b, _, h => by
    cases h
    exact .bl b
  | .int i, _, h => by
    cases h
    exact .int i
  | .str x, _, h => by
    cases h
    exact .str x
  | .list ds, _, h => by
    cases h with
    | lst a b c e => exact .lst (s.l _ _ a b) b c (DeAll.keep s ds _ e)
  | .tuple ds, _, h => by
    cases h with
    | tup a e => exact .tup (s.t _ _ a) (DeAll.keep s ds _ e)
  | .dict ks, _, h => by
    cases h with
    | emp a => exact .emp (s.d _ a)
theorem DeAll.keep (s : Keep2 K H H') : ∀ (ds : List PyData) (vs : List V), DeAll K H vs ds → DeAll K H' vs ds
  | [], _, h => by
    cases h
    exact .nil
  | d :: ds, _, h => by
    cases h with
    | cons a b => exact .cons (De.keep s d _ a) (DeAll.keep s ds _ b)
end
theorem keep2_same (s : Same H H') : Keep2 K H H' := ⟨fun a xs e _ => s _ _ e, fun a xs e => same_seqT s e, fun a e => s _ _ e⟩
theorem keep2_ext (s : ExtN H H') : Keep2 K H H' := ⟨fun a xs e _ => s _ _ e fun ps z => (by cases z), fun a xs e => ExtN.seqT s e, fun a e => s _ _ e fun ps z => (by cases z)⟩
theorem keep2_stp {p : Addr} (q : Pool H p) (s : Stp p H H') : Keep2 K H H' := ⟨fun a xs e l => s.at e fun z => (by
  obtain ⟨x, y, c, e2, _⟩ := q
  rw [z, e] at e2
  have := congrArg List.length (HO.lst.inj (Option.some.inj e2))
  simp at this
  omega), fun a xs e => pool_stayT q s e, fun a e => pool_stay q s e fun l z => (by cases z)⟩
theorem De.mono {v : V} {d : PyData} (s : Same H H') (h : De K H v d) : De K H' v d := De.keep (keep2_same s) d v h
theorem De.ext {v : V} {d : PyData} (s : ExtN H H') (h : De K H v d) : De K H' v d := De.keep (keep2_ext s) d v h
theorem De.stp {p : Addr} {v : V} {d : PyData} (q : Pool H p) (s : Stp p H H') (h : De K H v d) : De K H' v d := De.keep (keep2_stp q s) d v h
/-- the kind of such a value -/
def kdD : PyData → String
  | .none => "NoneType"
  | .bool _ => "bool"
  | .int _ => "int"
  | .str _ => "str"
  | .list _ => "list"
  | .tuple _ => "tuple"
  | .dict _ => "dict"
theorem De.ty {v : V} {d : PyData} (h : De K H v d) : TyX K H v (.type (kdD d)) := by
  cases h with
  | non => exact .base .non
  | bl b => exact .base (.bl b)
  | int i => exact .base (.int i)
  | str x => exact .base (.str x)
  | lst e _ _ _ => exact .base (.lst e)
  | tup e _ => exact ty_tup e
  | emp e => exact .base (.dK e)
theorem DeAll.len : ∀ {vs : List V} {ds : List PyData}, DeAll K H vs ds → vs.length = ds.length
  | _, _, .nil => rfl
  | _, _, .cons _ t => by rw [List.length_cons, List.length_cons, t.len]
theorem DeAll.at : ∀ {vs : List V} {ds : List PyData} {i : Nat} {v : V}, DeAll K H vs ds → vs[i]? = some v → ∃ d, ds[i]? = some d ∧ De K H v d
  | _, _, _, _, .nil, e => by simp at e
  | _, _, 0, _, .cons h _, e => ⟨_, rfl, Option.some.inj e ▸ h⟩
  | _, _, i + 1, _, .cons _ t, e => t.at (i := i) e
theorem DeAll.of : ∀ {vs : List V}, (∀ v ∈ vs, ∃ d, De K H v d) → ∃ ds, DeAll K H vs ds
  | [], _ => ⟨[], .nil⟩
  | v :: vs, h => by
    obtain ⟨d, hd⟩ := h v List.mem_cons_self
    obtain ⟨ds, hs⟩ := DeAll.of fun u hu => h u (List.mem_cons_of_mem _ hu)
    exact ⟨d :: ds, .cons hd hs⟩
end
/-! ### repr -/
section
variable {X : Cx} {pins : List (Addr × Obj)} {σ : L2.St} {H : Hp} {s : Shared}
mutual
theorem De.reads (I : Inv X pins σ H s) : ∀ (d : PyData) (v : V) (u : Value), De X.K H v d → RelV v u → ∃ as, Reads s.heap u d as ∧ sysModules ∉ as
  | .none, _, _, h, r => by
    cases h
    cases r
    exact ⟨_, Reads.none, by simp⟩
  | .bool b, _, _, h, r => by
    cases h
    cases r
    exact ⟨_, Reads.bool b, by simp⟩
  | .int i, _, _, h, r => by
    cases h
    obtain ⟨t, rfl⟩ := r
    exact ⟨_, Reads.int i t, by simp⟩
  | .str x, _, _, h, r => by
    cases h
    obtain ⟨t, rfl⟩ := r
    exact ⟨_, Reads.str x t, by simp⟩
  | .list ds, _, _, h, r => by
    cases h with
    | lst hs _ ne ha =>
      cases r
      obtain ⟨its, rv, ⟨o, n, ho, hc, _, hd⟩, _⟩ := I.list (.inl (.inl hs))
      obtain ⟨as, hr, hn⟩ := DeAll.reads I ds _ its ha rv
      exact ⟨_, Reads.list ho hc hd hr, fun z => (List.mem_cons.mp z).elim (fun q => ne q.symm) hn⟩
  | .tuple ds, _, _, h, r => by
    cases h with
    | tup hs ha =>
      cases r
      obtain ⟨its, rv, ⟨o, ho, hc, n, hd⟩, _⟩ := I.tuple hs
      obtain ⟨as, hr, hn⟩ := DeAll.reads I ds _ its ha rv
      exact ⟨_, Reads.tuple ho hc hd hr, hn⟩
  | .dict ks, _, u, h, r => by
    cases h with
    | emp ha =>
      obtain rfl : u = Value.ref _ := r
      obtain ⟨_, hsm, vs, kv, o, es, ep, ho, hx, hd, _, hp, _⟩ := dk_of I.hok ha
      have nb := beq_eq_false_iff_ne.mp hsm
      cases kv
      have hes : es.toList = [] := by
        generalize es.toList = l at hp
        cases hp
        rfl
      refine ⟨_, Reads.dict ho hx.1 hd (by rw [hes]; exact .nil) (by rw [hes]; exact .nil), fun z => ?_⟩
      simp only [List.cons_append, List.nil_append, List.append_nil, List.mem_cons, List.not_mem_nil, or_false] at z
      exact nb z.symm
theorem DeAll.reads (I : Inv X pins σ H s) : ∀ (ds : List PyData) (vs : List V) (us : List Value), DeAll X.K H vs ds → Vals vs us → ∃ as, ReadsAll s.heap us ds as ∧ sysModules ∉ as
  | [], _, _, h, r => by
    cases h
    cases r
    exact ⟨_, ReadsAll.nil, by simp⟩
  | d :: ds, _, _, h, r => by
    cases h with
    | cons h1 h2 =>
      cases r with
      | cons r1 r2 =>
        obtain ⟨as, q1, n1⟩ := De.reads I d _ _ h1 r1
        obtain ⟨bs, q2, n2⟩ := DeAll.reads I ds _ _ h2 r2
        exact ⟨_, ReadsAll.cons q1 q2, fun z => (List.mem_append.mp z).elim n1 n2⟩
end
end
/-- repr of a value of any kind -/
def crReprE (K : PySem.W.Frag) : List V → Hp → VK → Prop := fun xs H Q => crReprA K xs H Q ∨ ∃ (a : Addr) (d : PyData), xs = [.ref a] ∧ De K H (.ref a) d ∧ d.showable = true ∧ d.depth ≤ 32 ∧ d.shown.length ≤ sizeLine ∧ Q (.str d.shown) H
theorem crRE {X : Cx} {K : PySem.W.Frag} {k : Nat} (g : Still X.A) (r : RoomH k X.A) (hK : X.K = K := by rfl) : CallR X (.builtin "repr") (crReprE K) := by
  subst hK
  intro pins s σ H xs us Q I v h
  rcases h with h | ⟨a, d, rfl, hd, h1, h3, h4, q⟩
  · exact crRA g r rfl pins s σ H xs us Q I v h
  obtain ⟨u, rfl, ru⟩ := vals1 v
  have un := r.un
  obtain ⟨as, rd, hns⟩ := De.reads I d _ u hd ru
  obtain rfl : u = Value.ref a := ru
  exact repr_of_reads' rd h1 (fun _ => hns) g (by omega) (fun _ _ e => e) (fun h' u tk k => ⟨.str d.shown, H, I.kept k, ⟨u, rfl⟩, q⟩) h4
theorem c_reprE {K : PySem.W.Frag} {v : V} {x : Str} {H : Hp} {Q : VK} (h : Rp K H v x) (q : Q (.str x) H) : crReprE K [v] H Q := .inl (c_reprA h q)
theorem c_reprD {K : PySem.W.Frag} {a : Addr} {d : PyData} {n m : Nat} {H : Hp} {Q : VK} (hd : De K H (.ref a) d) (sh : Shw d m) (ln : d.depth ≤ 32) (lm : m ≤ 10000000) (q : Q (.str d.shown) H) : crReprE K [.ref a] H Q :=
  .inr ⟨a, d, rfl, hd, sh.1, ln, Nat.le_trans sh.2 (Nat.le_trans lm (by decide)), q⟩
section
variable {P : Program} {w : World} {K : PySem.W.Frag} {mg : Str → Option Value} {base : Heap}
/-- FunSK.ok where something is raised, called without its keyword -/
theorem FunSK.okX {name qual q pv : Str} {st : Stmt} {ps N : List Str} {dv : V} {f : Addr} {k : Nat} {sp : Sp} (F : FunSK K name qual st ps q pv dv f) (S : FnScope N (ps ++ [q, pv]) (defScope st))
    (hbody : ∀ (cdv : Value) (A : Around) (outer : List Env) (s : Shared) (H : Hp) (vs : List V) (Q : VK) (E : XK), Room k (A.deeper (envOfC qual (defScope st) s.heap.objs.size f cdv)) → sp vs H Q E →
      ∃ t, PSs (cxOf (L2.CX P w) P w K mg base N qual (defScope st) f cdv A outer s H E) (defBody st) t ∧ t { nx := fun _ H' => Q .non H', rt := Q } (start N vs) H) :
    FnR P w K mg base (L2.CX P w) (k + 1) f (spStarK ps.length dv sp) := by
  obtain ⟨oc, od, doc, pm, D, an, cdv, ct, osl, d, lk, hcd, hd, rd, hA, _⟩ := F.ex
  intro A outer s H us vs Q E hr e0 r hsp
  obtain ⟨ws, rest, ev, hl, hz, hq⟩ := hsp
  subst ev
  obtain ⟨u1, u2, eu, r1, r2⟩ := StX.vals_split r
  subst eu
  have hn : H s.heap.objs.size = Option.none := e0.hok.fresh (Nat.le_refl _)
  have n1 : u1.length = ps.length := r1.length ▸ hl
  have n2 : u2.length ≤ sizeLine := r2.length ▸ hz
  refine StX.run_bnd lk hcd S hr e0 (G := fun xs H2 => ∃ p, H p = Option.none ∧ xs = ws ++ [dv, V.ref p] ∧ H2 = upd H p (.tup rest)) (fun A' Ex Q' h => ?_) fun s2 H2 xs ⟨p, hp, ex, eH⟩ hr' => ?_
  · obtain ⟨β, γ, k1, k2, k3, a, e1, e2, e3⟩ := hA u1 u2 n1
    have L : PySem.W.Looks (model P w) s.heap (nsGet D q >>= k1) a := (PySem.W.looks_nsIn (e0.mod.kin.keeps fun b o e => (e0.bs b o e).1) hd).andThen (PySem.W.Looks.of_pure e2)
    rw [e1, bind_assoc]
    refine wpAny_bind (L.here ?_)
    show wpAny (model P w) A' (k2 a >>= k3) Q' Ex s
    rw [e3]
    refine wpAny_bind (wpAny_newTuple (wpAny_pure ?_) n2)
    have new : ObjOk P w (upd H s.heap.objs.size (.tup rest)) (s.heap.push ({ cls := .type "tuple", data := .seq u2.toArray } : Obj)) s.heap.objs.size (.tup rest) := ⟨hz, u2, r2, ⟨_, Heap.get?_push_size _ rfl, rfl, _, rfl⟩⟩
    have un := StX.un_laid (fs := frs outer) (s := s) (o := ({ cls := .type "tuple", data := .seq u2.toArray } : Obj)) (u := .tup rest) hn
    have z := h _ _ (ws ++ [dv, V.ref s.heap.objs.size]) (u1 ++ [d, Value.ref s.heap.objs.size]) (StX.env0_laid e0 new) un rfl (fun e s' => StX.cxUp outer s H _ _ E e s' un (fun b o q => Heap.get?_push_of_some _ q) rfl) (r1.append (.cons rd (.cons rfl .nil)))
      (by rw [List.length_append, List.length_append, hl] <;> rfl) ⟨_, hn, rfl, rfl⟩
    rw [List.zip_append n1.symm] at z
    exact z
  · subst ex eH
    exact hbody cdv A outer s2 _ _ Q E hr' (hq p hp)
end
end Und
/-! values of any kind: data with empty dicts, lists of any length -/
namespace Und
open PySem PySem.Spec PyProof.Rows L2 LamX
open L2H (RoomH)
mutual
inductive Dx (K : PySem.W.Frag) (H : Hp) : V → PyData → Prop
  | non : Dx K H .non .none
  | bl (b : Bool) : Dx K H (.bl b) (.bool b)
  | int (i : Int) : Dx K H (.int i) (.int i)
  | str (x : Str) : Dx K H (.str x) (.str x)
  | lst {a : Addr} {xs : List V} {ds : List PyData} : H a = some (.lst xs) → a ≠ sysModules → DxAll K H xs ds → Dx K H (.ref a) (.list ds)
  | tup {a : Addr} {xs : List V} {ds : List PyData} : SqT K H a xs → DxAll K H xs ds → Dx K H (.ref a) (.tuple ds)
  | emp {a : Addr} : H a = some (.dK []) → Dx K H (.ref a) (.dict [])
inductive DxAll (K : PySem.W.Frag) (H : Hp) : List V → List PyData → Prop
  | nil : DxAll K H [] []
  | cons {v : V} {vs : List V} {d : PyData} {ds : List PyData} : Dx K H v d → DxAll K H vs ds → DxAll K H (v :: vs) (d :: ds)
end
/-- what a value of any kind may stand on stays -/
structure KeepX (K : PySem.W.Frag) (H H' : Hp) : Prop where
  l : ∀ a xs, H a = some (.lst xs) → H' a = some (.lst xs)
  t : ∀ a xs, SqT K H a xs → SqT K H' a xs
  d : ∀ a, H a = some (.dK []) → H' a = some (.dK [])
section
variable {K : PySem.W.Frag} {H H' : Hp}
mutual
theorem Dx.keep (s : KeepX K H H') : ∀ (d : PyData) (v : V), Dx K H v d → Dx K H' v d
  | .none, _, h => by
    cases h
    exact .non
  | .bool b, _, h => by
    cases h
    exact .bl b
  | .int i, _, h => by
    cases h
    exact .int i
  | .str x, _, h => by
    cases h
    exact .str x
  | .list ds, _, h => by
    cases h with
    | lst a c e => exact .lst (s.l _ _ a) c (DxAll.keep s ds _ e)
  | .tuple ds, _, h => by
    cases h with
    | tup a e => exact .tup (s.t _ _ a) (DxAll.keep s ds _ e)
  | .dict ks, _, h => by
    cases h with
    | emp a => exact .emp (s.d _ a)
theorem DxAll.keep (s : KeepX K H H') : ∀ (ds : List PyData) (vs : List V), DxAll K H vs ds → DxAll K H' vs ds
  | [], _, h => by
    cases h
    exact .nil
  | d :: ds, _, h => by
    cases h with
    | cons a b => exact .cons (Dx.keep s d _ a) (DxAll.keep s ds _ b)
end
theorem keepX_same (s : Same H H') : KeepX K H H' := ⟨fun a xs e => s _ _ e, fun a xs e => same_seqT s e, fun a e => s _ _ e⟩
theorem keepX_ext (s : ExtN H H') : KeepX K H H' := ⟨fun a xs e => s _ _ e fun ps z => (by cases z), fun a xs e => ExtN.seqT s e, fun a e => s _ _ e fun ps z => (by cases z)⟩
theorem Dx.mono {v : V} {d : PyData} (s : Same H H') (h : Dx K H v d) : Dx K H' v d := Dx.keep (keepX_same s) d v h
theorem Dx.ext {v : V} {d : PyData} (s : ExtN H H') (h : Dx K H v d) : Dx K H' v d := Dx.keep (keepX_ext s) d v h
theorem Dx.ty {v : V} {d : PyData} (h : Dx K H v d) : TyX K H v (.type (kdD d)) := by
  cases h with
  | non => exact .base .non
  | bl b => exact .base (.bl b)
  | int i => exact .base (.int i)
  | str x => exact .base (.str x)
  | lst e _ _ => exact .base (.lst e)
  | tup e _ => exact ty_tup e
  | emp e => exact .base (.dK e)
theorem DxAll.len : ∀ {vs : List V} {ds : List PyData}, DxAll K H vs ds → vs.length = ds.length
  | _, _, .nil => rfl
  | _, _, .cons _ t => by rw [List.length_cons, List.length_cons, t.len]
theorem DxAll.at : ∀ {vs : List V} {ds : List PyData} {i : Nat} {v : V}, DxAll K H vs ds → vs[i]? = some v → ∃ d, ds[i]? = some d ∧ Dx K H v d
  | _, _, _, _, .nil, e => by simp at e
  | _, _, 0, _, .cons h _, e => ⟨_, rfl, Option.some.inj e ▸ h⟩
  | _, _, i + 1, _, .cons _ t, e => t.at (i := i) e
theorem DxAll.of : ∀ {vs : List V}, (∀ v ∈ vs, ∃ d, Dx K H v d) → ∃ ds, DxAll K H vs ds
  | [], _ => ⟨[], .nil⟩
  | v :: vs, h => by
    obtain ⟨d, hd⟩ := h v List.mem_cons_self
    obtain ⟨ds, hs⟩ := DxAll.of fun u hu => h u (List.mem_cons_of_mem _ hu)
    exact ⟨d :: ds, .cons hd hs⟩
end
/-! ### repr -/
section
variable {X : Cx} {pins : List (Addr × Obj)} {σ : L2.St} {H : Hp} {s : Shared}
mutual
theorem Dx.reads (I : Inv X pins σ H s) : ∀ (d : PyData) (v : V) (u : Value), Dx X.K H v d → RelV v u → ∃ as, Reads s.heap u d as ∧ sysModules ∉ as
  | .none, _, _, h, r => by
    cases h
    cases r
    exact ⟨_, Reads.none, by simp⟩
  | .bool b, _, _, h, r => by
    cases h
    cases r
    exact ⟨_, Reads.bool b, by simp⟩
  | .int i, _, _, h, r => by
    cases h
    obtain ⟨t, rfl⟩ := r
    exact ⟨_, Reads.int i t, by simp⟩
  | .str x, _, _, h, r => by
    cases h
    obtain ⟨t, rfl⟩ := r
    exact ⟨_, Reads.str x t, by simp⟩
  | .list ds, _, _, h, r => by
    cases h with
    | lst hs ne ha =>
      cases r
      obtain ⟨its, rv, ⟨o, n, ho, hc, _, hd⟩, _⟩ := I.list (.inl (.inl hs))
      obtain ⟨as, hr, hn⟩ := DxAll.reads I ds _ its ha rv
      exact ⟨_, Reads.list ho hc hd hr, fun z => (List.mem_cons.mp z).elim (fun q => ne q.symm) hn⟩
  | .tuple ds, _, _, h, r => by
    cases h with
    | tup hs ha =>
      cases r
      obtain ⟨its, rv, ⟨o, ho, hc, n, hd⟩, _⟩ := I.tuple hs
      obtain ⟨as, hr, hn⟩ := DxAll.reads I ds _ its ha rv
      exact ⟨_, Reads.tuple ho hc hd hr, hn⟩
  | .dict ks, _, u, h, r => by
    cases h with
    | emp ha =>
      obtain rfl : u = Value.ref _ := r
      obtain ⟨_, hsm, vs, kv, o, es, ep, ho, hx, hd, _, hp, _⟩ := dk_of I.hok ha
      have nb := beq_eq_false_iff_ne.mp hsm
      cases kv
      have hes : es.toList = [] := by
        generalize es.toList = l at hp
        cases hp
        rfl
      refine ⟨_, Reads.dict ho hx.1 hd (by rw [hes]; exact .nil) (by rw [hes]; exact .nil), fun z => ?_⟩
      simp only [List.cons_append, List.nil_append, List.append_nil, List.mem_cons, List.not_mem_nil, or_false] at z
      exact nb z.symm
theorem DxAll.reads (I : Inv X pins σ H s) : ∀ (ds : List PyData) (vs : List V) (us : List Value), DxAll X.K H vs ds → Vals vs us → ∃ as, ReadsAll s.heap us ds as ∧ sysModules ∉ as
  | [], _, _, h, r => by
    cases h
    cases r
    exact ⟨_, ReadsAll.nil, by simp⟩
  | d :: ds, _, _, h, r => by
    cases h with
    | cons h1 h2 =>
      cases r with
      | cons r1 r2 =>
        obtain ⟨as, q1, n1⟩ := Dx.reads I d _ _ h1 r1
        obtain ⟨bs, q2, n2⟩ := DxAll.reads I ds _ _ h2 r2
        exact ⟨_, ReadsAll.cons q1 q2, fun z => (List.mem_append.mp z).elim n1 n2⟩
end
end
/-- repr of a value of any kind -/
def crReprX (K : PySem.W.Frag) : List V → Hp → VK → Prop := fun xs H Q => crReprA K xs H Q ∨ ∃ (a : Addr) (d : PyData), xs = [.ref a] ∧ Dx K H (.ref a) d ∧ d.showable = true ∧ d.depth ≤ 32 ∧ d.shown.length ≤ sizeLine ∧ Q (.str d.shown) H
theorem crRX {X : Cx} {K : PySem.W.Frag} {k : Nat} (g : Still X.A) (r : RoomH k X.A) (hK : X.K = K := by rfl) : CallR X (.builtin "repr") (crReprX K) := by
  subst hK
  intro pins s σ H xs us Q I v h
  rcases h with h | ⟨a, d, rfl, hd, h1, h3, h4, q⟩
  · exact crRA g r rfl pins s σ H xs us Q I v h
  obtain ⟨u, rfl, ru⟩ := vals1 v
  have un := r.un
  obtain ⟨as, rd, hns⟩ := Dx.reads I d _ u hd ru
  obtain rfl : u = Value.ref a := ru
  exact repr_of_reads' rd h1 (fun _ => hns) g (by omega) (fun _ _ e => e) (fun h' u tk k => ⟨.str d.shown, H, I.kept k, ⟨u, rfl⟩, q⟩) h4
theorem c_reprXE {K : PySem.W.Frag} {v : V} {x : Str} {H : Hp} {Q : VK} (h : Rp K H v x) (q : Q (.str x) H) : crReprX K [v] H Q := .inl (c_reprA h q)
theorem c_reprX {K : PySem.W.Frag} {a : Addr} {d : PyData} {n m : Nat} {H : Hp} {Q : VK} (hd : Dx K H (.ref a) d) (sh : Shw d m) (ln : d.depth ≤ 32) (lm : m ≤ 10000000) (q : Q (.str d.shown) H) : crReprX K [.ref a] H Q :=
  .inr ⟨a, d, rfl, hd, sh.1, ln, Nat.le_trans sh.2 (Nat.le_trans lm (by decide)), q⟩
end Und
/-! values that a text writes out: read as data, without walking each of them -/
namespace Und
open PySem PySem.Spec PyProof.Rows L2 LamX
/-- what is laid between two heaps -/
def nw (H H' : Hp) : Hp := fun b => if H b = none then H' b else none
theorem nw_at {H H' : Hp} {b : Addr} {o : HO} (n : H b = none) (e : H' b = some o) : nw H H' b = some o := by
  unfold nw
  rw [if_pos n]
  exact e
theorem nw_same {H H' : Hp} : Same (nw H H') H' := fun b o e => by
  unfold nw at e
  by_cases n : H b = none
  · rw [if_pos n] at e
    exact e
  · rw [if_neg n] at e
    cases e
theorem nw_r {H H1 H2 : Hp} (s : Same H1 H2) : Same (nw H H1) (nw H H2) := fun b o e => by
  unfold nw at e ⊢
  by_cases n : H b = none
  · rw [if_pos n] at e ⊢
    exact s _ _ e
  · rw [if_neg n] at e
    cases e
theorem nw_l {H H1 H2 : Hp} (s : Same H H1) : Same (nw H1 H2) (nw H H2) := fun b o e => by
  unfold nw at e ⊢
  by_cases n : H1 b = none
  · rw [if_pos n] at e
    rw [if_pos (s.free n)]
    exact e
  · rw [if_neg n] at e
    cases e
/-- what was laid stays where only a pool is drawn from -/
theorem nw_stp {p : Addr} {H H1 H2 : Hp} (q : Pool H p) (s : Stp p H1 H2) : Same (nw H H1) (nw H H2) := fun b o e => by
  unfold nw at e ⊢
  by_cases n : H b = none
  · rw [if_pos n] at e ⊢
    refine s.at e fun z => ?_
    obtain ⟨x, y, c, ep, _⟩ := q
    rw [z, n] at ep
    cases ep
  · rw [if_neg n] at e
    cases e
/-- what is laid behind B does not stand on B -/
theorem nw_hid {B : Addr} {H H' : Hp} (n : H B ≠ none) : Same (nw H H') (hid B H') := fun b o e => by
  unfold nw at e
  unfold hid
  by_cases k : H b = none
  · rw [if_pos k] at e
    rw [if_neg (fun z : b = B => n (z ▸ k))]
    exact e
  · rw [if_neg k] at e
    cases e
section
variable {K : PySem.W.Frag}
/-- this reading lays a value with this data, and changes nothing else -/
def LitE (K : PySem.W.Frag) (te : TE) (d : PyData) : Prop := ∀ (σ : L2.St) (H : Hp) (Q : VK), (∀ v H', Same H H' → De K (nw H H') v d → Q v H') → te σ H Q
def LitA (K : PySem.W.Frag) (ta : TA) (ds : List PyData) : Prop := ∀ (σ : L2.St) (H : Hp) (Q : List V → Hp → Prop), (∀ vs H', Same H H' → DeAll K (nw H H') vs ds → Q vs H') → ta σ H Q
theorem lit_non : LitE K (tC .non) .none := fun σ H Q h => h _ _ (Same.refl _) .non
theorem lit_bl {b : Bool} : LitE K (tC (.bl b)) (.bool b) := fun σ H Q h => h _ _ (Same.refl _) (.bl b)
theorem lit_int {i : Int} : LitE K (tC (.int i)) (.int i) := fun σ H Q h => h _ _ (Same.refl _) (.int i)
theorem lit_str {x : Str} : LitE K (tC (.str x)) (.str x) := fun σ H Q h => h _ _ (Same.refl _) (.str x)
theorem lit_neg {i : Int} : LitE K (tUn (rU fun i => .int (-i)) (tC (.int i))) (.int (-i)) := fun σ H Q h => ⟨i, rfl, h _ _ (Same.refl _) (.int _)⟩
theorem lit_pow {i j : Int} (c : CPow i j) : LitE K (tOp (rI CPow fun i j => .int (i ^ j.toNat)) (tC (.int i)) (tC (.int j))) (.int (i ^ j.toNat)) := fun σ H Q h => ⟨i, j, rfl, rfl, c, h _ _ (Same.refl _) (.int _)⟩
theorem lit_nil : LitA K tNil [] := fun σ H Q h => h _ _ (Same.refl _) .nil
theorem lit_cons {te : TE} {ta : TA} {d : PyData} {ds : List PyData} (h : LitE K te d) (t : LitA K ta ds) : LitA K (tCons te ta) (d :: ds) := fun σ H Q k =>
  h σ H _ fun v H1 s1 h1 => t σ H1 _ fun vs H2 s2 h2 => k _ _ (s1.trans s2) (.cons (h1.mono (nw_r s2)) (DeAll.keep (keep2_same (nw_l s1)) _ _ h2))
theorem lit_tup {ta : TA} {ds : List PyData} (h : LitA K ta ds) (n : ds.length ≤ 1000) : LitE K (tTup ta) (.tuple ds) := fun σ H Q k =>
  h σ H _ fun vs H1 s1 h1 => c_newT (by have := h1.len; omega) fun p H2 np s2 e2 => k _ _ (s1.trans s2) (.tup (.inl (.inl (nw_at (s1.free np) e2))) (DeAll.keep (keep2_same (nw_r s2)) _ _ h1))
theorem lit_lst {ta : TA} {ds : List PyData} (h : LitA K ta ds) (n : ds.length ≤ 2) : LitE K (tLstB ta) (.list ds) := fun σ H Q k =>
  h σ H _ fun vs H1 s1 h1 => c_newLB (by have := h1.len; omega) fun p H2 np b s2 e2 => k _ _ (s1.trans s2) (.lst (nw_at (s1.free np) e2) (by have := h1.len; omega) b (DeAll.keep (keep2_same (nw_r s2)) _ _ h1))
theorem lit_dic : LitE K tDNewK (.dict []) := fun σ H Q k => c_dnew fun p H2 np s2 e2 => k _ _ s2 (.emp (nw_at np e2))
/-- a list of values written out -/
theorem lit_list {σ : L2.St} {H : Hp} {Q : VK} {ta : TA} {ds : List PyData} (h : LitA K ta ds) (n : ds.length ≤ 1000)
    (k : ∀ F xs H', Same H H' → H F = none → H' F = some (.lst xs) → DeAll K (nw H H') xs ds → Q (.ref F) H') : tLstB ta σ H Q :=
  h σ H _ fun vs H1 s1 h1 => c_newLB (by have := h1.len; omega) fun p H2 np b s2 e2 => k p vs H2 (s1.trans s2) (s1.free np) e2 (DeAll.keep (keep2_same (nw_r s2)) _ _ h1)
theorem lit_listT {σ : L2.St} {H : Hp} {Q : VK} {ta : TA} {ds : List PyData} (h : LitA K ta ds) (n : ds.length ≤ 1000)
    (k : ∀ F xs H', Same H H' → H F = none → H' F = some (.lst xs) → DeAll K (nw H H') xs ds → Q (.ref F) H') : tLst ta σ H Q :=
  h σ H _ fun vs H1 s1 h1 => c_newL (by have := h1.len; omega) fun p H2 np s2 e2 => k p vs H2 (s1.trans s2) (s1.free np) e2 (DeAll.keep (keep2_same (nw_r s2)) _ _ h1)
theorem DeAll.app : ∀ {H : Hp} {xs ys : List V} {ds es : List PyData}, DeAll K H xs ds → DeAll K H ys es → DeAll K H (xs ++ ys) (ds ++ es)
  | _, _, _, _, _, .nil, t => t
  | _, _, _, _, _, .cons h s, t => .cons h (DeAll.app s t)
/-- a list, and behind it a list of values written out -/
theorem lit_cat {σ : L2.St} {H0 H : Hp} {Q : VK} {i : Nat} {F : Addr} {xs : List V} {ta : TA} {ds es : List PyData} (e : σ[i]? = some (some (.ref F))) (s0 : Same H0 H) (eF : H F = some (.lst xs)) (hD : DeAll K (nw H0 H) xs ds) (h : LitA K ta es) (n : ds.length + es.length ≤ 1000)
    (k : ∀ F' ys H', Same H0 H' → H0 F' = none → H' F' = some (.lst ys) → DeAll K (nw H0 H') ys (ds ++ es) → Q (.ref F') H') : tOp rCat (tVar i) (tLstB ta) σ H Q :=
  c_op (c_var e (lit_list h (by omega) fun G ys H1 s1 _ e1 h1 => by
    have l0 := hD.len
    have l1 := h1.len
    refine ⟨F, G, xs, ys, rfl, rfl, s1 _ _ eF, e1, sz (by omega), fun p np => ?_⟩
    have s2 : Same H1 (upd H1 p (.lst (xs ++ ys))) := same_new np
    exact k p _ _ ((s0.trans s1).trans s2) ((s0.trans s1).free np) upd_same (DeAll.app (DeAll.keep (keep2_same (nw_r (s1.trans s2))) _ _ hD) (DeAll.keep (keep2_same ((nw_r s2).trans (nw_l s0))) _ _ h1))))
/-- statements that fill a list with values written out -/
theorem lit_first {σ : L2.St} {H : Hp} {D : Ends} {i : Nat} {ta : TA} {t2 : TS} {ds : List PyData} (h : LitA K ta ds) (n : ds.length ≤ 1000)
    (k : ∀ F xs H', Same H H' → H F = none → H' F = some (.lst xs) → DeAll K (nw H H') xs ds → t2 D (σ.set i (some (.ref F))) H') : tSeq (tAsg (tLstB ta) (gName i)) t2 D σ H :=
  c_seq (c_asg (lit_list h n k))
theorem lit_next {σ : L2.St} {H0 H : Hp} {D : Ends} {i : Nat} {F : Addr} {xs : List V} {ta : TA} {t2 : TS} {ds es : List PyData} (hi : i < σ.length) (s0 : Same H0 H) (eF : H F = some (.lst xs)) (hD : DeAll K (nw H0 H) xs ds) (h : LitA K ta es) (n : ds.length + es.length ≤ 1000)
    (k : ∀ F' ys H', Same H0 H' → H0 F' = none → H' F' = some (.lst ys) → DeAll K (nw H0 H') ys (ds ++ es) → t2 D (σ.set i (some (.ref F'))) H') : tSeq (tAsg (tOp rCat (tVar i) (tLstB ta)) (gName i)) t2 D (σ.set i (some (.ref F))) H :=
  c_seq (c_asg (lit_cat (by rw [List.getElem?_set_self hi]) s0 eF hD h n fun F' ys H' s n e d => by
    show t2 D ((σ.set i (some (.ref F))).set i (some (.ref F'))) H'
    rw [List.set_set]
    exact k F' ys H' s n e d))
theorem DeAll.mem : ∀ {H : Hp} {xs : List V} {ds : List PyData} {i : Nat} {v : V}, DeAll K H xs ds → xs[i]? = some v → ∃ d ∈ ds, De K H v d := fun h e => by
  obtain ⟨d, h1, h2⟩ := h.at e
  exact ⟨d, List.mem_of_getElem? h1, h2⟩
theorem lit_end {f : PyData → Bool} {n : Nat} {H : Hp} {xs : List V} {ds : List PyData} (h : DeAll K H xs ds) (l : ds.length = n) (ok : ds.all f = true) : xs.length = n ∧ ∀ (i : Nat) (v : V), xs[i]? = some v → ∃ d, De K H v d ∧ f d = true :=
  ⟨h.len.trans l, fun i v e => by
    obtain ⟨d, hd, hv⟩ := h.mem e
    exact ⟨d, hv, List.all_eq_true.mp ok d hd⟩⟩
end
end Und
/-! values that a text writes out: read as data, without walking each of them -/
namespace Und
open PySem PySem.Spec PyProof.Rows L2 LamX
section
variable {K : PySem.W.Frag}
/-- this reading lays a value with this data, and changes nothing else -/
def LxE (K : PySem.W.Frag) (te : TE) (d : PyData) : Prop := ∀ (σ : L2.St) (H : Hp) (Q : VK), (∀ v H', Same H H' → Dx K (nw H H') v d → Q v H') → te σ H Q
def LxA (K : PySem.W.Frag) (ta : TA) (ds : List PyData) : Prop := ∀ (σ : L2.St) (H : Hp) (Q : List V → Hp → Prop), (∀ vs H', Same H H' → DxAll K (nw H H') vs ds → Q vs H') → ta σ H Q
theorem lx_non : LxE K (tC .non) .none := fun σ H Q h => h _ _ (Same.refl _) .non
theorem lx_bl {b : Bool} : LxE K (tC (.bl b)) (.bool b) := fun σ H Q h => h _ _ (Same.refl _) (.bl b)
theorem lx_int {i : Int} : LxE K (tC (.int i)) (.int i) := fun σ H Q h => h _ _ (Same.refl _) (.int i)
theorem lx_str {x : Str} : LxE K (tC (.str x)) (.str x) := fun σ H Q h => h _ _ (Same.refl _) (.str x)
theorem lx_neg {i : Int} : LxE K (tUn (rU fun i => .int (-i)) (tC (.int i))) (.int (-i)) := fun σ H Q h => ⟨i, rfl, h _ _ (Same.refl _) (.int _)⟩
theorem lx_pow {i j : Int} (c : CPow i j) : LxE K (tOp (rI CPow fun i j => .int (i ^ j.toNat)) (tC (.int i)) (tC (.int j))) (.int (i ^ j.toNat)) := fun σ H Q h => ⟨i, j, rfl, rfl, c, h _ _ (Same.refl _) (.int _)⟩
theorem lx_nil : LxA K tNil [] := fun σ H Q h => h _ _ (Same.refl _) .nil
theorem lx_cons {te : TE} {ta : TA} {d : PyData} {ds : List PyData} (h : LxE K te d) (t : LxA K ta ds) : LxA K (tCons te ta) (d :: ds) := fun σ H Q k =>
  h σ H _ fun v H1 s1 h1 => t σ H1 _ fun vs H2 s2 h2 => k _ _ (s1.trans s2) (.cons (h1.mono (nw_r s2)) (DxAll.keep (keepX_same (nw_l s1)) _ _ h2))
theorem lx_tup {ta : TA} {ds : List PyData} (h : LxA K ta ds) (n : ds.length ≤ 1000) : LxE K (tTup ta) (.tuple ds) := fun σ H Q k =>
  h σ H _ fun vs H1 s1 h1 => c_newT (by have := h1.len; omega) fun p H2 np s2 e2 => k _ _ (s1.trans s2) (.tup (.inl (.inl (nw_at (s1.free np) e2))) (DxAll.keep (keepX_same (nw_r s2)) _ _ h1))
theorem lx_lst {ta : TA} {ds : List PyData} (h : LxA K ta ds) (n : ds.length ≤ 1000) : LxE K (tLstB ta) (.list ds) := fun σ H Q k =>
  h σ H _ fun vs H1 s1 h1 => c_newLB (by have := h1.len; omega) fun p H2 np b s2 e2 => k _ _ (s1.trans s2) (.lst (nw_at (s1.free np) e2) b (DxAll.keep (keepX_same (nw_r s2)) _ _ h1))
theorem lx_dic : LxE K tDNewK (.dict []) := fun σ H Q k => c_dnew fun p H2 np s2 e2 => k _ _ s2 (.emp (nw_at np e2))
/-- a list of values written out -/
theorem lx_list {σ : L2.St} {H : Hp} {Q : VK} {ta : TA} {ds : List PyData} (h : LxA K ta ds) (n : ds.length ≤ 1000)
    (k : ∀ F xs H', Same H H' → H F = none → H' F = some (.lst xs) → DxAll K (nw H H') xs ds → Q (.ref F) H') : tLstB ta σ H Q :=
  h σ H _ fun vs H1 s1 h1 => c_newLB (by have := h1.len; omega) fun p H2 np b s2 e2 => k p vs H2 (s1.trans s2) (s1.free np) e2 (DxAll.keep (keepX_same (nw_r s2)) _ _ h1)
theorem lx_listT {σ : L2.St} {H : Hp} {Q : VK} {ta : TA} {ds : List PyData} (h : LxA K ta ds) (n : ds.length ≤ 1000)
    (k : ∀ F xs H', Same H H' → H F = none → H' F = some (.lst xs) → DxAll K (nw H H') xs ds → Q (.ref F) H') : tLst ta σ H Q :=
  h σ H _ fun vs H1 s1 h1 => c_newL (by have := h1.len; omega) fun p H2 np s2 e2 => k p vs H2 (s1.trans s2) (s1.free np) e2 (DxAll.keep (keepX_same (nw_r s2)) _ _ h1)
theorem DxAll.app : ∀ {H : Hp} {xs ys : List V} {ds es : List PyData}, DxAll K H xs ds → DxAll K H ys es → DxAll K H (xs ++ ys) (ds ++ es)
  | _, _, _, _, _, .nil, t => t
  | _, _, _, _, _, .cons h s, t => .cons h (DxAll.app s t)
/-- a list, and behind it a list of values written out -/
theorem lx_cat {σ : L2.St} {H0 H : Hp} {Q : VK} {i : Nat} {F : Addr} {xs : List V} {ta : TA} {ds es : List PyData} (e : σ[i]? = some (some (.ref F))) (s0 : Same H0 H) (eF : H F = some (.lst xs)) (hD : DxAll K (nw H0 H) xs ds) (h : LxA K ta es) (n : ds.length + es.length ≤ 1000)
    (k : ∀ F' ys H', Same H0 H' → H0 F' = none → H' F' = some (.lst ys) → DxAll K (nw H0 H') ys (ds ++ es) → Q (.ref F') H') : tOp rCat (tVar i) (tLstB ta) σ H Q :=
  c_op (c_var e (lx_list h (by omega) fun G ys H1 s1 _ e1 h1 => by
    have l0 := hD.len
    have l1 := h1.len
    refine ⟨F, G, xs, ys, rfl, rfl, s1 _ _ eF, e1, sz (by omega), fun p np => ?_⟩
    have s2 : Same H1 (upd H1 p (.lst (xs ++ ys))) := same_new np
    exact k p _ _ ((s0.trans s1).trans s2) ((s0.trans s1).free np) upd_same (DxAll.app (DxAll.keep (keepX_same (nw_r (s1.trans s2))) _ _ hD) (DxAll.keep (keepX_same ((nw_r s2).trans (nw_l s0))) _ _ h1))))
/-- statements that fill a list with values written out -/
theorem lx_first {σ : L2.St} {H : Hp} {D : Ends} {i : Nat} {ta : TA} {t2 : TS} {ds : List PyData} (h : LxA K ta ds) (n : ds.length ≤ 1000)
    (k : ∀ F xs H', Same H H' → H F = none → H' F = some (.lst xs) → DxAll K (nw H H') xs ds → t2 D (σ.set i (some (.ref F))) H') : tSeq (tAsg (tLstB ta) (gName i)) t2 D σ H :=
  c_seq (c_asg (lx_list h n k))
theorem lx_next {σ : L2.St} {H0 H : Hp} {D : Ends} {i : Nat} {F : Addr} {xs : List V} {ta : TA} {t2 : TS} {ds es : List PyData} (hi : i < σ.length) (s0 : Same H0 H) (eF : H F = some (.lst xs)) (hD : DxAll K (nw H0 H) xs ds) (h : LxA K ta es) (n : ds.length + es.length ≤ 1000)
    (k : ∀ F' ys H', Same H0 H' → H0 F' = none → H' F' = some (.lst ys) → DxAll K (nw H0 H') ys (ds ++ es) → t2 D (σ.set i (some (.ref F'))) H') : tSeq (tAsg (tOp rCat (tVar i) (tLstB ta)) (gName i)) t2 D (σ.set i (some (.ref F))) H :=
  c_seq (c_asg (lx_cat (by rw [List.getElem?_set_self hi]) s0 eF hD h n fun F' ys H' s n e d => by
    show t2 D ((σ.set i (some (.ref F))).set i (some (.ref F'))) H'
    rw [List.set_set]
    exact k F' ys H' s n e d))
theorem DxAll.mem : ∀ {H : Hp} {xs : List V} {ds : List PyData} {i : Nat} {v : V}, DxAll K H xs ds → xs[i]? = some v → ∃ d ∈ ds, Dx K H v d := fun h e => by
  obtain ⟨d, h1, h2⟩ := h.at e
  exact ⟨d, List.mem_of_getElem? h1, h2⟩
theorem lx_end {f : PyData → Bool} {n : Nat} {H : Hp} {xs : List V} {ds : List PyData} (h : DxAll K H xs ds) (l : ds.length = n) (ok : ds.all f = true) : xs.length = n ∧ ∀ (i : Nat) (v : V), xs[i]? = some v → ∃ d, Dx K H v d ∧ f d = true :=
  ⟨h.len.trans l, fun i v e => by
    obtain ⟨d, hd, hv⟩ := h.mem e
    exact ⟨d, hv, List.all_eq_true.mp ok d hd⟩⟩
end
end Und
/-! numbers that may be truth values; a static method off an object; tuple == (); list(..) that is printed -/
namespace Und
open PySem PySem.Spec PyProof.Rows L2
/-- an int, or a truth value as an int -/
def nbI : V → Option Int
  | .int i => some i
  | .bl b => some (if b = true then 1 else 0)
  | _ => none
section
variable {X : Cx}
def rAddNB : R2 := fun x y H Q => ∃ i j, nbI x = some i ∧ y = .int j ∧ Q (.int (i + j)) H
def rSubNB : R2 := fun x y H Q => ∃ i j, nbI x = some i ∧ y = .int j ∧ Q (.int (i - j)) H
def rSubBN : R2 := fun x y H Q => ∃ i j, x = .int i ∧ nbI y = some j ∧ Q (.int (i - j)) H
def rEqNB : R2 := fun x y H Q => ∃ i j, nbI x = some i ∧ y = .int j ∧ Q (.bl (decide (i = j))) H
theorem opAddNB : OpR X (binaryOp .Add) rAddNB := by
  intro pins s σ H x y v u Q I rx ry h
  obtain ⟨i, j, e, rfl, q⟩ := h
  obtain ⟨t, rfl⟩ := ry
  cases x with
  | int k =>
    obtain ⟨t', rfl⟩ := rx
    cases e
    exact add_int ⟨.int _, H, I.tok _, ⟨_, rfl⟩, q⟩
  | bl b =>
    obtain rfl : v = Value.bool b := rx
    cases e
    exact PySem.IntBool.add_bool_int ⟨.int _, H, I.tok _, ⟨_, rfl⟩, q⟩
  | _ => cases e
theorem opSubNB : OpR X (binaryOp .Sub) rSubNB := by
  intro pins s σ H x y v u Q I rx ry h
  obtain ⟨i, j, e, rfl, q⟩ := h
  obtain ⟨t, rfl⟩ := ry
  cases x with
  | int k =>
    obtain ⟨t', rfl⟩ := rx
    cases e
    exact sub_int ⟨.int _, H, I.tok _, ⟨_, rfl⟩, q⟩
  | bl b =>
    obtain rfl : v = Value.bool b := rx
    cases e
    exact PySem.IntBool.sub_bool_int ⟨.int _, H, I.tok _, ⟨_, rfl⟩, q⟩
  | _ => cases e
theorem opSubBN : OpR X (binaryOp .Sub) rSubBN := by
  intro pins s σ H x y v u Q I rx ry h
  obtain ⟨i, j, rfl, e, q⟩ := h
  obtain ⟨t, rfl⟩ := rx
  cases y with
  | int k =>
    obtain ⟨t', rfl⟩ := ry
    cases e
    exact sub_int ⟨.int _, H, I.tok _, ⟨_, rfl⟩, q⟩
  | bl b =>
    obtain rfl : u = Value.bool b := ry
    cases e
    exact PySem.IntBool.sub_int_bool ⟨.int _, H, I.tok _, ⟨_, rfl⟩, q⟩
  | _ => cases e
theorem opEqNB : OpR X (compareOp .Eq) rEqNB := by
  intro pins s σ H x y v u Q I rx ry h
  obtain ⟨i, j, e, rfl, q⟩ := h
  obtain ⟨t, rfl⟩ := ry
  cases x with
  | int k =>
    obtain ⟨t', rfl⟩ := rx
    cases e
    refine eq_int ⟨.bl _, H, I, ?_, q⟩
    show Value.bool (i == j) = Value.bool (decide (i = j))
    congr 1
  | bl b =>
    obtain rfl : v = Value.bool b := rx
    cases e
    refine PySem.EqBoolInt.eq_bool_int ⟨.bl _, H, I, ?_, q⟩
    show Value.bool _ = Value.bool (decide _)
    cases b <;> congr 1
  | _ => cases e
/-- str of an int or a truth value -/
def rStrNB : List V → Hp → VK → Prop := fun xs H Q => (∃ i, xs = [.int i] ∧ i.natAbs.log2 < 1920 ∧ Q (.str (toString i)) H) ∨ ∃ b, xs = [.bl b] ∧ Q (.str (if b then "True" else "False")) H
theorem callStrNB : CallR X (.type "str") rStrNB := by
  intro pins s σ H xs us Q I r h
  rcases h with h | ⟨b, rfl, q⟩
  · exact call_str_int pins s σ H xs us Q I r h
  · obtain ⟨u, rfl, r1⟩ := vals1 r
    cases r1
    exact PySem.P.str_of_bool ⟨.str _, H, I.tok _, ⟨_, rfl⟩, q⟩
/-- tuple == () -/
def rEqE (K : PySem.W.Frag) : R2 := fun x y H Q => ∃ a b xs, x = .ref a ∧ y = .ref b ∧ SqT K H a xs ∧ SqT K H b [] ∧ Q (.bl (decide (xs.length = 0))) H
theorem opEqE {K : PySem.W.Frag} (hu : X.A.units + 64 < cLine) (hK : X.K = K := by rfl) : OpR X (compareOp .Eq) (rEqE K) := by
  subst hK
  intro pins s σ H x y v u Q I rx ry h
  obtain ⟨a, b, xs, rfl, rfl, ha, hb, q⟩ := h
  cases rx
  cases ry
  obtain ⟨its, r1, p1, _⟩ := I.tuple ha
  obtain ⟨its2, r2, p2, _⟩ := I.tuple hb
  cases r2
  refine PySem.SeqAt.eq_tupleAt p1 p2 (by omega) (e := fun _ => true) (fun j h1 h2 => by simp at h2) ?_
  refine ⟨.bl _, H, I, ?_, q⟩
  have l := r1.length
  show Value.bool _ = Value.bool _
  congr 1
  rw [l]
  cases its with
  | nil => rfl
  | cons z r => simp
/-- list(x), which is not the table of modules -/
def rLstOfB (K : PySem.W.Frag) : List V → Hp → VK → Prop := fun xs H Q => ∃ p ys, xs = [.ref p] ∧ SqT K H p ys ∧ ∀ l, H l = none → l ≠ sysModules → Q (.ref l) (upd H l (.lst ys))
theorem callLstOfB {K : PySem.W.Frag} (hK : X.K = K := by rfl) : CallR X (.type "list") (rLstOfB K) := by
  subst hK
  intro pins s σ H xs us Q I r h
  obtain ⟨p, ys, rfl, hq, q⟩ := h
  obtain ⟨u, rfl, rx⟩ := vals1 r
  cases rx
  have fin : ∀ (its : List Value), Vals ys its → ys.length ≤ sizeLine → ∀ (h' : Heap) (c' : Nat), (∀ b o', s.heap.get? b = some o' → h'.get? b = some o') →
      h'.get? s.heap.objs.size = some { cls := .type "list", dict := none, data := .seq its.toArray c', slots := #[] } → EP X pins σ Q (.ref s.heap.objs.size) { s with heap := h' } := fun its r' hz h' c' kp e =>
    ⟨.ref s.heap.objs.size, _, I.laid (t' := s.toks) kp (Nat.le_refl _) (show ObjOk X.prog X.w _ h' _ (.lst ys) from ⟨hz, its, c', r', e⟩), rfl, q _ (I.hok.fresh (Nat.le_refl _)) (Nat.ne_of_gt I.big)⟩
  obtain ⟨its, r', pl, hz⟩ := I.tuple hq
  have hlen := r'.length
  obtain ⟨o, ho, hc, n, hd⟩ := pl
  exact call_list_seq p (.inr rfl) ho hc hd (fun h' c' kp e => fin its r' hz h' c' kp e) (by simp only [List.size_toArray] <;> omega)
theorem c_lstOfB {K : PySem.W.Frag} {p : Addr} {ys : List V} {H : Hp} {Q : VK} (e : SqT K H p ys) (h : ∀ l H2, H l = none → l ≠ sysModules → Same H H2 → H2 l = some (.lst ys) → Q (.ref l) H2) : rLstOfB K [.ref p] H Q := ⟨p, ys, rfl, e, fun l nl b => h l _ nl b (same_new nl) upd_same⟩
end
/-! ### a static method, off an object -/
structure SInst (K : PySem.W.Frag) (C : Addr) (m : Str) (p g : Addr) : Prop where
  pg : PySem.W.plainGet K C Str.empty = true
  ic : PySem.W.isClsIn K C = true
  at_ : PySem.W.findIn K (.ref C) m = some (some (.ref p))
  ty : PySem.W.typeIn K (.ref p) = some (.type "staticmethod")
  get : PySem.W.specialIn K (.ref p) "__get__" = some (some (.builtin "staticmethod.__get__"))
  tk : PySem.W.takesIn K (.ref p) = some false
  cp : PySem.W.copiedNames.contains m = false
  rc : ∃ rest, PySem.W.recIn K p "staticmethod" = some (.ref g :: rest)
  kp : PySem.W.keepIn K (.ref g) = true
section
variable {X : Cx} {CX : CXT} {k : Nat} {C p g a : Addr} {m : Str} {sp : Sp} {E : XK} {e o : Expr} {es : List Expr} {ta : TE} {t : TA} {apos pos : Pos} {pins : List (Addr × Obj)} {σ : L2.St} {H : Hp} {s : Shared} {A : Around}
theorem getmethsm_ok {pl : Sem Bool} {ox od : Obj} {Q : Value × List Value → Shared → Prop} {E' : Value → Shared → Prop} (I : Inv X pins σ H s) (J : PySem.W.InstAt s.heap a ox C (some od)) (hl : PySem.W.lookIn m od = some none) (c : SInst X.K C m p g)
    (h : Q (.ref g, []) { s with toks := s.toks + 1 }) : wpAny (model X.prog X.w) A (getMethod (.ref a) m pl) Q E' s := by
  obtain ⟨rest, hp⟩ := c.rc
  have pg' : PySem.W.plainGet X.K C m = true := c.pg
  refine PySem.W.method_usual (r := some (.ref p)) I.kIn J (PySem.W.plainGet_of pg').1 (PySem.W.plainGet_of pg').2 c.at_ ?_ ?_
  · show ((PySem.W.typeIn X.K (.ref p)).any fun t => t != .type "function" && t != .type "method_descriptor" && t != .type "wrapper_descriptor") = true
    rw [c.ty]
    first
    | rfl
    | decide +kernel
  · refine PySem.W.get_bind I.kIn J (PySem.W.plainGet_of pg').1 (ClX.find_cm c.ic c.at_ c.get c.tk c.cp hl) (PySem.W.plainGet_of pg').2 ?_
    exact wpAny_call (PySem.W.sm_get (s := { s with toks := s.toks + 1 }) I.kIn hp (PySem.W.handed_on rfl h))
def tSInst (C : Addr) (m : Str) (sp : Sp) (E : XK) (ta : TE) (t : TA) : TE := fun σ H Q => ta σ H fun x H1 => ∃ a dx fs, x = .ref a ∧ H1 a = some (.ins C dx fs) ∧ fs.lookup m = none ∧ t σ H1 fun vs H2 => sp vs H2 Q E
theorem c_sinst {σ : L2.St} {H : Hp} {Q : VK} (h : ta σ H fun x H1 => ∃ a dx fs, x = .ref a ∧ H1 a = some (.ins C dx fs) ∧ fs.lookup m = none ∧ t σ H1 fun vs H2 => sp vs H2 Q E) : tSInst C m sp E ta t σ H Q := h
theorem pe_sinst {pl : Sem Bool} (he : PE X o ta) (c : SInst X.K C m p g) (F : FnR X.prog X.w X.K X.mg X.base CX k g sp) (hr : Room k X.A) (hx : Passes CX X E) (ha : PA X (e :: es) t)
    (hst : starEach (e :: es) X.env = (false, eval e X.env) :: starEach es X.env := by rfl) (hpl : (backTo pos (starEach es X.env)).any (·.1) = false := by rfl)
    (ht : eval (.Call (.Attribute o m apos) (e :: es) [] pos) X.env = (do
      let ov ← eval o X.env
      standAt apos.atName
      let (f, first) ← holding [ov] (getMethod ov m pl)
      callWith pos f first (backTo pos (starEach (e :: es) X.env)) (backToKw pos (keywordEach [] X.env))) := by rfl) :
    PE X (.Call (.Attribute o m apos) (e :: es) [] pos) (tSInst C m sp E ta t) := by
  refine ⟨fun pins s σ H Q I h => ?_⟩
  refine PySem.W.methodCall_KW (pl := pl) (thn (he.run pins s σ H _ I h) fun u s1 ⟨x, H1, I1, rx, a, dx, fs, ex, ea, l, q⟩ => ?_) ht
  subst ex
  obtain rfl : u = Value.ref a := rx
  obtain ⟨mA, O, rr, _, _, _⟩ := ins_get I1.hok ea
  have hn : mA m = none := RelO.none_of (by rw [← l]; exact rr m)
  obtain ⟨od, J, hl⟩ := O.look
  have I2 := I1.tok (s1.toks + 1)
  refine getmethsm_ok I1 J (by rw [hl m, hn]) c ?_
  exact PySem.W.callWith_K (h₀ := X.base) I2.ok.mod.kin c.kp (thn (ha.run pos pins _ σ H1 _ I2 q) fun us s3 ⟨vs, H2, I3, rv, q2⟩ => ⟨I3.kIn, wpAny_call (run_fnR F hr hx I3 rv q2)⟩) hst hpl
end
end Und
namespace Und
open PySem PySem.Spec PyProof.Rows L2
def rUpS (x : V) (xs : List V) (H : Hp) (Q : VK) : Prop := ∃ a, x = .str a ∧ xs = [] ∧ a.length ≤ 5592405 ∧ Q (.str (Txt.upper a)) H
theorem peUpper {X : Cx} {o : Expr} {to : TE} {apos pos : Pos} (ho : PE X o to) (hbase : attributeBase o "upper" X.env (eval o X.env) = eval o X.env := by rfl) (hline : (apos.endLine == pos.line) = true := by rfl) :
    PE X (.Call (.Attribute o "upper" apos) [] [] pos) (tM0 rUpS to) := pe_upper ho hbase hline
theorem c_upper {te : TE} {σ : L2.St} {H : Hp} {Q : VK} (h : te σ H fun x H1 => (∃ a, x = .str a) ∧ rUpS x [] H1 Q) : tM0 rUpS te σ H Q := h
/-- x is not b, of a truth value -/
def rNotBV : R2 := fun x y H Q => ∃ a b : Bool, x = .bl a ∧ y = .bl b ∧ Q (.bl (decide (a ≠ b))) H
theorem opNotBV {X : Cx} : OpR X (compareOp .IsNot) rNotBV := by
  intro pins s σ H x y v u Q I rx ry h
  obtain ⟨a, b, rfl, rfl, q⟩ := h
  cases (show v = Value.bool a from rx)
  cases (show u = Value.bool b from ry)
  by_cases e : a = b
  · subst e
    exact wpAny_isNot_self rfl ⟨.bl false, H, I, rfl, by simpa using q⟩
  · exact wpAny_isNot_other rfl (fun z => e (Value.bool.inj z)) ⟨.bl true, H, I, rfl, by simpa [e] using q⟩
theorem c_notBV {a b : Bool} {H : Hp} {Q : VK} (q : Q (.bl (decide (a ≠ b))) H) : rNotBV (.bl a) (.bl b) H Q := ⟨a, b, rfl, rfl, q⟩
end Und
namespace Und
open PySem PySem.Spec PyProof.Rows L2
local macro_rules | `(tactic| walk_at "side") => `(tactic| first | decide | omega | exact ⟨by omega, by omega⟩ | (show (0 : Int) < _; omega) | (exact Or.inl ⟨by omega, by omega⟩) | (exact Or.inr ⟨by omega, by omega⟩) | (exact sz (by simp)) | (exact szl (by simp)))
local macro_rules | `(tactic| walk_at "u") => `(tactic| first
  | with_reducible refine c_seq ?_ | with_reducible refine c_next ?_ | with_reducible refine c_yes ?_ | with_reducible refine c_asg ?_ | with_reducible refine c_asg2 ?_ | with_reducible refine c_par ?_ | with_reducible refine c_two ?_ | with_reducible refine c_g ?_ | with_reducible refine c_gsub ?_ | with_reducible refine c_gcons ?_ | with_reducible refine c_gnil ?_ | with_reducible refine c_ret ?_ | with_reducible refine c_drop ?_
  | ((with_reducible refine c_var (v := ?v) ?h ?_); (case h => rfl)) | with_reducible refine c_c ?_ | with_reducible refine c_op ?_ | with_reducible refine c_un ?_ | with_reducible refine c_I0 ?_
  | ((with_reducible refine c_I ?h ?_); (case h => walk_at "side"))
  | ((with_reducible refine c_eq ?h ?_); (case h => rfl)) | ((with_reducible refine c_neq ?h ?_); (case h => rfl)) | with_reducible refine c_test ?_ | with_reducible refine c_B ?_ | with_reducible refine c_bl ?_ | with_reducible refine c_int ?_ | with_reducible refine c_ifs ?_ | with_reducible refine c_ife ?_
  | with_reducible refine c_andV ?_ | with_reducible refine c_orV ?_ | with_reducible refine c_notV ?_ | with_reducible refine c_and ?_ | with_reducible refine c_or ?_ | with_reducible refine c_not ?_
  | with_reducible refine c_call ?_ | with_reducible refine c_cb ?_ | with_reducible refine c_nil ?_ | with_reducible refine c_cons ?_
  | with_reducible refine c_tup ?_ | with_reducible refine c_lst ?_ | with_reducible refine c_sl ?_ | with_reducible refine c_nop ?_ | with_reducible refine c_part ?_ | with_reducible refine c_fld ?_
  | with_reducible refine c_for ?_ | with_reducible refine c_ilist ?_ | with_reducible refine c_itup ?_ | with_reducible refine c_irng1 ?_ | with_reducible refine c_lc ?_
  | with_reducible refine c_m1 ?_ | with_reducible refine c_isS ?_ | with_reducible refine c_chain ?_ | with_reducible refine c_str ?_ | with_reducible refine c_make ?_ | with_reducible refine c_meth ?_ | with_reducible refine c_prop ?_ | with_reducible refine c_sfld ?_ | with_reducible refine c_ienumT ?_ | with_reducible refine iteT ?_ | with_reducible refine iteF ?_ | with_reducible refine iteNT ?_ | with_reducible refine iteNF ?_
  | ((with_reducible refine iteDT ?h ?_); (case h => first | rfl | omega)) | ((with_reducible refine iteDF ?h ?_); (case h => first | omega | (intro z; cases z; done))) | ((with_reducible refine iteNDT ?h ?_); (case h => first | rfl | omega)) | ((with_reducible refine iteNDF ?h ?_); (case h => first | omega | (intro z; cases z; done))))
local macro_rules | `(tactic| walk_at "go") => `(tactic| repeat (walk_at "u"))
def topS (i : Nat) : Stmt := PySem.Challenge.pw_undotables_k29_tables.main.body.getD i (.Pass ⟨0, 0, 0, 0⟩)
abbrev sIsInt : Stmt := topS 15
abbrev nIsInt : List Str := ["value", "least"]
abbrev pIsInt : List Str := ["value", "least"]
theorem scIsInt : FnScope nIsInt pIsInt (defScope sIsInt) := ⟨rfl, rfl, rfl, by decide +kernel, rfl, by decide +kernel, by decide +kernel⟩
abbrev sIsName : Stmt := topS 16
abbrev nIsName : List Str := ["value"]
abbrev pIsName : List Str := ["value"]
theorem scIsName : FnScope nIsName pIsName (defScope sIsName) := ⟨rfl, rfl, rfl, by decide +kernel, rfl, by decide +kernel, by decide +kernel⟩
abbrev sIsAm : Stmt := topS 17
abbrev nIsAm : List Str := ["value"]
abbrev pIsAm : List Str := ["value"]
theorem scIsAm : FnScope nIsAm pIsAm (defScope sIsAm) := ⟨rfl, rfl, rfl, by decide +kernel, rfl, by decide +kernel, by decide +kernel⟩
abbrev sChNames : Stmt := topS 19
abbrev nChNames : List Str := ["names", "at", "value"]
abbrev pChNames : List Str := ["names"]
theorem scChNames : FnScope nChNames pChNames (defScope sChNames) := ⟨rfl, rfl, rfl, by decide +kernel, rfl, by decide +kernel, by decide +kernel⟩
abbrev sChLen : Stmt := topS 43
abbrev nChLen : List Str := ["length"]
abbrev pChLen : List Str := ["length"]
theorem scChLen : FnScope nChLen pChLen (defScope sChLen) := ⟨rfl, rfl, rfl, by decide +kernel, rfl, by decide +kernel, by decide +kernel⟩
abbrev sFstA : Stmt := topS 46
abbrev nFstA : List Str := ["items", "index"]
abbrev pFstA : List Str := ["items", "index"]
theorem scFstA : FnScope nFstA pFstA (defScope sFstA) := ⟨rfl, rfl, rfl, by decide +kernel, rfl, by decide +kernel, by decide +kernel⟩
abbrev sChCnt : Stmt := topS 63
abbrev nChCnt : List Str := ["count", "names"]
abbrev pChCnt : List Str := ["count", "names"]
theorem scChCnt : FnScope nChCnt pChCnt (defScope sChCnt) := ⟨rfl, rfl, rfl, by decide +kernel, rfl, by decide +kernel, by decide +kernel⟩
abbrev sIsRun : Stmt := topS 64
abbrev nIsRun : List Str := ["times", "what", "names"]
abbrev pIsRun : List Str := ["times", "what", "names"]
theorem scIsRun : FnScope nIsRun pIsRun (defScope sIsRun) := ⟨rfl, rfl, rfl, by decide +kernel, rfl, by decide +kernel, by decide +kernel⟩
abbrev sIsLoss : Stmt := topS 65
abbrev nIsLoss : List Str := ["times", "what", "kept"]
abbrev pIsLoss : List Str := ["times", "what", "kept"]
theorem scIsLoss : FnScope nIsLoss pIsLoss (defScope sIsLoss) := ⟨rfl, rfl, rfl, by decide +kernel, rfl, by decide +kernel, by decide +kernel⟩
abbrev sIsChg : Stmt := topS 66
abbrev nIsChg : List Str := ["value", "kept", "length", "times", "what"]
abbrev pIsChg : List Str := ["value", "kept"]
theorem scIsChg : FnScope nIsChg pIsChg (defScope sIsChg) := ⟨rfl, rfl, rfl, by decide +kernel, rfl, by decide +kernel, by decide +kernel⟩
abbrev sCanF : Stmt := topS 67
abbrev nCanF : List Str := ["change", "before", "length", "times", "what"]
abbrev pCanF : List Str := ["change", "before"]
theorem scCanF : FnScope nCanF pCanF (defScope sCanF) := ⟨rfl, rfl, rfl, by decide +kernel, rfl, by decide +kernel, by decide +kernel⟩
abbrev sChChg : Stmt := topS 68
abbrev nChChg : List Str := ["changes", "names", "kept", "at", "change"]
abbrev pChChg : List Str := ["changes", "names"]
theorem scChChg : FnScope nChChg pChChg (defScope sChChg) := ⟨rfl, rfl, rfl, by decide +kernel, rfl, by decide +kernel, by decide +kernel⟩
abbrev sCell : Stmt := topS 72
abbrev nCell : List Str := ["_law_script", "_law_k", "_law_mixed", "_law_cell_here"]
abbrev pCell : List Str := ["_law_script", "_law_k"]
theorem scCell : FnScope nCell pCell (defScope sCell) := ⟨rfl, rfl, rfl, by decide +kernel, rfl, by decide +kernel, by decide +kernel⟩
abbrev sPool : Stmt := topS 73
abbrev nPool : List Str := ["_law_cell_here", "_law_digits"]
abbrev pPool : List Str := ["_law_cell_here"]
theorem scPool : FnScope nPool pPool (defScope sPool) := ⟨rfl, rfl, rfl, by decide +kernel, rfl, by decide +kernel, by decide +kernel⟩
abbrev sDraw : Stmt := topS 74
abbrev nDraw : List Str := ["_law_pool_here", "_law_many", "_law_mixed", "_law_digit"]
abbrev pDraw : List Str := ["_law_pool_here", "_law_many"]
theorem scDraw : FnScope nDraw pDraw (defScope sDraw) := ⟨rfl, rfl, rfl, by decide +kernel, rfl, by decide +kernel, by decide +kernel⟩
abbrev sCalls : Stmt := topS 75
abbrev nCalls : List Str := ["_law_pool_here", "_law_many", "_law_own", "_law_begin", "_law_mode", "_law_letters", "_law_stem", "_law_cut", "_law_k"]
abbrev pCalls : List Str := ["_law_pool_here", "_law_many"]
theorem scCalls : FnScope nCalls pCalls (defScope sCalls) := ⟨rfl, rfl, rfl, by decide +kernel, rfl, by decide +kernel, by decide +kernel⟩
abbrev sFirst : Stmt := topS 76
abbrev nFirst : List Str := ["_law_calls_here", "_law_at"]
abbrev pFirst : List Str := ["_law_calls_here", "_law_at"]
theorem scFirst : FnScope nFirst pFirst (defScope sFirst) := ⟨rfl, rfl, rfl, by decide +kernel, rfl, by decide +kernel, by decide +kernel⟩
abbrev sGap : Stmt := topS 77
abbrev nGap : List Str := ["_law_pool_here", "_law_most"]
abbrev pGap : List Str := ["_law_pool_here", "_law_most"]
theorem scGap : FnScope nGap pGap (defScope sGap) := ⟨rfl, rfl, rfl, by decide +kernel, rfl, by decide +kernel, by decide +kernel⟩
abbrev sTabl : Stmt := topS 78
abbrev nTabl : List Str := ["_law_pool_here", "_law_dos", "_law_most", "_law_many", "_law_calls_here", "_law_undone_here", "_law_found", "_law_left", "_law_here", "_law_before", "_law_turn", "_law_what", "_law_gap_here", "_law_times"]
abbrev pTabl : List Str := ["_law_pool_here", "_law_dos", "_law_most", "_law_many"]
theorem scTabl : FnScope nTabl pTabl (defScope sTabl) := ⟨rfl, rfl, rfl, by decide +kernel, rfl, by decide +kernel, by decide +kernel⟩
abbrev sTold : Stmt := topS 79
abbrev nTold : List Str := ["_law_parts_here", "_law_size_here", "_law_calls_here", "_law_undone_here", "_law_kept_here", "_law_begin", "_law_times", "_law_what", "_law_many"]
abbrev pTold : List Str := ["_law_parts_here", "_law_size_here"]
theorem scTold : FnScope nTold pTold (defScope sTold) := ⟨rfl, rfl, rfl, by decide +kernel, rfl, by decide +kernel, by decide +kernel⟩
abbrev sCol : Stmt := topS 80
abbrev nCol : List Str := ["_law_number_here", "_law_shown"]
abbrev pCol : List Str := ["_law_number_here"]
theorem scCol : FnScope nCol pCol (defScope sCol) := ⟨rfl, rfl, rfl, by decide +kernel, rfl, by decide +kernel, by decide +kernel⟩
abbrev sRows : Stmt := topS 81
abbrev nRows : List Str := ["_law_parts_here", "_law_sizes", "_law_found", "_law_size_here", "_law_kept_here", "_law_calls_here", "_law_undone_here", "_law_shown"]
abbrev pRows : List Str := ["_law_parts_here", "_law_sizes"]
theorem scRows : FnScope nRows pRows (defScope sRows) := ⟨rfl, rfl, rfl, by decide +kernel, rfl, by decide +kernel, by decide +kernel⟩
abbrev sSize : Stmt := topS 82
abbrev nSize : List Str := ["_law_pool_here", "_law_near"]
abbrev pSize : List Str := ["_law_pool_here"]
theorem scSize : FnScope nSize pSize (defScope sSize) := ⟨rfl, rfl, rfl, by decide +kernel, rfl, by decide +kernel, by decide +kernel⟩
abbrev sRight : Stmt := topS 83
abbrev nRight : List Str := ["_law_pool_here", "_law_turn", "_law_parts_here", "_law_box", "_law_w", "_law_told_here", "_law_due", "_law_k", "_law_each"]
abbrev pRight : List Str := ["_law_pool_here"]
theorem scRight : FnScope nRight pRight (defScope sRight) := ⟨rfl, rfl, rfl, by decide +kernel, rfl, by decide +kernel, by decide +kernel⟩
abbrev sLaw : Stmt := topS 84
abbrev nLaw : List Str := ["_law_script", "_law_box", "_law_k"]
abbrev pLaw : List Str := ["_law_script"]
theorem scLaw : FnScope nLaw pLaw (defScope sLaw) := ⟨rfl, rfl, rfl, by decide +kernel, rfl, by decide +kernel, by decide +kernel⟩
abbrev sEInit : Stmt := inClass (topS 70) 0
abbrev nEInit : List Str := ["self", "new_names", "undone_count", "changes"]
abbrev pEInit : List Str := ["self", "new_names", "undone_count", "changes"]
theorem scEInit : FnScope nEInit pEInit (defScope sEInit) := ⟨rfl, rfl, rfl, by decide +kernel, rfl, by decide +kernel, by decide +kernel⟩
abbrev sETab : Stmt := inClass (topS 70) 3
abbrev nETab : List Str := ["self", "lengths", "lines", "length", "kept", "items", "undone", "names"]
abbrev pETab : List Str := ["self", "lengths"]
theorem scETab : FnScope nETab pETab (defScope sETab) := ⟨rfl, rfl, rfl, by decide +kernel, rfl, by decide +kernel, by decide +kernel⟩
abbrev sEGet : Stmt := inClass (topS 70) 4
abbrev nEGet : List Str := ["self", "at", "kept", "items", "undone", "length", "times", "what", "many"]
abbrev pEGet : List Str := ["self", "at"]
theorem scEGet : FnScope nEGet pEGet (defScope sEGet) := ⟨rfl, rfl, rfl, by decide +kernel, rfl, by decide +kernel, by decide +kernel⟩

structure TX (K : PySem.W.Frag) (mg : Str → Option Value) : Type where
  f_is_integer : Addr
  fd_is_integer : FuncData
  d_is_integer : FD K mg "is_integer" sIsInt pIsInt f_is_integer fd_is_integer
  f_is_name : Addr
  fd_is_name : FuncData
  d_is_name : FD K mg "is_name" sIsName pIsName f_is_name fd_is_name
  f_is_amount : Addr
  fd_is_amount : FuncData
  d_is_amount : FD K mg "is_amount" sIsAm pIsAm f_is_amount fd_is_amount
  f_check_names : Addr
  fd_check_names : FuncData
  d_check_names : FD K mg "check_names" sChNames pChNames f_check_names fd_check_names
  f_check_length : Addr
  fd_check_length : FuncData
  d_check_length : FD K mg "check_length" sChLen pChLen f_check_length fd_check_length
  f_first_alike : Addr
  fd_first_alike : FuncData
  d_first_alike : FD K mg "first_alike" sFstA pFstA f_first_alike fd_first_alike
  f_check_undone_count : Addr
  fd_check_undone_count : FuncData
  d_check_undone_count : FD K mg "check_undone_count" sChCnt pChCnt f_check_undone_count fd_check_undone_count
  f_is_run : Addr
  fd_is_run : FuncData
  d_is_run : FD K mg "is_run" sIsRun pIsRun f_is_run fd_is_run
  f_is_loss : Addr
  fd_is_loss : FuncData
  d_is_loss : FD K mg "is_loss" sIsLoss pIsLoss f_is_loss fd_is_loss
  f_is_change : Addr
  fd_is_change : FuncData
  d_is_change : FD K mg "is_change" sIsChg pIsChg f_is_change fd_is_change
  f_can_follow : Addr
  fd_can_follow : FuncData
  d_can_follow : FD K mg "can_follow" sCanF pCanF f_can_follow fd_can_follow
  f_check_changes : Addr
  fd_check_changes : FuncData
  d_check_changes : FD K mg "check_changes" sChChg pChChg f_check_changes fd_check_changes
  f_law_cell : Addr
  fd_law_cell : FuncData
  d_law_cell : FD K mg "_law_cell" sCell pCell f_law_cell fd_law_cell
  f_law_pool : Addr
  fd_law_pool : FuncData
  d_law_pool : FD K mg "_law_pool" sPool pPool f_law_pool fd_law_pool
  f_law_draw : Addr
  fd_law_draw : FuncData
  d_law_draw : FD K mg "_law_draw" sDraw pDraw f_law_draw fd_law_draw
  f_law_calls : Addr
  fd_law_calls : FuncData
  d_law_calls : FD K mg "_law_calls" sCalls pCalls f_law_calls fd_law_calls
  f_law_first : Addr
  fd_law_first : FuncData
  d_law_first : FD K mg "_law_first" sFirst pFirst f_law_first fd_law_first
  f_law_gap : Addr
  fd_law_gap : FuncData
  d_law_gap : FD K mg "_law_gap" sGap pGap f_law_gap fd_law_gap
  f_law_tabled : Addr
  fd_law_tabled : FuncData
  d_law_tabled : FD K mg "_law_tabled" sTabl pTabl f_law_tabled fd_law_tabled
  f_law_told : Addr
  fd_law_told : FuncData
  d_law_told : FD K mg "_law_told" sTold pTold f_law_told fd_law_told
  f_law_column : Addr
  fd_law_column : FuncData
  d_law_column : FD K mg "_law_column" sCol pCol f_law_column fd_law_column
  f_law_rows : Addr
  fd_law_rows : FuncData
  d_law_rows : FD K mg "_law_rows" sRows pRows f_law_rows fd_law_rows
  f_law_size : Addr
  fd_law_size : FuncData
  d_law_size : FD K mg "_law_size" sSize pSize f_law_size fd_law_size
  f_law_right : Addr
  fd_law_right : FuncData
  d_law_right : FD K mg "_law_right" sRight pRight f_law_right fd_law_right
  f_law : Addr
  fd_law : FuncData
  d_law : FD K mg "law" sLaw pLaw f_law fd_law
  abs : mg "abs" = none
  all : mg "all" = none
  bool : mg "bool" = none
  divmod : mg "divmod" = none
  enumerate : mg "enumerate" = none
  int : mg "int" = none
  isinstance : mg "isinstance" = none
  len : mg "len" = none
  list : mg "list" = none
  max : mg "max" = none
  min : mg "min" = none
  range : mg "range" = none
  str : mg "str" = none
  tuple : mg "tuple" = none
  mLONGEST_NAME : ∃ t, mg "LONGEST_NAME" = some (.int 8 t)
  C_Effect : Addr
  m_Effect : mg "Effect" = some (.ref C_Effect)
  cl_Effect : Cls K C_Effect
  is_Effect : C8.InsC K C_Effect
  n_Effect_new_names : NoAttr K C_Effect "new_names"
  n_Effect_undone_count : NoAttr K C_Effect "undone_count"
  n_Effect_changes : NoAttr K C_Effect "changes"
  f_Effect_init : Addr
  fd_Effect_init : FuncData
  e0_Effect_init : Addr
  t0_Effect_init : ∀ H, SqT K H e0_Effect_init []
  e2_Effect_init : Addr
  t2_Effect_init : ∀ H, SqT K H e2_Effect_init []
  F_Effect_init : FunD K "__init__" "Effect.__init__" (defArgs sEInit) (defBody sEInit) (defScope sEInit) [V.ref e0_Effect_init, V.int 0, V.ref e2_Effect_init] [] f_Effect_init fd_Effect_init
  mk_Effect : Mk K C_Effect f_Effect_init
  ds0_Effect_init : List Value
  v0_Effect_init : Vals [V.ref e0_Effect_init, V.int 0, V.ref e2_Effect_init] ds0_Effect_init
  b0_Effect_init : Binds K fd_Effect_init pEInit ds0_Effect_init
  ds1_Effect_init : List Value
  v1_Effect_init : Vals [V.int 0, V.ref e2_Effect_init] ds1_Effect_init
  b1_Effect_init : Binds K fd_Effect_init pEInit ds1_Effect_init
  ds2_Effect_init : List Value
  v2_Effect_init : Vals [V.ref e2_Effect_init] ds2_Effect_init
  b2_Effect_init : Binds K fd_Effect_init pEInit ds2_Effect_init
  ds3_Effect_init : List Value
  v3_Effect_init : Vals [] ds3_Effect_init
  b3_Effect_init : Binds K fd_Effect_init pEInit ds3_Effect_init
  f_Effect_table : Addr
  F_Effect_table : FunS K "table" "Effect.table" sETab ["self"] "lengths" f_Effect_table
  me_Effect_table : Meth K C_Effect "table" f_Effect_table
  f_Effect_getitem : Addr
  fd_Effect_getitem : FuncData
  F_Effect_getitem : FunD K "__getitem__" "Effect.__getitem__" (defArgs sEGet) (defBody sEGet) (defScope sEGet) [] [] f_Effect_getitem fd_Effect_getitem
  it_Effect : ItemOwn K C_Effect f_Effect_getitem
  b_Effect_getitem : Binds K fd_Effect_getitem pEGet []

section
variable {P : Program} {w : World} {K : PySem.W.Frag} {mg : Str → Option Value} {base : Heap}
theorem str_at {ns : List Str} {i : Nat} {x : V} (h : (ns.map V.str)[i]? = some x) : ∃ z, x = .str z ∧ z ∈ ns := by
  rw [List.getElem?_map] at h
  cases e : ns[i]? with
  | none =>
    rw [e] at h
    cases h
  | some z =>
    rw [e] at h
    exact ⟨z, (Option.some.inj h).symm, List.mem_of_getElem? e⟩
/-! ### names -/
def rMB (g : Str → Bool) (x : V) (xs : List V) (H : Hp) (Q : VK) : Prop := ∃ a, x = .str a ∧ xs = [] ∧ True ∧ Q (.bl (g a)) H
theorem mrAscii {X : Cx} : MtR X "str.isascii" (rMB Txt.isascii) := mt_isascii
theorem mrAlpha {X : Cx} : MtR X "str.isalpha" (rMB Txt.isalpha) := mt_isalpha
theorem mrLower {X : Cx} : MtR X "str.islower" (rMB Txt.islower) := mt_islower
theorem mrDigit {X : Cx} : MtR X "str.isdigit" (rMB Txt.isdigit) := mt_isdigit
theorem c_m0 {g : Str → Bool} {te : TE} {σ : L2.St} {H : Hp} {Q : VK} (h : te σ H fun x H1 => (∃ a, x = .str a) ∧ rMB g x [] H1 Q) : tM0 (rMB g) te σ H Q := h
theorem c_rMB {g : Str → Bool} {z : Str} {b : Bool} {H : Hp} {Q : VK} (e : g z = b) (h : Q (.bl b) H) : rMB g (.str z) [] H Q := ⟨z, rfl, rfl, trivial, by rw [e]; exact h⟩
theorem low_table : (∀ c < 123, 97 ≤ c → Unicode.isAlpha c = true) ∧ (∀ c < 123, 97 ≤ c → Unicode.isLower c = true) ∧ ∀ c < 123, 97 ≤ c → (Unicode.isUpper c || Unicode.isTitle c) = false := by decide +kernel
theorem IsName.ascii {z : Str} (h : IsName z) : Txt.isascii z = true := by
  unfold Txt.isascii
  rw [← Array.all_toList, List.all_eq_true]
  exact fun c hc => decide_eq_true (by have := h.low c hc; omega)
theorem IsName.alpha {z : Str} (h : IsName z) : Txt.isalpha z = true := by
  unfold Txt.isalpha
  rw [decide_eq_true (by have := h.lo; omega : z.length > 0), ← Array.all_toList, Bool.true_and, List.all_eq_true]
  exact fun c hc => low_table.1 c (by have := h.low c hc; omega) (h.low c hc).1
theorem IsName.lower {z : Str} (h : IsName z) : Txt.islower z = true := by
  unfold Txt.islower
  rw [← Array.any_toList, ← Array.any_toList]
  have h1 : z.cps.toList.any Unicode.isLower = true := by
    rw [List.any_eq_true]
    have l := h.lo
    rw [← len_codes] at l
    refine ⟨z.cps.toList[0], List.getElem_mem _, ?_⟩
    have := h.low _ (List.getElem_mem (h := l))
    exact low_table.2.1 _ (by omega) this.1
  have h2 : (z.cps.toList.any fun c => Unicode.isUpper c || Unicode.isTitle c) = false := by
    rw [List.any_eq_false]
    intro c hc
    have := h.low c hc
    rw [low_table.2.2 c (by omega) this.1]
    decide
  rw [h1, h2]
  rfl
local macro_rules | `(tactic| walk_at "u") => `(tactic| with_reducible refine c_m0 ?_)
def spIsName : Sp := fun vs H Q _ => ∃ z : Str, vs = [.str z] ∧ IsName z ∧ ∀ H', Same H H' → Q (.bl true) H'
theorem ok_is_name (T : TX K mg) : FnOk P w K mg base CX0 1 T.f_is_name T.fd_is_name pIsName spIsName := by
  refine T.d_is_name.F.ok scIsName (fun vs H Q E h => ?_) (fun cdv A outer s H vs Q E hr h => ?_)
  · obtain ⟨z, rfl, _⟩ := h
    rfl
  · obtain ⟨z, rfl, hz, q⟩ := h
    refine ⟨_, pss_cons (ps_if (PW.pt (pw_or (pt_not (pt_val (pe_callB (callIsi (K := K)) (by rfl) T.isinstance (by decide +kernel) (pa_cons (pv 0) (pa_cons (pe_bltn (v := .ty "str") (by rfl) T.str (by decide +kernel) rfl) pa_nil))))) (pw_or1 (pt_cmpR op_gt (pe_callB callLnS (by rfl) T.len (by decide +kernel) (pa_cons (pv 0) pa_nil)) (peGlobI rfl T.mLONGEST_NAME) (nomark _))))) (pss_one (ps_ret (pe_bl))) (pss_nil))
      (pss_one (ps_ret (pe_and (pe_m0 PySem.F.slot_str_isascii PySem.F.type_str_isascii mrAscii (pv 0)) (pe_and (pe_m0 PySem.F.slot_str_isalpha PySem.F.type_str_isalpha mrAlpha (pv 0)) (pe_one (pe_m0 PySem.F.slot_str_islower PySem.F.type_str_islower mrLower (pv 0))))))), ?_⟩
    walk_at "go"
    refine c_isi (r := true) (ty_str z) (by decide +kernel) ?_
    walk_at "go"
    have h1 := hz.lo
    have h8 := hz.hi
    refine c_lnS (by omega) ?_
    walk_at "go"
    refine c_rMB hz.ascii ?_
    walk_at "go"
    refine c_rMB hz.alpha ?_
    walk_at "go"
    refine c_rMB hz.lower ?_
    exact q H (Same.refl _)
/-- an amount: None for all, or an int from 1 on -/
def AmOf : V → Option Int → Prop
  | .non, none => True
  | .int n, some m => n = m ∧ 1 ≤ m
  | _, _ => False
theorem AmOf.cases {x : V} {am : Option Int} (h : AmOf x am) : (x = .non ∧ am = none) ∨ ∃ n, x = .int n ∧ am = some n ∧ 1 ≤ n := by
  cases x <;> cases am <;> simp [AmOf] at h
  · exact .inl ⟨rfl, rfl⟩
  · obtain ⟨rfl, h⟩ := h
    exact .inr ⟨_, rfl, rfl, h⟩
def spIsAm : Sp := fun vs H Q _ => ∃ x am, vs = [x] ∧ AmOf x am ∧ Q (.bl true) H
theorem ok_is_amount (T : TX K mg) : FnOk P w K mg base CX0 2 T.f_is_amount T.fd_is_amount pIsAm spIsAm := by
  refine T.d_is_amount.F.ok scIsAm (fun vs H Q E h => ?_) (fun cdv A outer s H vs Q E hr h => ?_)
  · obtain ⟨x, am, rfl, _⟩ := h
    rfl
  · obtain ⟨x, am, rfl, ha, q⟩ := h
    refine ⟨_, pss_one (ps_ret (pe_or (pe_cmpR op_isN (pv 0) (pe_non) (nomark _)) (pe_one (pe_and (pe_callB (callIsi (K := K)) (by rfl) T.isinstance (by decide +kernel) (pa_cons (pv 0) (pa_cons (pe_bltn (v := .ty "int") (by rfl) T.int (by decide +kernel) rfl) pa_nil))) (pe_and (pe_not (pe_callB (callIsi (K := K)) (by rfl) T.isinstance (by decide +kernel) (pa_cons (pv 0) (pa_cons (pe_bltn (v := .ty "bool") (by rfl) T.bool (by decide +kernel) rfl) pa_nil)))) (pe_one (pe_cmpR op_ge (pv 0) (pe_int) (nomark _)))))))), ?_⟩
    walk_at "go"
    refine ⟨rfl, ?_⟩
    rcases ha.cases with ⟨rfl, rfl⟩ | ⟨n, rfl, rfl, hn⟩
    · walk_at "go"
      exact q
    · walk_at "go"
      refine c_isi (r := true) (ty_int n) (by decide +kernel) ?_
      walk_at "go"
      refine c_isi (r := false) (ty_int n) (by decide +kernel) ?_
      walk_at "go"
      rw [decide_eq_true hn]
      exact q
end
/-! ### commands in the heap -/
/-- two rows, item by item -/
def All2 {α : Type} (R : V → α → Prop) (vs : List V) (ms : List α) : Prop := vs.length = ms.length ∧ ∀ (i : Nat) v m, vs[i]? = some v → ms[i]? = some m → R v m
theorem All2.imp {α : Type} {R R' : V → α → Prop} {vs : List V} {ms : List α} (h : All2 R vs ms) (f : ∀ v m, R v m → R' v m) : All2 R' vs ms := ⟨h.1, fun i v m a b => f v m (h.2 i v m a b)⟩
theorem All2.nil {α : Type} {R : V → α → Prop} : All2 R [] [] := ⟨rfl, fun i v m a _ => by simp at a⟩
theorem All2.app {α : Type} {R : V → α → Prop} {vs ws : List V} {ms ns : List α} (h : All2 R vs ms) (g : All2 R ws ns) : All2 R (vs ++ ws) (ms ++ ns) := by
  refine ⟨by rw [List.length_append, List.length_append, h.1, g.1], fun i v m a b => ?_⟩
  by_cases hi : i < vs.length
  · rw [List.getElem?_append_left hi] at a
    rw [List.getElem?_append_left (by rw [← h.1]; exact hi)] at b
    exact h.2 i v m a b
  · rw [List.getElem?_append_right (by omega)] at a
    rw [List.getElem?_append_right (by rw [← h.1]; omega), ← h.1] at b
    exact g.2 _ v m a b
theorem All2.one {α : Type} {R : V → α → Prop} {v : V} {m : α} (h : R v m) : All2 R [v] [m] := by
  refine ⟨rfl, fun i v' m' a b => ?_⟩
  cases i with
  | zero =>
    cases a
    cases b
    exact h
  | succ i => simp at a
theorem All2.get {α : Type} {R : V → α → Prop} {vs : List V} {ms : List α} (h : All2 R vs ms) {i : Nat} {v : V} (e : vs[i]? = some v) : ∃ m, ms[i]? = some m ∧ R v m := by
  obtain ⟨hi, _⟩ := List.getElem?_eq_some_iff.mp e
  have hj : i < ms.length := by rw [← h.1]; exact hi
  exact ⟨ms[i], List.getElem?_eq_getElem hj, h.2 i v _ e (List.getElem?_eq_getElem hj)⟩
def MvAt (K : PySem.W.Frag) (H : Hp) (v : V) (m : Mv) : Prop := ∃ a x, v = .ref a ∧ SqT K H a [.str (wdM m.1), x] ∧ AmOf x m.2
theorem MvAt.mono {K : PySem.W.Frag} {H H' : Hp} {v : V} {m : Mv} (s : Same H H') (h : MvAt K H v m) : MvAt K H' v m := by
  obtain ⟨a, x, e, h1, h2⟩ := h
  exact ⟨a, x, e, same_seqT s h1, h2⟩
/-- a command stands at v -/
def CmdAt (K : PySem.W.Frag) (H : Hp) (v : V) : Cmd → Prop
  | .dd z => ∃ a, v = .ref a ∧ SqT K H a [.str "do", .str z] ∧ IsName z
  | .mv m => MvAt K H v m
  | .rep n ms => ∃ a b vs, v = .ref a ∧ SqT K H a [.str "repeat", .int n, .ref b] ∧ SqT K H b vs ∧ All2 (MvAt K H) vs ms ∧ 1 ≤ n ∧ 1 ≤ ms.length ∧ ms.length ≤ 1000
theorem CmdAt.mono {K : PySem.W.Frag} {H H' : Hp} {v : V} {c : Cmd} (s : Same H H') (h : CmdAt K H v c) : CmdAt K H' v c := by
  cases c with
  | dd z =>
    obtain ⟨a, e, h1, h2⟩ := h
    exact ⟨a, e, same_seqT s h1, h2⟩
  | mv m => exact MvAt.mono s h
  | rep n ms =>
    obtain ⟨a, b, vs, e, h1, h2, h3, r⟩ := h
    exact ⟨a, b, vs, e, same_seqT s h1, same_seqT s h2, h3.imp fun _ _ => MvAt.mono s, r⟩
theorem w_ur : decide (V.str (Str.ofString "undo") = V.str (Str.ofString "redo")) = false := by decide +kernel
theorem w_ru : decide (V.str (Str.ofString "redo") = V.str (Str.ofString "undo")) = false := by decide +kernel
theorem w_ud : decide (V.str (Str.ofString "undo") = V.str (Str.ofString "do")) = false := by decide +kernel
theorem w_rd : decide (V.str (Str.ofString "redo") = V.str (Str.ofString "do")) = false := by decide +kernel
theorem w_up : decide (V.str (Str.ofString "undo") = V.str (Str.ofString "repeat")) = false := by decide +kernel
theorem w_rp : decide (V.str (Str.ofString "redo") = V.str (Str.ofString "repeat")) = false := by decide +kernel
theorem w_pd : decide (V.str (Str.ofString "repeat") = V.str (Str.ofString "do")) = false := by decide +kernel
theorem iteT_of {p : Prop} [Decidable p] (h : p) {A B : Prop} : (if decide p = true then A else B) = A := by
  rw [decide_eq_true h, if_pos rfl]
theorem iteF_of {p : Prop} [Decidable p] (h : ¬ p) {A B : Prop} : (if decide p = true then A else B) = B := by
  rw [decide_eq_false h, if_neg (by decide)]
theorem w_same (z : Str) : decide (V.str z = V.str z) = true := decide_eq_true rfl
theorem w_one : decide (V.int 1 = V.int 1) = true := decide_eq_true rfl
theorem i_same (z : Int) : decide (V.int z = V.int z) = true := decide_eq_true rfl
theorem i_32 : decide (V.int (3 : Nat) = V.int 2) = false := by decide +kernel
theorem cut_to (xs : List V) (k : Nat) (h : k ≤ xs.length) : cutV xs none (some (k : Int)) = xs.take k := by
  unfold cutV
  rw [HT.sIx_none, HT.sIx_nat, List.drop_zero, Nat.sub_zero, Nat.min_eq_left h]
theorem cut_from (xs : List V) (k : Nat) (h : k ≤ xs.length) : cutV xs (some (k : Int)) none = xs.drop k := by
  unfold cutV
  rw [HT.sIx_none, HT.sIx_nat, Nat.min_eq_left h]
  exact List.take_of_length_le (by rw [List.length_drop]; omega)
end Und
namespace Und
/-! ### effects as tables: changes, what they tell, which are valid -/
inductive Wh where
  | un | od
  | it (i : Nat)
deriving DecidableEq
inductive Wd where
  | keep | undone | old | item
deriving DecidableEq
structure Chg where
  a : Nat
  n : Option Nat
  w : Wh
def wdW : Wh → Wd
  | .un => .undone
  | .od => .old
  | .it _ => .item
theorem wdW_keep (w : Wh) : wdW w ≠ .keep := by cases w <;> simp [wdW]
/-- the end of a change, if it has one; otherwise its beginning -/
def enC (c : Chg) : Nat := c.a + c.n.getD 0
def hitC (n : Nat) (c : Chg) : Bool := decide (c.a ≤ n) && (match c.n with
  | none => true
  | some t => decide (n < c.a + t))
def wdE (n : Nat) : List Chg → Wd
  | [] => .keep
  | c :: cs => if hitC n c = true then wdW c.w else wdE n cs
def endC (cs : List Chg) : Nat := match cs.getLast? with
  | none => 0
  | some c => enC c
section
variable {α : Type} [DecidableEq α]
/-- the index of the first of the neighbors of the same name -/
def fstN (l : List α) : Nat → Nat
  | 0 => 0
  | i + 1 => if l[i]? = l[i + 1]? then fstN l i else i + 1
theorem fstN_le (l : List α) : ∀ i, fstN l i ≤ i
  | 0 => Nat.le_refl 0
  | i + 1 => by
    unfold fstN
    split
    · have := fstN_le l i
      omega
    · omega
theorem fstN_idem (l : List α) : ∀ i, fstN l (fstN l i) = fstN l i
  | 0 => rfl
  | i + 1 => by
    by_cases h : l[i]? = l[i + 1]?
    · have e : fstN l (i + 1) = fstN l i := by rw [fstN, if_pos h]
      rw [e]
      exact fstN_idem l i
    · have e : fstN l (i + 1) = i + 1 := by rw [fstN, if_neg h]
      rw [e, e]
def chgOk (l : List α) (c : Chg) : Prop := match c.w with
  | .un => ∀ t, c.n = some t → 1 ≤ t
  | .od => l ≠ [] ∧ ∀ t, c.n = some t → 1 ≤ t
  | .it i => c.n = some 1 ∧ i + 1 < l.length ∧ fstN l i = i
theorem chgOk.pos {l : List α} {c : Chg} (h : chgOk l c) {t : Nat} (e : c.n = some t) : 1 ≤ t := by
  unfold chgOk at h
  split at h
  · exact h t e
  · exact h.2 t e
  · rw [h.1] at e
    cases e
    exact Nat.le_refl 1
theorem chgOk.none {l : List α} {c : Chg} (h : chgOk l c) (e : c.n = none) : c.w = .un ∨ c.w = .od := by
  unfold chgOk at h
  split at h
  · exact .inl ‹_›
  · exact .inr ‹_›
  · rw [h.1] at e
    cases e
def aft (l : List α) (c : Chg) : List α := match c.w with
  | .it i => l.eraseIdx i
  | _ => l
def aftA (l : List α) (cs : List Chg) : List α := cs.foldl aft l
theorem aft_len (l : List α) (c : Chg) : (aft l c).length ≤ l.length := by
  unfold aft
  split
  · rw [List.length_eraseIdx]
    split <;> omega
  · exact Nat.le_refl _
def folOk (c b : Chg) : Prop := ∃ t, b.n = some t ∧ b.a + t ≤ c.a ∧ ((∃ i, b.w = .it i) ∨ c.w ≠ b.w ∨ b.a + t < c.a)
def vld (l : List α) (b : Option Chg) : List Chg → Prop
  | [] => True
  | c :: cs => chgOk l c ∧ (∀ x, b = some x → folOk c x) ∧ vld (aft l c) (some c) cs
def lastO (b : Option Chg) (cs : List Chg) : Option Chg := match cs.getLast? with
  | none => b
  | some c => some c
theorem lastO_cons (b : Option Chg) (c : Chg) (cs : List Chg) : lastO b (c :: cs) = lastO (some c) cs := by
  unfold lastO
  rw [List.getLast?_cons]
  cases cs.getLast? <;> rfl
theorem lastO_snoc (b : Option Chg) (c : Chg) (cs : List Chg) : lastO b (cs ++ [c]) = some c := by
  unfold lastO
  rw [List.getLast?_append]
  rfl
theorem vld_snoc (c : Chg) : ∀ (cs : List Chg) (l : List α) (b : Option Chg), vld l b (cs ++ [c]) ↔ vld l b cs ∧ chgOk (aftA l cs) c ∧ ∀ x, lastO b cs = some x → folOk c x
  | [], l, b => by
    show (chgOk l c ∧ (∀ x, b = some x → folOk c x) ∧ True) ↔ True ∧ chgOk l c ∧ ∀ x, b = some x → folOk c x
    exact ⟨fun h => ⟨trivial, h.1, h.2.1⟩, fun h => ⟨h.2.1, h.2.2, trivial⟩⟩
  | d :: cs, l, b => by
    have h := vld_snoc c cs (aft l d) (some d)
    show (chgOk l d ∧ (∀ x, b = some x → folOk d x) ∧ vld (aft l d) (some d) (cs ++ [c])) ↔ (chgOk l d ∧ (∀ x, b = some x → folOk d x) ∧ vld (aft l d) (some d) cs) ∧ chgOk (aftA (aft l d) cs) c ∧ ∀ x, lastO b (d :: cs) = some x → folOk c x
    rw [h, lastO_cons]
    exact ⟨fun h => ⟨⟨h.1, h.2.1, h.2.2.1⟩, h.2.2.2⟩, fun h => ⟨h.1.1, h.1.2.1, h.1.2.2, h.2⟩⟩
/-- what stands ahead of a change has an end, and that is no later -/
theorem vld_ahead {l : List α} {b : Option Chg} {c : Chg} : ∀ {pre : List Chg}, vld l b (pre ++ [c]) → ∀ x ∈ pre, ∃ t, x.n = some t ∧ 1 ≤ t ∧ x.a + t ≤ c.a := by
  intro pre
  induction pre generalizing l b with
  | nil => exact fun _ x hx => nomatch hx
  | cons d cs ih =>
    intro h x hx
    obtain ⟨h1, h2, h3⟩ := h
    have key : ∃ t, d.n = some t ∧ 1 ≤ t ∧ d.a + t ≤ c.a := by
      cases cs with
      | nil =>
        obtain ⟨t, e, le, _⟩ := h3.2.1 d rfl
        exact ⟨t, e, h1.pos e, le⟩
      | cons e cs =>
        obtain ⟨t, et, le, _⟩ := h3.2.1 d rfl
        obtain ⟨t2, _, _, le2⟩ := ih h3 e List.mem_cons_self
        exact ⟨t, et, h1.pos et, by omega⟩
    rcases List.mem_cons.mp hx with rfl | hx
    · exact key
    · exact ih h3 x hx
theorem vld_front {l : List α} {b : Option Chg} {c : Chg} {pre : List Chg} (h : vld l b (pre ++ [c])) : vld l b pre := ((vld_snoc c pre l b).mp h).1
theorem vld_le {l : List α} {b : Option Chg} {c : Chg} {cs : List Chg} (h : vld l b (c :: cs)) : ∀ x ∈ cs, c.a < x.a := by
  intro x hx
  obtain ⟨p, s, rfl⟩ := List.append_of_mem hx
  have h2 : ∀ (s : List Chg) (l : List α) (b : Option Chg) (p : List Chg), vld l b (p ++ s) → vld l b p := by
    intro s
    induction s with
    | nil =>
      intro l b p h
      rwa [List.append_nil] at h
    | cons y s ih =>
      intro l b p h
      rw [List.append_cons] at h
      exact vld_front (ih l b _ h)
  have h3 : vld l b ((c :: p) ++ [x]) := h2 s l b _ (by simpa using h)
  obtain ⟨t, _, h1, h4⟩ := vld_ahead h3 c List.mem_cons_self
  omega
/-! ### what a table tells -/
def mny (n : Nat) (c : Chg) : Nat := match c.n with
  | none => n - c.a
  | some t => min t (n - c.a)
abbrev Tel (α : Type) := Int × List α × Int
def stT (n : Nat) (s : Tel α) (c : Chg) : Tel α := match c.w with
  | .od => (s.1 - (mny n c : Nat), s.2.1, s.2.2)
  | .un => (s.1, s.2.1, s.2.2 + (mny n c : Nat))
  | .it i => if 0 < mny n c then (s.1, s.2.1.eraseIdx i, s.2.2) else s
def tel (l : List α) (u : Nat) (cs : List Chg) (n : Nat) : Tel α := cs.foldl (stT n) ((n : Int), l, (u : Int))
theorem stT_far {n : Nat} {c : Chg} (h : n ≤ c.a) (s : Tel α) : stT n s c = s := by
  have e : mny n c = 0 := by
    unfold mny
    split <;> omega
  unfold stT
  rw [e]
  split
  · simp
  · simp
  · simp
theorem tel_rest {n : Nat} {cs : List Chg} (h : ∀ c ∈ cs, n ≤ c.a) (s : Tel α) : cs.foldl (stT n) s = s := by
  induction cs generalizing s with
  | nil => rfl
  | cons c cs ih =>
    rw [List.foldl_cons, stT_far (h c List.mem_cons_self)]
    exact ih (fun x hx => h x (List.mem_cons_of_mem _ hx)) s
/-! ### words -/
theorem wd_no {n : Nat} {cs : List Chg} (h : ∀ c ∈ cs, hitC n c = false) : wdE n cs = .keep := by
  induction cs with
  | nil => rfl
  | cons c cs ih =>
    unfold wdE
    rw [h c List.mem_cons_self, if_neg Bool.false_ne_true]
    exact ih fun x hx => h x (List.mem_cons_of_mem _ hx)
theorem wd_app {n : Nat} {pre cs : List Chg} (h : ∀ c ∈ pre, hitC n c = false) : wdE n (pre ++ cs) = wdE n cs := by
  induction pre with
  | nil => rfl
  | cons c pre ih =>
    show (if hitC n c = true then wdW c.w else wdE n (pre ++ cs)) = _
    rw [h c List.mem_cons_self, if_neg Bool.false_ne_true]
    exact ih fun x hx => h x (List.mem_cons_of_mem _ hx)
theorem hit_past {n t : Nat} {c : Chg} (e : c.n = some t) (h : c.a + t ≤ n) : hitC n c = false := by
  unfold hitC
  rw [e]
  simp
  omega
theorem hit_in {n : Nat} {c : Chg} (h : c.a ≤ n) (h2 : ∀ t, c.n = some t → n < c.a + t) : hitC n c = true := by
  unfold hitC
  rw [decide_eq_true h]
  cases e : c.n with
  | none => rfl
  | some t => simpa using h2 t e
theorem end_snoc (pre : List Chg) (c : Chg) : endC (pre ++ [c]) = enC c := by
  unfold endC
  rw [List.getLast?_append]
  rfl
theorem snoc_of {cs : List Chg} (h : cs ≠ []) : ∃ pre c, cs = pre ++ [c] := ⟨cs.dropLast, cs.getLast h, (List.dropLast_concat_getLast h).symm⟩
/-- the word at the end stays -/
theorem wd_end {l : List α} {b : Option Chg} {cs : List Chg} (h : vld l b cs) {n : Nat} (hn : endC cs ≤ n) : wdE n cs = wdE (endC cs) cs := by
  by_cases hc : cs = []
  · subst hc
    rfl
  obtain ⟨pre, c, rfl⟩ := snoc_of hc
  rw [end_snoc] at hn ⊢
  have ha := vld_ahead h
  have hp : ∀ m, enC c ≤ m → ∀ x ∈ pre, hitC m x = false := fun m hm x hx => by
    obtain ⟨t, e, _, le⟩ := ha x hx
    exact hit_past e (by unfold enC at hm; omega)
  rw [wd_app (hp n hn), wd_app (hp _ (Nat.le_refl _))]
  show (if hitC n c = true then _ else Wd.keep) = if hitC (enC c) c = true then _ else Wd.keep
  cases e : c.n with
  | none =>
    have e2 : enC c = c.a := by unfold enC; rw [e]; rfl
    rw [hit_in (n := n) (by omega) (by rw [e]; exact fun _ z => nomatch z), hit_in (n := enC c) (by omega) (by rw [e]; exact fun _ z => nomatch z)]
  | some t =>
    have e2 : enC c = c.a + t := by unfold enC; rw [e]; rfl
    rw [hit_past (n := n) e (by omega), hit_past (n := enC c) e (by omega)]
/-- the word ahead of the end is another one -/
theorem wd_last {l : List α} {cs : List Chg} (h : vld l none cs) (h0 : 0 < endC cs) : wdE (endC cs) cs ≠ wdE (endC cs - 1) cs := by
  by_cases hc : cs = []
  · subst hc
    cases h0
  obtain ⟨pre, c, rfl⟩ := snoc_of hc
  rw [end_snoc] at h0 ⊢
  have ha := vld_ahead h
  obtain ⟨hv, hk, hl⟩ := (vld_snoc c pre l none).mp h
  have hp : ∀ x ∈ pre, hitC (enC c) x = false := fun x hx => by
    obtain ⟨t, e, _, le⟩ := ha x hx
    exact hit_past e (by unfold enC; omega)
  rw [wd_app hp]
  cases e : c.n with
  | some t =>
    have ht := hk.pos e
    have e2 : enC c = c.a + t := by unfold enC; rw [e]; rfl
    have hp2 : ∀ x ∈ pre, hitC (enC c - 1) x = false := fun x hx => by
      obtain ⟨t, e, _, le⟩ := ha x hx
      exact hit_past e (by omega)
    rw [wd_app hp2]
    show (if hitC (enC c) c = true then _ else Wd.keep) ≠ if hitC (enC c - 1) c = true then _ else Wd.keep
    rw [hit_past (n := enC c) e (by omega), hit_in (n := enC c - 1) (by omega) (by rw [e]; intro s z; cases z; omega), if_neg Bool.false_ne_true, if_pos rfl]
    exact fun z => wdW_keep c.w z.symm
  | none =>
    have e2 : enC c = c.a := by unfold enC; rw [e]; rfl
    show (if hitC (enC c) c = true then _ else Wd.keep) ≠ _
    rw [hit_in (n := enC c) (by omega) (by rw [e]; exact fun _ z => nomatch z), if_pos rfl, e2]
    have hno : hitC (c.a - 1) c = false := by
      unfold hitC
      rw [decide_eq_false (by omega)]
      rfl
    have hlast : ∀ xs, (∀ x ∈ xs, hitC (c.a - 1) x = false) → wdE (c.a - 1) (xs ++ [c]) = .keep := fun xs hx => by
      rw [wd_app hx]
      show (if hitC (c.a - 1) c = true then _ else Wd.keep) = _
      rw [hno, if_neg Bool.false_ne_true]
    by_cases hpe : pre = []
    · subst hpe
      rw [hlast [] fun x hx => nomatch hx]
      exact wdW_keep c.w
    obtain ⟨pp, d, rfl⟩ := snoc_of hpe
    obtain ⟨t, et, ht, hle⟩ := ha d (by simp)
    have hd := hl d (lastO_snoc none d pp)
    have hpp := vld_ahead hv
    have h1 : ∀ x ∈ pp, hitC (c.a - 1) x = false := fun x hx => by
      obtain ⟨t2, e3, _, le⟩ := hpp x hx
      exact hit_past e3 (by omega)
    by_cases hh : d.a + t = c.a
    · rw [List.append_assoc, wd_app h1]
      show _ ≠ if hitC (c.a - 1) d = true then wdW d.w else _
      rw [hit_in (by omega) (by rw [et]; intro s z; cases z; omega), if_pos rfl]
      obtain ⟨t3, e4, _, h5⟩ := hd
      rw [et] at e4
      cases e4
      have hc2 := hk.none e
      rcases h5 with ⟨i, h5⟩ | h5 | h5
      · rw [h5]
        rcases hc2 with z | z <;> rw [z] <;> simp [wdW]
      · intro z
        apply h5
        rcases hc2 with z2 | z2 <;> rw [z2] at z ⊢ <;> cases ew : d.w <;> rw [ew] at z <;> first | rfl | cases z
      · omega
    · rw [hlast (pp ++ [d])]
      · exact wdW_keep c.w
      · intro x hx
        rcases List.mem_append.mp hx with hx | hx
        · exact h1 x hx
        · have : x = d := by simpa using hx
          rw [this]
          exact hit_past et (by omega)
/-! ### bounds of what is told -/
def sumM (n : Nat) : List Chg → Nat
  | [] => 0
  | c :: cs => mny n c + sumM n cs
theorem sum_le {n : Nat} : ∀ {cs : List Chg} {l : List α} {b : Option Chg} {x : Nat}, vld l b cs → (∀ c ∈ cs, x ≤ c.a) → sumM n cs ≤ n - x := by
  intro cs
  induction cs with
  | nil => exact fun _ _ => Nat.zero_le _
  | cons c cs ih =>
    intro l b x h hx
    have h1 := hx c List.mem_cons_self
    show mny n c + sumM n cs ≤ n - x
    cases cs with
    | nil =>
      have e : sumM n [] = 0 := rfl
      rw [e]
      unfold mny
      split <;> omega
    | cons d cs =>
      obtain ⟨t, et, le, _⟩ := h.2.2.2.1 c rfl
      have h3 := ih (x := c.a + t) h.2.2 fun y hy => by
        rcases List.mem_cons.mp hy with rfl | hy
        · exact le
        · have := vld_le h.2.2 y hy
          omega
      have e : mny n c = min t (n - c.a) := by
        unfold mny
        rw [et]
      rw [e]
      omega
theorem tel_bd {n : Nat} : ∀ (cs : List Chg) (s : Tel α), s.1 - (sumM n cs : Nat) ≤ (cs.foldl (stT n) s).1 ∧ (cs.foldl (stT n) s).1 ≤ s.1 ∧ s.2.2 ≤ (cs.foldl (stT n) s).2.2 ∧ (cs.foldl (stT n) s).2.2 ≤ s.2.2 + (sumM n cs : Nat)
  | [], s => by
    show s.1 - ((0 : Nat) : Int) ≤ s.1 ∧ s.1 ≤ s.1 ∧ s.2.2 ≤ s.2.2 ∧ s.2.2 ≤ s.2.2 + ((0 : Nat) : Int)
    omega
  | c :: cs, s => by
    have h := tel_bd (n := n) cs (stT n s c)
    have h2 : s.1 - (mny n c : Nat) ≤ (stT n s c).1 ∧ (stT n s c).1 ≤ s.1 ∧ s.2.2 ≤ (stT n s c).2.2 ∧ (stT n s c).2.2 ≤ s.2.2 + (mny n c : Nat) := by
      unfold stT
      split
      · show s.1 - _ ≤ s.1 - _ ∧ s.1 - _ ≤ s.1 ∧ s.2.2 ≤ s.2.2 ∧ s.2.2 ≤ s.2.2 + _
        omega
      · show s.1 - _ ≤ s.1 ∧ s.1 ≤ s.1 ∧ s.2.2 ≤ s.2.2 + _ ∧ s.2.2 + _ ≤ s.2.2 + _
        omega
      · split
        · show s.1 - _ ≤ s.1 ∧ s.1 ≤ s.1 ∧ s.2.2 ≤ s.2.2 ∧ s.2.2 ≤ s.2.2 + _
          omega
        · omega
    have e : ((sumM n (c :: cs) : Nat) : Int) = (mny n c : Nat) + (sumM n cs : Nat) := by
      show ((mny n c + sumM n cs : Nat) : Int) = _
      omega
    rw [e, List.foldl_cons]
    omega
theorem tel_mem {n : Nat} : ∀ (cs : List Chg) (s : Tel α), ∀ z ∈ (cs.foldl (stT n) s).2.1, z ∈ s.2.1
  | [], _, _, h => h
  | c :: cs, s, z, h => by
    have h2 := tel_mem (n := n) cs (stT n s c) z h
    unfold stT at h2
    split at h2
    · exact h2
    · exact h2
    · split at h2
      · exact List.mem_of_mem_eraseIdx h2
      · exact h2
theorem tel_rng {l : List α} {u : Nat} {cs : List Chg} (h : vld l none cs) (n : Nat) : 0 ≤ (tel l u cs n).1 ∧ (tel l u cs n).1 ≤ n ∧ 0 ≤ (tel l u cs n).2.2 ∧ (tel l u cs n).2.2 ≤ u + n := by
  have h1 := sum_le (n := n) (x := 0) h fun _ _ => Nat.zero_le _
  have h2 := tel_bd (n := n) cs ((n : Int), l, (u : Int))
  unfold tel
  have h3 : (n : Int) - (sumM n cs : Nat) ≤ (cs.foldl (stT n) ((n : Int), l, (u : Int))).1 ∧ (cs.foldl (stT n) ((n : Int), l, (u : Int))).1 ≤ n ∧ (u : Int) ≤ (cs.foldl (stT n) ((n : Int), l, (u : Int))).2.2 ∧ (cs.foldl (stT n) ((n : Int), l, (u : Int))).2.2 ≤ (u : Int) + (sumM n cs : Nat) := h2
  omega
end
end Und
namespace Und
open PySem PySem.Spec PyProof.Rows L2
local macro_rules | `(tactic| walk_at "side") => `(tactic| first | decide | omega | exact ⟨by omega, by omega⟩ | (show (0 : Int) < _; omega) | (exact Or.inl ⟨by omega, by omega⟩) | (exact Or.inr ⟨by omega, by omega⟩) | (exact sz (by simp)) | (exact szl (by simp)))
local macro_rules | `(tactic| walk_at "u") => `(tactic| first
  | with_reducible refine c_seq ?_ | with_reducible refine c_next ?_ | with_reducible refine c_yes ?_ | with_reducible refine c_asg ?_ | with_reducible refine c_asg2 ?_ | with_reducible refine c_par ?_ | with_reducible refine c_two ?_ | with_reducible refine c_g ?_ | with_reducible refine c_gsub ?_ | with_reducible refine c_gcons ?_ | with_reducible refine c_gnil ?_ | with_reducible refine c_ret ?_ | with_reducible refine c_drop ?_
  | ((with_reducible refine c_var (v := ?v) ?h ?_); (case h => rfl)) | with_reducible refine c_c ?_ | with_reducible refine c_op ?_ | with_reducible refine c_un ?_ | with_reducible refine c_I0 ?_
  | ((with_reducible refine c_I ?h ?_); (case h => walk_at "side"))
  | ((with_reducible refine c_eq ?h ?_); (case h => rfl)) | ((with_reducible refine c_neq ?h ?_); (case h => rfl)) | with_reducible refine c_test ?_ | with_reducible refine c_B ?_ | with_reducible refine c_bl ?_ | with_reducible refine c_int ?_ | with_reducible refine c_ifs ?_ | with_reducible refine c_ife ?_
  | with_reducible refine c_andV ?_ | with_reducible refine c_orV ?_ | with_reducible refine c_notV ?_ | with_reducible refine c_and ?_ | with_reducible refine c_or ?_ | with_reducible refine c_not ?_
  | with_reducible refine c_call ?_ | with_reducible refine c_cb ?_ | with_reducible refine c_nil ?_ | with_reducible refine c_cons ?_
  | with_reducible refine c_tup ?_ | with_reducible refine c_lst ?_ | with_reducible refine c_sl ?_ | with_reducible refine c_nop ?_ | with_reducible refine c_part ?_ | with_reducible refine c_fld ?_
  | with_reducible refine c_for ?_ | with_reducible refine c_ilist ?_ | with_reducible refine c_itup ?_ | with_reducible refine c_irng1 ?_ | with_reducible refine c_lc ?_
  | with_reducible refine c_m1 ?_ | with_reducible refine c_isS ?_ | with_reducible refine c_chain ?_ | with_reducible refine c_str ?_ | with_reducible refine c_make ?_ | with_reducible refine c_meth ?_ | with_reducible refine c_prop ?_ | with_reducible refine c_sfld ?_ | with_reducible refine c_ienumT ?_ | with_reducible refine iteT ?_ | with_reducible refine iteF ?_ | with_reducible refine iteNT ?_ | with_reducible refine iteNF ?_
  | ((with_reducible refine iteDT ?h ?_); (case h => first | rfl | omega)) | ((with_reducible refine iteDF ?h ?_); (case h => first | omega | (intro z; cases z; done))) | ((with_reducible refine iteNDT ?h ?_); (case h => first | rfl | omega)) | ((with_reducible refine iteNDF ?h ?_); (case h => first | omega | (intro z; cases z; done))))
local macro_rules | `(tactic| walk_at "go") => `(tactic| repeat (walk_at "u"))
local macro_rules | `(tactic| walk_at "u") => `(tactic| first | with_reducible refine c_bm2 ?_ | with_reducible refine c_par3 ?_ | with_reducible refine c_three ?_ | with_reducible refine c_m0 ?_)
theorem while_goE {c : TT} {tb : TS} {D : Ends} {σ : L2.St} {H : Hp} (W : Nat → L2.St → Hp → Prop) (h0 : ∃ m, W m σ H) (hs : ∀ m σ H, W m σ H → c σ H fun b H1 => if b = true then ∃ N : L2.St → Hp → Prop, (∀ σ' H', N σ' H' → ∃ m', m' < m ∧ W m' σ' H') ∧ tb { D with nx := N, ct := N, bk := D.nx } σ H1 else D.nx σ H1) : tWhile c tb D σ H := ⟨W, h0, hs⟩
theorem c_brkE {D : Ends} {σ : L2.St} {H : Hp} (h : D.bk σ H) : tBreak D σ H := h
/-- del xs[i] -/
def rDelL (x y : V) (H : Hp) (N : Hp → Prop) : Prop := ∃ (l : Addr) (xs : List V) (i : Int) (k : Nat), x = .ref l ∧ y = .int i ∧ H l = some (.lst xs) ∧ -(2 ^ 63) ≤ i ∧ i < 2 ^ 63 ∧ seqIndex? i xs.length = some k ∧ N (upd H l (.lst (xs.eraseIdx k)))
theorem c_delL {to ti : TE} {D : Ends} {σ : L2.St} {H : Hp} (h : to σ H fun x H1 => ti σ H1 fun y H2 => rDelL x y H2 fun H3 => D.nx σ H3) : tDelL to ti D σ H := h
theorem c_rDelL {l : Addr} {xs : List V} {k : Nat} {H : Hp} {N : Hp → Prop} (e : H l = some (.lst xs)) (hk : k < xs.length) (hl : xs.length ≤ 100000) (h : N (upd H l (.lst (xs.eraseIdx k)))) : rDelL (.ref l) (.int (k : Int)) H N :=
  ⟨l, xs, _, k, rfl, rfl, e, by omega, by omega, PySem.StrLaws.seqIndex_nonneg (by omega) (by omega), h⟩
/-! ### changes in the heap -/
def whV : Wh → V
  | .un => .str "undone"
  | .od => .str "old"
  | .it i => .int (i : Int)
def nV : Option Nat → V
  | none => .non
  | some t => .int (t : Int)
def wdS : Wd → Str
  | .keep => "keep"
  | .undone => "undone"
  | .old => "old"
  | .item => "item"
theorem w_uo : decide (V.str (Str.ofString "undone") = V.str (Str.ofString "old")) = false := by decide +kernel
theorem w_ou : decide (V.str (Str.ofString "old") = V.str (Str.ofString "undone")) = false := by decide +kernel
theorem iS (i : Int) (z : Str) : decide (V.int i = V.str z) = false := decide_eq_false fun e => nomatch e
def ChgAt (K : PySem.W.Frag) (H : Hp) (v : V) (c : Chg) : Prop := ∃ a, v = .ref a ∧ SqT K H a [.int (c.a : Int), nV c.n, whV c.w]
theorem ChgAt.mono {K : PySem.W.Frag} {H H' : Hp} {v : V} {c : Chg} (s : Same H H') (h : ChgAt K H v c) : ChgAt K H' v c := by
  obtain ⟨a, e, h⟩ := h
  exact ⟨a, e, same_seqT s h⟩
section
variable {P : Program} {w : World} {K : PySem.W.Frag} {mg : Str → Option Value} {base : Heap}
def spChNames (K : PySem.W.Frag) : Sp := fun vs H Q _ => ∃ (a : Addr) (ns : List Str), vs = [.ref a] ∧ SqT K H a (ns.map V.str) ∧ (∀ z ∈ ns, IsName z) ∧ ∀ H', Same H H' → Q .non H'
theorem ok_check_names (T : TX K mg) : FnOk P w K mg base CX0 2 T.f_check_names T.fd_check_names pChNames (spChNames K) := by
  refine T.d_check_names.F.ok scChNames (fun vs H Q E h => ?_) (fun cdv A outer s H vs Q E hr h => ?_)
  · obtain ⟨a, ns, rfl, _⟩ := h
    rfl
  · obtain ⟨a, ns, rfl, hT, hn, q⟩ := h
    refine ⟨_, pss_cons (ps_if (pt_not (pt_val (pe_callB (callIsi (K := K)) (by rfl) T.isinstance (by decide +kernel) (pa_cons (pv 0) (pa_cons (pe_bltn (v := .ty "tuple") (by rfl) T.tuple (by decide +kernel) rfl) pa_nil))))) (pss_one (ps_never)) (pss_nil))
      (pss_one (ps_for PassesOwn.never rfl (pi_enumT (by rfl) T.enumerate (pa_cons (pv 0) pa_nil)) (pgTup (K := K) (n := 2) (by rfl) (pgs_cons (pg_name (i := 1) scChNames.nd rfl (.inl rfl)) (pgs_cons (pg_name (i := 2) scChNames.nd rfl (.inl rfl)) pgs_nil)))
        (pss_one (ps_if (PW.pt (pw_or (pt_not (pt_val (pe_callB (callIsi (K := K)) (by rfl) T.isinstance (by decide +kernel) (pa_cons (pv 2) (pa_cons (pe_bltn (v := .ty "str") (by rfl) T.str (by decide +kernel) rfl) pa_nil))))) (pw_or (pt_cmpR op_gt (pe_callB callLnS (by rfl) T.len (by decide +kernel) (pa_cons (pv 2) pa_nil)) (peGlobI rfl T.mLONGEST_NAME) (nomark _)) (pw_or1 (pt_not (PW.pt (pw_and (pt_val (pe_m0 PySem.F.slot_str_isascii PySem.F.type_str_isascii mrAscii (pv 2))) (pw_and (pt_val (pe_m0 PySem.F.slot_str_isalpha PySem.F.type_str_isalpha mrAlpha (pv 2))) (pw_and1 (pt_val (pe_m0 PySem.F.slot_str_islower PySem.F.type_str_islower mrLower (pv 2)))))))))))) (pss_one (ps_never)) (pss_nil))))), ?_⟩
    walk_at "go"
    refine c_isi (r := true) (ty_tup hT) (by decide +kernel) ?_
    walk_at "go"
    refine ⟨a, _, rfl, hT, ?_⟩
    refine for_enumT (xs := ns.map V.str) (fun i σ H' => Same H H' ∧ ∃ x y, σ = [some (.ref a), x, y]) ⟨Same.refl _, _, _, rfl⟩ (fun i σ H' _ h => same_seqT h.1 hT) (fun i x t σ H' hx h nt => ?_) (fun σ H' h => ?_)
    · obtain ⟨s1, y1, y2, rfl⟩ := h
      obtain ⟨z, rfl, hz⟩ := str_at hx
      have nz := hn z hz
      have h1 := nz.lo
      have h8 := nz.hi
      refine c_gtup (.inl (.inl upd_same)) rfl ?_
      walk_at "go"
      refine c_isi (r := true) (ty_str z) (by decide +kernel) ?_
      walk_at "go"
      refine c_lnS (by omega) ?_
      walk_at "go"
      refine c_rMB nz.ascii ?_
      walk_at "go"
      refine c_rMB nz.alpha ?_
      walk_at "go"
      refine c_rMB nz.lower ?_
      walk_at "go"
      exact ⟨s1.trans (same_new nt), _, _, rfl⟩
    · exact q H' h.1

def spIntI : Sp := fun vs H Q _ => ∃ i m : Int, vs = [.int i, .int m] ∧ Q (.bl (decide (m ≤ i))) H
theorem ok_is_intI (T : TX K mg) : FnOk P w K mg base CX0 1 T.f_is_integer T.fd_is_integer pIsInt spIntI := by
  refine T.d_is_integer.F.ok scIsInt (fun vs H Q E h => ?_) (fun cdv A outer s H vs Q E hr h => ?_)
  · obtain ⟨i, m, rfl, _⟩ := h
    rfl
  · obtain ⟨i, m, rfl, q⟩ := h
    refine ⟨_, pss_one (ps_ret (pe_and (pe_callB (callIsi (K := K)) (by rfl) T.isinstance (by decide +kernel) (pa_cons (pv 0) (pa_cons (pe_bltn (v := .ty "int") (by rfl) T.int (by decide +kernel) rfl) pa_nil))) (pe_and (pe_not (pe_callB (callIsi (K := K)) (by rfl) T.isinstance (by decide +kernel) (pa_cons (pv 0) (pa_cons (pe_bltn (v := .ty "bool") (by rfl) T.bool (by decide +kernel) rfl) pa_nil)))) (pe_one (pe_cmpR op_ge (pv 0) (pv 1) (nomark _)))))), ?_⟩
    walk_at "go"
    refine c_isi (r := true) (ty_int i) (by decide +kernel) ?_
    walk_at "go"
    refine c_isi (r := false) (ty_int i) (by decide +kernel) ?_
    walk_at "go"
    exact q
def spChLen : Sp := fun vs H Q _ => ∃ n : Nat, vs = [.int (n : Int)] ∧ Q .non H
theorem ok_check_length (T : TX K mg) : FnOk P w K mg base CX0 2 T.f_check_length T.fd_check_length pChLen spChLen := by
  have G_is_integer := ok_is_intI (P := P) (w := w) (base := base) T
  refine T.d_check_length.F.ok scChLen (fun vs H Q E h => ?_) (fun cdv A outer s H vs Q E hr h => ?_)
  · obtain ⟨n, rfl, _⟩ := h
    rfl
  · obtain ⟨n, rfl, q⟩ := h
    refine ⟨_, pss_one (ps_if (pt_not (pt_val (pcall T.d_is_integer G_is_integer (hr.mono (by decide)) (by rfl) pass0 (pa_cons (pv 0) (pa_cons (pe_int) pa_nil))))) (pss_one (ps_never)) (pss_nil)), ?_⟩
    walk_at "go"
    refine ⟨_, _, rfl, ?_⟩
    rw [decide_eq_true (Int.natCast_nonneg n)]
    walk_at "go"
    exact q
def spChCnt (K : PySem.W.Frag) : Sp := fun vs H Q _ => ∃ (u : Nat) (t : Addr) (ns : List Str), vs = [.int (u : Int), .ref t] ∧ SqT K H t (ns.map V.str) ∧ u ≤ ns.length ∧ Q .non H
theorem ok_check_count (T : TX K mg) : FnOk P w K mg base CX0 2 T.f_check_undone_count T.fd_check_undone_count pChCnt (spChCnt K) := by
  have G_is_integer := ok_is_intI (P := P) (w := w) (base := base) T
  refine T.d_check_undone_count.F.ok scChCnt (fun vs H Q E h => ?_) (fun cdv A outer s H vs Q E hr h => ?_)
  · obtain ⟨u, t, ns, rfl, _⟩ := h
    rfl
  · obtain ⟨u, t, ns, rfl, hT, hu, q⟩ := h
    refine ⟨_, pss_one (ps_if (PW.pt (pw_or (pt_not (pt_val (pcall T.d_is_integer G_is_integer (hr.mono (by decide)) (by rfl) pass0 (pa_cons (pv 0) (pa_cons (pe_int) pa_nil))))) (pw_or1 (pt_cmpR op_gt (pv 0) (pe_callB (callLn (K := K)) (by rfl) T.len (by decide +kernel) (pa_cons (pv 1) pa_nil)) (nomark _))))) (pss_one (ps_never)) (pss_nil)), ?_⟩
    walk_at "go"
    refine ⟨_, _, rfl, ?_⟩
    rw [decide_eq_true (Int.natCast_nonneg u)]
    walk_at "go"
    refine c_lnT hT ?_
    rw [List.length_map]
    walk_at "go"
    exact q
/-! ### the first of equal neighbors -/
theorem fst_step {ns : List Str} {i : Nat} {y z : Str} (hy : ns[i]? = some y) (hz : ns[i + 1]? = some z) : fstN ns (i + 1) = if y = z then fstN ns i else i + 1 := by
  show (if ns[i]? = ns[i + 1]? then fstN ns i else i + 1) = _
  rw [hy, hz]
  by_cases e : y = z
  · rw [if_pos e, if_pos (by rw [e])]
  · rw [if_neg e, if_neg fun k => e (Option.some.inj k)]
theorem strs_get {ns : List Str} {i : Nat} (h : i < ns.length) : ∃ z, ns[i]? = some z ∧ (ns.map V.str)[i]? = some (.str z) := ⟨ns[i], List.getElem?_eq_getElem h, by rw [List.getElem?_map, List.getElem?_eq_getElem h]; rfl⟩
def spFst (K : PySem.W.Frag) : Sp := fun vs H Q _ => ∃ (l : Addr) (ns : List Str) (i : Nat), vs = [.ref l, .int (i : Int)] ∧ SqL K H l (ns.map V.str) ∧ i < ns.length ∧ Q (.int (fstN ns i : Nat)) H
theorem ok_first_alike (T : TX K mg) : FnOk P w K mg base CX0 1 T.f_first_alike T.fd_first_alike pFstA (spFst K) := by
  refine T.d_first_alike.F.ok scFstA (fun vs H Q E h => ?_) (fun cdv A outer s H vs Q E hr h => ?_)
  · obtain ⟨l, ns, i, rfl, _⟩ := h
    rfl
  · obtain ⟨l, ns, i, rfl, hL, hi, q⟩ := h
    refine ⟨_, pss_cons (ps_while PassesOwn.never (PW.pt (pw_and (pt_cmpR op_gt (pv 1) (pe_int) (nomark _)) (pw_and1 (pt_cmpR op_eq (pe_ix (ixL (K := K)) (pv 0) (pe_op op_sub (pv 1) (pe_int)) (fun _ _ => rfl)) (pe_ix (ixL (K := K)) (pv 0) (pv 1) (fun _ _ => rfl)) (nomark _))))) (pss_one (ps_set (i := 1) scFstA.nd rfl (.inl rfl) (pe_op op_sub (pv 1) (pe_int)))))
      (pss_one (ps_ret (pv 1))), ?_⟩
    walk_at "go"
    refine while_goE (fun m σ H' => ∃ j : Nat, m = j ∧ σ = [some (.ref l), some (.int (j : Int))] ∧ H' = H ∧ j < ns.length ∧ fstN ns j = fstN ns i) ⟨_, i, rfl, rfl, rfl, hi, rfl⟩ (fun m σ H' h => ?_)
    obtain ⟨j, hm, rfl, rfl, hj, ej⟩ := h
    subst hm
    cases m with
    | zero =>
      walk_at "go"
      have e : (0 : Nat) = fstN ns i := ej
      rw [← e] at q
      exact q
    | succ j =>
      obtain ⟨y, ey, ey2⟩ := strs_get (show j < ns.length by omega)
      obtain ⟨z, ez, ez2⟩ := strs_get hj
      walk_at "go"
      refine c_ixL hL j (by omega) ey2 ?_
      walk_at "go"
      refine c_ixL hL (j + 1) rfl ez2 ?_
      walk_at "go"
      rw [fst_step ey ez] at ej
      by_cases e : y = z
      · subst e
        rw [if_pos rfl] at ej
        rw [w_same]
        walk_at "go"
        refine ⟨_, fun σ' H' h => h, ?_⟩
        walk_at "go"
        exact ⟨j, by omega, j, rfl, by rw [show ((j + 1 : Nat) : Int) - 1 = (j : Int) by omega]; rfl, rfl, by omega, ej⟩
      · rw [if_neg e] at ej
        rw [decide_eq_false fun k => e (V.str.inj k)]
        walk_at "go"
        rw [← ej] at q
        exact q
end
end Und
namespace Und
open PySem PySem.Spec PyProof.Rows L2
local macro_rules | `(tactic| walk_at "side") => `(tactic| first | decide | omega | exact ⟨by omega, by omega⟩ | (show (0 : Int) < _; omega) | (exact Or.inl ⟨by omega, by omega⟩) | (exact Or.inr ⟨by omega, by omega⟩) | (exact sz (by simp)) | (exact szl (by simp)))
local macro_rules | `(tactic| walk_at "u") => `(tactic| first
  | with_reducible refine c_seq ?_ | with_reducible refine c_next ?_ | with_reducible refine c_yes ?_ | with_reducible refine c_asg ?_ | with_reducible refine c_asg2 ?_ | with_reducible refine c_par ?_ | with_reducible refine c_two ?_ | with_reducible refine c_g ?_ | with_reducible refine c_gsub ?_ | with_reducible refine c_gcons ?_ | with_reducible refine c_gnil ?_ | with_reducible refine c_ret ?_ | with_reducible refine c_drop ?_
  | ((with_reducible refine c_var (v := ?v) ?h ?_); (case h => rfl)) | with_reducible refine c_c ?_ | with_reducible refine c_op ?_ | with_reducible refine c_un ?_ | with_reducible refine c_I0 ?_
  | ((with_reducible refine c_I ?h ?_); (case h => walk_at "side"))
  | ((with_reducible refine c_eq ?h ?_); (case h => rfl)) | ((with_reducible refine c_neq ?h ?_); (case h => rfl)) | with_reducible refine c_test ?_ | with_reducible refine c_B ?_ | with_reducible refine c_bl ?_ | with_reducible refine c_int ?_ | with_reducible refine c_ifs ?_ | with_reducible refine c_ife ?_
  | with_reducible refine c_andV ?_ | with_reducible refine c_orV ?_ | with_reducible refine c_notV ?_ | with_reducible refine c_and ?_ | with_reducible refine c_or ?_ | with_reducible refine c_not ?_
  | with_reducible refine c_call ?_ | with_reducible refine c_cb ?_ | with_reducible refine c_nil ?_ | with_reducible refine c_cons ?_
  | with_reducible refine c_tup ?_ | with_reducible refine c_lst ?_ | with_reducible refine c_sl ?_ | with_reducible refine c_nop ?_ | with_reducible refine c_part ?_ | with_reducible refine c_fld ?_
  | with_reducible refine c_for ?_ | with_reducible refine c_ilist ?_ | with_reducible refine c_itup ?_ | with_reducible refine c_irng1 ?_ | with_reducible refine c_lc ?_
  | with_reducible refine c_m1 ?_ | with_reducible refine c_isS ?_ | with_reducible refine c_chain ?_ | with_reducible refine c_str ?_ | with_reducible refine c_make ?_ | with_reducible refine c_meth ?_ | with_reducible refine c_prop ?_ | with_reducible refine c_sfld ?_ | with_reducible refine c_ienumT ?_ | with_reducible refine iteT ?_ | with_reducible refine iteF ?_ | with_reducible refine iteNT ?_ | with_reducible refine iteNF ?_
  | ((with_reducible refine iteDT ?h ?_); (case h => first | rfl | omega)) | ((with_reducible refine iteDF ?h ?_); (case h => first | omega | (intro z; cases z; done))) | ((with_reducible refine iteNDT ?h ?_); (case h => first | rfl | omega)) | ((with_reducible refine iteNDF ?h ?_); (case h => first | omega | (intro z; cases z; done))))
local macro_rules | `(tactic| walk_at "go") => `(tactic| repeat (walk_at "u"))
local macro_rules | `(tactic| walk_at "u") => `(tactic| first | with_reducible refine c_bm2 ?_ | with_reducible refine c_par3 ?_ | with_reducible refine c_three ?_)
section
variable {P : Program} {w : World} {K : PySem.W.Frag} {mg : Str → Option Value} {base : Heap}
def spIsRun (K : PySem.W.Frag) : Sp := fun vs H Q _ => ∃ (c : Chg) (l : Addr) (ns : List Str), vs = [nV c.n, whV c.w, .ref l] ∧ SqL K H l (ns.map V.str) ∧ chgOk ns c ∧ (∀ i, c.w ≠ .it i) ∧ Q (.bl true) H
theorem ok_is_run (T : TX K mg) : FnOk P w K mg base CX0 2 T.f_is_run T.fd_is_run pIsRun (spIsRun K) := by
  have G_is_integer := ok_is_intI (P := P) (w := w) (base := base) T
  refine T.d_is_run.F.ok scIsRun (fun vs H Q E h => ?_) (fun cdv A outer s H vs Q E hr h => ?_)
  · obtain ⟨c, l, ns, rfl, _⟩ := h
    rfl
  · obtain ⟨⟨a, n, wh⟩, l, ns, rfl, hL, hok, hw, q⟩ := h
    refine ⟨_, pss_cons (ps_if (PW.pt (pw_and (pt_cmpR op_ne (pv 1) (pe_str) (nomark _)) (pw_and1 (PW.pt (pw_or (pt_cmpR op_ne (pv 1) (pe_str) (nomark _)) (pw_or1 (pt_not (pt_truth (pv 2) (by intro _; rfl))))))))) (pss_one (ps_ret (pe_bl))) (pss_nil))
      (pss_one (ps_ret (pe_or (pe_cmpR op_isN (pv 0) (pe_non) (nomark _)) (pe_one (pcall T.d_is_integer G_is_integer (hr.mono (by decide)) (by rfl) pass0 (pa_cons (pv 0) (pa_cons (pe_int) pa_nil))))))), ?_⟩
    have fin : ∀ t, n = some t → 1 ≤ t := fun t e => hok.pos e
    cases wh with
    | it i => exact absurd rfl (hw i)
    | un =>
      walk_at "go"
      refine ⟨rfl, ?_⟩
      cases n with
      | none =>
        walk_at "go"
        exact q
      | some t =>
        walk_at "go"
        refine ⟨_, _, rfl, ?_⟩
        rw [decide_eq_true (by have := fin t rfl; omega)]
        exact q
    | od =>
      walk_at "go"
      refine ⟨true, .inl ⟨_, hL, ?_⟩, ?_⟩
      · cases ns with
        | nil => exact absurd rfl hok.1
        | cons z zs => rfl
      walk_at "go"
      refine ⟨rfl, ?_⟩
      cases n with
      | none =>
        walk_at "go"
        exact q
      | some t =>
        walk_at "go"
        refine ⟨_, _, rfl, ?_⟩
        rw [decide_eq_true (by have := fin t rfl; omega)]
        exact q
def spIsLoss (K : PySem.W.Frag) : Sp := fun vs H Q _ => ∃ (l : Addr) (ns : List Str) (i : Nat), vs = [.int 1, .int (i : Int), .ref l] ∧ SqL K H l (ns.map V.str) ∧ i + 1 < ns.length ∧ fstN ns i = i ∧ Q (.bl true) H
theorem ok_is_loss (T : TX K mg) : FnOk P w K mg base CX0 2 T.f_is_loss T.fd_is_loss pIsLoss (spIsLoss K) := by
  have G_is_integer := ok_is_intI (P := P) (w := w) (base := base) T
  have G_first_alike := ok_first_alike (P := P) (w := w) (base := base) T
  refine T.d_is_loss.F.ok scIsLoss (fun vs H Q E h => ?_) (fun cdv A outer s H vs Q E hr h => ?_)
  · obtain ⟨l, ns, i, rfl, _⟩ := h
    rfl
  · obtain ⟨l, ns, i, rfl, hL, hi, hf, q⟩ := h
    refine ⟨_, pss_cons (ps_if (PW.pt (pw_or (pt_not (pt_val (pcall T.d_is_integer G_is_integer (hr.mono (by decide)) (by rfl) pass0 (pa_cons (pv 0) (pa_cons (pe_int) pa_nil))))) (pw_or1 (pt_cmpR op_gt (pv 0) (pe_int) (nomark _))))) (pss_one (ps_ret (pe_bl))) (pss_nil))
      (pss_one (ps_ret (pe_and (pcall T.d_is_integer G_is_integer (hr.mono (by decide)) (by rfl) pass0 (pa_cons (pv 1) (pa_cons (pe_int) pa_nil))) (pe_and (pe_cmpR op_lt (pv 1) (pe_op op_sub (pe_callB (callLn (K := K)) (by rfl) T.len (by decide +kernel) (pa_cons (pv 2) pa_nil)) (pe_int)) (nomark _)) (pe_one (pe_cmpR op_eq (pcall T.d_first_alike G_first_alike (hr.mono (by decide)) (by rfl) pass0 (pa_cons (pv 2) (pa_cons (pv 1) pa_nil))) (pv 1) (nomark _))))))), ?_⟩
    walk_at "go"
    refine ⟨_, _, rfl, ?_⟩
    walk_at "go"
    refine ⟨_, _, rfl, ?_⟩
    rw [decide_eq_true (Int.natCast_nonneg i)]
    walk_at "go"
    refine c_lnL hL ?_
    rw [List.length_map]
    walk_at "go"
    refine ⟨l, ns, i, rfl, hL, by omega, ?_⟩
    walk_at "go"
    rw [hf, i_same]
    exact q
def spIsChg (K : PySem.W.Frag) : Sp := fun vs H Q _ => ∃ (v : V) (c : Chg) (l : Addr) (ns : List Str), vs = [v, .ref l] ∧ ChgAt K H v c ∧ SqL K H l (ns.map V.str) ∧ chgOk ns c ∧ Q (.bl true) H
theorem ok_is_change (T : TX K mg) : FnOk P w K mg base CX0 3 T.f_is_change T.fd_is_change pIsChg (spIsChg K) := by
  have G_is_integer := ok_is_intI (P := P) (w := w) (base := base) T
  have G_is_run := ok_is_run (P := P) (w := w) (base := base) T
  have G_is_loss := ok_is_loss (P := P) (w := w) (base := base) T
  refine T.d_is_change.F.ok scIsChg (fun vs H Q E h => ?_) (fun cdv A outer s H vs Q E hr h => ?_)
  · obtain ⟨v, c, l, ns, rfl, _⟩ := h
    rfl
  · obtain ⟨v, c, l, ns, rfl, ⟨a, rfl, hT⟩, hL, hok, q⟩ := h
    refine ⟨_, pss_cons (ps_if (PW.pt (pw_or (pt_not (pt_val (pe_callB (callIsi (K := K)) (by rfl) T.isinstance (by decide +kernel) (pa_cons (pv 0) (pa_cons (pe_bltn (v := .ty "tuple") (by rfl) T.tuple (by decide +kernel) rfl) pa_nil))))) (pw_or (pt_cmpR op_ne (pe_callB (callLn (K := K)) (by rfl) T.len (by decide +kernel) (pa_cons (pv 0) pa_nil)) (pe_int) (nomark _)) (pw_or1 (pt_not (pt_val (pcall T.d_is_integer G_is_integer (hr.mono (by decide)) (by rfl) pass0 (pa_cons (pe_ix (ixT (K := K)) (pv 0) (pe_int) (fun _ _ => rfl)) (pa_cons (pe_int) pa_nil))))))))) (pss_one (ps_ret (pe_bl))) (pss_nil))
      (pss_cons (ps_asg (pv 0) (pgTup (K := K) (n := 3) (by rfl) (pgs_cons (pg_name (i := 2) scIsChg.nd rfl (.inl rfl)) (pgs_cons (pg_name (i := 3) scIsChg.nd rfl (.inl rfl)) (pgs_cons (pg_name (i := 4) scIsChg.nd rfl (.inl rfl)) pgs_nil)))))
      (pss_one (ps_ret (pe_ifExp (pt_val (pe_callB (callIsi (K := K)) (by rfl) T.isinstance (by decide +kernel) (pa_cons (pv 4) (pa_cons (pe_bltn (v := .ty "str") (by rfl) T.str (by decide +kernel) rfl) pa_nil)))) (pcall T.d_is_run G_is_run (hr.mono (by decide)) (by rfl) pass0 (pa_cons (pv 3) (pa_cons (pv 4) (pa_cons (pv 1) pa_nil)))) (pcall T.d_is_loss G_is_loss (hr.mono (by decide)) (by rfl) pass0 (pa_cons (pv 3) (pa_cons (pv 4) (pa_cons (pv 1) pa_nil)))))))), ?_⟩
    walk_at "go"
    refine c_isi (r := true) (ty_tup hT) (by decide +kernel) ?_
    walk_at "go"
    refine c_lnT hT ?_
    walk_at "go"
    refine c_ixT hT 0 rfl rfl ?_
    walk_at "go"
    refine ⟨_, _, rfl, ?_⟩
    rw [decide_eq_true (Int.natCast_nonneg c.a)]
    walk_at "go"
    refine c_gtup hT rfl ?_
    walk_at "go"
    cases hw : c.w with
    | un =>
      refine c_isi (r := true) (ty_str _) (by decide +kernel) ?_
      walk_at "go"
      exact ⟨c, l, ns, by rw [hw]; rfl, hL, hok, (by rw [hw]; exact fun i e => by cases e), q⟩
    | od =>
      refine c_isi (r := true) (ty_str _) (by decide +kernel) ?_
      walk_at "go"
      exact ⟨c, l, ns, by rw [hw]; rfl, hL, hok, (by rw [hw]; exact fun i e => by cases e), q⟩
    | it i =>
      refine c_isi (r := false) (ty_int _) (by decide +kernel) ?_
      walk_at "go"
      unfold chgOk at hok
      rw [hw] at hok
      exact ⟨l, ns, i, by rw [hok.1]; rfl, hL, hok.2.1, hok.2.2, q⟩
def spCanF (K : PySem.W.Frag) : Sp := fun vs H Q _ => ∃ (v u : V) (c b : Chg), vs = [v, u] ∧ ChgAt K H v c ∧ ChgAt K H u b ∧ folOk c b ∧ Q (.bl true) H
theorem whV_ne {c b : Wh} (h : c ≠ b) (hb : ∀ i, b ≠ .it i) : whV c ≠ whV b := fun e => by
  cases c <;> cases b <;> first | exact h rfl | exact hb _ rfl | cases e | (have := V.str.inj e; revert this; decide +kernel)
theorem scal_wh (c b : Wh) : scal (whV c) (whV b) = true := by cases c <;> cases b <;> rfl
theorem ok_can_follow (T : TX K mg) : FnOk P w K mg base CX0 1 T.f_can_follow T.fd_can_follow pCanF (spCanF K) := by
  refine T.d_can_follow.F.ok scCanF (fun vs H Q E h => ?_) (fun cdv A outer s H vs Q E hr h => ?_)
  · obtain ⟨v, u, c, b, rfl, _⟩ := h
    rfl
  · obtain ⟨v, u, c, b, rfl, ⟨x, rfl, hX⟩, ⟨y, rfl, hY⟩, ⟨t, et, hle, hf⟩, q⟩ := h
    refine ⟨_, pss_cons (ps_asg (pv 1) (pgTup (K := K) (n := 3) (by rfl) (pgs_cons (pg_name (i := 2) scCanF.nd rfl (.inl rfl)) (pgs_cons (pg_name (i := 3) scCanF.nd rfl (.inl rfl)) (pgs_cons (pg_name (i := 4) scCanF.nd rfl (.inl rfl)) pgs_nil)))))
      (pss_cons (ps_if (PW.pt (pw_or (pt_cmpR op_isN (pv 3) (pe_non) (nomark _)) (pw_or1 (pt_cmpR op_lt (pe_ix (ixT (K := K)) (pv 0) (pe_int) (fun _ _ => rfl)) (pe_op op_add (pv 2) (pv 3)) (nomark _))))) (pss_one (ps_ret (pe_bl))) (pss_nil))
      (pss_one (ps_ret (pe_or (pe_callB (callIsi (K := K)) (by rfl) T.isinstance (by decide +kernel) (pa_cons (pv 4) (pa_cons (pe_bltn (v := .ty "int") (by rfl) T.int (by decide +kernel) rfl) pa_nil))) (pe_or (pe_cmpR op_ne (pe_ix (ixT (K := K)) (pv 0) (pe_int) (fun _ _ => rfl)) (pv 4) (nomark _)) (pe_one (pe_cmpR op_gt (pe_ix (ixT (K := K)) (pv 0) (pe_int) (fun _ _ => rfl)) (pe_op op_add (pv 2) (pv 3)) (nomark _)))))))), ?_⟩
    rw [et] at hY
    have hY : SqT K H y [.int (b.a : Int), .int (t : Int), whV b.w] := hY
    walk_at "go"
    refine c_gtup hY rfl ?_
    walk_at "go"
    refine ⟨rfl, ?_⟩
    walk_at "go"
    refine c_ixT hX 0 rfl rfl ?_
    walk_at "go"
    by_cases hi : ∃ i, b.w = .it i
    · obtain ⟨i, e⟩ := hi
      rw [e]
      refine c_isi (r := true) (ty_int (i : Int)) (by decide +kernel) ?_
      walk_at "go"
      exact q
    have hi2 : ∀ i, b.w ≠ .it i := fun i e => hi ⟨i, e⟩
    have hf2 : c.w ≠ b.w ∨ b.a + t < c.a := hf.elim (fun h => absurd h hi) id
    obtain ⟨z, hz⟩ : ∃ z, whV b.w = .str z := by
      cases hb : b.w with
      | un => exact ⟨_, rfl⟩
      | od => exact ⟨_, rfl⟩
      | it i => exact absurd hb (hi2 i)
    rw [hz]
    refine c_isi (r := false) (ty_str z) (by decide +kernel) ?_
    walk_at "go"
    refine c_ixT hX 2 rfl rfl ?_
    walk_at "go"
    rw [← hz]
    refine c_neq (scal_wh _ _) ?_
    by_cases e : c.w = b.w
    · rw [e, decide_eq_true rfl]
      walk_at "go"
      refine c_ixT hX 0 rfl rfl ?_
      walk_at "go"
      rw [decide_eq_true (by have := hf2.resolve_left (fun h => h e); omega)]
      exact q
    · rw [decide_eq_false (whV_ne e hi2)]
      walk_at "go"
      exact q
def spChChg (K : PySem.W.Frag) : Sp := fun vs H Q _ => ∃ (t u : Addr) (us : List V) (cs : List Chg) (ns : List Str), vs = [.ref t, .ref u] ∧ SqT K H t us ∧ All2 (ChgAt K H) us cs ∧ SqT K H u (ns.map V.str) ∧ vld ns none cs ∧ ns.length ≤ 1000 ∧ ∀ H', Same H H' → Q .non H'
theorem vld_at {l : List Str} {b : Option Chg} {cs : List Chg} (h : vld l b cs) {i : Nat} {c : Chg} (e : cs[i]? = some c) : chgOk (aftA l (cs.take i)) c ∧ ∀ x, lastO b (cs.take i) = some x → folOk c x := by
  induction cs generalizing l b i with
  | nil => cases e
  | cons d cs ih =>
    cases i with
    | zero =>
      cases e
      exact ⟨h.1, h.2.1⟩
    | succ i =>
      have z := ih h.2.2 (i := i) (by simpa using e)
      rw [List.take_succ_cons, lastO_cons]
      exact z
theorem aft_take {l : List Str} {cs : List Chg} {i : Nat} {c : Chg} (e : cs[i]? = some c) : aftA l (cs.take (i + 1)) = aft (aftA l (cs.take i)) c := by
  obtain ⟨hi, rfl⟩ := List.getElem?_eq_some_iff.mp e
  unfold aftA
  rw [List.take_add_one, List.getElem?_eq_getElem hi]
  show ((cs.take i) ++ [cs[i]]).foldl aft l = _
  rw [List.foldl_append]
  rfl
theorem last_take {b : Option Chg} {cs : List Chg} {i : Nat} {c : Chg} (e : cs[i]? = some c) : lastO b (cs.take (i + 1)) = some c := by
  obtain ⟨hi, rfl⟩ := List.getElem?_eq_some_iff.mp e
  rw [List.take_add_one, List.getElem?_eq_getElem hi]
  exact lastO_snoc b _ _
theorem erase_names : ∀ (ns : List Str) (i : Nat), (ns.map V.str).eraseIdx i = (ns.eraseIdx i).map V.str
  | [], _ => rfl
  | _ :: _, 0 => rfl
  | a :: ns, i + 1 => by
    show V.str a :: (ns.map V.str).eraseIdx i = V.str a :: (ns.eraseIdx i).map V.str
    rw [erase_names ns i]
theorem aftA_len (l : List Str) : ∀ cs : List Chg, (aftA l cs).length ≤ l.length := by
  intro cs
  induction cs generalizing l with
  | nil => exact Nat.le_refl _
  | cons c cs ih => exact Nat.le_trans (ih (aft l c)) (aft_len l c)
theorem ok_check_changes (T : TX K mg) : FnOk P w K mg base CX0 4 T.f_check_changes T.fd_check_changes pChChg (spChChg K) := by
  have G_is_change := ok_is_change (P := P) (w := w) (base := base) T
  have G_can_follow := ok_can_follow (P := P) (w := w) (base := base) T
  refine T.d_check_changes.F.ok scChChg (fun vs H Q E h => ?_) (fun cdv A outer s H vs Q E hr h => ?_)
  · obtain ⟨t, u, us, cs, ns, rfl, _⟩ := h
    rfl
  · obtain ⟨t, u, us, cs, ns, rfl, hT, hA, hU, hv, hnl, q⟩ := h
    refine ⟨_, pss_cons (ps_if (pt_not (pt_val (pe_callB (callIsi (K := K)) (by rfl) T.isinstance (by decide +kernel) (pa_cons (pv 0) (pa_cons (pe_bltn (v := .ty "tuple") (by rfl) T.tuple (by decide +kernel) rfl) pa_nil))))) (pss_one (ps_never)) (pss_nil))
      (pss_cons (ps_set (i := 2) scChChg.nd rfl (.inl rfl) (pe_callTy (callLstOf (K := K)) (by rfl) T.list (by decide +kernel) (pa_cons (pv 1) pa_nil)))
      (pss_one (ps_for PassesOwn.never rfl (pi_enumT (by rfl) T.enumerate (pa_cons (pv 0) pa_nil)) (pgTup (K := K) (n := 2) (by rfl) (pgs_cons (pg_name (i := 3) scChChg.nd rfl (.inl rfl)) (pgs_cons (pg_name (i := 4) scChChg.nd rfl (.inl rfl)) pgs_nil)))
        (pss_cons (ps_if (PW.pt (pw_or (pt_not (pt_val (pcall T.d_is_change G_is_change (hr.mono (by decide)) (by rfl) pass0 (pa_cons (pv 4) (pa_cons (pv 2) pa_nil))))) (pw_or1 (PW.pt (pw_and (pt_cmpR op_gt (pv 3) (pe_int) (nomark _)) (pw_and1 (pt_not (pt_val (pcall T.d_can_follow G_can_follow (hr.mono (by decide)) (by rfl) pass0 (pa_cons (pv 4) (pa_cons (pe_ix (ixT (K := K)) (pv 0) (pe_op op_sub (pv 3) (pe_int)) (fun _ _ => rfl)) pa_nil))))))))))) (pss_one (ps_never)) (pss_nil))
      (pss_one (ps_if (pt_val (pe_callB (callIsi (K := K)) (by rfl) T.isinstance (by decide +kernel) (pa_cons (pe_ix (ixT (K := K)) (pv 4) (pe_int) (fun _ _ => rfl)) (pa_cons (pe_bltn (v := .ty "int") (by rfl) T.int (by decide +kernel) rfl) pa_nil)))) (pss_one (ps_delL (pv 2) (pe_ix (ixT (K := K)) (pv 4) (pe_int) (fun _ _ => rfl)))) (pss_nil))))))), ?_⟩
    walk_at "go"
    refine c_isi (r := true) (ty_tup hT) (by decide +kernel) ?_
    walk_at "go"
    refine c_lstOfT hU fun L H1 nL s1 eL => ?_
    walk_at "go"
    refine ⟨t, _, rfl, same_seqT s1 hT, ?_⟩
    refine for_enumT (xs := us) (fun i σ H' => ∃ x y, σ = [some (.ref t), some (.ref u), some (.ref L), x, y] ∧ Same H H' ∧ H' L = some (.lst ((aftA ns (cs.take i)).map V.str))) ⟨_, _, rfl, s1, eL⟩ (fun i σ H' _ h => ?_) (fun i v x σ H' hx h nt => ?_) (fun σ H' h => ?_)
    · obtain ⟨_, _, rfl, sx, _⟩ := h
      exact same_seqT sx hT
    · obtain ⟨y1, y2, rfl, sx, el⟩ := h
      have hxL : L ≠ x := fun z => by rw [← z, el] at nt; cases nt
      obtain ⟨c, ec, hc⟩ := hA.get hx
      obtain ⟨hok, hfo⟩ := vld_at hv ec
      have hi : i < us.length := (List.getElem?_eq_some_iff.mp hx).1
      have hcl := hA.1
      refine c_gtup (.inl (.inl upd_same)) rfl ?_
      have sx := sx.trans (same_new (o := .tup [.int (i : Int), v]) nt)
      have el : upd H' x (.tup [.int (i : Int), v]) L = _ := (upd_ne hxL).trans el
      generalize upd H' x (.tup [.int (i : Int), v]) = G at *
      obtain ⟨a, rfl, hcT⟩ := hc
      have hc2 : ChgAt K G (.ref a) c := ⟨a, rfl, same_seqT sx hcT⟩
      refine c_gcons (c_g (c_gcons (c_g (c_gnil ?_))))
      refine cut_seq (fun σ3 H3 => σ3 = [some (.ref t), some (.ref u), some (.ref L), some (.int (i : Int)), some (.ref a)] ∧ H3 = G) (fun N hN => ?_) (fun σ3 H3 h3 => ?_)
      · walk_at "go"
        refine ⟨_, c, L, _, rfl, hc2, .inl (.inl el), hok, ?_⟩
        walk_at "go"
        cases i with
        | zero =>
          walk_at "go"
          exact hN _ _ ⟨rfl, rfl⟩
        | succ i =>
          obtain ⟨v2, ev2⟩ : ∃ v2, us[i]? = some v2 := ⟨us[i]'(by omega), List.getElem?_eq_getElem (by omega)⟩
          obtain ⟨b, eb, hb⟩ := hA.get ev2
          walk_at "go"
          refine c_ixT (same_seqT sx hT) i (by omega) ev2 ?_
          walk_at "go"
          refine ⟨_, v2, c, b, rfl, hc2, hb.mono sx, hfo b (last_take eb), ?_⟩
          walk_at "go"
          exact hN _ _ ⟨rfl, rfl⟩
      · obtain ⟨rfl, rfl⟩ := h3
        walk_at "go"
        refine c_ixT (same_seqT sx hcT) 2 rfl rfl ?_
        walk_at "go"
        rw [aft_take ec]
        cases hw : c.w with
        | un =>
          unfold aft
          rw [hw]
          refine c_isi (r := false) (ty_str _) (by decide +kernel) ?_
          walk_at "go"
          exact ⟨_, _, rfl, sx, el⟩
        | od =>
          unfold aft
          rw [hw]
          refine c_isi (r := false) (ty_str _) (by decide +kernel) ?_
          walk_at "go"
          exact ⟨_, _, rfl, sx, el⟩
        | it j =>
          unfold chgOk at hok
          rw [hw] at hok
          have hcT2 := same_seqT sx hcT
          rw [hw] at hcT2
          refine c_isi (r := true) (ty_int (j : Int)) (by decide +kernel) ?_
          walk_at "go"
          refine c_delL ?_
          walk_at "go"
          refine c_ixT hcT2 2 rfl rfl ?_
          have hal := aftA_len ns (cs.take i)
          refine c_rDelL el (by rw [List.length_map]; omega) (by rw [List.length_map]; omega) ?_
          refine ⟨_, _, rfl, Same.mut sx nL, ?_⟩
          unfold aft
          rw [hw, upd_same, erase_names]
    · obtain ⟨_, _, rfl, sx, _⟩ := h
      exact q _ sx
end
end Und
namespace Und
open PySem PySem.Spec PyProof.Rows L2
local macro_rules | `(tactic| walk_at "side") => `(tactic| first | decide | omega | exact ⟨by omega, by omega⟩ | (show (0 : Int) < _; omega) | (exact Or.inl ⟨by omega, by omega⟩) | (exact Or.inr ⟨by omega, by omega⟩) | (exact sz (by simp)) | (exact szl (by simp)))
local macro_rules | `(tactic| walk_at "u") => `(tactic| first
  | with_reducible refine c_seq ?_ | with_reducible refine c_next ?_ | with_reducible refine c_yes ?_ | with_reducible refine c_asg ?_ | with_reducible refine c_asg2 ?_ | with_reducible refine c_par ?_ | with_reducible refine c_two ?_ | with_reducible refine c_g ?_ | with_reducible refine c_gsub ?_ | with_reducible refine c_gcons ?_ | with_reducible refine c_gnil ?_ | with_reducible refine c_ret ?_ | with_reducible refine c_drop ?_
  | ((with_reducible refine c_var (v := ?v) ?h ?_); (case h => rfl)) | with_reducible refine c_c ?_ | with_reducible refine c_op ?_ | with_reducible refine c_un ?_ | with_reducible refine c_I0 ?_
  | ((with_reducible refine c_I ?h ?_); (case h => walk_at "side"))
  | ((with_reducible refine c_eq ?h ?_); (case h => rfl)) | ((with_reducible refine c_neq ?h ?_); (case h => rfl)) | with_reducible refine c_test ?_ | with_reducible refine c_B ?_ | with_reducible refine c_bl ?_ | with_reducible refine c_int ?_ | with_reducible refine c_ifs ?_ | with_reducible refine c_ife ?_
  | with_reducible refine c_andV ?_ | with_reducible refine c_orV ?_ | with_reducible refine c_notV ?_ | with_reducible refine c_and ?_ | with_reducible refine c_or ?_ | with_reducible refine c_not ?_
  | with_reducible refine c_call ?_ | with_reducible refine c_cb ?_ | with_reducible refine c_nil ?_ | with_reducible refine c_cons ?_
  | with_reducible refine c_tup ?_ | with_reducible refine c_lst ?_ | with_reducible refine c_sl ?_ | with_reducible refine c_nop ?_ | with_reducible refine c_part ?_ | with_reducible refine c_fld ?_
  | with_reducible refine c_for ?_ | with_reducible refine c_ilist ?_ | with_reducible refine c_itup ?_ | with_reducible refine c_irng1 ?_ | with_reducible refine c_lc ?_
  | with_reducible refine c_m1 ?_ | with_reducible refine c_isS ?_ | with_reducible refine c_chain ?_ | with_reducible refine c_str ?_ | with_reducible refine c_make ?_ | with_reducible refine c_meth ?_ | with_reducible refine c_prop ?_ | with_reducible refine c_sfld ?_ | with_reducible refine c_ienumT ?_ | with_reducible refine iteT ?_ | with_reducible refine iteF ?_ | with_reducible refine iteNT ?_ | with_reducible refine iteNF ?_
  | ((with_reducible refine iteDT ?h ?_); (case h => first | rfl | omega)) | ((with_reducible refine iteDF ?h ?_); (case h => first | omega | (intro z; cases z; done))) | ((with_reducible refine iteNDT ?h ?_); (case h => first | rfl | omega)) | ((with_reducible refine iteNDF ?h ?_); (case h => first | omega | (intro z; cases z; done))))
local macro_rules | `(tactic| walk_at "go") => `(tactic| repeat (walk_at "u"))
local macro_rules | `(tactic| walk_at "u") => `(tactic| first | with_reducible refine c_bm2 ?_ | with_reducible refine c_par3 ?_ | with_reducible refine c_three ?_ | with_reducible refine c_delL ?_)
/-! ### an effect in the heap -/
def eflds (tn : Addr) (u : Nat) (tc : Addr) : List (Str × V) := putF "changes" (.ref tc) (putF "undone_count" (.int (u : Int)) (putF "new_names" (.ref tn) []))
theorem putF_len (k : Str) (v : V) : ∀ fs : List (Str × V), (putF k v fs).length ≤ fs.length + 1
  | [] => Nat.le_refl _
  | (x, y) :: fs => by
    unfold putF
    split
    · simp
    · have := putF_len k v fs
      simp only [List.length_cons]
      omega
theorem k_nu : ¬ (("new_names" : Str) = "undone_count") := by decide +kernel
theorem k_nc : ¬ (("new_names" : Str) = "changes") := by decide +kernel
theorem k_uc : ¬ (("undone_count" : Str) = "changes") := by decide +kernel
theorem eflds_n (tn : Addr) (u : Nat) (tc : Addr) : (eflds tn u tc).lookup ("new_names" : Str) = some (.ref tn) := by
  unfold eflds
  rw [lookup_putF, if_neg k_nc, lookup_putF, if_neg k_nu, lookup_putF, if_pos rfl]
theorem eflds_u (tn : Addr) (u : Nat) (tc : Addr) : (eflds tn u tc).lookup ("undone_count" : Str) = some (.int (u : Int)) := by
  unfold eflds
  rw [lookup_putF, if_neg k_uc, lookup_putF, if_pos rfl]
theorem eflds_c (tn : Addr) (u : Nat) (tc : Addr) : (eflds tn u tc).lookup ("changes" : Str) = some (.ref tc) := by
  unfold eflds
  rw [lookup_putF, if_pos rfl]
theorem eflds_no (tn : Addr) (u : Nat) (tc : Addr) {m : Str} (h1 : ¬ m = "new_names") (h2 : ¬ m = "undone_count") (h3 : ¬ m = "changes") : (eflds tn u tc).lookup m = none := by
  unfold eflds
  rw [lookup_putF, if_neg h3, lookup_putF, if_neg h2, lookup_putF, if_neg h1]
  all_goals rfl
structure EffAt (K : PySem.W.Frag) (C : Addr) (H : Hp) (a : Addr) (ns : List Str) (u : Nat) (cs : List Chg) : Prop where
  ob : ∃ dx tn tc us, H a = some (.ins C dx (eflds tn u tc)) ∧ SqT K H tn (ns.map V.str) ∧ SqT K H tc us ∧ All2 (ChgAt K H) us cs
theorem EffAt.mono {K : PySem.W.Frag} {C : Addr} {H H' : Hp} {a : Addr} {ns : List Str} {u : Nat} {cs : List Chg} (s : Same H H') (h : EffAt K C H a ns u cs) : EffAt K C H' a ns u cs := by
  obtain ⟨dx, tn, tc, us, e, h1, h2, h3⟩ := h
  exact ⟨dx, tn, tc, us, s _ _ e, same_seqT s h1, same_seqT s h2, h3.imp fun _ _ => ChgAt.mono s⟩
/-- the parts of an effect that is one -/
structure EOk (ns : List Str) (u : Nat) (cs : List Chg) : Prop where
  nm : ∀ z ∈ ns, IsName z
  ul : u ≤ ns.length
  vd : vld ns none cs
  nl : ns.length ≤ 1000
section
variable {P : Program} {w : World} {K : PySem.W.Frag} {mg : Str → Option Value} {base : Heap}
def spEInit (K : PySem.W.Frag) (C : Addr) : Sp := fun vs H Q _ => ∃ (x dx tn tc : Addr) (ns : List Str) (u : Nat) (us : List V) (cs : List Chg), vs = [.ref x, .ref tn, .int (u : Int), .ref tc] ∧ H x = some (.ins C dx []) ∧ SqT K H tn (ns.map V.str) ∧ SqT K H tc us ∧ All2 (ChgAt K H) us cs ∧ EOk ns u cs ∧
  ∀ H', (∀ b o, b ≠ x → H b = some o → H' b = some o) → H' x = some (.ins C dx (eflds tn u tc)) → Q .non H'
theorem ok_einit (T : TX K mg) : FnOk P w K mg base CX0 5 T.f_Effect_init T.fd_Effect_init pEInit (spEInit K T.C_Effect) := by
  have G_check_names := ok_check_names (P := P) (w := w) (base := base) T
  have G_check_undone_count := ok_check_count (P := P) (w := w) (base := base) T
  have G_check_changes := ok_check_changes (P := P) (w := w) (base := base) T
  refine T.F_Effect_init.ok scEInit (fun vs H Q E h => ?_) (fun cdv A outer s H vs Q E hr h => ?_)
  · obtain ⟨x, dx, tn, tc, ns, u, us, cs, rfl, _⟩ := h
    rfl
  · obtain ⟨x, dx, tn, tc, ns, u, us, cs, rfl, hx, hN, hC, hA, ok, q⟩ := h
    refine ⟨_, pss_cons (ps_expr (pcall T.d_check_names G_check_names (hr.mono (by decide)) (by rfl) pass0 (pa_cons (pv 1) pa_nil)))
      (pss_cons (ps_expr (pcall T.d_check_undone_count G_check_undone_count (hr.mono (by decide)) (by rfl) pass0 (pa_cons (pv 2) (pa_cons (pv 1) pa_nil))))
      (pss_cons (ps_expr (pcall T.d_check_changes G_check_changes (hr.mono (by decide)) (by rfl) pass0 (pa_cons (pv 3) (pa_cons (pv 1) pa_nil))))
      (pss_cons (ps_fld (pv 0) (pv 1) rfl)
      (pss_cons (ps_fld (pv 0) (pv 2) rfl)
      (pss_one (ps_fld (pv 0) (pv 3) rfl)))))), ?_⟩
    walk_at "go"
    refine ⟨tn, ns, rfl, hN, ok.nm, fun H1 s1 => ?_⟩
    walk_at "go"
    refine ⟨u, tn, ns, rfl, same_seqT s1 hN, ok.ul, ?_⟩
    walk_at "go"
    refine ⟨tc, tn, us, cs, ns, rfl, same_seqT s1 hC, hA.imp fun _ _ => ChgAt.mono s1, same_seqT s1 hN, ok.vd, ok.nl, fun H2 s2 => ?_⟩
    have s02 := s1.trans s2
    walk_at "go"
    refine ⟨x, T.C_Effect, dx, [], rfl, s02 _ _ hx, T.cl_Effect, T.n_Effect_new_names, by decide, ?_⟩
    walk_at "go"
    refine ⟨x, T.C_Effect, dx, _, rfl, upd_same, T.cl_Effect, T.n_Effect_undone_count, by show 1 < 1000; decide, ?_⟩
    walk_at "go"
    refine ⟨x, T.C_Effect, dx, _, rfl, upd_same, T.cl_Effect, T.n_Effect_changes, by have := putF_len "undone_count" (V.int (u : Int)) (putF "new_names" (.ref tn) []); have := putF_len "new_names" (V.ref tn) []; have e : ([] : List (Str × V)).length = 0 := rfl; omega, ?_⟩
    refine q _ (fun b o hb e => ?_) upd_same
    rw [upd_ne hb, upd_ne hb, upd_ne hb]
    exact s02 _ _ e
/-- an effect is made -/
theorem c_mkEf {C tn tc : Addr} {ns : List Str} {u : Nat} {us : List V} {cs : List Chg} {H : Hp} {Q : VK} {E : XK} (hN : SqT K H tn (ns.map V.str)) (hC : SqT K H tc us) (hA : All2 (ChgAt K H) us cs) (ok : EOk ns u cs)
    (q : ∀ r H', H r = none → Same H H' → EffAt K C H' r ns u cs → Q (.ref r) H') {vs : List V} (ev : vs = [.ref tn, .int (u : Int), .ref tc]) : rMk C (spEInit K C) E vs H Q := fun x dx nx nd ne => by
  have s1 : Same H (upd (upd H dx (.own x)) x (.ins C dx [])) := fun b o e => by
    rw [upd_ne (ne_of_none e nx), upd_ne (ne_of_none e nd)]
    exact e
  refine ⟨x, dx, tn, tc, ns, u, us, cs, by rw [ev], upd_same, same_seqT s1 hN, same_seqT s1 hC, hA.imp fun _ _ => ChgAt.mono s1, ok, fun H' k ex => ⟨rfl, ?_⟩⟩
  have s2 : Same H H' := fun b o e => k b o (ne_of_none e nx) (s1 b o e)
  exact q x H' nx s2 ⟨dx, tn, tc, us, ex, same_seqT s2 hN, same_seqT s2 hC, hA.imp fun _ _ => ChgAt.mono s2⟩
theorem drop_at {α : Type} {cs : List α} {i : Nat} {c : α} (e : cs[i]? = some c) : cs.drop i = c :: cs.drop (i + 1) := by
  obtain ⟨hi, rfl⟩ := List.getElem?_eq_some_iff.mp e
  exact List.drop_eq_getElem_cons hi
/-! ### the end -/
theorem last_at {us : List V} {cs : List Chg} {H : Hp} (hA : All2 (ChgAt K H) us cs) (hc : cs ≠ []) : ∃ v c, atI us (-1) = some v ∧ cs.getLast? = some c ∧ ChgAt K H v c := by
  have hu : us ≠ [] := fun z => hc (List.length_eq_zero_iff.mp (by rw [← hA.1, z]; rfl))
  have e : us = us.dropLast ++ [us.getLast hu] := (List.dropLast_concat_getLast hu).symm
  have el : us[us.length - 1]? = some (us.getLast hu) := by rw [List.getLast_eq_getElem]; exact List.getElem?_eq_getElem _
  obtain ⟨c, ec, hv⟩ := hA.get el
  refine ⟨us.getLast hu, c, ?_, ?_, hv⟩
  · conv => lhs; rw [e]
    exact atI_last _ _
  · rw [List.getLast?_eq_getElem?, ← hA.1]
    exact ec
theorem end_some {cs : List Chg} {c : Chg} (h : cs.getLast? = some c) : endC cs = enC c := by
  unfold endC
  rw [h]
/-! ### the outcome for a length -/
def TelAt (K : PySem.W.Frag) (H : Hp) (v : V) (s : Tel Str) : Prop := ∃ a b, v = .ref a ∧ SqT K H a [.int s.1, .ref b, .int s.2.2] ∧ SqT K H b (s.2.1.map V.str)
theorem TelAt.mono {K : PySem.W.Frag} {H H' : Hp} {v : V} {x : Tel Str} (s : Same H H') (h : TelAt K H v x) : TelAt K H' v x := by
  obtain ⟨a, b, e, h1, h2⟩ := h
  exact ⟨a, b, e, same_seqT s h1, same_seqT s h2⟩
theorem foldl_take {β : Type} {f : β → Chg → β} {b : β} {cs : List Chg} {i : Nat} {c : Chg} (e : cs[i]? = some c) : (cs.take (i + 1)).foldl f b = f ((cs.take i).foldl f b) c := by
  obtain ⟨hi, rfl⟩ := List.getElem?_eq_some_iff.mp e
  rw [List.take_add_one, List.getElem?_eq_getElem hi]
  show ((cs.take i) ++ [cs[i]]).foldl f b = _
  rw [List.foldl_append]
  rfl
theorem tel_at {ns : List Str} {u n i : Nat} {cs : List Chg} {c : Chg} (hv : vld ns none cs) (e : cs[i]? = some c) (h : n ≤ c.a) : (cs.take i).foldl (stT n) ((n : Int), ns, (u : Int)) = tel ns u cs n := by
  unfold tel
  conv => rhs; rw [← List.take_append_drop i cs, List.foldl_append]
  refine (tel_rest (fun x hx => ?_) _).symm
  rw [drop_at e] at hx
  rcases List.mem_cons.mp hx with rfl | hx
  · exact h
  · have hv2 : ∀ (l : List Str) (b : Option Chg) (cs : List Chg) (i : Nat), vld l b cs → cs[i]? = some c → ∀ x ∈ cs.drop (i + 1), c.a < x.a := by
      intro l b cs i
      induction i generalizing l b cs with
      | zero =>
        intro hv e x hx
        cases cs with
        | nil => cases e
        | cons d cs =>
          cases e
          exact vld_le hv x hx
      | succ i ih =>
        intro hv e x hx
        cases cs with
        | nil => cases e
        | cons d cs => exact ih _ _ cs hv.2.2 e x hx
    exact Nat.le_trans h (Nat.le_of_lt (hv2 _ _ _ _ hv e x hx))
def spEGet (K : PySem.W.Frag) (C : Addr) : Sp := fun vs H Q _ => ∃ (a : Addr) (n : Nat) (ns : List Str) (u : Nat) (cs : List Chg), vs = [.ref a, .int (n : Int)] ∧ EffAt K C H a ns u cs ∧ EOk ns u cs ∧ ∀ v H', Same H H' → TelAt K H' v (tel ns u cs n) → Q v H'
theorem ok_eget (T : TX K mg) : FnOk P w K mg base CX0 3 T.f_Effect_getitem T.fd_Effect_getitem pEGet (spEGet K T.C_Effect) := by
  have G_check_length := ok_check_length (P := P) (w := w) (base := base) T
  refine funD_ok T.F_Effect_getitem scEGet (fun vs H Q E h => ?_) (fun cdv A outer s H vs Q E hr h => ?_)
  · obtain ⟨a, n, ns, u, cs, rfl, _⟩ := h
    rfl
  · obtain ⟨a, n, ns, u, cs, rfl, ⟨dx, tn, tc, us, ea, hN, hC, hA⟩, ok, q⟩ := h
    refine ⟨_, pss_cons (ps_expr (pcall T.d_check_length G_check_length (hr.mono (by decide)) (by rfl) pass0 (pa_cons (pv 1) pa_nil)))
      (pss_cons (ps_set (i := 2) scEGet.nd rfl (.inl rfl) (pv 1))
      (pss_cons (ps_set (i := 3) scEGet.nd rfl (.inl rfl) (pe_callTy (callLstOf (K := K)) (by rfl) T.list (by decide +kernel) (pa_cons (peFld (K := K) (pv 0) rfl) pa_nil)))
      (pss_cons (ps_set (i := 4) scEGet.nd rfl (.inl rfl) (peFld (K := K) (pv 0) rfl))
      (pss_cons (ps_for PassesOwn.never rfl (piTup (K := K) (peFld (K := K) (pv 0) rfl)) (pgTup (K := K) (n := 3) (by rfl) (pgs_cons (pg_name (i := 5) scEGet.nd rfl (.inl rfl)) (pgs_cons (pg_name (i := 6) scEGet.nd rfl (.inl rfl)) (pgs_cons (pg_name (i := 7) scEGet.nd rfl (.inl rfl)) pgs_nil))))
        (pss_cons (ps_if (pt_cmpR op_ge (pv 5) (pv 1) (nomark _)) (pss_one (ps_break)) (pss_nil))
      (pss_cons (ps_set (i := 8) scEGet.nd rfl (.inl rfl) (pe_ifExp (pt_cmpR op_isN (pv 6) (pe_non) (nomark _)) (pe_op op_sub (pv 1) (pv 5)) (pe_callB (callMin2 rfl) (by rfl) T.min (by decide +kernel) (pa_cons (pv 6) (pa_cons (pe_op op_sub (pv 1) (pv 5)) pa_nil)))))
      (pss_one (ps_if (pt_cmpR op_eq (pv 7) (pe_str) (nomark _)) (pss_one (ps_set (i := 4) scEGet.nd rfl (.inl rfl) (pe_op op_add (pv 4) (pv 8)))) (pss_one (ps_if (pt_cmpR op_eq (pv 7) (pe_str) (nomark _)) (pss_one (ps_set (i := 2) scEGet.nd rfl (.inl rfl) (pe_op op_sub (pv 2) (pv 8)))) (pss_one (ps_delL (pv 3) (pv 7))))))))))
      (pss_one (ps_ret (pe_tup (pa_cons (pv 2) (pa_cons (pe_callTy (callTupOf (K := K)) (by rfl) T.tuple (by decide +kernel) (pa_cons (pv 3) pa_nil)) (pa_cons (pv 4) pa_nil)))))))))), ?_⟩
    have hul := hA.1
    walk_at "go"
    refine ⟨n, rfl, ?_⟩
    walk_at "go"
    refine ⟨a, _, dx, _, _, rfl, ea, T.cl_Effect, T.n_Effect_new_names, eflds_n _ _ _, ?_⟩
    walk_at "go"
    refine c_lstOfT hN fun L H1 nL s1 eL => ?_
    walk_at "go"
    refine ⟨a, _, dx, _, _, rfl, s1 _ _ ea, T.cl_Effect, T.n_Effect_undone_count, eflds_u _ _ _, ?_⟩
    walk_at "go"
    refine ⟨a, _, dx, _, _, rfl, s1 _ _ ea, T.cl_Effect, T.n_Effect_changes, eflds_c _ _ _, ?_⟩
    refine ⟨tc, rfl, ⟨_, same_seqT s1 hC⟩, ?_⟩
    have fin : ∀ (H' : Hp) (k uu : Int) (l : List Str) (y5 y6 y7 y8 : Option V), Same H H' → H' L = some (.lst (l.map V.str)) → (k, l, uu) = tel ns u cs n →
        tRet (tTup (tCons (tVar 2) (tCons (tCB (rTupOf K) (tCons (tVar 3) tNil)) (tCons (tVar 4) tNil)))) { nx := fun _ H' => Q .non H', rt := Q } [some (.ref a), some (.int (n : Int)), some (.int k), some (.ref L), some (.int uu), y5, y6, y7, y8] H' := fun H' k uu l y5 y6 y7 y8 sx el e => by
      walk_at "go"
      refine c_tupOfL (.inl (.inl el)) fun t H2 nt s2 et => ?_
      walk_at "go"
      refine c_newT (by simp) fun r H3 nr s3 er => ?_
      refine q _ _ (sx.trans (s2.trans s3)) ?_
      rw [← e]
      exact ⟨r, t, rfl, .inl (.inl er), .inl (.inl (s3 _ _ et))⟩
    refine for_tup (xs := us) (fun i σ H' => ∃ (k uu : Int) (y5 y6 y7 y8 : Option V), σ = [some (.ref a), some (.int (n : Int)), some (.int k), some (.ref L), some (.int uu), y5, y6, y7, y8] ∧ Same H H' ∧ H' L = some (.lst ((aftA ns (cs.take i)).map V.str)) ∧ (cs.take i).foldl (stT n) ((n : Int), ns, (u : Int)) = (k, aftA ns (cs.take i), uu))
      ⟨_, _, _, _, _, _, rfl, s1, eL, rfl⟩ (fun i σ H' _ h => ?_) (fun i v σ H' hv h => ?_) (fun σ H' h => ?_)
    · obtain ⟨_, _, _, _, _, _, rfl, sx, _⟩ := h
      exact same_seqT sx hC
    · obtain ⟨k, uu, y5, y6, y7, y8, rfl, sx, el, hf⟩ := h
      obtain ⟨c, ec, x, rfl, hX0⟩ := hA.get hv
      obtain ⟨hok, _⟩ := vld_at ok.vd ec
      have hft := foldl_take (f := stT n) (b := ((n : Int), ns, (u : Int))) ec
      have hat := aft_take (l := ns) ec
      have htel := fun h => tel_at (u := u) (n := n) ok.vd ec h
      rw [hf] at hft
      obtain ⟨ca, cn, cw⟩ := c
      have hX : SqT K H' x [.int (ca : Int), nV cn, whV cw] := same_seqT sx hX0
      refine c_gtup hX rfl ?_
      walk_at "go"
      refine ite2 (fun e => ?_) (fun e => ?_)
      · have h1 : n ≤ ca := by have := of_decide_eq_true e; omega
        walk_at "go"
        refine c_brkE ?_
        exact fin H' k uu _ _ _ _ _ sx el (by rw [← hf]; exact htel h1)
      have h1 : ca < n := Nat.lt_of_not_le fun z => e (decide_eq_true (by omega))
      rw [hft, hat]
      with_reducible refine c_next ?_
      with_reducible refine c_seq ?_
      with_reducible refine c_asg ?_
      refine cut_val (fun v H3 => v = .int ((mny n (Chg.mk ca cn cw) : Nat) : Int) ∧ H3 = H') (fun N hN => ?_) (fun v H3 h3 => ?_)
      · walk_at "go"
        refine ⟨rfl, ?_⟩
        cases cn with
        | none =>
          walk_at "go"
          refine hN _ _ ⟨?_, rfl⟩
          show V.int ((n : Int) - (ca : Int)) = V.int ((n - ca : Nat) : Int)
          rw [show (n : Int) - (ca : Int) = ((n - ca : Nat) : Int) by omega]
        | some t =>
          rw [show nV (some t) = V.int (t : Int) from rfl]
          walk_at "go"
          refine c_min2 ?_
          refine hN _ _ ⟨?_, rfl⟩
          show V.int (min (t : Int) ((n : Int) - (ca : Int))) = V.int ((min t (n - ca) : Nat) : Int)
          rw [show min (t : Int) ((n : Int) - (ca : Int)) = ((min t (n - ca) : Nat) : Int) by omega]
      · obtain ⟨rfl, rfl⟩ := h3
        cases cw with
        | un =>
          walk_at "go"
          exact ⟨_, _, _, _, _, _, rfl, sx, el, rfl⟩
        | od =>
          walk_at "go"
          exact ⟨_, _, _, _, _, _, rfl, sx, el, rfl⟩
        | it j =>
          have hok : cn = some 1 ∧ j + 1 < (aftA ns (cs.take i)).length ∧ fstN (aftA ns (cs.take i)) j = j := hok
          have hal := aftA_len ns (cs.take i)
          have hnl := ok.nl
          rw [show whV (.it j) = V.int (j : Int) from rfl]
          walk_at "go"
          refine c_rDelL el (by rw [List.length_map]; omega) (by rw [List.length_map]; omega) ?_
          refine ⟨_, _, _, _, _, _, rfl, Same.mut sx nL, ?_, ?_⟩
          · rw [upd_same, erase_names]
            rfl
          · show (if 0 < mny n ⟨ca, cn, .it j⟩ then _ else _) = _
            rw [if_pos]
            · rfl
            · rw [hok.1]
              show 0 < min 1 (n - ca)
              omega
    · obtain ⟨k, uu, y5, y6, y7, y8, rfl, sx, el, hf⟩ := h
      refine fin H' k uu _ _ _ _ _ sx el ?_
      rw [← hf, List.take_of_length_le (by omega)]
      rfl
end
end Und
namespace Und
open PySem PySem.Spec PyProof.Rows L2
/-! ### what stays when a list is changed -/
section
variable {K : PySem.W.Frag} {H H' : Hp} {p a : Addr} {l : List V} {o : HO}
theorem mutS : Same (hid p H) (upd H p o) := fun b x e => by
  unfold hid at e
  by_cases h : b = p
  · rw [if_pos h] at e
    cases e
  · rw [if_neg h] at e
    rw [upd_ne h]
    exact e
theorem hid_at {x : HO} (e : H a = some x) (ne : a ≠ p) : hid p H a = some x := (hid_ne ne).trans e
theorem sqT_hid {xs : List V} (e : H p = some (.lst l)) (h : SqT K H a xs) : SqT K (hid p H) a xs := by
  have ne : ∀ {x : HO}, H a = some x → (∀ z, x ≠ .lst z) → a ≠ p := fun e1 k h => by
    rw [h, e] at e1
    exact k _ (Option.some.inj e1).symm
  rcases h with (h | ⟨o, h⟩) | h
  · exact .inl (.inl (hid_at h (ne h fun z k => by cases k)))
  · exact .inl (.inr ⟨o, hid_at h (ne h fun z k => by cases k)⟩)
  · exact .inr h
theorem MvAt.hid {v : V} {m : Mv} (e : H p = some (.lst l)) (h : MvAt K H v m) : MvAt K (Und.hid p H) v m := by
  obtain ⟨a, x, e1, h1, h2⟩ := h
  exact ⟨a, x, e1, sqT_hid e h1, h2⟩
theorem All2.mutA {o : HO} {vs : List V} {ms : List Mv} (h : All2 (MvAt K H) vs ms) (e : H p = some (.lst l)) : All2 (MvAt K (upd H p o)) vs ms := h.imp fun _ _ z => (MvAt.hid e z).mono mutS
end
section
variable {P : Program} {w : World} {K : PySem.W.Frag} {mg : Str → Option Value} {base : Heap}
theorem strNe {y z : Str} (h : y ≠ z) : decide (V.str y = V.str z) = false := decide_eq_false fun e => h (V.str.inj e)
theorem c_bm2 {K' : PySem.W.Frag} {T : String} {r : V → List V → Hp → VK → Prop} {to : TE} {t : TA} {σ : L2.St} {H : Hp} {Q : VK} (h : to σ H fun x H1 => tyV K' T x H1 ∧ t σ H1 fun xs H2 => r x xs H2 Q) : tBM K' T r to t σ H Q := h
theorem c_app2 {a : Addr} {xs : List V} {y : V} {H : Hp} {Q : VK} (e : H a = some (.lst xs)) (z : xs.length < 100000) (h : Q .non (upd H a (.lst (xs ++ [y])))) : rAppend (.ref a) [y] H Q := ⟨a, xs, y, rfl, rfl, e, szl z, h⟩
theorem CmdAt.hidD {H : Hp} {p : Addr} {l : List V} {v : V} {c : Cmd} (e : H p = some (.lst l)) (h : CmdAt K H v c) : CmdAt K (hid p H) v c := by
  cases c with
  | dd z =>
    obtain ⟨a, e1, h1, h2⟩ := h
    exact ⟨a, e1, sqT_hid e h1, h2⟩
  | mv m => exact MvAt.hid e h
  | rep n ms =>
    obtain ⟨a, b, vs, e1, h1, h2, h3, r⟩ := h
    exact ⟨a, b, vs, e1, sqT_hid e h1, sqT_hid e h2, h3.imp fun _ _ => MvAt.hid e, r⟩
theorem Cmds.stp {p : Addr} {H H' : Hp} {vs : List V} {cs : List Cmd} (pool : Pool H p) (s : Stp p H H') (h : All2 (CmdAt K H) vs cs) : All2 (CmdAt K H') vs cs := by
  obtain ⟨a, b, c, e, _⟩ := pool
  exact h.imp fun _ _ z => (CmdAt.hidD e z).mono (s.s.trans (hid_same p H'))
theorem Cmds.mut {p : Addr} {H : Hp} {l : List V} {o : HO} {vs : List V} {cs : List Cmd} (e : H p = some (.lst l)) (h : All2 (CmdAt K H) vs cs) : All2 (CmdAt K (upd H p o)) vs cs := h.imp fun _ _ z => (CmdAt.hidD e z).mono mutS
end
end Und
namespace Und
open PySem PySem.Spec PyProof.Rows L2
local macro_rules | `(tactic| walk_at "side") => `(tactic| first | decide | omega | exact ⟨by omega, by omega⟩ | (show (0 : Int) < _; omega) | (exact Or.inl ⟨by omega, by omega⟩) | (exact Or.inr ⟨by omega, by omega⟩) | (exact sz (by simp)) | (exact szl (by simp)))
local macro_rules | `(tactic| walk_at "u") => `(tactic| first
  | with_reducible refine c_seq ?_ | with_reducible refine c_next ?_ | with_reducible refine c_yes ?_ | with_reducible refine c_asg ?_ | with_reducible refine c_asg2 ?_ | with_reducible refine c_par ?_ | with_reducible refine c_two ?_ | with_reducible refine c_g ?_ | with_reducible refine c_gsub ?_ | with_reducible refine c_gcons ?_ | with_reducible refine c_gnil ?_ | with_reducible refine c_ret ?_ | with_reducible refine c_drop ?_
  | ((with_reducible refine c_var (v := ?v) ?h ?_); (case h => rfl)) | with_reducible refine c_c ?_ | with_reducible refine c_op ?_ | with_reducible refine c_un ?_ | with_reducible refine c_I0 ?_
  | ((with_reducible refine c_I ?h ?_); (case h => walk_at "side"))
  | ((with_reducible refine c_eq ?h ?_); (case h => rfl)) | ((with_reducible refine c_neq ?h ?_); (case h => rfl)) | with_reducible refine c_test ?_ | with_reducible refine c_B ?_ | with_reducible refine c_bl ?_ | with_reducible refine c_int ?_ | with_reducible refine c_ifs ?_ | with_reducible refine c_ife ?_
  | with_reducible refine c_andV ?_ | with_reducible refine c_orV ?_ | with_reducible refine c_notV ?_ | with_reducible refine c_and ?_ | with_reducible refine c_or ?_ | with_reducible refine c_not ?_
  | with_reducible refine c_call ?_ | with_reducible refine c_cb ?_ | with_reducible refine c_nil ?_ | with_reducible refine c_cons ?_
  | with_reducible refine c_tup ?_ | with_reducible refine c_lst ?_ | with_reducible refine c_sl ?_ | with_reducible refine c_nop ?_ | with_reducible refine c_part ?_ | with_reducible refine c_fld ?_
  | with_reducible refine c_for ?_ | with_reducible refine c_ilist ?_ | with_reducible refine c_itup ?_ | with_reducible refine c_irng1 ?_ | with_reducible refine c_lc ?_
  | with_reducible refine c_m1 ?_ | with_reducible refine c_isS ?_ | with_reducible refine c_chain ?_ | with_reducible refine c_str ?_ | with_reducible refine c_make ?_ | with_reducible refine c_meth ?_ | with_reducible refine c_prop ?_ | with_reducible refine c_sfld ?_ | with_reducible refine c_ienumT ?_ | with_reducible refine iteT ?_ | with_reducible refine iteF ?_ | with_reducible refine iteNT ?_ | with_reducible refine iteNF ?_
  | ((with_reducible refine iteDT ?h ?_); (case h => first | rfl | omega)) | ((with_reducible refine iteDF ?h ?_); (case h => first | omega | (intro z; cases z; done))) | ((with_reducible refine iteNDT ?h ?_); (case h => first | rfl | omega)) | ((with_reducible refine iteNDF ?h ?_); (case h => first | omega | (intro z; cases z; done))))
local macro_rules | `(tactic| walk_at "go") => `(tactic| repeat (walk_at "u"))
theorem noPy {b m : Int} (h0 : 0 ≤ m) (h : m < 10000000000000000000000000000000000000000000000000000000000000000000000000000000000000000000000000000) : Builtin.divisionGoesByPylong b m = false := by
  have h1 : m.natAbs < 2 ^ 400 := Nat.lt_trans (show m.natAbs < 10000000000000000000000000000000000000000000000000000000000000000000000000000000000000000000000000000 by omega) (by decide)
  exact PyProof.noPylong_of_log2 (Nat.lt_trans (PySem.Flt.log2_lt_of (by decide) h1) (by decide))
section
variable {P : Program} {w : World} {K : PySem.W.Frag} {mg : Str → Option Value} {base : Heap}
/-- some int comes of the script; nothing is changed -/
def spCell (K : PySem.W.Frag) : Sp := fun vs H Q _ => ∃ (a : Addr) (ns : List Int) (k : Int), vs = [.ref a, .int k] ∧ SqL K H a (ns.map V.int) ∧ 0 ≤ k ∧ k < 1000 ∧ ∀ (z : Int) H', Same H H' → Q (.int z) H'
theorem ok_cell {f : Addr} {fd : FuncData} (D : FD K mg "_law_cell" sCell ["_law_script", "_law_k"] f fd) (mlen : mg "len" = none) : FnOk P w K mg base CX0 1 f fd ["_law_script", "_law_k"] (spCell K) := by
  refine D.F.ok scCell (fun vs H Q E h => ?_) (fun cdv A outer s H vs Q E hr h => ?_)
  · obtain ⟨a, ns, k, rfl, _⟩ := h
    rfl
  · obtain ⟨a, ns, k, rfl, hS, h0, h1, q⟩ := h
    refine ⟨_, pss_cons (ps_if (pt_cmpR op_lt (pv 1) (pe_callB call_len_seq (by rfl) mlen PySem.boot_len (pa_cons (pv 0) pa_nil)) (nomark _)) (pss_one (ps_ret (pe_ix ix_list (pv 0) (pv 1) (fun _ _ => rfl)))) pss_nil)
      (pss_cons (ps_set (i := 2) scCell.nd rfl (.inl rfl) (pe_op op_mod (pe_op op_mul pe_int (pe_op op_add (pe_op op_add (pe_op op_mul (pv 1) (pv 1)) (pe_op op_mul pe_int (pv 1))) pe_int)) pe_int))
      (pss_cons (ps_for PassesOwn.never rfl (pi_list (pe_slice sl_list (pv 0) po_none (po_some pe_int))) (pg_name (i := 3) scCell.nd rfl (.inl rfl))
        (pss_one (ps_set (i := 2) scCell.nd rfl (.inl rfl) (pe_op op_mod (pe_op op_add (pe_op op_mul (pv 2) pe_int) (pv 3)) pe_int))))
      (pss_one (ps_ret (pv 2))))), ?_⟩
    refine ⟨_, rfl, _, rfl, a, _, rfl, .inl hS, k, _, rfl, rfl, _, rfl, ite2 (fun e => ?_) (fun e => ?_)⟩
    · have e1 := of_decide_eq_true e
      rw [List.length_map] at e1
      have hk : k.toNat < ns.length := by omega
      refine ⟨_, rfl, _, rfl, a, _, k, .int ns[k.toNat], rfl, rfl, hS, ?_, q _ _ (Same.refl H)⟩
      refine at_of (j := k.toNat) (by omega) ?_
      rw [List.getElem?_map, List.getElem?_eq_getElem hk]
      rfl
    · walk_at "go"
      refine c_slL hS fun p H1 np s1 e1 => ⟨p, rfl, ⟨_, .inl (.inl e1)⟩, ?_⟩
      obtain ⟨ms, em⟩ : ∃ ms : List Int, cutV (ns.map V.int) none (some 3) = ms.map V.int := cut_ints _ _ _
      rw [em] at e1
      refine for_list (K := K) (a := p) (xs := ms.map V.int) (fun i σ H' => ∃ (z : Int) (kv : Option V), σ = [some (.ref a), some (.int k), some (.int z), kv] ∧ 0 ≤ z ∧ z < 2147483477 ∧ Same H1 H') ⟨_, none, rfl, by omega, by omega, Same.refl _⟩ (fun i σ H' _ h => ?_) (fun i x σ H' hx h => ?_) (fun σ H' h => ?_)
      · obtain ⟨z, kv, rfl, z0, z1, s2⟩ := h
        exact .inl (.inl (s2 _ _ e1))
      · obtain ⟨z, kv, rfl, z0, z1, s2⟩ := h
        obtain ⟨y, rfl⟩ := int_at hx
        walk_at "go"
        exact ⟨_, _, rfl, by omega, by omega, s2⟩
      · obtain ⟨z, kv, rfl, z0, z1, s2⟩ := h
        walk_at "go"
        exact q z H' (s1.trans s2)
/-- a new pool -/
def spPool : Sp := fun vs H Q _ => ∃ (z : Int), vs = [.int z] ∧ ∀ p H', H p = none → Same H H' → Pool H' p → Q (.ref p) H'
theorem ok_pool {f : Addr} {fd : FuncData} (D : FD K mg "_law_pool" sPool ["_law_cell_here"] f fd) (mabs : mg "abs" = none) : FnOk P w K mg base CX0 1 f fd ["_law_cell_here"] spPool := by
  refine D.F.ok scPool (fun vs H Q E h => ?_) (fun cdv A outer s H vs Q E hr h => ?_)
  · obtain ⟨a, rfl, _⟩ := h
    rfl
  · obtain ⟨z, rfl, q⟩ := h
    refine ⟨_, pss_cons (ps_set (i := 1) scPool.nd rfl (.inl rfl) (pe_ifExp (PW.pt (pw_or (pt_cmpR op_lt (pv 0) pe_int (nomark _)) (pw_or1 (pt_cmpR op_ge (pv 0) (pe_op op_pow pe_int pe_int) (nomark _)))))
        (pe_callB call_abs (by rfl) mabs (by decide +kernel) (pa_cons (pv 0) pa_nil)) pe_int))
      (pss_one (ps_ret (pe_lst (pa_cons (pe_op op_mod (pv 0) pe_int) (pa_cons (pv 1) (pa_cons pe_int pa_nil)))))), ?_⟩
    have key : ∀ d : Int, 0 ≤ d → rNewL [.int (z % 2147483477), .int d, .int 0] H Q := fun d hd => c_newL (by simp) fun p H1 np s1 e1 => q p H1 np s1 ⟨_, _, _, e1, Int.emod_nonneg _ (by decide), Int.emod_lt_of_pos _ (by decide), hd⟩
    walk_at "go"
    refine ite2 (fun e => ?_) (fun e => ?_)
    · walk_at "go"
      refine ⟨z, rfl, ?_⟩
      walk_at "go"
      refine key _ (by split <;> omega)
    · walk_at "go"
      refine ite2 (fun e => ?_) (fun e => ?_)
      · walk_at "go"
        refine ⟨z, rfl, ?_⟩
        walk_at "go"
        refine key _ (by split <;> omega)
      · walk_at "go"
        exact key 0 (by decide)
/-- a draw below m -/
def spDraw : Sp := fun vs H Q _ => ∃ (p : Addr) (m : Int), vs = [.ref p, .int m] ∧ Pool H p ∧ 0 < m ∧ m < 10000000000000000000000000000000000000000000000000000000000000000000000000000000000000000000000000000 ∧ ∀ (r : Int) (H' : Hp), 0 ≤ r → r < m → Stp p H H' → Q (.int r) H'
theorem ok_draw {f : Addr} {fd : FuncData} (D : FD K mg "_law_draw" sDraw ["_law_pool_here", "_law_many"] f fd) (mdm : mg "divmod" = none) : FnOk P w K mg base CX0 1 f fd ["_law_pool_here", "_law_many"] spDraw := by
  refine D.F.ok scDraw (fun vs H Q E h => ?_) (fun cdv A outer s H vs Q E hr h => ?_)
  · obtain ⟨p, m, rfl, _⟩ := h
    rfl
  · obtain ⟨p, m, rfl, ⟨a, b, c, e0, a0, a1, b0⟩, m0, m1, q⟩ := h
    refine ⟨_, pss_cons (ps_asg (pe_op op_add (pe_ix ix_list (pv 0) pe_int (fun _ _ => rfl)) pe_int) (pg_sub (pv 0) pe_int set_list))
      (pss_cons (ps_set (i := 2) scDraw.nd rfl (.inl rfl) (pe_ix ix_list (pv 0) pe_int (fun _ _ => rfl)))
      (pss_cons (ps_asg (pe_op op_mod (pe_op op_add (pe_op op_add (pe_op op_mul (pv 2) (pe_op op_add (pe_op op_mod (pv 2) pe_int) pe_int)) (pe_op op_mul pe_int (pe_ix ix_list (pv 0) pe_int (fun _ _ => rfl)))) pe_int) pe_int) (pg_sub (pv 0) pe_int set_list))
      (pss_cons (ps_if (pt_cmpR op_gt (pe_ix ix_list (pv 0) pe_int (fun _ _ => rfl)) pe_int (nomark _))
        (pss_cons (ps_asg (pe_callB call_divmodW (by rfl) mdm (by decide +kernel) (pa_cons (pe_ix ix_list (pv 0) pe_int (fun _ _ => rfl)) (pa_cons (pv 1) pa_nil))) (pg_tup (by rfl) (pgs_cons (pg_sub (pv 0) pe_int set_list) (pgs_cons (pg_name (i := 3) scDraw.nd rfl (.inl rfl)) pgs_nil))))
        (pss_one (ps_ret (pv 3)))) pss_nil)
      (pss_one (ps_ret (pe_op op_mod (pe_op op_fdiv (pe_ix ix_list (pv 0) pe_int (fun _ _ => rfl)) pe_int) (pv 1))))))), ?_⟩
    walk_at "go"
    refine c_ixL (.inl (.inl e0)) 2 rfl rfl ?_
    walk_at "go"
    refine c_setL e0 2 rfl ?_
    walk_at "go"
    refine c_ixL (.inl (.inl upd_same)) 0 rfl rfl ?_
    walk_at "go"
    refine c_ixL (.inl (.inl upd_same)) 2 rfl rfl ?_
    walk_at "go"
    refine c_setL upd_same 0 rfl ?_
    rw [upd_upd]
    obtain ⟨c', hc⟩ : ∃ c', c + 1 = c' := ⟨_, rfl⟩
    obtain ⟨a', ha, ha0, ha1⟩ : ∃ a', (a * (a % 41017 + 27011) + 50021 * c' + 13) % 2147483477 = a' ∧ 0 ≤ a' ∧ a' < 2147483477 := ⟨_, rfl, Int.emod_nonneg _ (by decide), Int.emod_lt_of_pos _ (by decide)⟩
    simp only [hc, List.set]
    simp only [ha]
    walk_at "go"
    refine c_ixL (.inl (.inl upd_same)) 1 rfl rfl ?_
    walk_at "go"
    refine ite2 (fun e => ?_) (fun e => ?_)
    · walk_at "go"
      refine c_ixL (.inl (.inl upd_same)) 1 rfl rfl ?_
      walk_at "go"
      refine ⟨_, _, rfl, ⟨m0, noPy (by omega) m1⟩, fun t nt => ?_⟩
      have np : p ≠ t := ne_of_none upd_same nt
      walk_at "go"
      refine c_gtup (.inl (.inl upd_same)) rfl ?_
      walk_at "go"
      refine c_setL ((upd_ne np).trans upd_same) 1 rfl ?_
      walk_at "go"
      refine q _ _ (Int.emod_nonneg _ (by omega)) (Int.emod_lt_of_pos _ m0) ⟨?_, ⟨_, _, _, upd_same, ha0, ha1, Int.ediv_nonneg b0 (by omega)⟩⟩
      refine (hid_upd.trans (hid_mono (same_new nt))).trans hid_upd
    · walk_at "go"
      refine c_ixL (.inl (.inl upd_same)) 0 rfl rfl ?_
      walk_at "go"
      refine q _ _ (Int.emod_nonneg _ (by omega)) (Int.emod_lt_of_pos _ m0) ⟨hid_upd, ⟨_, _, _, upd_same, ha0, ha1, b0⟩⟩
end
end Und
namespace Und
open PySem PySem.Spec PyProof.Rows L2
local macro_rules | `(tactic| walk_at "side") => `(tactic| first | decide | omega | exact ⟨by omega, by omega⟩ | (show (0 : Int) < _; omega) | (exact Or.inl ⟨by omega, by omega⟩) | (exact Or.inr ⟨by omega, by omega⟩) | (exact sz (by simp)) | (exact szl (by simp)))
local macro_rules | `(tactic| walk_at "u") => `(tactic| first
  | with_reducible refine c_seq ?_ | with_reducible refine c_next ?_ | with_reducible refine c_yes ?_ | with_reducible refine c_asg ?_ | with_reducible refine c_asg2 ?_ | with_reducible refine c_par ?_ | with_reducible refine c_two ?_ | with_reducible refine c_g ?_ | with_reducible refine c_gsub ?_ | with_reducible refine c_gcons ?_ | with_reducible refine c_gnil ?_ | with_reducible refine c_ret ?_ | with_reducible refine c_drop ?_
  | ((with_reducible refine c_var (v := ?v) ?h ?_); (case h => rfl)) | with_reducible refine c_c ?_ | with_reducible refine c_op ?_ | with_reducible refine c_un ?_ | with_reducible refine c_I0 ?_
  | ((with_reducible refine c_I ?h ?_); (case h => walk_at "side"))
  | ((with_reducible refine c_eq ?h ?_); (case h => rfl)) | ((with_reducible refine c_neq ?h ?_); (case h => rfl)) | with_reducible refine c_test ?_ | with_reducible refine c_B ?_ | with_reducible refine c_bl ?_ | with_reducible refine c_int ?_ | with_reducible refine c_ifs ?_ | with_reducible refine c_ife ?_
  | with_reducible refine c_andV ?_ | with_reducible refine c_orV ?_ | with_reducible refine c_notV ?_ | with_reducible refine c_and ?_ | with_reducible refine c_or ?_ | with_reducible refine c_not ?_
  | with_reducible refine c_call ?_ | with_reducible refine c_cb ?_ | with_reducible refine c_nil ?_ | with_reducible refine c_cons ?_
  | with_reducible refine c_tup ?_ | with_reducible refine c_lst ?_ | with_reducible refine c_sl ?_ | with_reducible refine c_nop ?_ | with_reducible refine c_part ?_ | with_reducible refine c_fld ?_
  | with_reducible refine c_for ?_ | with_reducible refine c_ilist ?_ | with_reducible refine c_itup ?_ | with_reducible refine c_irng1 ?_ | with_reducible refine c_lc ?_
  | with_reducible refine c_m1 ?_ | with_reducible refine c_isS ?_ | with_reducible refine c_chain ?_ | with_reducible refine c_str ?_ | with_reducible refine c_make ?_ | with_reducible refine c_meth ?_ | with_reducible refine c_prop ?_ | with_reducible refine c_sfld ?_ | with_reducible refine c_ienumT ?_ | with_reducible refine iteT ?_ | with_reducible refine iteF ?_ | with_reducible refine iteNT ?_ | with_reducible refine iteNF ?_
  | ((with_reducible refine iteDT ?h ?_); (case h => first | rfl | omega)) | ((with_reducible refine iteDF ?h ?_); (case h => first | omega | (intro z; cases z; done))) | ((with_reducible refine iteNDT ?h ?_); (case h => first | rfl | omega)) | ((with_reducible refine iteNDF ?h ?_); (case h => first | omega | (intro z; cases z; done))))
local macro_rules | `(tactic| walk_at "go") => `(tactic| repeat (walk_at "u"))
section
variable {P : Program} {w : World} {K : PySem.W.Frag} {mg : Str → Option Value} {base : Heap}
theorem c_draw {H : Hp} {Q : VK} {E : XK} {p : Addr} {m : Int} (pool : Pool H p) (m0 : 0 < m) (m1 : m < 10000000000000000000000000000000000000000000000000000000000000000000000000000000000000000000000000000) (h : ∀ (r : Int) (H' : Hp), 0 ≤ r → r < m → Stp p H H' → Q (.int r) H') : spDraw ([.ref p, .int m] ++ []) H Q E := ⟨p, m, rfl, pool, m0, m1, h⟩
theorem mod_at {α : Type} (xs : List α) (z : Int) (h : 0 < xs.length) : ∃ (j : Nat) (x : α), j < xs.length ∧ z % (xs.length : Int) = (j : Int) ∧ xs[j]? = some x ∧ x ∈ xs := by
  have h1 : 0 ≤ z % (xs.length : Int) := Int.emod_nonneg z (by omega)
  have h2 : z % (xs.length : Int) < (xs.length : Int) := Int.emod_lt_of_pos z (by omega)
  have hj : (z % (xs.length : Int)).toNat < xs.length := by omega
  exact ⟨_, xs[(z % (xs.length : Int)).toNat], hj, by omega, List.getElem?_eq_getElem hj, List.getElem_mem hj⟩
def ownNames : List Str := ["do", "undo", "redo", "all", "times", "keep", "old", "item", "save", "nothing", "none", "always"]
theorem ownNames_ok : ∀ z ∈ ownNames, IsName z := fun z hz => name_of (List.all_eq_true.mp (show ownNames.all nameB = true by decide +kernel) z hz)
def letters : List Nat := (Str.ofString "abcdefghijklmnopqrstuvwxyz").cps.toList
theorem letters_ok (c : Nat) (hc : c ∈ letters) : 97 ≤ c ∧ c ≤ 122 := by
  have := List.all_eq_true.mp (show (letters.all fun c => decide (97 ≤ c) && decide (c ≤ 122)) = true by decide +kernel) c hc
  simpa using this
theorem letter_at {k n : Int} (h0 : 0 ≤ k) (h1 : k < 26) : ∃ (j : Nat) (c : Nat), k = (j : Int) ∧ letters[j]? = some c ∧ 97 ≤ c ∧ c ≤ 122 := by
  have hl : letters.length = 26 := by decide +kernel
  have hj : k.toNat < letters.length := by omega
  exact ⟨k.toNat, letters[k.toNat], by omega, List.getElem?_eq_getElem hj, letters_ok _ (List.getElem_mem hj)⟩
/-- a new list of so many names -/
def spCalls : Sp := fun vs H Q _ => ∃ (p : Addr) (m : Int), vs = [.ref p, .int m] ∧ Pool H p ∧ 0 ≤ m ∧ m ≤ 1000 ∧
  ∀ (D : Addr) (ns : List Str) (H' : Hp), H D = none → Stp p H H' → H' D = some (.lst (ns.map V.str)) → (ns.length : Int) = m → (∀ z ∈ ns, IsName z) → Q (.ref D) H'
theorem ok_calls (T : TX K mg) : FnOk P w K mg base CX0 2 T.f_law_calls T.fd_law_calls pCalls spCalls := by
  have G_law_draw : FnOk P w K mg base CX0 1 T.f_law_draw T.fd_law_draw ["_law_pool_here", "_law_many"] spDraw := ok_draw T.d_law_draw T.divmod
  refine T.d_law_calls.F.ok scCalls (fun vs H Q E h => ?_) (fun cdv A outer s H vs Q E hr h => ?_)
  · obtain ⟨p, m, rfl, _⟩ := h
    rfl
  · obtain ⟨p, m, rfl, pool, m0, m1, q⟩ := h
    refine ⟨_, pss_cons (ps_set (i := 2) scCalls.nd rfl (.inr rfl) (pe_lst (pa_cons (pe_str) (pa_cons (pe_str) (pa_cons (pe_str) (pa_cons (pe_str) (pa_cons (pe_str) (pa_cons (pe_str) (pa_cons (pe_str) (pa_cons (pe_str) (pa_cons (pe_str) (pa_cons (pe_str) (pa_cons (pe_str) (pa_cons (pe_str) pa_nil))))))))))))))
      (pss_cons (ps_asg (pe_tup (pa_cons (pcall T.d_law_draw G_law_draw (hr.mono (by decide)) (by rfl) pass0 (pa_cons (pv 0) (pa_cons (pe_int) pa_nil))) (pa_cons (pcall T.d_law_draw G_law_draw (hr.mono (by decide)) (by rfl) pass0 (pa_cons (pv 0) (pa_cons (pe_int) pa_nil))) pa_nil))) (pgTup (K := K) (n := 2) (by rfl) (pgs_cons (pg_name (i := 3) scCalls.nd rfl (.inr rfl)) (pgs_cons (pg_name (i := 4) scCalls.nd rfl (.inl rfl)) pgs_nil))))
      (pss_cons (ps_if (pt_cmpR op_eq (pv 4) (pe_int) (nomark _)) (pss_one (ps_ret (pe_lc (own := [("_law_k", 8)]) (g := gName 8) (tt := tYes) (by rfl) scCalls.nd (pi_range1 (by rfl) T.range (pa_cons (pv 1) pa_nil)) (blkOk_by (own := [("_law_k", 8)]) (N := nCalls) (sc := defScope sCalls) (by decide +kernel)) (fun _ _ _ _ _ => pg_name (i := 8) scCalls.nd rfl (.inl rfl)) (fun _ _ _ _ _ => pts_nil) (fun _ _ _ _ _ => pe_ix (ixL (K := K)) (pv 2) (pe_op op_mod (pe_op op_add (pv 3) (pe_op op_mul (pe_int) (pv 8))) (pe_int)) (fun _ _ => rfl))))) (pss_nil))
      (pss_cons (ps_set (i := 5) scCalls.nd rfl (.inr rfl) (pe_str))
      (pss_cons (ps_if (pt_cmpR op_eq (pv 4) (pe_int) (nomark _)) (pss_one (ps_ret (pe_lc (own := [("_law_k", 8)]) (g := gName 8) (tt := tYes) (by rfl) scCalls.nd (pi_range1 (by rfl) T.range (pa_cons (pv 1) pa_nil)) (blkOk_by (own := [("_law_k", 8)]) (N := nCalls) (sc := defScope sCalls) (by decide +kernel)) (fun _ _ _ _ _ => pg_name (i := 8) scCalls.nd rfl (.inl rfl)) (fun _ _ _ _ _ => pts_nil) (fun _ _ _ _ _ => pe_op op_mulS (pe_ix ix_str (pv 5) (pe_op op_mod (pe_op op_add (pv 3) (pe_op op_mul (pe_int) (pv 8))) (pe_int)) (fun _ _ => rfl)) (pe_op op_add (pe_int) (pe_op op_mod (pv 8) (pe_int))))))) (pss_nil))
      (pss_cons (ps_if (pt_cmpR op_eq (pv 4) (pe_int) (nomark _)) (pss_one (ps_ret (pe_lc (own := [("_law_k", 8)]) (g := gName 8) (tt := tYes) (by rfl) scCalls.nd (pi_range1 (by rfl) T.range (pa_cons (pv 1) pa_nil)) (blkOk_by (own := [("_law_k", 8)]) (N := nCalls) (sc := defScope sCalls) (by decide +kernel)) (fun _ _ _ _ _ => pg_name (i := 8) scCalls.nd rfl (.inl rfl)) (fun _ _ _ _ _ => pts_nil) (fun _ _ _ _ _ => pe_ix (ixL (K := K)) (pe_lst (pa_cons (pe_str) (pa_cons (pe_str) pa_nil))) (pcall T.d_law_draw G_law_draw (hr.mono (by decide)) (by rfl) pass0 (pa_cons (pv 0) (pa_cons (pe_int) pa_nil))) (fun _ _ => rfl))))) (pss_nil))
      (pss_cons (ps_set (i := 6) scCalls.nd rfl (.inr rfl) (peJoin (K := K) (pe_str) (pe_lc (own := [("_law_k", 8)]) (g := gName 8) (tt := tYes) (by rfl) scCalls.nd (pi_range1 (by rfl) T.range (pa_cons (pcall T.d_law_draw G_law_draw (hr.mono (by decide)) (by rfl) pass0 (pa_cons (pv 0) (pa_cons (pe_int) pa_nil))) pa_nil)) (blkOk_by (own := [("_law_k", 8)]) (N := nCalls) (sc := defScope sCalls) (by decide +kernel)) (fun _ _ _ _ _ => pg_name (i := 8) scCalls.nd rfl (.inl rfl)) (fun _ _ _ _ _ => pts_nil) (fun _ _ _ _ _ => pe_ix ix_str (pv 5) (pcall T.d_law_draw G_law_draw (hr.mono (by decide)) (by rfl) pass0 (pa_cons (pv 0) (pa_cons (pe_int) pa_nil))) (fun _ _ => rfl)))))
      (pss_cons (ps_set (i := 7) scCalls.nd rfl (.inr rfl) (pcall T.d_law_draw G_law_draw (hr.mono (by decide)) (by rfl) pass0 (pa_cons (pv 0) (pa_cons (pe_op op_add (pe_callB callLnS (by rfl) T.len (by decide +kernel) (pa_cons (pv 6) pa_nil)) (pe_int)) pa_nil))))
      (pss_one (ps_ret (pe_lc (own := [("_law_k", 8)]) (g := gName 8) (tt := tYes) (by rfl) scCalls.nd (pi_range1 (by rfl) T.range (pa_cons (pv 1) pa_nil)) (blkOk_by (own := [("_law_k", 8)]) (N := nCalls) (sc := defScope sCalls) (by decide +kernel)) (fun _ _ _ _ _ => pg_name (i := 8) scCalls.nd rfl (.inl rfl)) (fun _ _ _ _ _ => pts_nil) (fun _ _ _ _ _ => pe_op opAddS (pe_op opAddS (pe_slice sl_str (pv 6) po_none (po_some (pv 7))) (pe_ix ix_str (pv 5) (pe_op op_mod (pe_op op_add (pv 3) (pe_op op_mul (pe_int) (pv 8))) (pe_int)) (fun _ _ => rfl))) (pe_slice sl_str (pv 6) (po_some (pv 7)) po_none)))))))))))), ?_⟩
    have np : ∀ {H' : Hp}, Stp p H H' → ∀ x, H' x = none → H x = none := fun st x nx => by
      cases hx : H x with
      | none => rfl
      | some o =>
        by_cases e : x = p
        · obtain ⟨a, b, c, e2, _⟩ := st.q
          rw [e, e2] at nx
          cases nx
        · rw [st.at hx (Ne.symm e)] at nx
          cases nx
    walk_at "go"
    refine c_newL (by simp) fun o H1 no s1 e1 => ?_
    have st1 : Stp p H H1 := .of pool s1
    have po : p ≠ o := pool.ne no
    walk_at "go"
    refine c_draw st1.q (by decide) (by decide) fun b H2 b0 b1 st2 => ?_
    walk_at "go"
    refine c_draw st2.q (by decide) (by decide) fun md H3 md0 md1 st3 => ?_
    walk_at "go"
    refine c_newT (by simp) fun t H4 nt s4 e4 => c_gtup (.inl (.inl e4)) rfl ?_
    have st4 : Stp p H3 H4 := .of st3.q s4
    walk_at "go"
    have st14 : Stp p H1 H4 := (st2.trans st3).trans st4
    have st04 : Stp p H H4 := st1.trans st14
    have eo4 : H4 o = _ := st14.at e1 po
    refine ite2 (fun _ => ?_) (fun _ => ?_)
    · walk_at "go"
      refine ⟨m, rfl, by omega, by omega, fun D nD => ?_⟩
      refine lc_rg (fun _ v => ∃ z, v = .str z ∧ IsName z) nD (by omega) (fun _ => rfl) (fun i H5 Q' hi s5 k => ?_) (fun H5 xs s5 e5 l r => ?_)
      · obtain ⟨j, z, hj, ej, ez, hz⟩ := mod_at ownNames (b + 5 * (i : Int)) (by decide)
        have ez' : (ownNames.map V.str)[j]? = some (.str z) := by rw [List.getElem?_map, ez]; rfl
        walk_at "go"
        refine c_ixL (.inl (.inl (s5 _ _ eo4))) j ej ez' ?_
        exact k _ _ (Same.refl _) ⟨z, rfl, ownNames_ok _ hz⟩
      · obtain ⟨ns, rfl, hn⟩ := strs_of fun i y e => r i y e
        rw [List.length_map] at l
        exact q D ns H5 (np st04 _ nD) (st04.trans (.of st4.q s5)) e5 (by omega) hn
    walk_at "go"
    refine ite2 (fun _ => ?_) (fun _ => ?_)
    · walk_at "go"
      refine ⟨m, rfl, by omega, by omega, fun D nD => ?_⟩
      refine lc_rg (fun _ v => ∃ z, v = .str z ∧ IsName z) nD (by omega) (fun _ => rfl) (fun i H5 Q' hi s5 k => ?_) (fun H5 xs s5 e5 l r => ?_)
      · obtain ⟨j, c, hj, ej, ec, hc⟩ := mod_at letters (b + 7 * (i : Int)) (by decide)
        walk_at "go"
        refine c_ixS (by decide +kernel) j ej ec ?_
        walk_at "go"
        obtain ⟨n, en, n1, n8⟩ : ∃ n : Nat, 1 + (i : Int) % 8 = (n : Int) ∧ 1 ≤ n ∧ n ≤ 8 := ⟨(1 + (i : Int) % 8).toNat, by omega, by omega, by omega⟩
        rw [en]
        refine c_mulS (mul_ok c n (by omega)) ?_
        exact k _ _ (Same.refl _) ⟨_, rfl, rep_name (letters_ok c hc) n1 n8⟩
      · obtain ⟨ns, rfl, hn⟩ := strs_of fun i y e => r i y e
        rw [List.length_map] at l
        exact q D ns H5 (np st04 _ nD) (st04.trans (.of st4.q s5)) e5 (by omega) hn
    walk_at "go"
    refine ite2 (fun _ => ?_) (fun _ => ?_)
    · walk_at "go"
      refine ⟨m, rfl, by omega, by omega, fun D nD => ?_⟩
      refine lc_rgP (fun _ v => ∃ z, v = .str z ∧ IsName z) st4.q nD (by omega) (fun _ => rfl) (fun i H5 Q' hi s5 k => ?_) (fun H5 xs s5 e5 l r => ?_)
      · walk_at "go"
        refine c_newL (by simp) fun u H6 nu s6 e6 => ?_
        walk_at "go"
        have st6 : Stp p H5 H6 := .of s5.q s6
        refine c_draw st6.q (by decide) (by decide) fun d H7 d0 d1 st7 => ?_
        have e7 : H7 u = _ := st7.at e6 (s5.q.ne nu)
        have hd : d = 0 ∨ d = 1 := by omega
        rcases hd with rfl | rfl
        · refine c_ixL (.inl (.inl e7)) 0 rfl rfl ?_
          exact k _ _ (st6.trans st7) ⟨_, rfl, name_of (by decide +kernel)⟩
        · refine c_ixL (.inl (.inl e7)) 1 rfl rfl ?_
          exact k _ _ (st6.trans st7) ⟨_, rfl, name_of (by decide +kernel)⟩
      · obtain ⟨ns, rfl, hn⟩ := strs_of fun i y e => r i y e
        rw [List.length_map] at l
        exact q D ns H5 (np st04 _ nD) (st04.trans s5) e5 (by omega) hn
    walk_at "go"
    refine c_draw st4.q (by decide) (by decide) fun d H5 d0 d1 st5 => ?_
    walk_at "go"
    refine ⟨d, rfl, by omega, by omega, fun D nD => ?_⟩
    refine lc_rgP (fun _ v => ∃ z, v = .str z ∧ ∃ c, z = ⟨#[c]⟩ ∧ 97 ≤ c ∧ c ≤ 122) st5.q nD (by omega) (fun _ => rfl) (fun i H6 Q' hi s6 k => ?_) (fun H6 xs st6 e6 l r => ?_)
    · walk_at "go"
      refine c_draw s6.q (by decide) (by decide) fun d H7 d0 d1 st7 => ?_
      obtain ⟨j, c, ej, ec, hc⟩ := letter_at (n := 0) d0 d1
      refine c_ixS (by decide +kernel) j ej ec ?_
      exact k _ _ st7 ⟨_, rfl, c, rfl, hc⟩
    obtain ⟨ns, rfl, hn⟩ := strs_of fun i y e => r i y e
    rw [List.length_map] at l
    obtain ⟨jl, jlow⟩ := join_ones hn
    refine c_joinL (.inl (.inl e6)) ?_ ?_
    · rw [sum_ones hn, show (Str.ofString "").length = 0 from rfl]
      omega
    obtain ⟨stem, estem⟩ : ∃ stem, Txt.join (Str.ofString "") ns = stem := ⟨_, rfl⟩
    rw [show Txt.join Str.empty ns = stem from estem] at jl jlow
    rw [estem]
    have hstem : stem.length ≤ 7 := by omega
    walk_at "go"
    refine c_lnS (by omega) ?_
    walk_at "go"
    refine c_draw st6.q (by omega) (by omega) fun ct H7 c0 c1 st7 => ?_
    walk_at "go"
    have st47 : Stp p H4 H7 := (st5.trans st6).trans st7
    refine ⟨m, rfl, by omega, by omega, fun D nD => ?_⟩
    refine lc_rg (fun _ v => ∃ z, v = .str z ∧ IsName z) nD (by omega) (fun _ => rfl) (fun i H8 Q' hi s8 k => ?_) (fun H8 xs s8 e8 l r => ?_)
    · obtain ⟨j, c, hj, ej, ec, hc⟩ := mod_at letters (b + 5 * (i : Int)) (by decide)
      have hc := letters_ok c hc
      obtain ⟨cn, rfl⟩ : ∃ cn : Nat, ct = (cn : Int) := ⟨ct.toNat, by omega⟩
      obtain ⟨l1, l2⟩ := cut_len stem cn (by omega)
      walk_at "go"
      refine c_slS (by omega) ?_
      walk_at "go"
      refine c_ixS (by decide +kernel) j ej ec ?_
      have l3 : (⟨#[c]⟩ : Str).length = 1 := rfl
      refine c_addS (by omega) ?_
      walk_at "go"
      refine c_slS (by omega) ?_
      have l4 : (cutS stem none (some (cn : Int)) ++ ⟨#[c]⟩ : Str).length = cn + 1 := by rw [PySem.Str.length_append]; omega
      refine c_addS (by omega) ?_
      refine k _ _ (Same.refl _) ⟨_, rfl, ⟨?_, ?_, low_app (low_app (low_cut jlow) (low_one hc)) (low_cut jlow)⟩⟩
      · rw [PySem.Str.length_append]; omega
      · rw [PySem.Str.length_append]; omega
    · obtain ⟨ns, rfl, hn⟩ := strs_of fun i y e => r i y e
      rw [List.length_map] at l
      exact q D ns H8 (np (st04.trans st47) _ nD) ((st04.trans st47).trans (.of st47.q s8)) e8 (by omega) hn
end
end Und
set_option exponentiation.threshold 2000
namespace Und
open PySem PySem.Spec PyProof.Rows L2
local macro_rules | `(tactic| walk_at "side") => `(tactic| first | decide | omega | exact ⟨by omega, by omega⟩ | (show (0 : Int) < _; omega) | (exact Or.inl ⟨by omega, by omega⟩) | (exact Or.inr ⟨by omega, by omega⟩) | (exact sz (by simp)) | (exact szl (by simp)))
local macro_rules | `(tactic| walk_at "u") => `(tactic| first
  | with_reducible refine c_seq ?_ | with_reducible refine c_next ?_ | with_reducible refine c_yes ?_ | with_reducible refine c_asg ?_ | with_reducible refine c_asg2 ?_ | with_reducible refine c_par ?_ | with_reducible refine c_two ?_ | with_reducible refine c_g ?_ | with_reducible refine c_gsub ?_ | with_reducible refine c_gcons ?_ | with_reducible refine c_gnil ?_ | with_reducible refine c_ret ?_ | with_reducible refine c_drop ?_
  | ((with_reducible refine c_var (v := ?v) ?h ?_); (case h => rfl)) | with_reducible refine c_c ?_ | with_reducible refine c_op ?_ | with_reducible refine c_un ?_ | with_reducible refine c_I0 ?_
  | ((with_reducible refine c_I ?h ?_); (case h => walk_at "side"))
  | ((with_reducible refine c_eq ?h ?_); (case h => rfl)) | ((with_reducible refine c_neq ?h ?_); (case h => rfl)) | with_reducible refine c_test ?_ | with_reducible refine c_B ?_ | with_reducible refine c_bl ?_ | with_reducible refine c_int ?_ | with_reducible refine c_ifs ?_ | with_reducible refine c_ife ?_
  | with_reducible refine c_andV ?_ | with_reducible refine c_orV ?_ | with_reducible refine c_notV ?_ | with_reducible refine c_and ?_ | with_reducible refine c_or ?_ | with_reducible refine c_not ?_
  | with_reducible refine c_call ?_ | with_reducible refine c_cb ?_ | with_reducible refine c_nil ?_ | with_reducible refine c_cons ?_
  | with_reducible refine c_tup ?_ | with_reducible refine c_lst ?_ | with_reducible refine c_sl ?_ | with_reducible refine c_nop ?_ | with_reducible refine c_part ?_ | with_reducible refine c_fld ?_
  | with_reducible refine c_for ?_ | with_reducible refine c_ilist ?_ | with_reducible refine c_itup ?_ | with_reducible refine c_irng1 ?_ | with_reducible refine c_lc ?_
  | with_reducible refine c_m1 ?_ | with_reducible refine c_isS ?_ | with_reducible refine c_chain ?_ | with_reducible refine c_str ?_ | with_reducible refine c_make ?_ | with_reducible refine c_meth ?_ | with_reducible refine c_prop ?_ | with_reducible refine c_sfld ?_ | with_reducible refine c_ienumT ?_ | with_reducible refine iteT ?_ | with_reducible refine iteF ?_ | with_reducible refine iteNT ?_ | with_reducible refine iteNF ?_
  | ((with_reducible refine iteDT ?h ?_); (case h => first | rfl | omega)) | ((with_reducible refine iteDF ?h ?_); (case h => first | omega | (intro z; cases z; done))) | ((with_reducible refine iteNDT ?h ?_); (case h => first | rfl | omega)) | ((with_reducible refine iteNDF ?h ?_); (case h => first | omega | (intro z; cases z; done))))
local macro_rules | `(tactic| walk_at "go") => `(tactic| repeat (walk_at "u"))
local macro_rules | `(tactic| walk_at "u") => `(tactic| first | with_reducible refine c_par3 ?_ | with_reducible refine c_three ?_ | with_reducible refine c_orT ?_ | with_reducible refine c_bm2 ?_)
/-! ### effects that the law draws -/
theorem ChgAt.hidE {K : PySem.W.Frag} {H : Hp} {p : Addr} {l : List V} {v : V} {c : Chg} (e : H p = some (.lst l)) (h : ChgAt K H v c) : ChgAt K (hid p H) v c := by
  obtain ⟨a, e1, h1⟩ := h
  exact ⟨a, e1, sqT_hid e h1⟩
theorem chgs_stp {K : PySem.W.Frag} {p : Addr} {H H' : Hp} {vs : List V} {cs : List Chg} (pool : Pool H p) (s : Stp p H H') (h : All2 (ChgAt K H) vs cs) : All2 (ChgAt K H') vs cs := by
  obtain ⟨a, b, c, e, _⟩ := pool
  exact h.imp fun _ _ z => (ChgAt.hidE e z).mono (s.s.trans (hid_same p H'))
theorem chgs_mut {K : PySem.W.Frag} {p : Addr} {H : Hp} {l : List V} {o : HO} {vs : List V} {cs : List Chg} (e : H p = some (.lst l)) (h : All2 (ChgAt K H) vs cs) : All2 (ChgAt K (upd H p o)) vs cs := h.imp fun _ _ z => (ChgAt.hidE e z).mono mutS
theorem newS3 {p : Addr} {H H' : Hp} (st : Stp p H H') : ∀ x, H' x = none → H x = none := fun x nx => by
  cases hx : H x with
  | none => rfl
  | some o =>
    by_cases e : x = p
    · obtain ⟨a, b, c, e2, _⟩ := st.q
      rw [e, e2] at nx
      cases nx
    · rw [st.at hx (Ne.symm e)] at nx
      cases nx
theorem c_catF {a b : Addr} {xs zs : List V} {H : Hp} {Q : VK} (e : H a = some (.lst xs)) (e2 : H b = some (.lst zs)) (z : xs.length + zs.length ≤ 100000) (h : ∀ p H2, H p = none → Same H H2 → H2 p = some (.lst (xs ++ zs)) → Q (.ref p) H2) : rCat (.ref a) (.ref b) H Q := ⟨a, b, xs, zs, rfl, rfl, e, e2, sz z, fun p np => h p _ np (same_new np) upd_same⟩
theorem p30e : (10 : Int) ^ Int.toNat 30 = 1000000000000000000000000000000 := by decide
/-- no gap is greater -/
def gpN (m : Int) : Nat := if 0 < m then m.toNat else 1000000000000000000000000000000
section
variable {P : Program} {w : World} {K : PySem.W.Frag} {mg : Str → Option Value} {base : Heap}
theorem ok_first (T : TX K mg) : FnOk P w K mg base CX0 1 T.f_law_first T.fd_law_first pFirst (spFst K) := by
  refine T.d_law_first.F.ok scFirst (fun vs H Q E h => ?_) (fun cdv A outer s H vs Q E hr h => ?_)
  · obtain ⟨l, ns, i, rfl, _⟩ := h
    rfl
  · obtain ⟨l, ns, i, rfl, hL, hi, q⟩ := h
    refine ⟨_, pss_cons (ps_while PassesOwn.never (PW.pt (pw_and (pt_cmpR op_gt (pv 1) (pe_int) (nomark _)) (pw_and1 (pt_cmpR op_eq (pe_ix (ixL (K := K)) (pv 0) (pe_op op_sub (pv 1) (pe_int)) (fun _ _ => rfl)) (pe_ix (ixL (K := K)) (pv 0) (pv 1) (fun _ _ => rfl)) (nomark _))))) (pss_one (ps_set (i := 1) scFirst.nd rfl (.inl rfl) (pe_op op_sub (pv 1) (pe_int)))))
      (pss_one (ps_ret (pv 1))), ?_⟩
    walk_at "go"
    refine while_goE (fun m σ H' => ∃ j : Nat, m = j ∧ σ = [some (.ref l), some (.int (j : Int))] ∧ H' = H ∧ j < ns.length ∧ fstN ns j = fstN ns i) ⟨_, i, rfl, rfl, rfl, hi, rfl⟩ (fun m σ H' h => ?_)
    obtain ⟨j, hm, rfl, rfl, hj, ej⟩ := h
    subst hm
    cases m with
    | zero =>
      walk_at "go"
      have e : (0 : Nat) = fstN ns i := ej
      rw [← e] at q
      exact q
    | succ j =>
      obtain ⟨y, ey, ey2⟩ := strs_get (show j < ns.length by omega)
      obtain ⟨z, ez, ez2⟩ := strs_get hj
      walk_at "go"
      refine c_ixL hL j (by omega) ey2 ?_
      walk_at "go"
      refine c_ixL hL (j + 1) rfl ez2 ?_
      walk_at "go"
      rw [fst_step ey ez] at ej
      by_cases e : y = z
      · subst e
        rw [if_pos rfl] at ej
        rw [w_same]
        walk_at "go"
        refine ⟨_, fun σ' H' h => h, ?_⟩
        walk_at "go"
        exact ⟨j, by omega, j, rfl, by rw [show ((j + 1 : Nat) : Int) - 1 = (j : Int) by omega]; rfl, rfl, by omega, ej⟩
      · rw [if_neg e] at ej
        rw [decide_eq_false fun k => e (V.str.inj k)]
        walk_at "go"
        rw [← ej] at q
        exact q
def spGap : Sp := fun vs H Q _ => ∃ (p : Addr) (m : Int), vs = [.ref p, .int m] ∧ Pool H p ∧ 0 ≤ m ∧ m ≤ 1000 ∧ ∀ (g : Nat) H', g ≤ gpN m → Stp p H H' → Q (.int (g : Int)) H'
theorem ok_gap (T : TX K mg) : FnOk P w K mg base CX0 2 T.f_law_gap T.fd_law_gap pGap spGap := by
  have G_law_draw := ok_draw (P := P) (w := w) (K := K) (base := base) T.d_law_draw T.divmod
  refine T.d_law_gap.F.ok scGap (fun vs H Q E h => ?_) (fun cdv A outer s H vs Q E hr h => ?_)
  · obtain ⟨p, m, rfl, _⟩ := h
    rfl
  · obtain ⟨p, m, rfl, pool, m0, m1, q⟩ := h
    refine ⟨_, pss_cons (ps_if (pt_cmpR op_gt (pv 1) (pe_int) (nomark _)) (pss_one (ps_ret (pcall T.d_law_draw G_law_draw (hr.mono (by decide)) (by rfl) pass0 (pa_cons (pv 0) (pa_cons (pe_op op_add (pv 1) (pe_int)) pa_nil))))) (pss_nil))
      (pss_one (ps_ret (pe_ix (ixL (K := K)) (pe_lst (pa_cons (pe_int) (pa_cons (pcall T.d_law_draw G_law_draw (hr.mono (by decide)) (by rfl) pass0 (pa_cons (pv 0) (pa_cons (pe_int) pa_nil))) (pa_cons (pe_op op_pow (pe_int) (pe_int)) (pa_cons (pcall T.d_law_draw G_law_draw (hr.mono (by decide)) (by rfl) pass0 (pa_cons (pv 0) (pa_cons (pe_op op_pow (pe_int) (pe_int)) pa_nil))) pa_nil))))) (pcall T.d_law_draw G_law_draw (hr.mono (by decide)) (by rfl) pass0 (pa_cons (pv 0) (pa_cons (pe_int) pa_nil))) (fun _ _ => rfl)))), ?_⟩
    walk_at "go"
    have q2 : ∀ (g : Int) H', 0 ≤ g → g ≤ gpN m → Stp p H H' → Q (.int g) H' := fun g H' h0 h1 st => by
      have z := q g.toNat H' (by omega) st
      rwa [Int.toNat_of_nonneg h0] at z
    unfold gpN at q2
    refine ite2 (fun e => ?_) (fun e => ?_)
    · have h := of_decide_eq_true e
      rw [if_pos h] at q2
      walk_at "go"
      refine c_draw pool (by omega) (by omega) fun r H1 r0 r1 st => ?_
      exact q2 _ _ r0 (by omega) st
    · have h : ¬ 0 < m := fun z => e (decide_eq_true z)
      rw [if_neg h] at q2
      walk_at "go"
      refine c_draw pool (by decide) (by decide) fun r H1 r0 r1 st1 => ?_
      walk_at "go"
      rw [p30e]
      refine c_draw st1.q (by decide) (by decide) fun r2 H2 r20 r21 st2 => ?_
      walk_at "go"
      refine c_newL (by simp) fun L H3 nL s3 eL => ?_
      walk_at "go"
      have st3 := st1.trans (st2.trans (.of st2.q s3))
      refine c_draw st3.q (by decide) (by decide) fun d H4 d0 d1 st4 => ?_
      have pL := st2.q.ne nL
      have e4 := st4.at eL pL
      rcases (show d = 0 ∨ d = 1 ∨ d = 2 ∨ d = 3 by omega) with rfl | rfl | rfl | rfl
      · refine c_ixL (.inl (.inl e4)) 0 rfl rfl ?_
        exact q2 _ _ (by decide) (by decide) (st3.trans st4)
      · refine c_ixL (.inl (.inl e4)) 1 rfl rfl ?_
        exact q2 _ _ r0 (by omega) (st3.trans st4)
      · refine c_ixL (.inl (.inl e4)) 2 rfl rfl ?_
        exact q2 _ _ (by decide) (by decide) (st3.trans st4)
      · refine c_ixL (.inl (.inl e4)) 3 rfl rfl ?_
        exact q2 _ _ r20 (by omega) (st3.trans st4)
end
end Und
set_option exponentiation.threshold 2000
namespace Und
open PySem PySem.Spec PyProof.Rows L2
local macro_rules | `(tactic| walk_at "side") => `(tactic| first | decide | omega | exact ⟨by omega, by omega⟩ | (show (0 : Int) < _; omega) | (exact Or.inl ⟨by omega, by omega⟩) | (exact Or.inr ⟨by omega, by omega⟩) | (exact sz (by simp)) | (exact szl (by simp)))
local macro_rules | `(tactic| walk_at "u") => `(tactic| first
  | with_reducible refine c_seq ?_ | with_reducible refine c_next ?_ | with_reducible refine c_yes ?_ | with_reducible refine c_asg ?_ | with_reducible refine c_asg2 ?_ | with_reducible refine c_par ?_ | with_reducible refine c_two ?_ | with_reducible refine c_g ?_ | with_reducible refine c_gsub ?_ | with_reducible refine c_gcons ?_ | with_reducible refine c_gnil ?_ | with_reducible refine c_ret ?_ | with_reducible refine c_drop ?_
  | ((with_reducible refine c_var (v := ?v) ?h ?_); (case h => rfl)) | with_reducible refine c_c ?_ | with_reducible refine c_op ?_ | with_reducible refine c_un ?_ | with_reducible refine c_I0 ?_
  | ((with_reducible refine c_I ?h ?_); (case h => walk_at "side"))
  | ((with_reducible refine c_eq ?h ?_); (case h => rfl)) | ((with_reducible refine c_neq ?h ?_); (case h => rfl)) | with_reducible refine c_test ?_ | with_reducible refine c_B ?_ | with_reducible refine c_bl ?_ | with_reducible refine c_int ?_ | with_reducible refine c_ifs ?_ | with_reducible refine c_ife ?_
  | with_reducible refine c_andV ?_ | with_reducible refine c_orV ?_ | with_reducible refine c_notV ?_ | with_reducible refine c_and ?_ | with_reducible refine c_or ?_ | with_reducible refine c_not ?_
  | with_reducible refine c_call ?_ | with_reducible refine c_cb ?_ | with_reducible refine c_nil ?_ | with_reducible refine c_cons ?_
  | with_reducible refine c_tup ?_ | with_reducible refine c_lst ?_ | with_reducible refine c_sl ?_ | with_reducible refine c_nop ?_ | with_reducible refine c_part ?_ | with_reducible refine c_fld ?_
  | with_reducible refine c_for ?_ | with_reducible refine c_ilist ?_ | with_reducible refine c_itup ?_ | with_reducible refine c_irng1 ?_ | with_reducible refine c_lc ?_
  | with_reducible refine c_m1 ?_ | with_reducible refine c_isS ?_ | with_reducible refine c_chain ?_ | with_reducible refine c_str ?_ | with_reducible refine c_make ?_ | with_reducible refine c_meth ?_ | with_reducible refine c_prop ?_ | with_reducible refine c_sfld ?_ | with_reducible refine c_ienumT ?_ | with_reducible refine iteT ?_ | with_reducible refine iteF ?_ | with_reducible refine iteNT ?_ | with_reducible refine iteNF ?_
  | ((with_reducible refine iteDT ?h ?_); (case h => first | rfl | omega)) | ((with_reducible refine iteDF ?h ?_); (case h => first | omega | (intro z; cases z; done))) | ((with_reducible refine iteNDT ?h ?_); (case h => first | rfl | omega)) | ((with_reducible refine iteNDF ?h ?_); (case h => first | omega | (intro z; cases z; done))))
local macro_rules | `(tactic| walk_at "go") => `(tactic| repeat (walk_at "u"))
local macro_rules | `(tactic| walk_at "u") => `(tactic| first | with_reducible refine c_par3 ?_ | with_reducible refine c_three ?_ | with_reducible refine c_orT ?_ | with_reducible refine c_bm2 ?_)
def dNmL (zs : List Str) : PyData := .list (zs.map .str)
section
variable {P : Program} {w : World} {K : PySem.W.Frag} {mg : Str → Option Value} {base : Heap}
theorem dp_nmL {H : Hp} {a : Addr} {zs : List Str} (e : H a = some (.lst (zs.map V.str))) : Dp K H (.ref a) (dNmL zs) := .lst (.inl (.inl e)) (dpAll_strs zs)
theorem dok_nmL {zs : List Str} (h : ∀ z ∈ zs, IsName z) : DOk (dNmL zs) 1 := (dok_list (n := 0) fun d hd => by
  obtain ⟨z, hz, rfl⟩ := List.mem_map.mp hd
  exact ⟨by unfold PyData.canLay0; exact low_ok (h z hz).low, by simp [PyData.depth]⟩).1
theorem eqv_nmL (ns ms : List Str) : PyData.eqv (dNmL ns) (dNmL ms) = decide (ns = ms) := by
  unfold dNmL PyData.eqv
  exact eqvAll_strs ns ms
/-- how far the changes go -/
def BdC (B : Nat) (cs : List Chg) : Prop := ∀ c ∈ cs, c.a ≤ B ∧ ∀ t, c.n = some t → c.a + t ≤ B
/-- what the last change was -/
def bfV (cs : List Chg) : V := match cs.getLast? with
  | none => .str ""
  | some c => whV c.w
theorem bfV_or (cs : List Chg) : (∃ z, bfV cs = .str z) ∨ ∃ i, bfV cs = .int i := by
  unfold bfV
  split
  · exact .inl ⟨_, rfl⟩
  · rename_i c _
    cases c.w with
    | un => exact .inl ⟨_, rfl⟩
    | od => exact .inl ⟨_, rfl⟩
    | it i => exact .inr ⟨_, rfl⟩
theorem aftA_name {ns : List Str} (h : ∀ z ∈ ns, IsName z) : ∀ cs : List Chg, ∀ z ∈ aftA ns cs, IsName z := by
  intro cs
  induction cs generalizing ns with
  | nil => exact h
  | cons c cs ih =>
    refine ih (ns := aft ns c) fun z hz => ?_
    unfold aft at hz
    split at hz
    · exact h z (List.mem_of_mem_eraseIdx hz)
    · exact h z hz
theorem aftA_snoc (ns : List Str) (cs : List Chg) (c : Chg) : aftA ns (cs ++ [c]) = aft (aftA ns cs) c := by
  unfold aftA
  rw [List.foldl_append]
  rfl
structure TblAt (K : PySem.W.Frag) (H : Hp) (D : Addr) (ns : List Str) (u : Nat) (cs : List Chg) : Prop where
  ob : ∃ tn tc us, H D = some (.lst [.ref tn, .int (u : Int), .ref tc]) ∧ SqT K H tn (ns.map V.str) ∧ SqT K H tc us ∧ All2 (ChgAt K H) us cs
theorem TblAt.mono {H H' : Hp} {D : Addr} {ns : List Str} {u : Nat} {cs : List Chg} (s : Same H H') (h : TblAt K H D ns u cs) : TblAt K H' D ns u cs := by
  obtain ⟨tn, tc, us, e, h1, h2, h3⟩ := h
  exact ⟨tn, tc, us, s _ _ e, same_seqT s h1, same_seqT s h2, h3.imp fun _ _ => ChgAt.mono s⟩
def spTabl (K : PySem.W.Frag) : Sp := fun vs H Q _ => ∃ (p : Addr) (d m k : Int), vs = [.ref p, .int d, .int m, .int k] ∧ Pool H p ∧ 0 ≤ d ∧ d ≤ 100 ∧ 0 ≤ m ∧ m ≤ 1000 ∧ 0 ≤ k ∧ k ≤ 100 ∧
  ∀ (D : Addr) (ns : List Str) (u : Nat) (cs : List Chg) H', H D = none → Stp p H H' → TblAt K H' D ns u cs → EOk ns u cs → (ns.length : Int) ≤ d → (cs.length : Int) ≤ k → BdC (k.toNat * (2 * gpN m + 2)) cs → Q (.ref D) H'
theorem end_le {cs : List Chg} {B : Nat} (h : BdC B cs) : endC cs ≤ B := by
  unfold endC
  cases e : cs.getLast? with
  | none => exact Nat.zero_le _
  | some c =>
    have hm := List.mem_of_getLast? e
    obtain ⟨h1, h2⟩ := h c hm
    show enC c ≤ B
    unfold enC
    cases en : c.n with
    | none => exact h1
    | some t => exact h2 t en
theorem fol_of {cs : List Chg} {c x : Chg} {wv : V} (hn : ∀ c ∈ cs, c.n ≠ none) (hx : lastO none cs = some x) (le : endC cs ≤ c.a) (hs : c.a = endC cs → wv ≠ bfV cs) (hw : whV c.w = wv ∨ (wv = .int 0 ∧ ∃ j, c.w = .it j)) : folOk c x := by
  have ex : cs.getLast? = some x := by
    unfold lastO at hx
    cases e : cs.getLast? with
    | none =>
      rw [e] at hx
      cases hx
    | some y =>
      rw [e] at hx
      exact hx
  have hb : bfV cs = whV x.w := by
    unfold bfV
    rw [ex]
  cases en : x.n with
  | none => exact absurd en (hn x (List.mem_of_getLast? ex))
  | some t =>
    have ee : endC cs = x.a + t := by
      rw [end_some ex]
      unfold enC
      rw [en]
      rfl
    refine ⟨t, en, by omega, ?_⟩
    by_cases hlt : x.a + t < c.a
    · exact .inr (.inr hlt)
    have hne := hs (by omega)
    rw [hb] at hne
    by_cases hi : ∃ i, x.w = .it i
    · exact .inl hi
    refine .inr (.inl fun e => ?_)
    rcases hw with h | ⟨_, j, h⟩
    · exact hne (by rw [← h, e])
    · exact hi ⟨j, by rw [← e, h]⟩
theorem ok_tabled (T : TX K mg) : FnOk P w K mg base CX0 4 T.f_law_tabled T.fd_law_tabled pTabl (spTabl K) := by
  have G_law_draw := ok_draw (P := P) (w := w) (K := K) (base := base) T.d_law_draw T.divmod
  have G_law_calls := ok_calls (P := P) (w := w) (base := base) T
  have G_law_gap := ok_gap (P := P) (w := w) (base := base) T
  have G_law_first := ok_first (P := P) (w := w) (base := base) T
  refine T.d_law_tabled.F.ok scTabl (fun vs H Q E h => ?_) (fun cdv A outer s H vs Q E hr h => ?_)
  · obtain ⟨p, d, m, k, rfl, _⟩ := h
    rfl
  · obtain ⟨p, d, m, k, rfl, pool, d0, d1, m0, m1, k0, k1, q⟩ := h
    refine ⟨_, pss_cons (ps_set (i := 4) scTabl.nd rfl (.inl rfl) (pcall T.d_law_calls G_law_calls (hr.mono (by decide)) (by rfl) pass0 (pa_cons (pv 0) (pa_cons (pcall T.d_law_draw G_law_draw (hr.mono (by decide)) (by rfl) pass0 (pa_cons (pv 0) (pa_cons (pe_op op_add (pv 1) (pe_int)) pa_nil))) pa_nil))))
      (pss_cons (ps_asg (pe_tup (pa_cons (pcall T.d_law_draw G_law_draw (hr.mono (by decide)) (by rfl) pass0 (pa_cons (pv 0) (pa_cons (pe_op op_add (pe_callB (callLn (K := K)) (by rfl) T.len (by decide +kernel) (pa_cons (pv 4) pa_nil)) (pe_int)) pa_nil))) (pa_cons (pe_lst (pa_nil)) (pa_cons (pe_callTy (callLstOf (K := K)) (by rfl) T.list (by decide +kernel) (pa_cons (pv 4) pa_nil)) (pa_cons (pe_int) (pa_cons (pe_str) pa_nil)))))) (pgTup (K := K) (n := 5) (by rfl) (pgs_cons (pg_name (i := 5) scTabl.nd rfl (.inl rfl)) (pgs_cons (pg_name (i := 6) scTabl.nd rfl (.inl rfl)) (pgs_cons (pg_name (i := 7) scTabl.nd rfl (.inl rfl)) (pgs_cons (pg_name (i := 8) scTabl.nd rfl (.inl rfl)) (pgs_cons (pg_name (i := 9) scTabl.nd rfl (.inl rfl)) pgs_nil)))))))
      (pss_cons (ps_for PassesOwn.never rfl (pi_range1 (by rfl) T.range (pa_cons (pcall T.d_law_draw G_law_draw (hr.mono (by decide)) (by rfl) pass0 (pa_cons (pv 0) (pa_cons (pe_op op_add (pv 3) (pe_int)) pa_nil))) pa_nil)) (pg_name (i := 10) scTabl.nd rfl (.inl rfl))
        (pss_cons (ps_par (i := 11) (j := 12) (by rfl) scTabl.nd rfl rfl (by decide) rfl rfl (pa_cons (pe_ix (ixL (K := K)) (pe_lst (pa_cons (pe_str) (pa_cons (pe_str) (pa_cons (pe_int) (pa_cons (pe_int) pa_nil))))) (pcall T.d_law_draw G_law_draw (hr.mono (by decide)) (by rfl) pass0 (pa_cons (pv 0) (pa_cons (pe_int) pa_nil))) (fun _ _ => rfl)) (pa_cons (pcall T.d_law_gap G_law_gap (hr.mono (by decide)) (by rfl) pass0 (pa_cons (pv 0) (pa_cons (pv 2) pa_nil))) pa_nil)) (by rfl))
      (pss_cons (ps_if (PW.pt (pw_or (PW.pt (pw_and (pt_cmpR op_eq (pv 11) (pe_int) (nomark _)) (pw_and1 (pt_cmpR op_lt (pe_callB (callLn (K := K)) (by rfl) T.len (by decide +kernel) (pa_cons (pv 7) pa_nil)) (pe_int) (nomark _))))) (pw_or1 (PW.pt (pw_and (pt_cmpR op_eq (pv 11) (pe_str) (nomark _)) (pw_and1 (pt_cmpR (opEqD (K := K) hr.units) (pv 7) (pe_lst (pa_nil)) (nomark _)))))))) (pss_one (ps_set (i := 11) scTabl.nd rfl (.inl rfl) (pe_str))) (pss_nil))
      (pss_cons (ps_set (i := 8) scTabl.nd rfl (.inl rfl) (pe_op op_add (pe_op op_add (pv 8) (pv 12)) (pe_callTy call_int1 (by rfl) T.int (by decide +kernel) (pa_cons (pe_and (pe_cmpR op_eq (pv 12) (pe_int) (nomark _)) (pe_one (pe_cmpR op_eq (pv 11) (pv 9) (nomark _)))) pa_nil))))
      (pss_cons (ps_set (i := 13) scTabl.nd rfl (.inl rfl) (pe_int))
      (pss_cons (ps_if (pt_cmpR op_eq (pv 11) (pe_int) (nomark _)) (pss_cons (ps_set (i := 11) scTabl.nd rfl (.inl rfl) (pcall T.d_law_first G_law_first (hr.mono (by decide)) (by rfl) pass0 (pa_cons (pv 7) (pa_cons (pcall T.d_law_draw G_law_draw (hr.mono (by decide)) (by rfl) pass0 (pa_cons (pv 0) (pa_cons (pe_op op_sub (pe_callB (callLn (K := K)) (by rfl) T.len (by decide +kernel) (pa_cons (pv 7) pa_nil)) (pe_int)) pa_nil))) pa_nil))))
      (pss_one (ps_set (i := 7) scTabl.nd rfl (.inl rfl) (pe_op op_cat (pe_slice (slL (K := K)) (pv 7) po_none (po_some (pv 11))) (pe_slice (slL (K := K)) (pv 7) (po_some (pe_op op_add (pv 11) (pe_int))) po_none))))) (pss_one (ps_set (i := 13) scTabl.nd rfl (.inl rfl) (pe_ifExp (pt_cmpR op_eq (pcall T.d_law_draw G_law_draw (hr.mono (by decide)) (by rfl) pass0 (pa_cons (pv 0) (pa_cons (pe_int) pa_nil))) (pe_int) (nomark _)) (pe_non) (pe_op op_add (pe_int) (pcall T.d_law_gap G_law_gap (hr.mono (by decide)) (by rfl) pass0 (pa_cons (pv 0) (pa_cons (pv 2) pa_nil))))))))
      (pss_cons (ps_expr (pe_bm PySem.F.plainAttrs_list PySem.F.slot_list_append PySem.F.type_list_append mt_append (pv 6) (pa_cons (pe_tup (pa_cons (pv 8) (pa_cons (pv 13) (pa_cons (pv 11) pa_nil)))) pa_nil)))
      (pss_cons (ps_if (pt_cmpR op_isN (pv 13) (pe_non) (nomark _)) (pss_one (ps_break)) (pss_nil))
      (pss_one (ps_par (i := 8) (j := 9) (by rfl) scTabl.nd rfl rfl (by decide) rfl rfl (pa_cons (pe_op op_add (pv 8) (pv 13)) (pa_cons (pv 11) pa_nil)) (by rfl)))))))))))
      (pss_one (ps_ret (pe_lst (pa_cons (pe_callTy (callTupOf (K := K)) (by rfl) T.tuple (by decide +kernel) (pa_cons (pv 4) pa_nil)) (pa_cons (pv 5) (pa_cons (pe_callTy (callTupOf (K := K)) (by rfl) T.tuple (by decide +kernel) (pa_cons (pv 6) pa_nil)) pa_nil)))))))), ?_⟩
    obtain ⟨g0, hg0⟩ : ∃ g0, gpN m = g0 := ⟨_, rfl⟩
    rw [hg0] at q
    walk_at "go"
    refine c_draw pool (by omega) (by omega) fun cn H1 cn0 cn1 st1 => ?_
    refine ⟨p, cn, rfl, st1.q, cn0, by omega, fun C ns H2 nC st2 eC hl hn => ?_⟩
    walk_at "go"
    refine c_lnL (.inl (.inl eC)) ?_
    rw [List.length_map]
    walk_at "go"
    refine c_draw st2.q (by omega) (by omega) fun u H3 u0 u1 st3 => ?_
    obtain ⟨u, rfl⟩ : ∃ un : Nat, u = (un : Int) := ⟨u.toNat, by omega⟩
    have pC := st1.q.ne nC
    have eC3 := st3.at eC pC
    walk_at "go"
    refine c_newL (by simp) fun F H4 nF s4 eF => ?_
    have pF := st3.q.ne nF
    have CF : C ≠ F := fun z => by rw [← z, eC3] at nF; cases nF
    walk_at "go"
    refine c_lstOfL (.inl (.inl (s4 _ _ eC3))) fun L H5 nL s5 eL => ?_
    have eF5 := s5 _ _ eF
    have LF : L ≠ F := fun z => by rw [z, eF] at nL; cases nL
    walk_at "go"
    refine c_newT (by simp) fun tt H6 nt s6 et => ?_
    refine c_gtup (.inl (.inl et)) rfl ?_
    walk_at "go"
    have st6 : Stp p H H6 := ((st1.trans st2).trans st3).trans (.of st3.q (s4.trans (s5.trans s6)))
    have nFH : H F = none := newS3 ((st1.trans st2).trans st3) _ nF
    have nCH : H C = none := newS3 st1 _ nC
    refine c_draw st6.q (by omega) (by omega) fun kn H7 kn0 kn1 st7 => ?_
    have pL := (st3.q.same s4).ne nL
    have eC7 := st7.at (s6 _ _ (s5 _ _ (s4 _ _ eC3))) pC
    have eF7 := st7.at (s6 _ _ eF5) pF
    have eL7 := st7.at (s6 _ _ eL) pL
    refine ⟨kn, rfl, by omega, by omega, ?_⟩
    have fin : ∀ (D : Ends) (H' : Hp) (us : List V) (cs : List Chg) (σ' : List (Option V)), D.rt = Q → Stp p H H' → H' C = some (.lst (ns.map V.str)) → H' F = some (.lst us) → All2 (ChgAt K H') us cs → vld ns none cs → (cs.length : Int) ≤ k → BdC (k.toNat * (2 * g0 + 2)) cs →
        tRet (tLst (tCons (tCB (rTupOf K) (tCons (tVar 4) tNil)) (tCons (tVar 5) (tCons (tCB (rTupOf K) (tCons (tVar 6) tNil)) tNil)))) D (some (.ref p) :: some (.int d) :: some (.int m) :: some (.int k) :: some (.ref C) :: some (.int (u : Int)) :: some (.ref F) :: σ') H' := fun D H' us cs σ' hD st ec ef hA hv hl hb => by
      walk_at "go"
      refine c_tupOfL (.inl (.inl ec)) fun t1 K1 n1 w1 e1 => ?_
      walk_at "go"
      refine c_tupOfL (.inl (.inl (w1 _ _ ef))) fun t2 K2 n2 w2 e2 => ?_
      walk_at "go"
      refine c_newL (by simp) fun D K3 nD w3 eD => ?_
      have w13 := w1.trans (w2.trans w3)
      rw [hD]
      refine q D ns u cs K3 (newS3 (st.trans (.of st.q (w1.trans w2))) _ nD) (st.trans (.of st.q w13)) ⟨t1, t2, us, eD, .inl (.inl (w3 _ _ (w2 _ _ e1))), .inl (.inl (w3 _ _ e2)), hA.imp fun _ _ => ChgAt.mono w13⟩ ⟨hn, by omega, hv, by omega⟩ (by omega) hl hb
    refine for_range (lo := 0) (n := kn.toNat) (fun i σ H' => ∃ (us : List V) (L : Addr) (cs : List Chg) (y10 y11 y12 y13 : Option V), σ = [some (.ref p), some (.int d), some (.int m), some (.int k), some (.ref C), some (.int (u : Int)), some (.ref F), some (.ref L), some (.int (endC cs : Nat)), some (bfV cs), y10, y11, y12, y13] ∧ Stp p H H' ∧ H' C = some (.lst (ns.map V.str)) ∧ H' F = some (.lst us) ∧ H' L = some (.lst ((aftA ns cs).map V.str)) ∧ L ≠ F ∧ p ≠ L ∧ All2 (ChgAt K H') us cs ∧ vld ns none cs ∧ (∀ c ∈ cs, c.n ≠ none) ∧ cs.length = i ∧ BdC (i * (2 * g0 + 2)) cs)
      ⟨[], L, [], none, none, none, none, rfl, st6.trans st7, eC7, eF7, eL7, LF, pL, All2.nil, trivial, (fun c hc => nomatch hc), rfl, (fun c hc => nomatch hc)⟩ (fun i σ H' hi hW => ?_) (fun σ H' hW => ?_)
    rotate_left
    · obtain ⟨us, L, cs, y10, y11, y12, y13, rfl, st, ec, ef, el, lf, pl, hA, hv, hnn, hcl, hb⟩ := hW
      refine fin _ H' us cs _ rfl st ec ef hA hv (by omega) fun c hc => ?_
      obtain ⟨h1, h2⟩ := hb c hc
      have hm : kn.toNat * (2 * g0 + 2) ≤ k.toNat * (2 * g0 + 2) := Nat.mul_le_mul_right _ (by omega)
      exact ⟨by omega, fun t e => by have := h2 t e; omega⟩
    obtain ⟨us, L, cs, y10, y11, y12, y13, rfl, st, ec, ef, el, lf, pl, hA, hv, hnn, hcl, hb⟩ := hW
    have hal := aftA_len ns cs
    have hnm := aftA_name hn cs
    obtain ⟨z, hz⟩ : ∃ z, aftA ns cs = z := ⟨_, rfl⟩
    rw [hz] at el hal hnm
    refine c_g ?_
    refine cut_seq (fun σ K1 => ∃ (wv : V) (g : Nat), σ = [some (.ref p), some (.int d), some (.int m), some (.int k), some (.ref C), some (.int (u : Int)), some (.ref F), some (.ref L), some (.int (endC cs : Nat)), some (bfV cs), some (.int (0 + (i : Int))), some wv, some (.int (g : Int)), y13] ∧ (wv = .str "old" ∨ wv = .str "undone" ∨ wv = .int 0) ∧ g ≤ g0 ∧ Stp p H' K1) (fun N hN => ?_) (fun σ1 K1 h1 => ?_)
    · walk_at "go"
      refine c_newL (by simp) fun W K1 nW w1 eW => ?_
      have u1 : Stp p H' K1 := .of st.q w1
      have pW := st.q.ne nW
      walk_at "go"
      refine c_draw u1.q (by decide) (by decide) fun dd K2 dd0 dd1 u2 => ?_
      have eW2 := u2.at eW pW
      rcases (show dd = 0 ∨ dd = 1 ∨ dd = 2 ∨ dd = 3 by omega) with rfl | rfl | rfl | rfl
      · refine c_ixL (.inl (.inl eW2)) 0 rfl rfl ?_
        walk_at "go"
        refine ⟨p, m, rfl, u2.q, m0, m1, fun g K3 hg u3 => ?_⟩
        walk_at "go"
        exact hN _ _ ⟨_, g, rfl, .inl rfl, by omega, (u1.trans u2).trans u3⟩
      · refine c_ixL (.inl (.inl eW2)) 1 rfl rfl ?_
        walk_at "go"
        refine ⟨p, m, rfl, u2.q, m0, m1, fun g K3 hg u3 => ?_⟩
        walk_at "go"
        exact hN _ _ ⟨_, g, rfl, .inr (.inl rfl), by omega, (u1.trans u2).trans u3⟩
      · refine c_ixL (.inl (.inl eW2)) 2 rfl rfl ?_
        walk_at "go"
        refine ⟨p, m, rfl, u2.q, m0, m1, fun g K3 hg u3 => ?_⟩
        walk_at "go"
        exact hN _ _ ⟨_, g, rfl, .inr (.inr rfl), by omega, (u1.trans u2).trans u3⟩
      · refine c_ixL (.inl (.inl eW2)) 3 rfl rfl ?_
        walk_at "go"
        refine ⟨p, m, rfl, u2.q, m0, m1, fun g K3 hg u3 => ?_⟩
        walk_at "go"
        exact hN _ _ ⟨_, g, rfl, .inr (.inr rfl), by omega, (u1.trans u2).trans u3⟩
    obtain ⟨w0, g, rfl, hw0, hg, st1'⟩ := h1
    have el1 := st1'.at el pl
    refine cut_seq (fun σ K2 => ∃ (wv : V), σ = [some (.ref p), some (.int d), some (.int m), some (.int k), some (.ref C), some (.int (u : Int)), some (.ref F), some (.ref L), some (.int (endC cs : Nat)), some (bfV cs), some (.int (0 + (i : Int))), some wv, some (.int (g : Int)), y13] ∧ ((wv = .str "old" ∧ z ≠ []) ∨ wv = .str "undone" ∨ (wv = .int 0 ∧ 2 ≤ z.length)) ∧ Stp p K1 K2) (fun N hN => ?_) (fun σ2 K2 h2 => ?_)
    · rcases hw0 with rfl | rfl | rfl
      · walk_at "go"
        refine c_newL (by simp) fun e0 K2 ne s2 ee => ?_
        refine c_eqD (dp_nmL (s2 _ _ el1)) (dp_nmL (zs := []) ee) (dok_nmL hnm) (dok_nmL fun z hz => nomatch hz) (by decide) (by decide) ?_
        rw [eqv_nmL]
        by_cases hze : z = []
        · rw [decide_eq_true hze]
          walk_at "go"
          exact hN _ _ ⟨_, rfl, .inr (.inl rfl), .of st1'.q s2⟩
        · rw [decide_eq_false hze]
          walk_at "go"
          exact hN _ _ ⟨_, rfl, .inl ⟨rfl, hze⟩, .of st1'.q s2⟩
      · walk_at "go"
        exact hN _ _ ⟨_, rfl, .inr (.inl rfl), .refl st1'.q⟩
      · walk_at "go"
        refine c_lnL (.inl (.inl el1)) ?_
        rw [List.length_map]
        by_cases hz2 : (z.length : Int) < 2
        · walk_at "go"
          exact hN _ _ ⟨_, rfl, .inr (.inl rfl), .refl st1'.q⟩
        · walk_at "go"
          exact hN _ _ ⟨_, rfl, .inr (.inr ⟨rfl, by omega⟩), .refl st1'.q⟩
    obtain ⟨wv, rfl, hwv, st2'⟩ := h2
    have st02 := st1'.trans st2'
    have el2 := st2'.at el1 pl
    have hwk : (∃ z, wv = .str z) ∨ ∃ i, wv = .int i := by
      rcases hwv with ⟨h, _⟩ | h | ⟨h, _⟩
      · exact .inl ⟨_, h⟩
      · exact .inl ⟨_, h⟩
      · exact .inr ⟨_, h⟩
    refine cut_seq (fun σ K3 => ∃ (hr : Nat), σ = [some (.ref p), some (.int d), some (.int m), some (.int k), some (.ref C), some (.int (u : Int)), some (.ref F), some (.ref L), some (.int (hr : Int)), some (bfV cs), some (.int (0 + (i : Int))), some wv, some (.int (g : Int)), y13] ∧ K3 = K2 ∧ endC cs + g ≤ hr ∧ hr ≤ endC cs + g + 1 ∧ (hr = endC cs → wv ≠ bfV cs)) (fun N hN => ?_) (fun σ3 K3 h3 => ?_)
    · walk_at "go"
      by_cases hg0 : g = 0
      · subst hg0
        walk_at "go"
        have sc : scal wv (bfV cs) = true := by
          rcases hwk with ⟨_, rfl⟩ | ⟨_, rfl⟩ <;> rcases bfV_or cs with ⟨_, e⟩ | ⟨_, e⟩ <;> rw [e] <;> rfl
        refine c_eq sc ?_
        refine .inr ⟨_, rfl, ?_⟩
        by_cases e : wv = bfV cs
        · rw [decide_eq_true e]
          walk_at "go"
          exact hN _ _ ⟨endC cs + 1, rfl, rfl, by omega, by omega, fun h => absurd h (by omega)⟩
        · rw [decide_eq_false e]
          walk_at "go"
          exact hN _ _ ⟨endC cs, by simp, rfl, by omega, by omega, fun _ => e⟩
      · rw [decide_eq_false (fun z => hg0 (by have := V.int.inj z; omega) : ¬ V.int (g : Int) = V.int 0)]
        walk_at "go"
        refine .inr ⟨_, rfl, ?_⟩
        walk_at "go"
        exact hN _ _ ⟨endC cs + g, by simp, rfl, by omega, by omega, fun h => absurd h (by omega)⟩
    obtain ⟨hr', rfl, rfl, hr1, hr2, hr3⟩ := h3
    refine cut_seq (fun σ K4 => σ = [some (.ref p), some (.int d), some (.int m), some (.int k), some (.ref C), some (.int (u : Int)), some (.ref F), some (.ref L), some (.int (hr' : Int)), some (bfV cs), some (.int (0 + (i : Int))), some wv, some (.int (g : Int)), some (.int 1)] ∧ K4 = K3) (fun N hN => ?_) (fun σ4 K4 h4 => ?_)
    · walk_at "go"
      exact hN _ _ ⟨rfl, rfl⟩
    obtain ⟨rfl, rfl⟩ := h4
    refine cut_seq (fun σ K5 => ∃ (c : Chg) (L' : Addr), c.a = hr' ∧ σ = [some (.ref p), some (.int d), some (.int m), some (.int k), some (.ref C), some (.int (u : Int)), some (.ref F), some (.ref L'), some (.int (hr' : Int)), some (bfV cs), some (.int (0 + (i : Int))), some (whV c.w), some (.int (g : Int)), some (nV c.n)] ∧ Stp p K4 K5 ∧ L' ≠ F ∧ p ≠ L' ∧ K5 L' = some (.lst ((aft z c).map V.str)) ∧ chgOk z c ∧ (∀ t, c.n = some t → t ≤ g0 + 1) ∧ (whV c.w = wv ∨ (wv = .int 0 ∧ ∃ j, c.w = .it j))) (fun N hN => ?_) (fun σ5 K5 h5 => ?_)
    · rcases hwv with ⟨rfl, hze⟩ | rfl | ⟨rfl, hz2⟩
      · walk_at "go"
        refine c_draw st02.q (by decide) (by decide) fun r K6 r0 r1 u6 => ?_
        walk_at "go"
        by_cases hr0 : r = 0
        · subst hr0
          walk_at "go"
          exact hN _ _ ⟨⟨hr', none, .od⟩, L, rfl, rfl, u6, lf, pl, u6.at el2 pl, ⟨hze, (fun t e => by cases e)⟩, (fun t e => by cases e), .inl rfl⟩
        · rw [decide_eq_false (fun z => hr0 (V.int.inj z) : ¬ V.int r = V.int 0)]
          walk_at "go"
          refine ⟨p, m, rfl, u6.q, m0, m1, fun g2 K7 hg2 u7 => ?_⟩
          walk_at "go"
          rw [show (1 : Int) + (g2 : Int) = ((1 + g2 : Nat) : Int) by omega]
          exact hN _ _ ⟨⟨hr', some (1 + g2), .od⟩, L, rfl, rfl, u6.trans u7, lf, pl, (u6.trans u7).at el2 pl, ⟨hze, (fun t e => by cases e; omega)⟩, (fun t e => by cases e; omega), .inl rfl⟩
      · walk_at "go"
        refine c_draw st02.q (by decide) (by decide) fun r K6 r0 r1 u6 => ?_
        walk_at "go"
        by_cases hr0 : r = 0
        · subst hr0
          walk_at "go"
          exact hN _ _ ⟨⟨hr', none, .un⟩, L, rfl, rfl, u6, lf, pl, u6.at el2 pl, (fun t e => by cases e), (fun t e => by cases e), .inl rfl⟩
        · rw [decide_eq_false (fun z => hr0 (V.int.inj z) : ¬ V.int r = V.int 0)]
          walk_at "go"
          refine ⟨p, m, rfl, u6.q, m0, m1, fun g2 K7 hg2 u7 => ?_⟩
          walk_at "go"
          rw [show (1 : Int) + (g2 : Int) = ((1 + g2 : Nat) : Int) by omega]
          exact hN _ _ ⟨⟨hr', some (1 + g2), .un⟩, L, rfl, rfl, u6.trans u7, lf, pl, (u6.trans u7).at el2 pl, (fun t e => by cases e; omega), (fun t e => by cases e; omega), .inl rfl⟩
      · walk_at "go"
        refine c_lnL (.inl (.inl el2)) ?_
        rw [List.length_map]
        walk_at "go"
        refine c_draw st02.q (by omega) (by omega) fun r K6 r0 r1 u6 => ?_
        obtain ⟨r, rfl⟩ : ∃ rn : Nat, r = (rn : Int) := ⟨r.toNat, by omega⟩
        have el6 := u6.at el2 pl
        refine ⟨L, z, r, rfl, .inl (.inl el6), by omega, ?_⟩
        walk_at "go"
        have hf := fstN_le z r
        have hfi := fstN_idem z r
        obtain ⟨j, ej⟩ : ∃ j, fstN z r = j := ⟨_, rfl⟩
        rw [ej] at hf hfi ⊢
        refine c_slL (.inl (.inl el6)) fun A K7 nA s7 eA => ?_
        walk_at "go"
        refine c_slL (.inl (.inl (s7 _ _ el6))) fun B K8 nB s8 eB => ?_
        rw [show (j : Int) + 1 = ((j + 1 : Nat) : Int) by omega, cut_from _ _ (by rw [List.length_map]; omega), ← List.map_drop] at eB
        rw [cut_to _ _ (by rw [List.length_map]; omega), ← List.map_take] at eA
        refine c_catF (s8 _ _ eA) eB (by rw [List.length_map, List.length_map, List.length_take, List.length_drop]; omega) fun M K9 nM s9 eM => ?_
        walk_at "go"
        have s79 := s7.trans (s8.trans s9)
        have u9 : Stp p _ K9 := u6.trans (.of u6.q s79)
        have eF6 := u6.at (st02.at ef pF) pF
        rw [← List.map_append, ← List.eraseIdx_eq_take_drop_succ] at eM
        exact hN _ _ ⟨⟨hr', some 1, .it j⟩, M, rfl, rfl, u9, (fun z => by rw [z, (s7.trans s8) _ _ eF6] at nM; cases nM), (u6.q.same (s7.trans s8)).ne nM, eM, ⟨rfl, by omega, hfi⟩, (fun t e => by cases e; omega), .inr ⟨rfl, j, rfl⟩⟩
    obtain ⟨c, L', rfl, rfl, st5, lf', pl', el', hok, hct, hwc⟩ := h5
    have st05 := st02.trans st5
    have ef5 := st05.at ef pF
    have ec5 := st05.at ec pC
    have hAl := hA.1
    walk_at "go"
    refine ⟨.inl ⟨rfl, us, .inl (.inl ef5)⟩, ?_⟩
    walk_at "go"
    refine c_newT (by simp) fun tt K6 nt s6 et => ?_
    walk_at "go"
    refine c_app2 (s6 _ _ ef5) (by omega) ?_
    have hA7 : All2 (ChgAt K (upd K6 F (.lst (us ++ [.ref tt])))) (us ++ [.ref tt]) (cs ++ [c]) := chgs_mut (s6 _ _ ef5) (((chgs_stp st.q st05 hA).imp fun _ _ => ChgAt.mono s6).app (All2.one ⟨tt, rfl, .inl (.inl et)⟩))
    have st7 : Stp p H (upd K6 F (.lst (us ++ [.ref tt]))) := ((st.trans st05).trans (.of st5.q s6)).mut nFH pF
    have ec7 : upd K6 F (.lst (us ++ [.ref tt])) C = some (.lst (ns.map V.str)) := (upd_ne CF).trans (s6 _ _ ec5)
    have el7 : upd K6 F (.lst (us ++ [.ref tt])) L' = some (.lst ((aft z c).map V.str)) := (upd_ne lf').trans (s6 _ _ el')
    have hv7 : vld ns none (cs ++ [c]) := (vld_snoc c cs ns none).mpr ⟨hv, by rw [hz]; exact hok, fun x hx => fol_of hnn hx (by omega) hr3 hwc⟩
    have hle := end_le hb
    have hb7 : BdC ((i + 1) * (2 * g0 + 2)) (cs ++ [c]) := fun x hx => by
      rw [Nat.succ_mul]
      rcases List.mem_append.mp hx with hx | hx
      · obtain ⟨h1, h2⟩ := hb x hx
        exact ⟨by omega, fun t e => by have := h2 t e; omega⟩
      · obtain rfl : x = c := by simpa using hx
        exact ⟨by omega, fun t e => by have := hct t e; omega⟩
    have hl7 : (cs ++ [c]).length = i + 1 := by rw [List.length_append, hcl]; rfl
    walk_at "go"
    refine ⟨rfl, ?_⟩
    obtain ⟨ca, cn, cw⟩ := c
    cases cn with
    | none =>
      walk_at "go"
      refine c_brkE ?_
      refine fin _ _ _ (cs ++ [⟨ca, none, cw⟩]) _ rfl st7 ec7 upd_same hA7 hv7 (by omega) fun c hc => ?_
      obtain ⟨h1, h2⟩ := hb7 c hc
      have hm : (i + 1) * (2 * g0 + 2) ≤ k.toNat * (2 * g0 + 2) := Nat.mul_le_mul_right _ (by omega)
      exact ⟨by omega, fun t e => by have := h2 t e; omega⟩
    | some t =>
      rw [show nV (some t) = V.int (t : Int) from rfl]
      walk_at "go"
      refine ⟨us ++ [.ref tt], L', cs ++ [⟨ca, some t, cw⟩], some (.int (0 + (i : Int))), some (whV cw), some (.int (g : Int)), some (.int (t : Int)), ?_, st7, ec7, upd_same, by rw [aftA_snoc, hz]; exact el7, lf', pl', hA7, hv7, fun c hc => ?_, hl7, hb7⟩
      · rw [end_snoc]
        have e2 : bfV (cs ++ [⟨ca, some t, cw⟩]) = whV cw := by
          unfold bfV
          rw [List.getLast?_append]
          rfl
        rw [e2]
        rfl
      · rcases List.mem_append.mp hc with hc | hc
        · exact hnn c hc
        · obtain rfl : c = ⟨ca, some t, cw⟩ := by simpa using hc
          exact fun e => nomatch e
end
end Und
set_option exponentiation.threshold 2000
namespace Und
open PySem PySem.Spec PyProof.Rows L2
local macro_rules | `(tactic| walk_at "side") => `(tactic| first | decide | omega | exact ⟨by omega, by omega⟩ | (show (0 : Int) < _; omega) | (exact Or.inl ⟨by omega, by omega⟩) | (exact Or.inr ⟨by omega, by omega⟩) | (exact sz (by simp)) | (exact szl (by simp)))
local macro_rules | `(tactic| walk_at "u") => `(tactic| first
  | with_reducible refine c_seq ?_ | with_reducible refine c_next ?_ | with_reducible refine c_yes ?_ | with_reducible refine c_asg ?_ | with_reducible refine c_asg2 ?_ | with_reducible refine c_par ?_ | with_reducible refine c_two ?_ | with_reducible refine c_g ?_ | with_reducible refine c_gsub ?_ | with_reducible refine c_gcons ?_ | with_reducible refine c_gnil ?_ | with_reducible refine c_ret ?_ | with_reducible refine c_drop ?_
  | ((with_reducible refine c_var (v := ?v) ?h ?_); (case h => rfl)) | with_reducible refine c_c ?_ | with_reducible refine c_op ?_ | with_reducible refine c_un ?_ | with_reducible refine c_I0 ?_
  | ((with_reducible refine c_I ?h ?_); (case h => walk_at "side"))
  | ((with_reducible refine c_eq ?h ?_); (case h => rfl)) | ((with_reducible refine c_neq ?h ?_); (case h => rfl)) | with_reducible refine c_test ?_ | with_reducible refine c_B ?_ | with_reducible refine c_bl ?_ | with_reducible refine c_int ?_ | with_reducible refine c_ifs ?_ | with_reducible refine c_ife ?_
  | with_reducible refine c_andV ?_ | with_reducible refine c_orV ?_ | with_reducible refine c_notV ?_ | with_reducible refine c_and ?_ | with_reducible refine c_or ?_ | with_reducible refine c_not ?_
  | with_reducible refine c_call ?_ | with_reducible refine c_cb ?_ | with_reducible refine c_nil ?_ | with_reducible refine c_cons ?_
  | with_reducible refine c_tup ?_ | with_reducible refine c_lst ?_ | with_reducible refine c_sl ?_ | with_reducible refine c_nop ?_ | with_reducible refine c_part ?_ | with_reducible refine c_fld ?_
  | with_reducible refine c_for ?_ | with_reducible refine c_ilist ?_ | with_reducible refine c_itup ?_ | with_reducible refine c_irng1 ?_ | with_reducible refine c_lc ?_
  | with_reducible refine c_m1 ?_ | with_reducible refine c_isS ?_ | with_reducible refine c_chain ?_ | with_reducible refine c_str ?_ | with_reducible refine c_make ?_ | with_reducible refine c_meth ?_ | with_reducible refine c_prop ?_ | with_reducible refine c_sfld ?_ | with_reducible refine c_ienumT ?_ | with_reducible refine iteT ?_ | with_reducible refine iteF ?_ | with_reducible refine iteNT ?_ | with_reducible refine iteNF ?_
  | ((with_reducible refine iteDT ?h ?_); (case h => first | rfl | omega)) | ((with_reducible refine iteDF ?h ?_); (case h => first | omega | (intro z; cases z; done))) | ((with_reducible refine iteNDT ?h ?_); (case h => first | rfl | omega)) | ((with_reducible refine iteNDF ?h ?_); (case h => first | omega | (intro z; cases z; done))))
local macro_rules | `(tactic| walk_at "go") => `(tactic| repeat (walk_at "u"))
local macro_rules | `(tactic| walk_at "u") => `(tactic| first | with_reducible refine c_par3 ?_ | with_reducible refine c_three ?_ | with_reducible refine c_orT ?_ | with_reducible refine c_bm2 ?_)
theorem cutT (xs : List V) (k : Nat) : cutV xs none (some (k : Int)) = xs.take k := by
  by_cases h : k ≤ xs.length
  · exact cut_to xs k h
  · unfold cutV
    rw [HT.sIx_none, HT.sIx_nat, List.drop_zero, Nat.sub_zero, Nat.min_eq_right (by omega), List.take_of_length_le (Nat.le_refl _), List.take_of_length_le (by omega)]
theorem cutF (xs : List V) (k : Nat) : cutV xs (some (k : Int)) none = xs.drop k := by
  by_cases h : k ≤ xs.length
  · exact cut_from xs k h
  · unfold cutV
    rw [HT.sIx_none, HT.sIx_nat, Nat.min_eq_right (by omega), List.drop_of_length_le (Nat.le_refl _), List.drop_of_length_le (by omega)]
    simp
section
variable {P : Program} {w : World} {K : PySem.W.Frag} {mg : Str → Option Value} {base : Heap}
def spTold (K : PySem.W.Frag) : Sp := fun vs H Q _ => ∃ (D : Addr) (n : Nat) (ns : List Str) (u : Nat) (cs : List Chg), vs = [.ref D, .int (n : Int)] ∧ TblAt K H D ns u cs ∧ EOk ns u cs ∧ ∀ v H', Same H H' → TelAt K H' v (tel ns u cs n) → Q v H'
theorem len_stT {n : Nat} {s : Tel Str} {c : Chg} : (stT n s c).2.1.length ≤ s.2.1.length := by
  unfold stT
  split
  · exact Nat.le_refl _
  · exact Nat.le_refl _
  · split
    · exact List.length_eraseIdx_le _ _
    · exact Nat.le_refl _
theorem len_fold {n : Nat} : ∀ (cs : List Chg) (s : Tel Str), (cs.foldl (stT n) s).2.1.length ≤ s.2.1.length
  | [], _ => Nat.le_refl _
  | c :: cs, s => Nat.le_trans (len_fold cs (stT n s c)) len_stT
theorem ok_told (T : TX K mg) : FnOk P w K mg base CX0 1 T.f_law_told T.fd_law_told pTold (spTold K) := by
  refine T.d_law_told.F.ok scTold (fun vs H Q E h => ?_) (fun cdv A outer s H vs Q E hr h => ?_)
  · obtain ⟨D, n, ns, u, cs, rfl, _⟩ := h
    rfl
  · obtain ⟨D, n, ns, u, cs, rfl, ⟨tn, tc, us, eD, hN, hC, hA⟩, ok, q⟩ := h
    refine ⟨_, pss_cons (ps_par3 (i := 2) (j := 3) (l := 4) (by rfl) scTold.nd rfl rfl rfl (by decide) (by decide) (by decide) rfl rfl rfl (pa_cons (pe_callTy (callLstOf (K := K)) (by rfl) T.list (by decide +kernel) (pa_cons (pe_ix (ixL (K := K)) (pv 0) (pe_int) (fun _ _ => rfl)) pa_nil)) (pa_cons (pe_ix (ixL (K := K)) (pv 0) (pe_int) (fun _ _ => rfl)) (pa_cons (pv 1) pa_nil))) (by rfl))
      (pss_cons (ps_for PassesOwn.never rfl (piTup (K := K) (pe_ix (ixL (K := K)) (pv 0) (pe_int) (fun _ _ => rfl))) (pgTup (K := K) (n := 3) (by rfl) (pgs_cons (pg_name (i := 5) scTold.nd rfl (.inl rfl)) (pgs_cons (pg_name (i := 6) scTold.nd rfl (.inl rfl)) (pgs_cons (pg_name (i := 7) scTold.nd rfl (.inl rfl)) pgs_nil))))
        (pss_cons (ps_set (i := 8) scTold.nd rfl (.inl rfl) (pe_ifExp (pt_cmpR op_isN (pv 6) (pe_non) (nomark _)) (pe_callB (callMax2 rfl) (by rfl) T.max (by decide +kernel) (pa_cons (pe_int) (pa_cons (pe_op op_sub (pv 1) (pv 5)) pa_nil))) (pe_callB (callMax2 rfl) (by rfl) T.max (by decide +kernel) (pa_cons (pe_int) (pa_cons (pe_callB (callMin2 rfl) (by rfl) T.min (by decide +kernel) (pa_cons (pv 6) (pa_cons (pe_op op_sub (pv 1) (pv 5)) pa_nil))) pa_nil)))))
      (pss_one (ps_if (pt_cmpR op_eq (pv 7) (pe_str) (nomark _)) (pss_one (ps_set (i := 4) scTold.nd rfl (.inl rfl) (pe_op op_sub (pv 4) (pv 8)))) (pss_one (ps_if (pt_cmpR op_eq (pv 7) (pe_str) (nomark _)) (pss_one (ps_set (i := 3) scTold.nd rfl (.inl rfl) (pe_op op_add (pv 3) (pv 8)))) (pss_one (ps_if (pt_cmpR op_gt (pv 8) (pe_int) (nomark _)) (pss_one (ps_set (i := 2) scTold.nd rfl (.inl rfl) (pe_op op_cat (pe_slice (slL (K := K)) (pv 2) po_none (po_some (pv 7))) (pe_slice (slL (K := K)) (pv 2) (po_some (pe_op op_add (pv 7) (pe_int))) po_none)))) (pss_nil)))))))))
      (pss_one (ps_ret (pe_tup (pa_cons (pv 4) (pa_cons (pe_callTy (callTupOf (K := K)) (by rfl) T.tuple (by decide +kernel) (pa_cons (pv 2) pa_nil)) (pa_cons (pv 3) pa_nil))))))), ?_⟩
    have hul := hA.1
    have hnl := ok.nl
    walk_at "go"
    refine c_ixL (.inl (.inl eD)) 0 rfl rfl ?_
    walk_at "go"
    refine c_lstOfT hN fun L H1 nL s1 eL => ?_
    walk_at "go"
    refine c_ixL (.inl (.inl (s1 _ _ eD))) 1 rfl rfl ?_
    walk_at "go"
    refine c_ixL (.inl (.inl (s1 _ _ eD))) 2 rfl rfl ?_
    refine ⟨tc, rfl, ⟨_, same_seqT s1 hC⟩, ?_⟩
    refine for_tup (xs := us) (fun i σ H' => ∃ (k uu : Int) (M : Addr) (l : List Str) (y5 y6 y7 y8 : Option V), σ = [some (.ref D), some (.int (n : Int)), some (.ref M), some (.int uu), some (.int k), y5, y6, y7, y8] ∧ Same H H' ∧ H' M = some (.lst (l.map V.str)) ∧ (cs.take i).foldl (stT n) ((n : Int), ns, (u : Int)) = (k, l, uu))
      ⟨_, _, _, _, _, _, _, _, rfl, s1, eL, rfl⟩ (fun i σ H' _ h => ?_) (fun i v σ H' hv h => ?_) (fun σ H' h => ?_)
    · obtain ⟨_, _, _, _, _, _, _, _, rfl, sx, _⟩ := h
      exact same_seqT sx hC
    · obtain ⟨k, uu, M, l, y5, y6, y7, y8, rfl, sx, el, hf⟩ := h
      obtain ⟨⟨ca, cn, cw⟩, ec, x, rfl, hX0⟩ := hA.get hv
      have hft := foldl_take (f := stT n) (b := ((n : Int), ns, (u : Int))) ec
      have hlen := len_fold (n := n) (cs.take i) ((n : Int), ns, (u : Int))
      rw [hf] at hft hlen
      have hlen : l.length ≤ ns.length := hlen
      have hX : SqT K H' x [.int (ca : Int), nV cn, whV cw] := same_seqT sx hX0
      refine c_gtup hX rfl ?_
      refine c_gcons (c_g (c_gcons (c_g (c_gcons (c_g (c_gnil ?_))))))
      rw [hft]
      refine cut_seq (fun σ3 H3 => σ3 = [some (.ref D), some (.int (n : Int)), some (.ref M), some (.int uu), some (.int k), some (.int (ca : Int)), some (nV cn), some (whV cw), some (.int ((mny n (Chg.mk ca cn cw) : Nat) : Int))] ∧ H3 = H') (fun N hN => ?_) (fun σ3 H3 h3 => ?_)
      · walk_at "go"
        refine ⟨rfl, ?_⟩
        cases cn with
        | none =>
          walk_at "go"
          refine c_max2 ?_
          rw [show max (0 : Int) ((n : Int) - (ca : Int)) = ((n - ca : Nat) : Int) by omega]
          walk_at "go"
          exact hN _ _ ⟨rfl, rfl⟩
        | some t =>
          rw [show nV (some t) = V.int (t : Int) from rfl]
          walk_at "go"
          refine c_min2 ?_
          walk_at "go"
          refine c_max2 ?_
          rw [show max (0 : Int) (min (t : Int) ((n : Int) - (ca : Int))) = ((min t (n - ca) : Nat) : Int) by omega]
          walk_at "go"
          exact hN _ _ ⟨rfl, rfl⟩
      · obtain ⟨rfl, rfl⟩ := h3
        cases cw with
        | un =>
          walk_at "go"
          exact ⟨_, _, _, _, _, _, _, _, rfl, sx, el, rfl⟩
        | od =>
          walk_at "go"
          exact ⟨_, _, _, _, _, _, _, _, rfl, sx, el, rfl⟩
        | it j =>
          have hst : stT n (k, l, uu) ⟨ca, cn, .it j⟩ = if 0 < mny n ⟨ca, cn, .it j⟩ then (k, l.eraseIdx j, uu) else (k, l, uu) := rfl
          rw [hst, show whV (.it j) = V.int (j : Int) from rfl]
          walk_at "go"
          refine ite2 (fun e => ?_) (fun e => ?_)
          · have h1 : 0 < mny n ⟨ca, cn, .it j⟩ := by have := of_decide_eq_true e; omega
            rw [if_pos h1]
            walk_at "go"
            refine c_slL (.inl (.inl el)) fun A K7 nA s7 eA => ?_
            walk_at "go"
            refine c_slL (.inl (.inl (s7 _ _ el))) fun B K8 nB s8 eB => ?_
            rw [show (j : Int) + 1 = ((j + 1 : Nat) : Int) by omega, cutF, ← List.map_drop] at eB
            rw [cutT, ← List.map_take] at eA
            refine c_catF (s8 _ _ eA) eB (by rw [List.length_map, List.length_map, List.length_take, List.length_drop]; omega) fun M2 K9 nM s9 eM => ?_
            walk_at "go"
            rw [← List.map_append, ← List.eraseIdx_eq_take_drop_succ] at eM
            exact ⟨_, _, _, _, _, _, _, _, rfl, sx.trans (s7.trans (s8.trans s9)), eM, rfl⟩
          · have h1 : ¬ 0 < mny n ⟨ca, cn, .it j⟩ := fun z => e (decide_eq_true (by omega))
            rw [if_neg h1]
            walk_at "go"
            exact ⟨_, _, _, _, _, _, _, _, rfl, sx, el, rfl⟩
    · obtain ⟨k, uu, M, l, y5, y6, y7, y8, rfl, sx, el, hf⟩ := h
      walk_at "go"
      refine c_tupOfL (.inl (.inl el)) fun t H2 nt s2 et => ?_
      walk_at "go"
      refine c_newT (by simp) fun r H3 nr s3 er => ?_
      refine q _ _ (sx.trans (s2.trans s3)) ?_
      rw [List.take_of_length_le (by omega)] at hf
      show TelAt K H3 (.ref r) (cs.foldl (stT n) ((n : Int), ns, (u : Int)))
      rw [hf]
      exact ⟨r, t, rfl, .inl (.inl er), .inl (.inl (s3 _ _ et))⟩
end
end Und
set_option exponentiation.threshold 2000
namespace Und
open PySem PySem.Spec PyProof.Rows L2
local macro_rules | `(tactic| walk_at "side") => `(tactic| first | decide | omega | exact ⟨by omega, by omega⟩ | (show (0 : Int) < _; omega) | (exact Or.inl ⟨by omega, by omega⟩) | (exact Or.inr ⟨by omega, by omega⟩) | (exact sz (by simp)) | (exact szl (by simp)))
local macro_rules | `(tactic| walk_at "u") => `(tactic| first
  | with_reducible refine c_seq ?_ | with_reducible refine c_next ?_ | with_reducible refine c_yes ?_ | with_reducible refine c_asg ?_ | with_reducible refine c_asg2 ?_ | with_reducible refine c_par ?_ | with_reducible refine c_two ?_ | with_reducible refine c_g ?_ | with_reducible refine c_gsub ?_ | with_reducible refine c_gcons ?_ | with_reducible refine c_gnil ?_ | with_reducible refine c_ret ?_ | with_reducible refine c_drop ?_
  | ((with_reducible refine c_var (v := ?v) ?h ?_); (case h => rfl)) | with_reducible refine c_c ?_ | with_reducible refine c_op ?_ | with_reducible refine c_un ?_ | with_reducible refine c_I0 ?_
  | ((with_reducible refine c_I ?h ?_); (case h => walk_at "side"))
  | ((with_reducible refine c_eq ?h ?_); (case h => rfl)) | ((with_reducible refine c_neq ?h ?_); (case h => rfl)) | with_reducible refine c_test ?_ | with_reducible refine c_B ?_ | with_reducible refine c_bl ?_ | with_reducible refine c_int ?_ | with_reducible refine c_ifs ?_ | with_reducible refine c_ife ?_
  | with_reducible refine c_andV ?_ | with_reducible refine c_orV ?_ | with_reducible refine c_notV ?_ | with_reducible refine c_and ?_ | with_reducible refine c_or ?_ | with_reducible refine c_not ?_
  | with_reducible refine c_call ?_ | with_reducible refine c_cb ?_ | with_reducible refine c_nil ?_ | with_reducible refine c_cons ?_
  | with_reducible refine c_tup ?_ | with_reducible refine c_lst ?_ | with_reducible refine c_sl ?_ | with_reducible refine c_nop ?_ | with_reducible refine c_part ?_ | with_reducible refine c_fld ?_
  | with_reducible refine c_for ?_ | with_reducible refine c_ilist ?_ | with_reducible refine c_itup ?_ | with_reducible refine c_irng1 ?_ | with_reducible refine c_lc ?_
  | with_reducible refine c_m1 ?_ | with_reducible refine c_isS ?_ | with_reducible refine c_chain ?_ | with_reducible refine c_str ?_ | with_reducible refine c_make ?_ | with_reducible refine c_meth ?_ | with_reducible refine c_prop ?_ | with_reducible refine c_sfld ?_ | with_reducible refine c_ienumT ?_ | with_reducible refine iteT ?_ | with_reducible refine iteF ?_ | with_reducible refine iteNT ?_ | with_reducible refine iteNF ?_
  | ((with_reducible refine iteDT ?h ?_); (case h => first | rfl | omega)) | ((with_reducible refine iteDF ?h ?_); (case h => first | omega | (intro z; cases z; done))) | ((with_reducible refine iteNDT ?h ?_); (case h => first | rfl | omega)) | ((with_reducible refine iteNDF ?h ?_); (case h => first | omega | (intro z; cases z; done))))
local macro_rules | `(tactic| walk_at "go") => `(tactic| repeat (walk_at "u"))
local macro_rules | `(tactic| walk_at "u") => `(tactic| first | with_reducible refine c_par3 ?_ | with_reducible refine c_three ?_ | with_reducible refine c_orT ?_ | with_reducible refine c_bm2 ?_)
/-! ### changes as data -/
def dNv : Option Nat → PyData
  | none => .none
  | some t => .int (t : Int)
def dWh : Wh → PyData
  | .un => .str "undone"
  | .od => .str "old"
  | .it i => .int (i : Int)
def dChg (c : Chg) : PyData := .tuple [.int (c.a : Int), dNv c.n, dWh c.w]
def dChgs (cs : List Chg) : PyData := .tuple (cs.map dChg)
section
variable {P : Program} {w : World} {K : PySem.W.Frag} {mg : Str → Option Value} {base : Heap}
theorem dp_chg {H : Hp} {v : V} {c : Chg} (h : ChgAt K H v c) : Dp K H v (dChg c) := by
  obtain ⟨a, rfl, h⟩ := h
  refine .tup h (.cons (.int _) (.cons ?_ (.cons ?_ .nil)))
  · cases c.n with
    | none => exact .non
    | some t => exact .int _
  · cases c.w with
    | un => exact .str _
    | od => exact .str _
    | it i => exact .int _
theorem dpAll_chgs {H : Hp} : ∀ {us : List V} {cs : List Chg}, All2 (ChgAt K H) us cs → DpAll K H us (cs.map dChg)
  | [], cs, h => by
    obtain rfl : cs = [] := List.length_eq_zero_iff.mp h.1.symm
    exact .nil
  | v :: us, [], h => by cases h.1
  | v :: us, c :: cs, h => .cons (dp_chg (h.2 0 _ _ rfl rfl)) (dpAll_chgs ⟨by simpa using h.1, fun i x y a b => h.2 (i + 1) x y a b⟩)
theorem dp_chgs {H : Hp} {t : Addr} {us : List V} {cs : List Chg} (hC : SqT K H t us) (hA : All2 (ChgAt K H) us cs) : Dp K H (.ref t) (dChgs cs) := .tup hC (dpAll_chgs hA)
theorem dok_chg (c : Chg) : DOk (dChg c) 1 := by
  refine (dok_list (n := 0) (ds := [.int (c.a : Int), dNv c.n, dWh c.w]) fun d hd => ?_).2
  rcases List.mem_cons.mp hd with rfl | hd
  · exact ⟨by simp [PyData.canLay0], by simp [PyData.depth]⟩
  rcases List.mem_cons.mp hd with rfl | hd
  · cases c.n with
    | none => exact ⟨by simp [dNv, PyData.canLay0], by simp [dNv, PyData.depth]⟩
    | some t => exact ⟨by simp [dNv, PyData.canLay0], by simp [dNv, PyData.depth]⟩
  · obtain rfl : d = dWh c.w := by simpa using hd
    cases c.w with
    | un => exact ⟨by decide +kernel, by simp [dWh, PyData.depth]⟩
    | od => exact ⟨by decide +kernel, by simp [dWh, PyData.depth]⟩
    | it i => exact ⟨by simp [dWh, PyData.canLay0], by simp [dWh, PyData.depth]⟩
theorem dok_chgs (cs : List Chg) : DOk (dChgs cs) 2 := (dok_list (n := 1) fun d hd => by
  obtain ⟨c, _, rfl⟩ := List.mem_map.mp hd
  exact dok_chg c).2
theorem eqv_chgs0 (cs : List Chg) : PyData.eqv (dChgs cs) (dChgs []) = decide (cs = []) := by
  cases cs with
  | nil =>
    rw [eqv_same _ (dok_chgs []).lay]
    rfl
  | cons c cs =>
    rw [decide_eq_false (by simp)]
    rfl
theorem TblAt.sub {H : Hp} {D : Addr} {ns : List Str} {u : Nat} {cs : List Chg} (h : TblAt K H D ns u cs) : ∃ tn tc us, H D = some (.lst [.ref tn, .int (u : Int), .ref tc]) ∧ SqT K H tn (ns.map V.str) ∧ SqT K H tc us ∧ All2 (ChgAt K H) us cs := h.ob
end
end Und
set_option exponentiation.threshold 2000
namespace Und
open PySem PySem.Spec PyProof.Rows L2
/-! ### what an effect tells, as data -/
def dTel (s : Tel Str) : PyData := .tuple [.int s.1, dNames s.2.1, .int s.2.2]
structure TelOk (s : Tel Str) : Prop where
  k : 0 ≤ s.1 ∧ s.1 < 10 ^ 500
  u : 0 ≤ s.2.2 ∧ s.2.2 < 10 ^ 500
  nm : ∀ z ∈ s.2.1, IsName z
  nl : s.2.1.length ≤ 1000
section
variable {K : PySem.W.Frag}
theorem dp_tel {H : Hp} {v : V} {s : Tel Str} (h : TelAt K H v s) : Dp K H v (dTel s) := by
  obtain ⟨a, b, rfl, h1, h2⟩ := h
  exact .tup h1 (.cons (.int _) (.cons (dp_names h2) (.cons (.int _) .nil)))
theorem dok_tel {s : Tel Str} (h : TelOk s) : DOk (dTel s) 2 := by
  refine (dok_list (n := 1) fun d hd => ?_).2
  rcases List.mem_cons.mp hd with rfl | hd
  · exact ⟨by simp [PyData.canLay0], by simp [PyData.depth]⟩
  · rcases List.mem_cons.mp hd with rfl | hd
    · exact dok_names fun z hz => (h.nm z hz).low
    · have : d = .int s.2.2 := by simpa using hd
      rw [this]
      exact ⟨by simp [PyData.canLay0], by simp [PyData.depth]⟩
theorem lt510 {i : Int} (h : i < 10 ^ 500) : i < 10 ^ 510 := Int.lt_of_lt_of_le h (by decide +kernel)
theorem shw_tel {s : Tel Str} (h : TelOk s) : Shw (dTel s) 300000 := by
  have hnm : Shw (dNames s.2.1) 84003 := by
    have h0 := shw_tuple (ds := s.2.1.map PyData.str) (n := 82) fun d hd => by
      obtain ⟨z, hz, rfl⟩ := List.mem_map.mp hd
      exact shw_name (h.nm z hz)
    refine h0.mono ?_
    rw [List.length_map]
    have := h.nl
    omega
  refine (shw_tuple (n := 84003) fun d hd => ?_).mono (by simp)
  rcases List.mem_cons.mp hd with rfl | hd
  · exact (shw_int h.k.1 (lt510 h.k.2)).mono (by decide)
  · rcases List.mem_cons.mp hd with rfl | hd
    · exact hnm
    · have : d = .int s.2.2 := by simpa using hd
      rw [this]
      exact (shw_int h.u.1 (lt510 h.u.2)).mono (by decide)
theorem telOk_of {ns : List Str} {u n : Nat} {cs : List Chg} (ok : EOk ns u cs) (hn : n ≤ 10 ^ 60) : TelOk (tel ns u cs n) := by
  obtain ⟨h1, h2, h3, h4⟩ := tel_rng (u := u) ok.vd n
  have hu := ok.ul
  have hl := ok.nl
  have hb : ((10 ^ 60 + 1000 : Nat) : Int) < (10 : Int) ^ 500 := by decide +kernel
  have hlen := len_fold (n := n) cs ((n : Int), ns, (u : Int))
  have hlen : (tel ns u cs n).2.1.length ≤ ns.length := hlen
  generalize (10 : Int) ^ 500 = B at *
  generalize hc : (10 : Nat) ^ 60 = C at *
  exact ⟨⟨h1, by omega⟩, ⟨h3, by omega⟩, fun z hz => ok.nm z (tel_mem cs _ z hz), by omega⟩
theorem dok_two {d : PyData} {n : Nat} (h : DOk d n) : DOk (.list [d, d]) (n + 1) := (dok_list (n := n) fun x hx => by
  simp only [List.mem_cons, List.not_mem_nil, or_false] at hx
  rcases hx with rfl | rfl <;> exact h).1
theorem dp_two {H : Hp} {a : Addr} {v u : V} {d e : PyData} (e1 : H a = some (.lst [v, u])) (h1 : Dp K H v d) (h2 : Dp K H u e) : Dp K H (.ref a) (.list [d, e]) := .lst (.inl (.inl e1)) (.cons h1 (.cons h2 .nil))
theorem shw_two {d : PyData} (h : Shw d 300000) : Shw (.list [d, d]) 700000 := (shw_list (n := 300000) fun x hx => by
  simp only [List.mem_cons, List.not_mem_nil, or_false] at hx
  rcases hx with rfl | rfl <;> exact h).mono (by simp)
theorem wdS_name (x : Wd) : IsName (wdS x) := by cases x <;> exact name_of (by decide +kernel)
theorem wdS_inj {x y : Wd} (h : wdS x = wdS y) : x = y := by
  cases x <;> cases y <;> first | rfl | (revert h; decide +kernel)
theorem scal_wd (x y : Wd) : scal (.str (wdS x)) (.str (wdS y)) = true := rfl
/-! ### calls of an effect's own -/
variable {C a : Addr} {ns : List Str} {u : Nat} {cs : List Chg} {H : Hp} {Q : VK} {E : XK}
theorem c_eget {n : Nat} (h : EffAt K C H a ns u cs) (ok : EOk ns u cs) (q : ∀ v H', Same H H' → TelAt K H' v (tel ns u cs n) → Q v H') : rItO C (spEGet K C) E (.ref a) (.int (n : Int)) H Q := by
  obtain ⟨dx, tn, tc, us, e, _⟩ := h.ob
  exact c_ixO e ⟨a, n, ns, u, cs, rfl, h, ok, q⟩
theorem recvE {R : Prop} {m : Str} (h : EffAt K C H a ns u cs) (h1 : ¬ m = "new_names") (h2 : ¬ m = "undone_count") (h3 : ¬ m = "changes") (q : R) : ∃ a' dx fs', V.ref a = .ref a' ∧ H a' = some (.ins C dx fs') ∧ fs'.lookup m = none ∧ R := by
  obtain ⟨dx, tn, tc, us, e, _⟩ := h.ob
  exact ⟨a, dx, _, rfl, e, eflds_no _ _ _ h1 h2 h3, q⟩
theorem recvEK {R : Addr → Prop} {m : Str} (h : EffAt K C H a ns u cs) (h1 : ¬ m = "new_names") (h2 : ¬ m = "undone_count") (h3 : ¬ m = "changes") (q : R a) : ∃ a' dx fs', V.ref a = .ref a' ∧ H a' = some (.ins C dx fs') ∧ fs'.lookup m = none ∧ R a' := by
  obtain ⟨dx, tn, tc, us, e, _⟩ := h.ob
  exact ⟨a, dx, _, rfl, e, eflds_no _ _ _ h1 h2 h3, q⟩
theorem w_w : ¬ ("word" : Str) = "new_names" ∧ ¬ ("word" : Str) = "undone_count" ∧ ¬ ("word" : Str) = "changes" := by decide +kernel
theorem c_echg (c : Cls K C) (n : NoAttr K C "changes") (h : EffAt K C H a ns u cs) (q : ∀ tc us, SqT K H tc us → All2 (ChgAt K H) us cs → Q (.ref tc) H) : rFld K "changes" (.ref a) H Q := by
  obtain ⟨dx, tn, tc, us, e, _, h2, h3⟩ := h.ob
  exact ⟨a, C, dx, _, _, rfl, e, c, n, eflds_c _ _ _, q tc us h2 h3⟩
end
end Und
/-! the text of a history -/
namespace Und
open PySem
theorem txt_join (z : Str) (xs : List Str) : Txt.join z xs = Str.join z xs := PySem.StrLaws.glued_eq_join z xs
theorem join_all {p : Nat → Prop} {z : Str} (hz : ∀ c ∈ z.cps.toList, p c) : ∀ xs : List Str, (∀ x ∈ xs, ∀ c ∈ x.cps.toList, p c) → ∀ c ∈ (Str.join z xs).cps.toList, p c
  | [], _, c, hc => by cases hc
  | [x], h, c, hc => h x List.mem_cons_self c hc
  | x :: y :: r, h, c, hc => by
    change c ∈ (x ++ z ++ Str.join z (y :: r)).cps.toList at hc
    rw [PySem.Str.cps_append, Array.toList_append, PySem.Str.cps_append, Array.toList_append] at hc
    rcases List.mem_append.mp hc with hc | hc
    · rcases List.mem_append.mp hc with hc | hc
      · exact h x List.mem_cons_self c hc
      · exact hz c hc
    · exact join_all hz (y :: r) (fun t ht => h t (List.mem_cons_of_mem _ ht)) c hc
theorem join_mem {z : Str} : ∀ (xs : List Str) (x : Str) (c : Nat), x ∈ xs → c ∈ x.cps.toList → c ∈ (Str.join z xs).cps.toList
  | [y], x, c, hx, hc => by
    rw [List.mem_singleton.mp hx] at hc
    exact hc
  | y :: y2 :: r, x, c, hx, hc => by
    show c ∈ (y ++ z ++ Str.join z (y2 :: r)).cps.toList
    rw [PySem.Str.cps_append, Array.toList_append, PySem.Str.cps_append, Array.toList_append]
    rcases List.mem_cons.mp hx with rfl | hx
    · exact List.mem_append_left _ (List.mem_append_left _ hc)
    · exact List.mem_append_right _ (join_mem (y2 :: r) x c hx hc)
def hTx (ps fs : List Str) : Str := Txt.join " " (ps ++ [Str.ofString "|"] ++ fs)
theorem sml_hTx {ps fs : List Str} (h : ∀ z ∈ ps, IsName z) (g : ∀ z ∈ fs, IsName z) : Sml (hTx ps fs) := by
  unfold hTx
  rw [txt_join]
  refine join_all (p := fun c => c < 128) (fun c hc => ?_) _ (fun x hx => ?_)
  · have e : ((" " : Str)).cps.toList = [32] := by decide +kernel
    rw [e] at hc
    rw [List.mem_singleton.mp hc]
    decide
  · rcases List.mem_append.mp hx with hx | hx
    · rcases List.mem_append.mp hx with hx | hx
      · intro c hc
        have := (h x hx).low c hc
        omega
      · rw [List.mem_singleton.mp hx]
        exact sml_of (by decide +kernel)
    · intro c hc
      have := (g x hx).low c hc
      omega
/-- such a text is no name -/
theorem hTx_bar (ps fs : List Str) : (Txt.isascii (hTx ps fs) && (Txt.isalpha (hTx ps fs) && Txt.islower (hTx ps fs))) = false := by
  have hm : 124 ∈ (hTx ps fs).cps.toList := by
    unfold hTx
    rw [txt_join]
    refine join_mem _ (Str.ofString "|") 124 (by simp) ?_
    have e : (Str.ofString "|").cps.toList = [124] := by decide +kernel
    rw [e]
    exact List.mem_singleton.mpr rfl
  have ha : Txt.isalpha (hTx ps fs) = false := by
    cases e : Txt.isalpha (hTx ps fs) with
    | false => rfl
    | true =>
      unfold Txt.isalpha at e
      rw [Bool.and_eq_true, ← Array.all_toList, List.all_eq_true] at e
      have := e.2 124 hm
      exact absurd this (by decide +kernel)
  rw [ha, Bool.false_and, Bool.and_false]
def hRp (m n : Nat) : Str := Str.ofString "History(" ++ nt m ++ Str.ofString ", " ++ nt n ++ Str.ofString ")"
theorem sml_hRp (m n : Nat) : Sml (hRp m n) := Sml.app (Sml.app (Sml.app (Sml.app (sml_of (by decide +kernel)) (sml_nt (by omega))) (sml_of (by decide +kernel))) (sml_nt (by omega))) (sml_of (by decide +kernel))
end Und
/-! rows of a table -/
namespace Und
open PySem PySem.Spec PyProof.Rows L2
theorem str_of_codes {x y : Str} (h : x.cps.toList = y.cps.toList) : x = y := by
  cases x
  cases y
  have h : _ = _ := h
  exact congrArg _ (Array.toList_inj.mp h)
theorem codes_app (x y : Str) : (x ++ y).cps.toList = x.cps.toList ++ y.cps.toList := by
  show (x.cps ++ y.cps).toList = _
  rw [Array.toList_append]
def numS (n : Nat) : Str := Str.ofString (toString ((n : Nat) : Int))
theorem numS_codes (n : Nat) : (numS n).cps.toList = digs (n : Int) := by
  have h := PyProof.Rows.text_ofNat n
  have e : numS n = ⟨((Nat.toDigits 10 n).map Char.toNat).toArray⟩ := h
  rw [e]
  rfl
theorem numS_len (n : Nat) : (numS n).length = (digs (n : Int)).length := by rw [← len_codes, numS_codes]
theorem mul_sp (n : Nat) : (Txt.mul (Str.ofString " ") (n : Int)).cps.toList = List.replicate n 32 := by
  have e : Str.ofString " " = ⟨#[32]⟩ := by decide +kernel
  rw [e]
  by_cases h : 1 ≤ n
  · exact mul_one_codes 32 n h
  · have : n = 0 := by omega
    subst this
    decide +kernel
theorem col_txt (n : Nat) : Txt.mul (Str.ofString " ") ((8 - (digs (n : Int)).length : Nat) : Int) ++ numS n = txt8 (n : Int) := by
  apply str_of_codes
  rw [codes_app, mul_sp, numS_codes]
  unfold txt8
  rfl
def Asc (x : Str) : Prop := ∀ c ∈ x.cps.toList, c < 128
theorem Asc.app {x y : Str} (h : Asc x) (g : Asc y) : Asc (x ++ y) := fun c hc => by
  rw [codes_app] at hc
  rcases List.mem_append.mp hc with hc | hc
  · exact h c hc
  · exact g c hc
theorem asc_ok {x : Str} (h : Asc x) : PyData.strOk x = true := by
  unfold PyData.strOk
  rw [Array.all_eq_true_iff_forall_mem]
  intro c hc
  have := h c (by simpa using hc)
  exact decide_eq_true (by omega)
theorem digs_asc (a : Int) : ∀ c ∈ digs a, c < 128 := fun c hc => by
  unfold digs at hc
  obtain ⟨d, hd, rfl⟩ := List.mem_map.mp hc
  have h := Nat.isDigit_of_mem_toDigits (by decide) (by decide) hd
  have h2 : d.toNat ≤ 57 := by
    have := h
    unfold Char.isDigit at this
    simp at this
    exact this.2
  omega
theorem txt8_asc (a : Int) : Asc (txt8 a) := fun c hc => by
  have hc : c ∈ List.replicate (8 - (digs a).length) 32 ++ digs a := hc
  rcases List.mem_append.mp hc with hc | hc
  · rw [List.eq_of_mem_replicate hc]
    decide
  · exact digs_asc a c hc
theorem txt8_len {a : Int} (h0 : 0 ≤ a) (hb : a < 10 ^ 510) : (txt8 a).length ≤ 600 := by
  rw [← len_codes]
  show (List.replicate (8 - (digs a).length) 32 ++ digs a).length ≤ 600
  have := digs_len h0 hb
  simp
  omega
theorem asc_join {z : Str} (hz : Asc z) : ∀ xs : List Str, (∀ x ∈ xs, Asc x) → Asc (Txt.join z xs) := fun xs h => by
  rw [txt_join]
  induction xs with
  | nil => exact fun c hc => nomatch hc
  | cons x xs ih =>
    cases xs with
    | nil => exact h x List.mem_cons_self
    | cons y ys => exact ((h x List.mem_cons_self).app hz).app (ih fun a ha => h a (List.mem_cons_of_mem _ ha))
theorem len_join {B : Nat} {z : Str} (xs : List Str) (h : ∀ x ∈ xs, x.length ≤ B) : (Txt.join z xs).length ≤ (B + z.length) * xs.length := by
  rw [txt_join]
  induction xs with
  | nil => exact Nat.zero_le _
  | cons x xs ih =>
    have hx := h x List.mem_cons_self
    cases xs with
    | nil =>
      show x.length ≤ (B + z.length) * 1
      omega
    | cons y ys =>
      have h2 := ih fun a ha => h a (List.mem_cons_of_mem _ ha)
      show (x ++ z ++ Str.join z (y :: ys)).length ≤ _
      rw [PySem.Str.length_append, PySem.Str.length_append, List.length_cons, Nat.mul_succ]
      omega
theorem name_asc {z : Str} (h : IsName z) : Asc z := fun c hc => by
  have := h.low c hc
  omega
/-- the names of the new items -/
def nmT (l : List Str) : Str := if l = [] then "-" else Txt.join " " l
/-- a line of a table -/
def rowT (n : Nat) (k : Int) (l : List Str) (u : Int) : Str := txt8 (n : Int) ++ txt8 k ++ txt8 u ++ Str.ofString "  " ++ nmT l
theorem asc_lit {x : Str} (h : x.cps.toList.all (fun c => decide (c < 128)) = true) : Asc x := fun c hc => of_decide_eq_true (List.all_eq_true.mp h c hc)
theorem nmT_asc {l : List Str} (h : ∀ z ∈ l, IsName z) : Asc (nmT l) := by
  unfold nmT
  split
  · exact asc_lit (by decide +kernel)
  · exact asc_join (asc_lit (by decide +kernel)) l fun x hx => name_asc (h x hx)
theorem nmT_len {l : List Str} (h : ∀ z ∈ l, IsName z) (hl : l.length ≤ 1000) : (nmT l).length ≤ 9000 := by
  unfold nmT
  split
  · decide +kernel
  · have := len_join (B := 8) (z := Str.ofString " ") l fun x hx => (h x hx).hi
    have e : (Str.ofString " ").length = 1 := rfl
    rw [e] at this
    omega
theorem rowT_asc {n : Nat} {k u : Int} {l : List Str} (h : ∀ z ∈ l, IsName z) : Asc (rowT n k l u) := ((((txt8_asc _).app (txt8_asc _)).app (txt8_asc _)).app (asc_lit (by decide +kernel))).app (nmT_asc h)
structure RowOk (n : Nat) (k : Int) (l : List Str) (u : Int) : Prop where
  n : (n : Int) < 10 ^ 510
  k : 0 ≤ k ∧ k < 10 ^ 510
  u : 0 ≤ u ∧ u < 10 ^ 510
  nm : ∀ z ∈ l, IsName z
  nl : l.length ≤ 1000
theorem rowT_len {n : Nat} {k u : Int} {l : List Str} (h : RowOk n k l u) : (rowT n k l u).length ≤ 11000 := by
  have h1 := txt8_len (Int.natCast_nonneg n) h.n
  have h2 := txt8_len h.k.1 h.k.2
  have h3 := txt8_len h.u.1 h.u.2
  have h4 := nmT_len h.nm h.nl
  have e : (Str.ofString "  ").length = 2 := rfl
  unfold rowT
  rw [PySem.Str.length_append, PySem.Str.length_append, PySem.Str.length_append, PySem.Str.length_append, e]
  omega
end Und
set_option exponentiation.threshold 2000
namespace Und
open PySem PySem.Spec PyProof.Rows L2
local macro_rules | `(tactic| walk_at "side") => `(tactic| first | decide | omega | exact ⟨by omega, by omega⟩ | (show (0 : Int) < _; omega) | (exact Or.inl ⟨by omega, by omega⟩) | (exact Or.inr ⟨by omega, by omega⟩) | (exact sz (by simp)) | (exact szl (by simp)))
local macro_rules | `(tactic| walk_at "u") => `(tactic| first
  | with_reducible refine c_seq ?_ | with_reducible refine c_next ?_ | with_reducible refine c_yes ?_ | with_reducible refine c_asg ?_ | with_reducible refine c_asg2 ?_ | with_reducible refine c_par ?_ | with_reducible refine c_two ?_ | with_reducible refine c_g ?_ | with_reducible refine c_gsub ?_ | with_reducible refine c_gcons ?_ | with_reducible refine c_gnil ?_ | with_reducible refine c_ret ?_ | with_reducible refine c_drop ?_
  | ((with_reducible refine c_var (v := ?v) ?h ?_); (case h => rfl)) | with_reducible refine c_c ?_ | with_reducible refine c_op ?_ | with_reducible refine c_un ?_ | with_reducible refine c_I0 ?_
  | ((with_reducible refine c_I ?h ?_); (case h => walk_at "side"))
  | ((with_reducible refine c_eq ?h ?_); (case h => rfl)) | ((with_reducible refine c_neq ?h ?_); (case h => rfl)) | with_reducible refine c_test ?_ | with_reducible refine c_B ?_ | with_reducible refine c_bl ?_ | with_reducible refine c_int ?_ | with_reducible refine c_ifs ?_ | with_reducible refine c_ife ?_
  | with_reducible refine c_andV ?_ | with_reducible refine c_orV ?_ | with_reducible refine c_notV ?_ | with_reducible refine c_and ?_ | with_reducible refine c_or ?_ | with_reducible refine c_not ?_
  | with_reducible refine c_call ?_ | with_reducible refine c_cb ?_ | with_reducible refine c_nil ?_ | with_reducible refine c_cons ?_
  | with_reducible refine c_tup ?_ | with_reducible refine c_lst ?_ | with_reducible refine c_sl ?_ | with_reducible refine c_nop ?_ | with_reducible refine c_part ?_ | with_reducible refine c_fld ?_
  | with_reducible refine c_for ?_ | with_reducible refine c_ilist ?_ | with_reducible refine c_itup ?_ | with_reducible refine c_irng1 ?_ | with_reducible refine c_lc ?_
  | with_reducible refine c_m1 ?_ | with_reducible refine c_isS ?_ | with_reducible refine c_chain ?_ | with_reducible refine c_str ?_ | with_reducible refine c_make ?_ | with_reducible refine c_meth ?_ | with_reducible refine c_prop ?_ | with_reducible refine c_sfld ?_ | with_reducible refine c_ienumT ?_ | with_reducible refine iteT ?_ | with_reducible refine iteF ?_ | with_reducible refine iteNT ?_ | with_reducible refine iteNF ?_
  | ((with_reducible refine iteDT ?h ?_); (case h => first | rfl | omega)) | ((with_reducible refine iteDF ?h ?_); (case h => first | omega | (intro z; cases z; done))) | ((with_reducible refine iteNDT ?h ?_); (case h => first | rfl | omega)) | ((with_reducible refine iteNDF ?h ?_); (case h => first | omega | (intro z; cases z; done))))
local macro_rules | `(tactic| walk_at "go") => `(tactic| repeat (walk_at "u"))
local macro_rules | `(tactic| walk_at "u") => `(tactic| first | with_reducible refine c_par3 ?_ | with_reducible refine c_three ?_ | with_reducible refine c_orT ?_ | with_reducible refine c_bm2 ?_ | with_reducible refine c_jsE ?_ | with_reducible refine c_js ?_ | with_reducible refine c_js0 ?_ | with_reducible refine c_fmt ?_ | with_reducible refine c_fmt8 ?_ | with_reducible refine c_meth ?_)
def spLaw (K : PySem.W.Frag) : Sp := fun vs H Q _ => ∃ (a : Addr) (ns : List Int), vs = [.ref a] ∧ SqL K H a (ns.map V.int) ∧ ns.length ≤ 63 ∧ ∀ H', Q (.bl true) H'
/-! ### tables -/
def rowS (ns : List Str) (u : Nat) (cs : List Chg) (n : Nat) : Str := rowT n (tel ns u cs n).1 (tel ns u cs n).2.1 (tel ns u cs n).2.2
def tabT (ns : List Str) (u : Nat) (cs : List Chg) (zs : List Nat) : Str := Txt.join "\n" (zs.map (rowS ns u cs))
theorem rowOk_of {ns : List Str} {u n : Nat} {cs : List Chg} (ok : EOk ns u cs) (hn : n ≤ 10 ^ 60) : RowOk n (tel ns u cs n).1 (tel ns u cs n).2.1 (tel ns u cs n).2.2 := by
  have h := telOk_of ok hn
  refine ⟨?_, ⟨h.k.1, lt510 h.k.2⟩, ⟨h.u.1, lt510 h.u.2⟩, h.nm, h.nl⟩
  have hb : ((10 ^ 60 : Nat) : Int) < (10 : Int) ^ 510 := by decide +kernel
  omega
theorem tab_asc {ns : List Str} {u : Nat} {cs : List Chg} (ok : EOk ns u cs) {zs : List Nat} (hz : ∀ z ∈ zs, z ≤ 10 ^ 60) : Asc (tabT ns u cs zs) := asc_join (asc_lit (by decide +kernel)) _ fun x hx => by
  obtain ⟨n, hn, rfl⟩ := List.mem_map.mp hx
  exact rowT_asc (rowOk_of ok (hz n hn)).nm
theorem sum_map_le {B : Nat} : ∀ xs : List Str, (∀ x ∈ xs, x.length ≤ B) → (xs.map (·.length)).sum ≤ B * xs.length
  | [], _ => Nat.le_refl _
  | x :: xs, h => by
    have h1 := h x List.mem_cons_self
    have h2 := sum_map_le xs fun y hy => h y (List.mem_cons_of_mem _ hy)
    rw [List.map_cons, List.sum_cons, List.length_cons, Nat.mul_succ]
    omega
theorem nms_sum {l : List Str} (h : ∀ z ∈ l, IsName z) (hl : l.length ≤ 1000) : (l.map (·.length)).sum + l.length * (Str.ofString " ").length ≤ 16777216 := by
  have h1 := sum_map_le l fun x hx => (h x hx).hi
  have e : (Str.ofString " ").length = 1 := rfl
  rw [e]
  omega
theorem rows_sum {ns : List Str} {u : Nat} {cs : List Chg} (ok : EOk ns u cs) {zs : List Nat} (hz : ∀ z ∈ zs, z ≤ 10 ^ 60) (hl : zs.length ≤ 100) : ((zs.map (rowS ns u cs)).map (·.length)).sum + (zs.map (rowS ns u cs)).length * (Str.ofString "\n").length ≤ 16777216 := by
  have h1 := sum_map_le (B := 11000) (zs.map (rowS ns u cs)) fun x hx => by
    obtain ⟨n, hn, rfl⟩ := List.mem_map.mp hx
    exact rowT_len (rowOk_of ok (hz n hn))
  have e : (Str.ofString "\n").length = 1 := rfl
  rw [e]
  rw [List.length_map] at *
  omega
theorem emp_app (x : Str) : Str.empty ++ x = x := str_of_codes (by rw [codes_app]; rfl)
section
variable {P : Program} {w : World} {K : PySem.W.Frag} {mg : Str → Option Value} {base : Heap}
def spTab (K : PySem.W.Frag) (C : Addr) : Sp := fun vs H Q _ => ∃ (a t : Addr) (ns : List Str) (u : Nat) (cs : List Chg) (zs : List Nat), vs = [.ref a, .ref t] ∧ EffAt K C H a ns u cs ∧ EOk ns u cs ∧ SqT K H t (natI zs) ∧ zs.length ≤ 100 ∧ (∀ z ∈ zs, z ≤ 10 ^ 60) ∧ ∀ H', Same H H' → Q (.str (tabT ns u cs zs)) H'
theorem natV_at {zs : List Nat} {i : Nat} {v : V} (h : (natI zs)[i]? = some v) : ∃ z : Nat, v = .int (z : Int) ∧ zs[i]? = some z := by
  unfold natI at h
  rw [List.getElem?_map] at h
  cases e : zs[i]? with
  | none =>
    rw [e] at h
    cases h
  | some z =>
    rw [e] at h
    exact ⟨z, (Option.some.inj h).symm, rfl⟩
theorem take_map {β : Type} {zs : List Nat} {f : Nat → β} {i z : Nat} (e : zs[i]? = some z) : (zs.take (i + 1)).map f = (zs.take i).map f ++ [f z] := by
  obtain ⟨hi, rfl⟩ := List.getElem?_eq_some_iff.mp e
  rw [List.take_add_one, List.getElem?_eq_getElem hi]
  show ((zs.take i) ++ [zs[i]]).map f = _
  rw [List.map_append]
  rfl
theorem ok_etab (T : TX K mg) : FnR P w K mg base CX0 5 T.f_Effect_table (spStar 1 (spTab K T.C_Effect)) := by
  have G_Effect_getitem := ok_eget (P := P) (w := w) (base := base) T
  refine T.F_Effect_table.ok scETab (fun cdv A outer s H vs Q E hr h => ?_)
  obtain ⟨a, t, ns, u, cs, zs, rfl, hE, ok, hT, hzl, hz, q⟩ := h
  refine ⟨_, pss_cons (ps_set (i := 2) scETab.nd rfl (.inl rfl) (pe_lst (pa_nil)))
      (pss_cons (ps_for PassesOwn.never rfl (piTup (K := K) (pv 1)) (pg_name (i := 3) scETab.nd rfl (.inl rfl))
        (pss_cons (ps_asg (peIxO T.it_Effect G_Effect_getitem (hr.mono (by decide)) T.b_Effect_getitem pass0 (pv 0) (pv 3) (fun _ _ => rfl)) (pgTup (K := K) (n := 3) (by rfl) (pgs_cons (pg_name (i := 4) scETab.nd rfl (.inl rfl)) (pgs_cons (pg_name (i := 5) scETab.nd rfl (.inl rfl)) (pgs_cons (pg_name (i := 6) scETab.nd rfl (.inl rfl)) pgs_nil)))))
      (pss_cons (ps_set (i := 7) scETab.nd rfl (.inl rfl) (pe_ifExp (pt_truth (pv 5) (by intro _; rfl)) (peJoin (K := K) (pe_str) (pv 5)) (pe_str)))
      (pss_one (ps_expr (pe_bm PySem.F.plainAttrs_list PySem.F.slot_list_append PySem.F.type_list_append mt_append (pv 2) (pa_cons (peJs (PJ.cons (pe_fmt8 (pv 3) (pe_joined1 pe_str)) (PJ.cons (pe_fmt8 (pv 4) (pe_joined1 pe_str)) (PJ.cons (pe_fmt8 (pv 6) (pe_joined1 pe_str)) (PJ.cons (pe_str) (PJ.cons (pe_fmt (pv 7)) (PJ.nil))))))) pa_nil)))))))
      (pss_one (ps_ret (peJoin (K := K) (pe_str) (pv 2))))), ?_⟩
  have hnl : (natI zs).length = zs.length := by unfold natI; rw [List.length_map]
  walk_at "go"
  refine c_newL (by simp) fun F H1 nF s1 eF => ?_
  walk_at "go"
  refine ⟨t, rfl, ⟨_, same_seqT s1 hT⟩, ?_⟩
  refine for_tup (xs := natI zs) (fun i σ H' => ∃ (y3 y4 y5 y6 y7 : Option V), σ = [some (.ref a), some (.ref t), some (.ref F), y3, y4, y5, y6, y7] ∧ Same H H' ∧ H' F = some (.lst (((zs.take i).map (rowS ns u cs)).map V.str)))
    ⟨_, _, _, _, _, rfl, s1, eF⟩ (fun i σ H' _ h => ?_) (fun i v σ H' hv h => ?_) (fun σ H' h => ?_)
  · obtain ⟨_, _, _, _, _, rfl, sx, _⟩ := h
    exact same_seqT sx hT
  · obtain ⟨y3, y4, y5, y6, y7, rfl, sx, ef⟩ := h
    obtain ⟨n, rfl, en⟩ := natV_at hv
    have hn := hz n (List.mem_of_getElem? en)
    have hi : i < zs.length := (List.getElem?_eq_some_iff.mp en).1
    have rk := rowOk_of ok hn
    have hrl := rowT_len rk
    have l1 := txt8_len (Int.natCast_nonneg n) rk.n
    have l2 := txt8_len rk.k.1 rk.k.2
    have l3 := txt8_len rk.u.1 rk.u.2
    have l4 := nmT_len rk.nm rk.nl
    rw [take_map en]
    walk_at "go"
    refine c_eget (hE.mono sx) ok fun v H2 s2 hv2 => ?_
    obtain ⟨x, b, rfl, hX, hB⟩ := hv2
    refine c_gtup hX rfl ?_
    refine c_gcons (c_g (c_gcons (c_g (c_gcons (c_g (c_gnil ?_))))))
    have ef2 := s2 _ _ ef
    have sx2 := sx.trans s2
    have hro : rowS ns u cs n = rowT n (tel ns u cs n).1 (tel ns u cs n).2.1 (tel ns u cs n).2.2 := rfl
    rw [hro]
    generalize (tel ns u cs n).1 = kk at *
    generalize (tel ns u cs n).2.1 = ll at *
    generalize (tel ns u cs n).2.2 = uu at *
    with_reducible show tSeq _ _ _ _ _
    refine cut_seq (fun σ3 H3 => σ3 = [some (.ref a), some (.ref t), some (.ref F), some (.int (n : Int)), some (.int kk), some (.ref b), some (.int uu), some (.str (nmT ll))] ∧ H3 = H2) (fun N hN => ?_) (fun σ3 H3 h3 => ?_)
    · walk_at "go"
      refine ⟨!(ll.map V.str).isEmpty, .inr (.inl ⟨_, hB, rfl⟩), ?_⟩
      cases ll with
      | nil =>
        walk_at "go"
        exact hN _ _ ⟨rfl, rfl⟩
      | cons z zs' =>
        rw [show (!((z :: zs').map V.str).isEmpty) = true from rfl]
        walk_at "go"
        refine ⟨_, b, z :: zs', rfl, rfl, .inr hB, nms_sum rk.nm rk.nl, ?_⟩
        exact hN _ _ ⟨rfl, rfl⟩
    · obtain ⟨rfl, rfl⟩ := h3
      walk_at "go"
      refine ⟨.inl ⟨rfl, _, .inl (.inl ef2)⟩, ?_⟩
      walk_at "go"
      have e2 : (Str.ofString "  ").length = 2 := rfl
      have a2 := PySem.Str.length_append (txt8 (n : Int)) (txt8 kk)
      have a3 := PySem.Str.length_append (txt8 (n : Int) ++ txt8 kk) (txt8 uu)
      have a4 := PySem.Str.length_append (txt8 (n : Int) ++ txt8 kk ++ txt8 uu) (Str.ofString "  ")
      have a5 := PySem.Str.length_append (txt8 (n : Int) ++ txt8 kk ++ txt8 uu ++ Str.ofString "  ") (nmT ll)
      refine c_rfmt8 (Int.natCast_nonneg n) rk.n ?_
      refine c_rjs (by rw [emp_app]; omega) ?_
      rw [emp_app]
      walk_at "go"
      refine c_rfmt8 rk.k.1 rk.k.2 ?_
      refine c_rjs (by omega) ?_
      walk_at "go"
      refine c_rfmt8 rk.u.1 rk.u.2 ?_
      refine c_rjs (by omega) ?_
      walk_at "go"
      refine c_rjs (by omega) ?_
      walk_at "go"
      refine c_fmtS (by omega) ?_
      refine c_rjs (by omega) ?_
      walk_at "go"
      refine c_app2 ef2 (by rw [List.length_map, List.length_map, List.length_take]; omega) ?_
      refine ⟨_, _, _, _, _, rfl, Same.mut sx2 nF, ?_⟩
      rw [upd_same, List.map_append]
      rfl
  · obtain ⟨_, _, _, _, _, rfl, sx, ef⟩ := h
    rw [List.take_of_length_le (by omega)] at ef
    walk_at "go"
    refine c_joinL (.inl (.inl ef)) (rows_sum ok hz hzl) ?_
    exact q _ sx
def spCol : Sp := fun vs H Q _ => ∃ i : Int, vs = [.int i] ∧ 0 ≤ i ∧ i < 10 ^ 510 ∧ Q (.str (txt8 i)) H
theorem ok_col (T : TX K mg) : FnOk P w K mg base CX0 1 T.f_law_column T.fd_law_column pCol spCol := by
  refine T.d_law_column.F.ok scCol (fun vs H Q E h => ?_) (fun cdv A outer s H vs Q E hr h => ?_)
  · obtain ⟨i, rfl, _⟩ := h
    rfl
  · obtain ⟨i, rfl, h0, hb, q⟩ := h
    refine ⟨_, pss_cons (ps_set (i := 1) scCol.nd rfl (.inl rfl) (pe_callTy call_str_int (by rfl) T.str (by decide +kernel) (pa_cons (pv 0) pa_nil)))
      (pss_one (ps_ret (pe_op opAddS (pe_op op_mulS (pe_str) (pe_callB (callMax2 rfl) (by rfl) T.max (by decide +kernel) (pa_cons (pe_int) (pa_cons (pe_op op_sub (pe_int) (pe_callB callLnS (by rfl) T.len (by decide +kernel) (pa_cons (pv 1) pa_nil))) pa_nil)))) (pv 1)))), ?_⟩
    obtain ⟨n, rfl⟩ : ∃ n : Nat, i = (n : Int) := ⟨i.toNat, by omega⟩
    have hlog : ((n : Int)).natAbs.log2 < 1920 := by
      have c : (10 : Int) ^ 510 < ((2 ^ 1700 : Nat) : Int) := by decide +kernel
      have hb : ((n : Int)).natAbs < 2 ^ 1700 := by omega
      exact Nat.lt_trans (PySem.Flt.log2_lt_of (by decide) hb) (by decide)
    have hdl := digs_len h0 hb
    have hnl := numS_len n
    walk_at "go"
    refine ⟨_, rfl, hlog, ?_⟩
    have q : Q (.str (txt8 (n : Int))) H := q
    have hn : (Str.ofString (toString ((n : Nat) : Int))) = numS n := rfl
    walk_at "go"
    rw [hn]
    refine c_lnS (by omega) ?_
    walk_at "go"
    refine c_max2 ?_
    rw [hnl, show max (0 : Int) (8 - ((digs (n : Int)).length : Int)) = ((8 - (digs (n : Int)).length : Nat) : Int) by omega]
    refine c_mulS (mul_ok 32 _ (by omega)) ?_
    walk_at "go"
    have hc := col_txt n
    have htl := txt8_len h0 hb
    refine c_addS ?_ ?_
    · rw [← hc, PySem.Str.length_append] at htl
      omega
    · rw [hc]
      exact q
def spRows (K : PySem.W.Frag) : Sp := fun vs H Q _ => ∃ (D S : Addr) (ns : List Str) (u : Nat) (cs : List Chg) (zs : List Nat), vs = [.ref D, .ref S] ∧ TblAt K H D ns u cs ∧ EOk ns u cs ∧ SqL K H S (natI zs) ∧ zs.length ≤ 100 ∧ (∀ z ∈ zs, z ≤ 10 ^ 60) ∧ ∀ H', Same H H' → Q (.str (tabT ns u cs zs)) H'
theorem ok_rows (T : TX K mg) : FnOk P w K mg base CX0 3 T.f_law_rows T.fd_law_rows pRows (spRows K) := by
  have G_law_told := ok_told (P := P) (w := w) (base := base) T
  have G_law_column := ok_col (P := P) (w := w) (base := base) T
  refine T.d_law_rows.F.ok scRows (fun vs H Q E h => ?_) (fun cdv A outer s H vs Q E hr h => ?_)
  · obtain ⟨D, S, ns, u, cs, zs, rfl, _⟩ := h
    rfl
  obtain ⟨D, S, ns, u, cs, zs, rfl, hTb, ok, hS, hzl, hz, q⟩ := h
  refine ⟨_, pss_cons (ps_set (i := 2) scRows.nd rfl (.inl rfl) (pe_lst (pa_nil)))
      (pss_cons (ps_for PassesOwn.never rfl (piList (K := K) (pv 1)) (pg_name (i := 3) scRows.nd rfl (.inl rfl))
        (pss_cons (ps_asg (pcall T.d_law_told G_law_told (hr.mono (by decide)) (by rfl) pass0 (pa_cons (pv 0) (pa_cons (pv 3) pa_nil))) (pgTup (K := K) (n := 3) (by rfl) (pgs_cons (pg_name (i := 4) scRows.nd rfl (.inl rfl)) (pgs_cons (pg_name (i := 5) scRows.nd rfl (.inl rfl)) (pgs_cons (pg_name (i := 6) scRows.nd rfl (.inl rfl)) pgs_nil)))))
      (pss_cons (ps_set (i := 7) scRows.nd rfl (.inl rfl) (pe_op opAddS (pe_op opAddS (pcall T.d_law_column G_law_column (hr.mono (by decide)) (by rfl) pass0 (pa_cons (pv 3) pa_nil)) (pcall T.d_law_column G_law_column (hr.mono (by decide)) (by rfl) pass0 (pa_cons (pv 4) pa_nil))) (pcall T.d_law_column G_law_column (hr.mono (by decide)) (by rfl) pass0 (pa_cons (pv 6) pa_nil))))
      (pss_one (ps_expr (pe_bm PySem.F.plainAttrs_list PySem.F.slot_list_append PySem.F.type_list_append mt_append (pv 2) (pa_cons (pe_op opAddS (pe_op opAddS (pv 7) (pe_str)) (pe_ifExp (pt_cmpR (opNeD (K := K) hr.units) (pv 5) (pe_tup (pa_nil)) (nomark _)) (peJoin (K := K) (pe_str) (pv 5)) (pe_str))) pa_nil)))))))
      (pss_one (ps_ret (peJoin (K := K) (pe_str) (pv 2))))), ?_⟩
  have hnl : (natI zs).length = zs.length := by unfold natI; rw [List.length_map]
  walk_at "go"
  refine c_newL (by simp) fun F H1 nF s1 eF => ?_
  walk_at "go"
  refine ⟨S, rfl, ⟨_, Same.seq s1 hS⟩, ?_⟩
  refine for_list (xs := natI zs) (fun i σ H' => ∃ (y3 y4 y5 y6 y7 : Option V), σ = [some (.ref D), some (.ref S), some (.ref F), y3, y4, y5, y6, y7] ∧ Same H H' ∧ H' F = some (.lst (((zs.take i).map (rowS ns u cs)).map V.str)))
    ⟨_, _, _, _, _, rfl, s1, eF⟩ (fun i σ H' _ h => ?_) (fun i v σ H' hv h => ?_) (fun σ H' h => ?_)
  · obtain ⟨_, _, _, _, _, rfl, sx, _⟩ := h
    exact Same.seq sx hS
  · obtain ⟨y3, y4, y5, y6, y7, rfl, sx, ef⟩ := h
    obtain ⟨n, rfl, en⟩ := natV_at hv
    have hn := hz n (List.mem_of_getElem? en)
    have hi : i < zs.length := (List.getElem?_eq_some_iff.mp en).1
    have rk := rowOk_of ok hn
    have hrl := rowT_len rk
    have l1 := txt8_len (Int.natCast_nonneg n) rk.n
    have l2 := txt8_len rk.k.1 rk.k.2
    have l3 := txt8_len rk.u.1 rk.u.2
    have l4 := nmT_len rk.nm rk.nl
    rw [take_map en]
    walk_at "go"
    refine ⟨D, n, ns, u, cs, rfl, hTb.mono sx, ok, fun v H2 s2 hv2 => ?_⟩
    obtain ⟨x, b, rfl, hX, hB⟩ := hv2
    walk_at "go"
    refine c_gtup hX rfl ?_
    refine c_gcons (c_g (c_gcons (c_g (c_gcons (c_g (c_gnil ?_))))))
    have ef2 := s2 _ _ ef
    have sx2 := sx.trans s2
    have hro : rowS ns u cs n = rowT n (tel ns u cs n).1 (tel ns u cs n).2.1 (tel ns u cs n).2.2 := rfl
    rw [hro]
    generalize (tel ns u cs n).1 = kk at *
    generalize (tel ns u cs n).2.1 = ll at *
    generalize (tel ns u cs n).2.2 = uu at *
    have e2 : (Str.ofString "  ").length = 2 := rfl
    have a2 := PySem.Str.length_append (txt8 (n : Int)) (txt8 kk)
    have a3 := PySem.Str.length_append (txt8 (n : Int) ++ txt8 kk) (txt8 uu)
    have a4 := PySem.Str.length_append (txt8 (n : Int) ++ txt8 kk ++ txt8 uu) (Str.ofString "  ")
    have a5 := PySem.Str.length_append (txt8 (n : Int) ++ txt8 kk ++ txt8 uu ++ Str.ofString "  ") (nmT ll)
    walk_at "go"
    refine ⟨n, rfl, Int.natCast_nonneg n, rk.n, ?_⟩
    walk_at "go"
    refine ⟨kk, rfl, rk.k.1, rk.k.2, ?_⟩
    walk_at "go"
    refine c_addS (by omega) ?_
    walk_at "go"
    refine ⟨uu, rfl, rk.u.1, rk.u.2, ?_⟩
    walk_at "go"
    refine c_addS (by omega) ?_
    walk_at "go"
    refine ⟨.inl ⟨rfl, _, .inl (.inl ef2)⟩, ?_⟩
    walk_at "go"
    refine c_addS (by omega) ?_
    walk_at "go"
    refine c_newT (by simp) fun e0 H3 _ s3 ee => ?_
    refine c_neD (dp_names (same_seqT s3 hB)) (dp_names (ns := []) (.inl (.inl ee))) (dok_names fun z hz => (rk.nm z hz).low) (dok_names fun z hz => nomatch hz) (by decide) (by decide) ?_
    rw [eqv_names]
    have fin : ∀ (N : Hp → Prop), (∀ G, Same H G → G F = some (.lst ((((zs.take i).map (rowS ns u cs)) ++ [rowT n kk ll uu]).map V.str)) → N G) → N (upd H3 F (.lst (((zs.take i).map (rowS ns u cs)).map V.str ++ [.str (rowT n kk ll uu)]))) := fun N hN => hN _ (Same.mut (sx2.trans s3) nF) (by rw [upd_same, List.map_append]; rfl)
    have happ : ((zs.take i).map (rowS ns u cs)).length < 100000 := by
      rw [List.length_map, List.length_take]
      omega
    cases ll with
    | nil =>
      rw [decide_eq_true rfl]
      walk_at "go"
      refine c_addS (by have e : (Str.ofString "-").length = 1 := rfl; omega) ?_
      walk_at "go"
      refine c_app2 (s3 _ _ ef2) (by rw [List.length_map]; exact happ) ?_
      exact fin _ fun G sG eG => ⟨_, _, _, _, _, rfl, sG, eG⟩
    | cons z zs' =>
      rw [decide_eq_false (by simp)]
      walk_at "go"
      refine ⟨_, b, z :: zs', rfl, rfl, .inr (same_seqT s3 hB), nms_sum rk.nm rk.nl, ?_⟩
      walk_at "go"
      refine c_addS (by show _ + (nmT (z :: zs')).length ≤ _; omega) ?_
      walk_at "go"
      refine c_app2 (s3 _ _ ef2) (by rw [List.length_map]; exact happ) ?_
      exact fin _ fun G sG eG => ⟨_, _, _, _, _, rfl, sG, eG⟩
  · obtain ⟨_, _, _, _, _, rfl, sx, ef⟩ := h
    rw [List.take_of_length_le (by omega)] at ef
    walk_at "go"
    refine c_joinL (.inl (.inl ef)) (rows_sum ok hz hzl) ?_
    exact q _ sx
def spSize : Sp := fun vs H Q _ => ∃ p : Addr, vs = [.ref p] ∧ Pool H p ∧ ∀ (z : Nat) H', z ≤ 10 ^ 60 → Stp p H H' → Q (.int (z : Int)) H'
theorem ok_size (T : TX K mg) : FnOk P w K mg base CX0 2 T.f_law_size T.fd_law_size pSize spSize := by
  have G_law_draw := ok_draw (P := P) (w := w) (K := K) (base := base) T.d_law_draw T.divmod
  refine T.d_law_size.F.ok scSize (fun vs H Q E h => ?_) (fun cdv A outer s H vs Q E hr h => ?_)
  · obtain ⟨p, rfl, _⟩ := h
    rfl
  obtain ⟨p, rfl, pool, q⟩ := h
  refine ⟨_, pss_cons (ps_set (i := 1) scSize.nd rfl (.inl rfl) (pe_op op_sub (pcall T.d_law_draw G_law_draw (hr.mono (by decide)) (by rfl) pass0 (pa_cons (pv 0) (pa_cons (pe_int) pa_nil))) (pe_int)))
      (pss_one (ps_ret (pe_ix (ixL (K := K)) (pe_lst (pa_cons (pcall T.d_law_draw G_law_draw (hr.mono (by decide)) (by rfl) pass0 (pa_cons (pv 0) (pa_cons (pe_int) pa_nil))) (pa_cons (pe_op op_add (pe_op op_pow (pe_int) (pe_int)) (pv 1)) (pa_cons (pe_op op_add (pe_op op_pow (pe_int) (pe_int)) (pv 1)) (pa_cons (pe_op op_pow (pe_int) (pe_int)) pa_nil))))) (pcall T.d_law_draw G_law_draw (hr.mono (by decide)) (by rfl) pass0 (pa_cons (pv 0) (pa_cons (pe_int) pa_nil))) (fun _ _ => rfl)))), ?_⟩
  have hB : (10 : Nat) ^ 60 = 1000000000000000000000000000000000000000000000000000000000000 := by decide +kernel
  have q2 : ∀ (z : Int) H', 0 ≤ z → z ≤ 1000000000000000000000000000000 → Stp p H H' → Q (.int z) H' := fun z H' h0 h1 st => by
    have h := q z.toNat H' (by rw [hB]; omega) st
    rwa [Int.toNat_of_nonneg h0] at h
  walk_at "go"
  refine c_draw pool (by decide) (by decide) fun a H1 a0 a1 st1 => ?_
  walk_at "go"
  refine c_draw st1.q (by decide) (by decide) fun b H2 b0 b1 st2 => ?_
  walk_at "go"
  rw [show (10 : Int) ^ Int.toNat 7 = 10000000 by decide, show (10 : Int) ^ Int.toNat 8 = 100000000 by decide, p30e]
  refine c_newL (by simp) fun L H3 nL s3 eL => ?_
  walk_at "go"
  have st3 := (st1.trans st2).trans (.of st2.q s3)
  refine c_draw st3.q (by decide) (by decide) fun d H4 d0 d1 st4 => ?_
  have e4 := st4.at eL (st2.q.ne nL)
  rcases (show d = 0 ∨ d = 1 ∨ d = 2 ∨ d = 3 by omega) with rfl | rfl | rfl | rfl
  · refine c_ixL (.inl (.inl e4)) 0 rfl rfl ?_
    exact q2 _ _ b0 (by omega) (st3.trans st4)
  · refine c_ixL (.inl (.inl e4)) 1 rfl rfl ?_
    exact q2 _ _ (by omega) (by omega) (st3.trans st4)
  · refine c_ixL (.inl (.inl e4)) 2 rfl rfl ?_
    exact q2 _ _ (by omega) (by omega) (st3.trans st4)
  · refine c_ixL (.inl (.inl e4)) 3 rfl rfl ?_
    exact q2 _ _ (by decide) (by decide) (st3.trans st4)
theorem c_tab {C a : Addr} {ns : List Str} {u : Nat} {cs : List Chg} {zs : List Nat} {H : Hp} {Q : VK} {E : XK} {vs : List V} (h : EffAt K C H a ns u cs) (ok : EOk ns u cs) (hl : zs.length ≤ 100) (hz : ∀ z ∈ zs, z ≤ 10 ^ 60) (ev : vs = .ref a :: natI zs)
    (q : ∀ H', Same H H' → Q (.str (tabT ns u cs zs)) H') : spStar 1 (spTab K C) vs H Q E := by
  subst ev
  refine ⟨[.ref a], natI zs, rfl, rfl, sz (by unfold natI; rw [List.length_map]; omega), fun t nt => ?_⟩
  exact ⟨a, t, ns, u, cs, zs, rfl, h.mono (same_new nt), ok, .inl (.inl upd_same), hl, hz, fun H' s' => q H' ((same_new nt).trans s')⟩
theorem w_tab : ¬ ("table" : Str) = "new_names" ∧ ¬ ("table" : Str) = "undone_count" ∧ ¬ ("table" : Str) = "changes" := by decide +kernel
theorem nats_of {xs : List V} (h : ∀ (i : Nat) y, xs[i]? = some y → ∃ z : Nat, y = V.int (z : Int) ∧ z ≤ 10 ^ 60) : ∃ zs : List Nat, xs = natI zs ∧ ∀ z ∈ zs, z ≤ 10 ^ 60 := by
  induction xs with
  | nil => exact ⟨[], rfl, fun z hz => nomatch hz⟩
  | cons x xs ih =>
    obtain ⟨z, rfl, hz⟩ := h 0 x rfl
    obtain ⟨zs, rfl, hzs⟩ := ih fun i y e => h (i + 1) y e
    exact ⟨z :: zs, rfl, fun y hy => by
      rcases List.mem_cons.mp hy with e | e
      · rw [e]; exact hz
      · exact hzs y e⟩
theorem EffAt.stp {C : Addr} {H H' : Hp} {p a : Addr} {ns : List Str} {u : Nat} {cs : List Chg} (pool : Pool H p) (st : Stp p H H') (h : EffAt K C H a ns u cs) : EffAt K C H' a ns u cs := by
  obtain ⟨x, y, z, ep, _⟩ := pool
  obtain ⟨dx, tn, tc, us, e, h1, h2, h3⟩ := h
  have ne : p ≠ a := fun k => by rw [← k, ep] at e; cases e
  have s := st.s.trans (hid_same p H')
  exact ⟨dx, tn, tc, us, st.at e ne, same_seqT s (sqT_hid ep h1), same_seqT s (sqT_hid ep h2), h3.imp fun _ _ z => (ChgAt.hidE ep z).mono s⟩
theorem TblAt.stp {H H' : Hp} {p D : Addr} {ns : List Str} {u : Nat} {cs : List Chg} (pool : Pool H p) (st : Stp p H H') (h : TblAt K H D ns u cs) : TblAt K H' D ns u cs := by
  obtain ⟨x, y, z, ep, _⟩ := pool
  obtain ⟨tn, tc, us, e, h1, h2, h3⟩ := h
  have ne : p ≠ D := fun k => by rw [← k, ep] at e; cases e
  have s := st.s.trans (hid_same p H')
  exact ⟨tn, tc, us, st.at e ne, same_seqT s (sqT_hid ep h1), same_seqT s (sqT_hid ep h2), h3.imp fun _ _ z => (ChgAt.hidE ep z).mono s⟩
theorem dok_ascL {zs : List Str} (h : ∀ z ∈ zs, Asc z) : DOk (dNmL zs) 1 := (dok_list (n := 0) fun d hd => by
  obtain ⟨z, hz, rfl⟩ := List.mem_map.mp hd
  exact ⟨by unfold PyData.canLay0; exact asc_ok (h z hz), by simp [PyData.depth]⟩).1
def spRight : Sp := fun vs H Q _ => ∃ (p : Addr), vs = [.ref p] ∧ Pool H p ∧ ∀ H', Stp p H H' → Q (.bl true) H'
theorem ok_right (T : TX K mg) : FnOk P w K mg base CX0 9 T.f_law_right T.fd_law_right pRight spRight := by
  have G_law_draw := ok_draw (P := P) (w := w) (K := K) (base := base) T.d_law_draw T.divmod
  have G_law_tabled := ok_tabled (P := P) (w := w) (base := base) T
  have G_Effect_init := ok_einit (P := P) (w := w) (base := base) T
  have G_Effect_table := ok_etab (P := P) (w := w) (base := base) T
  have G_law_size := ok_size (P := P) (w := w) (base := base) T
  have G_law_rows := ok_rows (P := P) (w := w) (base := base) T
  refine T.d_law_right.F.ok scRight (fun vs H Q E h => ?_) (fun cdv A outer s H vs Q E hr h => ?_)
  · obtain ⟨p, rfl, _⟩ := h
    rfl
  obtain ⟨p, rfl, pool, q⟩ := h
  refine ⟨_, pss_cons (ps_for PassesOwn.never rfl (pi_range1 (by rfl) T.range (pa_cons (pe_int) pa_nil)) (pg_name (i := 1) scRight.nd rfl (.inl rfl))
        (pss_cons (ps_set (i := 2) scRight.nd rfl (.inr rfl) (pcall T.d_law_tabled G_law_tabled (hr.mono (by decide)) (by rfl) pass0 (pa_cons (pv 0) (pa_cons (pe_int) (pa_cons (pe_ix (ixL (K := K)) (pe_lst (pa_cons (pe_int) (pa_cons (pe_int) pa_nil))) (pcall T.d_law_draw G_law_draw (hr.mono (by decide)) (by rfl) pass0 (pa_cons (pv 0) (pa_cons (pe_int) pa_nil))) (fun _ _ => rfl)) (pa_cons (pe_int) pa_nil))))))
      (pss_cons (ps_set (i := 3) scRight.nd rfl (.inl rfl) (pe_make T.mk_Effect G_Effect_init (hr.mono (by decide)) (by rfl) T.m_Effect T.b3_Effect_init T.v3_Effect_init pass0 (pa_cons (pe_ix (ixL (K := K)) (pv 2) (pe_int) (fun _ _ => rfl)) (pa_cons (pe_ix (ixL (K := K)) (pv 2) (pe_int) (fun _ _ => rfl)) (pa_cons (pe_ix (ixL (K := K)) (pv 2) (pe_int) (fun _ _ => rfl)) pa_nil)))))
      (pss_cons (ps_setLc (i := 4) (own := [("_law_k", 7)]) (g := gName 7) (tt := tYes) (by rfl) scRight.nd rfl rfl (sw_true rfl rfl rfl (by decide +kernel)) (pi_range1 (by rfl) T.range (pa_cons (pe_int) pa_nil)) (blkOk_by (own := [("_law_k", 7)]) (N := nRight) (sc := defScope sRight) (by decide +kernel)) (fun _ _ _ _ _ => pg_name (i := 7) scRight.nd rfl (.inl rfl)) (fun _ _ _ _ _ => pts_nil) (fun _ _ _ _ _ => pcall T.d_law_size G_law_size (hr.mono (by decide)) (by rfl) pass0 (pa_cons (pv 0) pa_nil)))
      (pss_cons (ps_set (i := 5) scRight.nd rfl (.inl rfl) (pe_lst (pa_cons (pe_methR (pv 3) T.cl_Effect T.me_Effect_table G_Effect_table (hr.mono (by decide)) pass0 (pa_cons (pe_ix (ixL (K := K)) (pv 4) (pe_int) (fun _ _ => rfl)) (pa_cons (pe_ix (ixL (K := K)) (pv 4) (pe_int) (fun _ _ => rfl)) (pa_cons (pe_ix (ixL (K := K)) (pv 4) (pe_int) (fun _ _ => rfl)) (pa_cons (pe_ix (ixL (K := K)) (pv 4) (pe_int) (fun _ _ => rfl)) pa_nil))))) (pa_cons (pe_methR (pv 3) T.cl_Effect T.me_Effect_table G_Effect_table (hr.mono (by decide)) pass0 (pa_cons (pe_ix (ixL (K := K)) (pv 4) (pe_int) (fun _ _ => rfl)) (pa_cons (pe_ix (ixL (K := K)) (pv 4) (pe_int) (fun _ _ => rfl)) pa_nil))) (pa_cons (pe_methR (pv 3) T.cl_Effect T.me_Effect_table G_Effect_table (hr.mono (by decide)) pass0 (pa_cons (pe_ix (ixL (K := K)) (pv 4) (pe_int) (fun _ _ => rfl)) pa_nil)) (pa_cons (pe_methR (pv 3) T.cl_Effect T.me_Effect_table G_Effect_table (hr.mono (by decide)) pass0 (pa_cons (pe_ix (ixL (K := K)) (pv 4) (pe_int) (fun _ _ => rfl)) (pa_cons (pe_ix (ixL (K := K)) (pv 4) (pe_int) (fun _ _ => rfl)) (pa_cons (pe_ix (ixL (K := K)) (pv 4) (pe_int) (fun _ _ => rfl)) pa_nil)))) pa_nil))))))
      (pss_cons (ps_setLc (i := 6) (own := [("_law_each", 8)]) (g := gName 8) (tt := tYes) (by rfl) scRight.nd rfl rfl (sw_true rfl rfl rfl (by decide +kernel)) (piList (K := K) (pe_lst (pa_cons (pv 4) (pa_cons (pe_lst (pa_cons (pe_ix (ixL (K := K)) (pv 4) (pe_int) (fun _ _ => rfl)) (pa_cons (pe_ix (ixL (K := K)) (pv 4) (pe_int) (fun _ _ => rfl)) pa_nil))) (pa_cons (pe_lst (pa_cons (pe_ix (ixL (K := K)) (pv 4) (pe_int) (fun _ _ => rfl)) pa_nil)) (pa_cons (pe_op op_rep (pe_lst (pa_cons (pe_ix (ixL (K := K)) (pv 4) (pe_int) (fun _ _ => rfl)) pa_nil)) (pe_int)) pa_nil)))))) (blkOk_by (own := [("_law_each", 8)]) (N := nRight) (sc := defScope sRight) (by decide +kernel)) (fun _ _ _ _ _ => pg_name (i := 8) scRight.nd rfl (.inl rfl)) (fun _ _ _ _ _ => pts_nil) (fun _ _ _ _ _ => pcall T.d_law_rows G_law_rows (hr.mono (by decide)) (by rfl) pass0 (pa_cons (pv 2) (pa_cons (pv 8) pa_nil))))
      (pss_one (ps_if (PW.pt (pw_or (pt_cmpR (opNeD (K := K) hr.units) (pv 5) (pv 6) (nomark _)) (pw_or (pt_cmpR op_ne (pe_methR0 (pv 3) T.cl_Effect T.me_Effect_table G_Effect_table (hr.mono (by decide)) pass0) (pe_str) (nomark _)) (pw_or1 (pt_cmpR (opNeD (K := K) hr.units) (peFld (K := K) (pv 3) rfl) (pe_ix (ixL (K := K)) (pv 2) (pe_int) (fun _ _ => rfl)) (nomark _)))))) (pss_one (ps_ret (pe_bl))) (pss_nil)))))))))
      (pss_one (ps_ret (pe_bl))), ?_⟩
  walk_at "go"
  refine ⟨4, rfl, by decide, by decide, ?_⟩
  refine for_range (lo := 0) (n := 4) (fun i σ H' => ∃ (y1 y2 y3 y4 y5 y6 : Option V), σ = [some (.ref p), y1, y2, y3, y4, y5, y6, none, none] ∧ Stp p H H') ⟨_, _, _, _, _, _, rfl, .refl pool⟩ (fun i σ H' _ hW => ?_) (fun σ H' hW => ?_)
  rotate_left
  · obtain ⟨y1, y2, y3, y4, y5, y6, rfl, st⟩ := hW
    walk_at "go"
    exact q _ st
  obtain ⟨y1, y2, y3, y4, y5, y6, rfl, st⟩ := hW
  refine c_g ?_
  refine cut_seq (fun σ K2 => ∃ (D : Addr) (ns : List Str) (u : Nat) (cs : List Chg), σ = [some (.ref p), some (.int (0 + (i : Int))), some (.ref D), y3, y4, y5, y6, none, none] ∧ Stp p H' K2 ∧ TblAt K K2 D ns u cs ∧ EOk ns u cs) (fun N hN => ?_) (fun σ2 K2 h2 => ?_)
  · walk_at "go"
    refine c_newL (by simp) fun W K1 nW w1 eW => ?_
    have u1 : Stp p H' K1 := .of st.q w1
    have pW := st.q.ne nW
    walk_at "go"
    refine c_draw u1.q (by decide) (by decide) fun dd K2 dd0 dd1 u2 => ?_
    have eW2 := u2.at eW pW
    rcases (show dd = 0 ∨ dd = 1 by omega) with rfl | rfl
    · refine c_ixL (.inl (.inl eW2)) 0 rfl rfl ?_
      walk_at "go"
      refine ⟨p, 12, 0, 8, rfl, u2.q, by decide, by decide, by omega, by omega, by decide, by decide, fun D ns u cs K3 nD st3 hT ok hl1 hl2 hB => ?_⟩
      walk_at "go"
      exact hN _ _ ⟨D, ns, u, cs, rfl, (u1.trans u2).trans st3, hT, ok⟩
    · refine c_ixL (.inl (.inl eW2)) 1 rfl rfl ?_
      walk_at "go"
      refine ⟨p, 12, 4, 8, rfl, u2.q, by decide, by decide, by omega, by omega, by decide, by decide, fun D ns u cs K3 nD st3 hT ok hl1 hl2 hB => ?_⟩
      walk_at "go"
      exact hN _ _ ⟨D, ns, u, cs, rfl, (u1.trans u2).trans st3, hT, ok⟩
  obtain ⟨D, ns, u, cs, rfl, st2, hT2, ok⟩ := h2
  refine cut_seq (fun σ K3 => ∃ box, σ = [some (.ref p), some (.int (0 + (i : Int))), some (.ref D), some (.ref box), y4, y5, y6, none, none] ∧ Same K2 K3 ∧ EffAt K T.C_Effect K3 box ns u cs) (fun N hN => ?_) (fun σ3 K3 h3 => ?_)
  · obtain ⟨tn, tc, us, eD, hN2, hC, hA⟩ := hT2.ob
    walk_at "go"
    refine c_ixL (.inl (.inl eD)) 0 rfl rfl ?_
    walk_at "go"
    refine c_ixL (.inl (.inl eD)) 1 rfl rfl ?_
    walk_at "go"
    refine c_ixL (.inl (.inl eD)) 2 rfl rfl ?_
    walk_at "go"
    refine c_mkEf hN2 hC hA ok (fun box K3 nb s3 hE => ?_) rfl
    walk_at "go"
    exact hN _ _ ⟨box, rfl, s3, hE⟩
  obtain ⟨box, rfl, s3, hE3⟩ := h3
  have st3 := st2.trans (.of st2.q s3)
  have hT3 := hT2.mono s3
  walk_at "go"
  refine ⟨4, rfl, by decide, by decide, fun W nW => ?_⟩
  refine lc_rgP (fun _ v => ∃ z : Nat, v = .int (z : Int) ∧ z ≤ 10 ^ 60) st3.q nW (by omega) (fun _ => rfl) (fun j H5 Q' hj s5 k => ?_) (fun H5 xs st5 e5 l r => ?_)
  · walk_at "go"
    exact ⟨p, rfl, s5.q, fun z H6 hz s6 => k _ _ s6 ⟨z, rfl, hz⟩⟩
  obtain ⟨zs, rfl, hz⟩ := nats_of r
  obtain ⟨z0, z1, z2, z3, rfl⟩ : ∃ z0 z1 z2 z3, zs = [z0, z1, z2, z3] := by
    have l : zs.length = 4 := by
      unfold natI at l
      rw [List.length_map] at l
      exact l
    match zs, l with
    | [z0, z1, z2, z3], _ => exact ⟨z0, z1, z2, z3, rfl⟩
  have hE5 := hE3.stp st3.q st5
  have hT5 := hT3.stp st3.q st5
  have st05 := st3.trans st5
  have b0 : z0 ≤ 10 ^ 60 := hz _ (by simp)
  have b1 : z1 ≤ 10 ^ 60 := hz _ (by simp)
  have b2 : z2 ≤ 10 ^ 60 := hz _ (by simp)
  have b3 : z3 ≤ 10 ^ 60 := hz _ (by simp)
  have bA : ∀ z ∈ [z3, z0], z ≤ 10 ^ 60 := fun z h => by
    simp only [List.mem_cons, List.not_mem_nil, or_false] at h
    rcases h with rfl | rfl
    · exact b3
    · exact b0
  have bB : ∀ z ∈ [z1], z ≤ 10 ^ 60 := fun z h => by
    simp only [List.mem_cons, List.not_mem_nil, or_false] at h
    rw [h]
    exact b1
  have bC : ∀ z ∈ [z2, z2, z2], z ≤ 10 ^ 60 := fun z h => by
    simp only [List.mem_cons, List.not_mem_nil, or_false] at h
    rcases h with rfl | rfl | rfl <;> exact b2
  have zss : ∀ zs ∈ [[z0, z1, z2, z3], [z3, z0], [z1], [z2, z2, z2]], ∀ z ∈ zs, z ≤ 10 ^ 60 := fun zs h => by
    simp only [List.mem_cons, List.not_mem_nil, or_false] at h
    rcases h with rfl | rfl | rfl | rfl
    · exact hz
    · exact bA
    · exact bB
    · exact bC
  have hall : ∀ x ∈ ([[z0, z1, z2, z3], [z3, z0], [z1], [z2, z2, z2]]).map (tabT ns u cs), Asc x := fun x hx => by
    obtain ⟨zs, hm, rfl⟩ := List.mem_map.mp hx
    exact tab_asc ok (zss zs hm)
  with_reducible show tSeq _ _ _ _ _
  refine cut_seq (fun σ K6 => ∃ F, σ = [some (.ref p), some (.int (0 + (i : Int))), some (.ref D), some (.ref box), some (.ref W), some (.ref F), y6, none, none] ∧ Same H5 K6 ∧ K6 F = some (.lst ((([[z0, z1, z2, z3], [z3, z0], [z1], [z2, z2, z2]]).map (tabT ns u cs)).map V.str))) (fun N hN => ?_) (fun σ6 K6 h6 => ?_)
  · walk_at "go"
    refine recvE hE5 w_tab.1 w_tab.2.1 w_tab.2.2 ?_
    walk_at "go"
    refine c_ixL (.inl (.inl e5)) 0 rfl rfl ?_
    walk_at "go"
    refine c_ixL (.inl (.inl e5)) 1 rfl rfl ?_
    walk_at "go"
    refine c_ixL (.inl (.inl e5)) 2 rfl rfl ?_
    walk_at "go"
    refine c_ixL (.inl (.inl e5)) 3 rfl rfl ?_
    walk_at "go"
    refine c_tab (zs := [z0, z1, z2, z3]) hE5 ok (by simp) hz rfl fun G1 t1 => ?_
    have e51 := t1 _ _ e5
    walk_at "go"
    refine recvE (hE5.mono t1) w_tab.1 w_tab.2.1 w_tab.2.2 ?_
    walk_at "go"
    refine c_ixL (.inl (.inl e51)) 3 rfl rfl ?_
    walk_at "go"
    refine c_ixL (.inl (.inl e51)) 0 rfl rfl ?_
    walk_at "go"
    refine c_tab (zs := [z3, z0]) (hE5.mono t1) ok (by simp) bA rfl fun G2 t2 => ?_
    have t12 := t1.trans t2
    have e52 := t12 _ _ e5
    walk_at "go"
    refine recvE (hE5.mono t12) w_tab.1 w_tab.2.1 w_tab.2.2 ?_
    walk_at "go"
    refine c_ixL (.inl (.inl e52)) 1 rfl rfl ?_
    walk_at "go"
    refine c_tab (zs := [z1]) (hE5.mono t12) ok (by simp) bB rfl fun G3 t3 => ?_
    have t13 := t12.trans t3
    have e53 := t13 _ _ e5
    walk_at "go"
    refine recvE (hE5.mono t13) w_tab.1 w_tab.2.1 w_tab.2.2 ?_
    walk_at "go"
    refine c_ixL (.inl (.inl e53)) 2 rfl rfl ?_
    walk_at "go"
    refine c_ixL (.inl (.inl e53)) 2 rfl rfl ?_
    walk_at "go"
    refine c_ixL (.inl (.inl e53)) 2 rfl rfl ?_
    walk_at "go"
    refine c_tab (zs := [z2, z2, z2]) (hE5.mono t13) ok (by simp) bC rfl fun G4 t4 => ?_
    walk_at "go"
    refine c_newL (by simp) fun F G5 nF t5 eF => ?_
    walk_at "go"
    exact hN _ _ ⟨F, rfl, t13.trans (t4.trans t5), eF⟩
  obtain ⟨F, rfl, s6, eF⟩ := h6
  have hE6 := hE5.mono s6
  have hT6 := hT5.mono s6
  have e6 := s6 _ _ e5
  walk_at "go"
  refine c_ixL (.inl (.inl e6)) 3 rfl rfl ?_
  walk_at "go"
  refine c_ixL (.inl (.inl e6)) 0 rfl rfl ?_
  walk_at "go"
  refine c_newL (by simp) fun LA K7 _ s7 eA => ?_
  walk_at "go"
  refine c_ixL (.inl (.inl (s7 _ _ e6))) 1 rfl rfl ?_
  walk_at "go"
  refine c_newL (by simp) fun LB K8 _ s8 eB => ?_
  walk_at "go"
  have s78 := s7.trans s8
  refine c_ixL (.inl (.inl (s78 _ _ e6))) 2 rfl rfl ?_
  walk_at "go"
  refine c_newL (by simp) fun LC0 K9 _ s9 eC0 => ?_
  walk_at "go"
  refine c_rep1 (k := 3) eC0 (by decide) fun LC K10 _ s10 eC => ?_
  walk_at "go"
  refine c_newL (by simp) fun M K11 _ s11 eM => ?_
  have s711 := s78.trans (s9.trans (s10.trans s11))
  have eM' : K11 M = some (.lst [.ref W, .ref LA, .ref LB, .ref LC]) := eM
  have eW' : K11 W = some (.lst (natI [z0, z1, z2, z3])) := s711 _ _ e6
  have eA' : K11 LA = some (.lst (natI [z3, z0])) := (s8.trans (s9.trans (s10.trans s11))) _ _ eA
  have eB' : K11 LB = some (.lst (natI [z1])) := (s9.trans (s10.trans s11)) _ _ eB
  have eC' : K11 LC = some (.lst (natI [z2, z2, z2])) := s11 _ _ eC
  have hT11 := hT6.mono s711
  have eF11 := s711 _ _ eF
  have hE11 := hE6.mono s711
  refine ⟨M, rfl, ⟨_, .inl (.inl eM')⟩, fun Dd nD => ?_⟩
  refine lc_ls (fun j v => ∃ zs, ([[z0, z1, z2, z3], [z3, z0], [z1], [z2, z2, z2]])[j]? = some zs ∧ v = .str (tabT ns u cs zs)) nD (by simp) (.inl (.inl eM')) (fun _ => rfl) (fun j x H12 Q' hx s12 k => ?_) (fun H12 xs s12 e12 l12 r12 => ?_)
  · obtain ⟨L, zs, rfl, eL, ez⟩ : ∃ L zs, x = .ref L ∧ K11 L = some (.lst (natI zs)) ∧ ([[z0, z1, z2, z3], [z3, z0], [z1], [z2, z2, z2]])[j]? = some zs := by
      match j, hx with
      | 0, hx => exact ⟨W, _, (Option.some.inj hx).symm, eW', rfl⟩
      | 1, hx => exact ⟨LA, _, (Option.some.inj hx).symm, eA', rfl⟩
      | 2, hx => exact ⟨LB, _, (Option.some.inj hx).symm, eB', rfl⟩
      | 3, hx => exact ⟨LC, _, (Option.some.inj hx).symm, eC', rfl⟩
    have hm := List.mem_of_getElem? ez
    have hl : zs.length ≤ 100 := by
      simp only [List.mem_cons, List.not_mem_nil, or_false] at hm
      rcases hm with rfl | rfl | rfl | rfl <;> simp
    walk_at "go"
    exact ⟨D, L, ns, u, cs, zs, rfl, hT11.mono s12, ok, .inl (.inl (s12 _ _ eL)), hl, zss zs hm, fun H13 s13 => k _ _ s13 ⟨zs, ez, rfl⟩⟩
  have hxs : xs = (([[z0, z1, z2, z3], [z3, z0], [z1], [z2, z2, z2]]).map (tabT ns u cs)).map V.str := by
    rw [List.map_map]
    refine list_are (by rw [l12]; rfl) fun i y e => ?_
    obtain ⟨zs, ez, rfl⟩ := r12 i y e
    exact ⟨zs, ez, rfl⟩
  subst hxs
  walk_at "go"
  refine c_neD (dp_nmL (s12 _ _ eF11)) (dp_nmL e12) (dok_ascL hall) (dok_ascL hall) (by decide) (by decide) ?_
  rw [eqv_nmL, decide_eq_true rfl]
  walk_at "go"
  have hE12 := hE11.mono s12
  refine recvE hE12 w_tab.1 w_tab.2.1 w_tab.2.2 ?_
  walk_at "go"
  refine c_tab (zs := []) hE12 ok (by decide) (fun z h => nomatch h) rfl fun H13 s13 => ?_
  rw [show tabT ns u cs [] = Str.ofString "" from rfl]
  walk_at "go"
  refine c_echg T.cl_Effect T.n_Effect_changes (hE12.mono s13) fun tc us hC hA => ?_
  walk_at "go"
  obtain ⟨tn2, tc2, us2, eD2, _, hC2, hA2⟩ := (hT11.mono (s12.trans s13)).ob
  refine c_ixL (.inl (.inl eD2)) 2 rfl rfl ?_
  refine c_neD1 (dp_chgs hC hA) (dp_chgs hC2 hA2) (dok_chgs cs) (by decide) ?_
  walk_at "go"
  exact ⟨_, _, _, _, _, _, rfl, st.trans (st05.trans (.of st05.q (s6.trans (s711.trans (s12.trans s13)))))⟩
def nm29 : List Str := [Str.ofString "b"]
def ch29 : List Chg := [⟨0, some 4, .od⟩]
theorem ok29 : EOk nm29 0 ch29 := by
  refine ⟨fun z hz => ?_, by decide, ?_, by decide⟩
  · obtain rfl : z = Str.ofString "b" := by simpa [nm29] using hz
    exact name_of (by decide +kernel)
  · exact ⟨⟨by simp [nm29], (fun t e => by cases e; omega)⟩, (fun x e => by cases e), trivial⟩
def ch29b : List Chg := [⟨0, none, .un⟩]
theorem ok29b : EOk [] 0 ch29b := ⟨(fun z hz => nomatch hz), Nat.le_refl _, ⟨(fun t e => by cases e), (fun x e => by cases e), trivial⟩, by decide⟩
theorem ok_law (T : TX K mg) : FnOk P w K mg base CX0 12 T.f_law T.fd_law pLaw (spLaw K) := by
  have G_law_cell := ok_cell (P := P) (w := w) (K := K) (base := base) T.d_law_cell T.len
  have G_law_pool := ok_pool (P := P) (w := w) (K := K) (base := base) T.d_law_pool T.abs
  have G_law_right := ok_right (P := P) (w := w) (base := base) T
  have G_Effect_init := ok_einit (P := P) (w := w) (base := base) T
  have G_Effect_table := ok_etab (P := P) (w := w) (base := base) T
  refine T.d_law.F.ok scLaw (fun vs H Q E h => ?_) (fun cdv A outer s H vs Q E hr h => ?_)
  · obtain ⟨a, ns, rfl, _⟩ := h
    rfl
  obtain ⟨a, ns, rfl, hS, hlen, q⟩ := h
  refine ⟨_, pss_cons (ps_set (i := 1) scLaw.nd rfl (.inl rfl) (pe_make T.mk_Effect G_Effect_init (hr.mono (by decide)) (by rfl) T.m_Effect T.b3_Effect_init T.v3_Effect_init pass0 (pa_cons (pe_tup (pa_cons (pe_str) pa_nil)) (pa_cons (pe_int) (pa_cons (pe_tup (pa_cons (pe_tup (pa_cons (pe_int) (pa_cons (pe_int) (pa_cons (pe_str) pa_nil)))) pa_nil)) pa_nil)))))
      (pss_cons (ps_if (pt_cmpR op_ne (pe_methR (pv 1) T.cl_Effect T.me_Effect_table G_Effect_table (hr.mono (by decide)) pass0 (pa_cons (pe_int) (pa_cons (pe_int) (pa_cons (pe_int) pa_nil)))) (pe_str) (nomark _)) (pss_one (ps_ret (pe_bl))) (pss_nil))
      (pss_cons (ps_if (pt_cmpR op_ne (pe_methR (pe_make T.mk_Effect G_Effect_init (hr.mono (by decide)) (by rfl) T.m_Effect T.b3_Effect_init T.v3_Effect_init pass0 (pa_cons (pe_tup (pa_nil)) (pa_cons (pe_int) (pa_cons (pe_tup (pa_cons (pe_tup (pa_cons (pe_int) (pa_cons (pe_non) (pa_cons (pe_str) pa_nil)))) pa_nil)) pa_nil)))) T.cl_Effect T.me_Effect_table G_Effect_table (hr.mono (by decide)) pass0 (pa_cons (pe_op op_pow (pe_int) (pe_int)) pa_nil)) (pe_str) (nomark _)) (pss_one (ps_ret (pe_bl))) (pss_nil))
      (pss_one (ps_ret (pe_callB (crAll (K := K) rfl) (by rfl) T.all (by decide +kernel) (pa_cons (pe_lc (own := [("_law_k", 2)]) (g := gName 2) (tt := tYes) (by rfl) scLaw.nd (pi_range1 (by rfl) T.range (pa_cons (pe_callB (callMax2 rfl) (by rfl) T.max (by decide +kernel) (pa_cons (pe_int) (pa_cons (pe_callB (callMin2 rfl) (by rfl) T.min (by decide +kernel) (pa_cons (pe_int) (pa_cons (pe_callB (callLn (K := K)) (by rfl) T.len (by decide +kernel) (pa_cons (pv 0) pa_nil)) pa_nil))) pa_nil))) pa_nil)) (blkOk_by (own := [("_law_k", 2)]) (N := nLaw) (sc := defScope sLaw) (by decide +kernel)) (fun _ _ _ _ _ => pg_name (i := 2) scLaw.nd rfl (.inl rfl)) (fun _ _ _ _ _ => pts_nil) (fun _ _ _ _ _ => pcall T.d_law_right G_law_right (hr.mono (by decide)) (by rfl) pass0 (pa_cons (pcall T.d_law_pool G_law_pool (hr.mono (by decide)) (by rfl) pass0 (pa_cons (pcall T.d_law_cell G_law_cell (hr.mono (by decide)) (by rfl) pass0 (pa_cons (pv 0) (pa_cons (pv 2) pa_nil))) pa_nil)) pa_nil))) pa_nil)))))), ?_⟩
  walk_at "go"
  refine c_newT (by simp) fun tn K1 _ s1 en => ?_
  walk_at "go"
  refine c_newT (by simp) fun t0 K2 _ s2 e0 => ?_
  walk_at "go"
  refine c_newT (by simp) fun tc K3 _ s3 ec => ?_
  walk_at "go"
  refine c_mkEf (ns := nm29) (u := 0) (cs := ch29) (.inl (.inl (s3 _ _ (s2 _ _ en)))) (.inl (.inl ec)) (All2.one ⟨t0, rfl, .inl (.inl (s3 _ _ e0))⟩) ok29 (fun bx K4 _ s4 hE => ?_) rfl
  walk_at "go"
  refine recvE hE w_tab.1 w_tab.2.1 w_tab.2.2 ?_
  walk_at "go"
  refine c_tab (zs := [0, 4, 5]) hE ok29 (by decide) (fun z h => by simp at h; rcases h with rfl | rfl | rfl <;> decide +kernel) rfl fun K5 s5 => ?_
  rw [show tabT nm29 0 ch29 [0, 4, 5] = Str.ofString "       0       0       0  b\n       4       0       0  b\n       5       1       0  b" by decide +kernel]
  walk_at "go"
  refine c_newT (by simp) fun tn2 K6 _ s6 en2 => ?_
  walk_at "go"
  refine c_newT (by simp) fun t02 K7 _ s7 e02 => ?_
  walk_at "go"
  refine c_newT (by simp) fun tc2 K8 _ s8 ec2 => ?_
  walk_at "go"
  refine c_mkEf (ns := []) (u := 0) (cs := ch29b) (.inl (.inl (s8 _ _ (s7 _ _ en2)))) (.inl (.inl ec2)) (All2.one ⟨t02, rfl, .inl (.inl (s8 _ _ e02))⟩) ok29b (fun bx2 K9 _ s9 hE2 => ?_) rfl
  walk_at "go"
  refine recvE hE2 w_tab.1 w_tab.2.1 w_tab.2.2 ?_
  walk_at "go"
  rw [show (10 : Int) ^ Int.toNat 8 = ((100000000 : Nat) : Int) by decide]
  refine c_tab (zs := [100000000]) hE2 ok29b (by decide) (fun z h => by simp at h; rw [h]; decide +kernel) rfl fun K10 s10 => ?_
  rw [show tabT [] 0 ch29b [100000000] = Str.ofString "100000000100000000100000000  -" by decide +kernel]
  walk_at "go"
  have sAll := s1.trans (s2.trans (s3.trans (s4.trans (s5.trans (s6.trans (s7.trans (s8.trans (s9.trans s10))))))))
  (
    refine c_lnL (sAll.seq hS) ?_
    walk_at "go"
    refine c_min2 ?_
    walk_at "go"
    refine c_max2 ?_
    walk_at "go"
    rw [List.length_map]
    refine ⟨_, rfl, by omega, by omega, fun D2 nD2 => ?_⟩
    refine lc_rg (fun _ v => v = V.bl true) nD2 (by omega) (fun _ => rfl) (fun i H1 Q' hi s1 k => ?_) (fun H1 xs s1 e1 l r => ?_)
    · walk_at "go"
      refine ⟨a, ns, _, rfl, s1.seq (sAll.seq hS), by omega, by omega, fun z H2 s2 => ?_⟩
      walk_at "go"
      refine ⟨z, rfl, fun p H3 np s3 pool => ?_⟩
      walk_at "go"
      refine ⟨p, rfl, pool, fun H4 st => ?_⟩
      refine k _ _ (fun b o e => ?_) rfl
      have e2 := s2 b o e
      have ne : p ≠ b := fun z => by
        rw [← z, np] at e2
        cases e2
      exact st.at (s3 _ _ e2) ne
    · obtain ⟨bs, rfl, hb⟩ := bls_of (n := 0) fun i y e => r i y e
      refine c_all (.inl (.inl e1)) ?_
      rw [hb]
      exact q _)
end
end Und
namespace Und
open PySem PySem.Spec PyProof.Rows L2
local macro_rules | `(tactic| walk_at "side") => `(tactic| first | decide | omega | exact ⟨by omega, by omega⟩ | (show (0 : Int) < _; omega) | (exact Or.inl ⟨by omega, by omega⟩) | (exact Or.inr ⟨by omega, by omega⟩) | (exact sz (by simp)) | (exact szl (by simp)))
local macro_rules | `(tactic| walk_at "u") => `(tactic| first
  | with_reducible refine c_seq ?_ | with_reducible refine c_next ?_ | with_reducible refine c_yes ?_ | with_reducible refine c_asg ?_ | with_reducible refine c_asg2 ?_ | with_reducible refine c_par ?_ | with_reducible refine c_two ?_ | with_reducible refine c_g ?_ | with_reducible refine c_gsub ?_ | with_reducible refine c_gcons ?_ | with_reducible refine c_gnil ?_ | with_reducible refine c_ret ?_ | with_reducible refine c_drop ?_
  | ((with_reducible refine c_var (v := ?v) ?h ?_); (case h => rfl)) | with_reducible refine c_c ?_ | with_reducible refine c_op ?_ | with_reducible refine c_un ?_ | with_reducible refine c_I0 ?_
  | ((with_reducible refine c_I ?h ?_); (case h => walk_at "side"))
  | ((with_reducible refine c_eq ?h ?_); (case h => rfl)) | ((with_reducible refine c_neq ?h ?_); (case h => rfl)) | with_reducible refine c_test ?_ | with_reducible refine c_B ?_ | with_reducible refine c_bl ?_ | with_reducible refine c_int ?_ | with_reducible refine c_ifs ?_ | with_reducible refine c_ife ?_
  | with_reducible refine c_andV ?_ | with_reducible refine c_orV ?_ | with_reducible refine c_notV ?_ | with_reducible refine c_and ?_ | with_reducible refine c_or ?_ | with_reducible refine c_not ?_
  | with_reducible refine c_call ?_ | with_reducible refine c_cb ?_ | with_reducible refine c_nil ?_ | with_reducible refine c_cons ?_
  | with_reducible refine c_tup ?_ | with_reducible refine c_lst ?_ | with_reducible refine c_sl ?_ | with_reducible refine c_nop ?_ | with_reducible refine c_part ?_ | with_reducible refine c_fld ?_
  | with_reducible refine c_for ?_ | with_reducible refine c_ilist ?_ | with_reducible refine c_itup ?_ | with_reducible refine c_irng1 ?_ | with_reducible refine c_lc ?_
  | with_reducible refine c_m1 ?_ | with_reducible refine c_isS ?_ | with_reducible refine c_chain ?_ | with_reducible refine c_str ?_ | with_reducible refine c_make ?_ | with_reducible refine c_meth ?_ | with_reducible refine c_prop ?_ | with_reducible refine c_sfld ?_ | with_reducible refine c_ienumT ?_ | with_reducible refine iteT ?_ | with_reducible refine iteF ?_ | with_reducible refine iteNT ?_ | with_reducible refine iteNF ?_
  | ((with_reducible refine iteDT ?h ?_); (case h => first | rfl | omega)) | ((with_reducible refine iteDF ?h ?_); (case h => first | omega | (intro z; cases z; done))) | ((with_reducible refine iteNDT ?h ?_); (case h => first | rfl | omega)) | ((with_reducible refine iteNDF ?h ?_); (case h => first | omega | (intro z; cases z; done))))
local macro_rules | `(tactic| walk_at "go") => `(tactic| repeat (walk_at "u"))
theorem all_mk {l : PySem.W.OpenLaw} {w : World} {K : PySem.W.Frag} {h : Heap} {mg : Str → Option Value} {fa : Addr} (X : K.In h) (G : h.Ns mainGlobals mg) (hfa : mg "law" = some (.ref fa))
    {f_IsInt : Addr} {od_IsInt an_IsInt : Option Addr} {sl_IsInt : Array (Option Value)} {oc_IsInt kV_IsInt dc_IsInt pm_IsInt cd_IsInt ct_IsInt : Value}
    {f_IsName : Addr} {od_IsName an_IsName : Option Addr} {sl_IsName : Array (Option Value)} {oc_IsName kV_IsName dc_IsName pm_IsName cd_IsName ct_IsName : Value}
    {f_IsAm : Addr} {od_IsAm an_IsAm : Option Addr} {sl_IsAm : Array (Option Value)} {oc_IsAm kV_IsAm dc_IsAm pm_IsAm cd_IsAm ct_IsAm : Value}
    {f_ChNames : Addr} {od_ChNames an_ChNames : Option Addr} {sl_ChNames : Array (Option Value)} {oc_ChNames kV_ChNames dc_ChNames pm_ChNames cd_ChNames ct_ChNames : Value}
    {f_ChLen : Addr} {od_ChLen an_ChLen : Option Addr} {sl_ChLen : Array (Option Value)} {oc_ChLen kV_ChLen dc_ChLen pm_ChLen cd_ChLen ct_ChLen : Value}
    {f_FstA : Addr} {od_FstA an_FstA : Option Addr} {sl_FstA : Array (Option Value)} {oc_FstA kV_FstA dc_FstA pm_FstA cd_FstA ct_FstA : Value}
    {f_ChCnt : Addr} {od_ChCnt an_ChCnt : Option Addr} {sl_ChCnt : Array (Option Value)} {oc_ChCnt kV_ChCnt dc_ChCnt pm_ChCnt cd_ChCnt ct_ChCnt : Value}
    {f_IsRun : Addr} {od_IsRun an_IsRun : Option Addr} {sl_IsRun : Array (Option Value)} {oc_IsRun kV_IsRun dc_IsRun pm_IsRun cd_IsRun ct_IsRun : Value}
    {f_IsLoss : Addr} {od_IsLoss an_IsLoss : Option Addr} {sl_IsLoss : Array (Option Value)} {oc_IsLoss kV_IsLoss dc_IsLoss pm_IsLoss cd_IsLoss ct_IsLoss : Value}
    {f_IsChg : Addr} {od_IsChg an_IsChg : Option Addr} {sl_IsChg : Array (Option Value)} {oc_IsChg kV_IsChg dc_IsChg pm_IsChg cd_IsChg ct_IsChg : Value}
    {f_CanF : Addr} {od_CanF an_CanF : Option Addr} {sl_CanF : Array (Option Value)} {oc_CanF kV_CanF dc_CanF pm_CanF cd_CanF ct_CanF : Value}
    {f_ChChg : Addr} {od_ChChg an_ChChg : Option Addr} {sl_ChChg : Array (Option Value)} {oc_ChChg kV_ChChg dc_ChChg pm_ChChg cd_ChChg ct_ChChg : Value}
    {f_Cell : Addr} {od_Cell an_Cell : Option Addr} {sl_Cell : Array (Option Value)} {oc_Cell kV_Cell dc_Cell pm_Cell cd_Cell ct_Cell : Value}
    {f_Pool : Addr} {od_Pool an_Pool : Option Addr} {sl_Pool : Array (Option Value)} {oc_Pool kV_Pool dc_Pool pm_Pool cd_Pool ct_Pool : Value}
    {f_Draw : Addr} {od_Draw an_Draw : Option Addr} {sl_Draw : Array (Option Value)} {oc_Draw kV_Draw dc_Draw pm_Draw cd_Draw ct_Draw : Value}
    {f_Calls : Addr} {od_Calls an_Calls : Option Addr} {sl_Calls : Array (Option Value)} {oc_Calls kV_Calls dc_Calls pm_Calls cd_Calls ct_Calls : Value}
    {f_First : Addr} {od_First an_First : Option Addr} {sl_First : Array (Option Value)} {oc_First kV_First dc_First pm_First cd_First ct_First : Value}
    {f_Gap : Addr} {od_Gap an_Gap : Option Addr} {sl_Gap : Array (Option Value)} {oc_Gap kV_Gap dc_Gap pm_Gap cd_Gap ct_Gap : Value}
    {f_Tabl : Addr} {od_Tabl an_Tabl : Option Addr} {sl_Tabl : Array (Option Value)} {oc_Tabl kV_Tabl dc_Tabl pm_Tabl cd_Tabl ct_Tabl : Value}
    {f_Told : Addr} {od_Told an_Told : Option Addr} {sl_Told : Array (Option Value)} {oc_Told kV_Told dc_Told pm_Told cd_Told ct_Told : Value}
    {f_Col : Addr} {od_Col an_Col : Option Addr} {sl_Col : Array (Option Value)} {oc_Col kV_Col dc_Col pm_Col cd_Col ct_Col : Value}
    {f_Rows : Addr} {od_Rows an_Rows : Option Addr} {sl_Rows : Array (Option Value)} {oc_Rows kV_Rows dc_Rows pm_Rows cd_Rows ct_Rows : Value}
    {f_Size : Addr} {od_Size an_Size : Option Addr} {sl_Size : Array (Option Value)} {oc_Size kV_Size dc_Size pm_Size cd_Size ct_Size : Value}
    {f_Right : Addr} {od_Right an_Right : Option Addr} {sl_Right : Array (Option Value)} {oc_Right kV_Right dc_Right pm_Right cd_Right ct_Right : Value}
    {f_Law : Addr} {od_Law an_Law : Option Addr} {sl_Law : Array (Option Value)} {oc_Law kV_Law dc_Law pm_Law cd_Law ct_Law : Value}
    {t_LONGEST_NAME : Tok}
    {C_Effect : Addr}
    {T_Effect_init : Addr} {oT_Effect_init : Obj} {nT_Effect_init : Nat}
    {f_Effect_init : Addr} {od_Effect_init an_Effect_init : Option Addr} {sl_Effect_init : Array (Option Value)} {oc_Effect_init kV_Effect_init dc_Effect_init pm_Effect_init cd_Effect_init ct_Effect_init : Value}
    {e0_Effect_init : Addr} {oe0_Effect_init : Obj} {ne0_Effect_init : Nat}
    {w1_Effect_init : Tok}
    {e2_Effect_init : Addr} {oe2_Effect_init : Obj} {ne2_Effect_init : Nat}
    {f_Effect_table : Addr} {od_Effect_table an_Effect_table : Option Addr} {sl_Effect_table : Array (Option Value)} {oc_Effect_table kV_Effect_table dc_Effect_table pm_Effect_table cd_Effect_table ct_Effect_table : Value}
    {f_Effect_getitem : Addr} {od_Effect_getitem an_Effect_getitem : Option Addr} {sl_Effect_getitem : Array (Option Value)} {oc_Effect_getitem kV_Effect_getitem dc_Effect_getitem pm_Effect_getitem cd_Effect_getitem ct_Effect_getitem : Value}
    (a_IsInt : PySem.W.nsIn K mainGlobals "is_integer" = some (some (.ref f_IsInt)))
    (l_IsInt : K.lookup f_IsInt = some ⟨oc_IsInt, od_IsInt, .func (PySem.W.fnOf "is_integer" "is_integer" (defArgs sIsInt) (defBody sIsInt) (defScope sIsInt) .none kV_IsInt dc_IsInt pm_IsInt an_IsInt cd_IsInt ct_IsInt), sl_IsInt⟩)
    (c_IsInt : PySem.W.codeIn K cd_IsInt "is_integer" = true)
    (k_IsInt : PySem.W.keepIn K (.ref f_IsInt) = true)
    (a_IsName : PySem.W.nsIn K mainGlobals "is_name" = some (some (.ref f_IsName)))
    (l_IsName : K.lookup f_IsName = some ⟨oc_IsName, od_IsName, .func (PySem.W.fnOf "is_name" "is_name" (defArgs sIsName) (defBody sIsName) (defScope sIsName) .none kV_IsName dc_IsName pm_IsName an_IsName cd_IsName ct_IsName), sl_IsName⟩)
    (c_IsName : PySem.W.codeIn K cd_IsName "is_name" = true)
    (k_IsName : PySem.W.keepIn K (.ref f_IsName) = true)
    (a_IsAm : PySem.W.nsIn K mainGlobals "is_amount" = some (some (.ref f_IsAm)))
    (l_IsAm : K.lookup f_IsAm = some ⟨oc_IsAm, od_IsAm, .func (PySem.W.fnOf "is_amount" "is_amount" (defArgs sIsAm) (defBody sIsAm) (defScope sIsAm) .none kV_IsAm dc_IsAm pm_IsAm an_IsAm cd_IsAm ct_IsAm), sl_IsAm⟩)
    (c_IsAm : PySem.W.codeIn K cd_IsAm "is_amount" = true)
    (k_IsAm : PySem.W.keepIn K (.ref f_IsAm) = true)
    (a_ChNames : PySem.W.nsIn K mainGlobals "check_names" = some (some (.ref f_ChNames)))
    (l_ChNames : K.lookup f_ChNames = some ⟨oc_ChNames, od_ChNames, .func (PySem.W.fnOf "check_names" "check_names" (defArgs sChNames) (defBody sChNames) (defScope sChNames) .none kV_ChNames dc_ChNames pm_ChNames an_ChNames cd_ChNames ct_ChNames), sl_ChNames⟩)
    (c_ChNames : PySem.W.codeIn K cd_ChNames "check_names" = true)
    (k_ChNames : PySem.W.keepIn K (.ref f_ChNames) = true)
    (a_ChLen : PySem.W.nsIn K mainGlobals "check_length" = some (some (.ref f_ChLen)))
    (l_ChLen : K.lookup f_ChLen = some ⟨oc_ChLen, od_ChLen, .func (PySem.W.fnOf "check_length" "check_length" (defArgs sChLen) (defBody sChLen) (defScope sChLen) .none kV_ChLen dc_ChLen pm_ChLen an_ChLen cd_ChLen ct_ChLen), sl_ChLen⟩)
    (c_ChLen : PySem.W.codeIn K cd_ChLen "check_length" = true)
    (k_ChLen : PySem.W.keepIn K (.ref f_ChLen) = true)
    (a_FstA : PySem.W.nsIn K mainGlobals "first_alike" = some (some (.ref f_FstA)))
    (l_FstA : K.lookup f_FstA = some ⟨oc_FstA, od_FstA, .func (PySem.W.fnOf "first_alike" "first_alike" (defArgs sFstA) (defBody sFstA) (defScope sFstA) .none kV_FstA dc_FstA pm_FstA an_FstA cd_FstA ct_FstA), sl_FstA⟩)
    (c_FstA : PySem.W.codeIn K cd_FstA "first_alike" = true)
    (k_FstA : PySem.W.keepIn K (.ref f_FstA) = true)
    (a_ChCnt : PySem.W.nsIn K mainGlobals "check_undone_count" = some (some (.ref f_ChCnt)))
    (l_ChCnt : K.lookup f_ChCnt = some ⟨oc_ChCnt, od_ChCnt, .func (PySem.W.fnOf "check_undone_count" "check_undone_count" (defArgs sChCnt) (defBody sChCnt) (defScope sChCnt) .none kV_ChCnt dc_ChCnt pm_ChCnt an_ChCnt cd_ChCnt ct_ChCnt), sl_ChCnt⟩)
    (c_ChCnt : PySem.W.codeIn K cd_ChCnt "check_undone_count" = true)
    (k_ChCnt : PySem.W.keepIn K (.ref f_ChCnt) = true)
    (a_IsRun : PySem.W.nsIn K mainGlobals "is_run" = some (some (.ref f_IsRun)))
    (l_IsRun : K.lookup f_IsRun = some ⟨oc_IsRun, od_IsRun, .func (PySem.W.fnOf "is_run" "is_run" (defArgs sIsRun) (defBody sIsRun) (defScope sIsRun) .none kV_IsRun dc_IsRun pm_IsRun an_IsRun cd_IsRun ct_IsRun), sl_IsRun⟩)
    (c_IsRun : PySem.W.codeIn K cd_IsRun "is_run" = true)
    (k_IsRun : PySem.W.keepIn K (.ref f_IsRun) = true)
    (a_IsLoss : PySem.W.nsIn K mainGlobals "is_loss" = some (some (.ref f_IsLoss)))
    (l_IsLoss : K.lookup f_IsLoss = some ⟨oc_IsLoss, od_IsLoss, .func (PySem.W.fnOf "is_loss" "is_loss" (defArgs sIsLoss) (defBody sIsLoss) (defScope sIsLoss) .none kV_IsLoss dc_IsLoss pm_IsLoss an_IsLoss cd_IsLoss ct_IsLoss), sl_IsLoss⟩)
    (c_IsLoss : PySem.W.codeIn K cd_IsLoss "is_loss" = true)
    (k_IsLoss : PySem.W.keepIn K (.ref f_IsLoss) = true)
    (a_IsChg : PySem.W.nsIn K mainGlobals "is_change" = some (some (.ref f_IsChg)))
    (l_IsChg : K.lookup f_IsChg = some ⟨oc_IsChg, od_IsChg, .func (PySem.W.fnOf "is_change" "is_change" (defArgs sIsChg) (defBody sIsChg) (defScope sIsChg) .none kV_IsChg dc_IsChg pm_IsChg an_IsChg cd_IsChg ct_IsChg), sl_IsChg⟩)
    (c_IsChg : PySem.W.codeIn K cd_IsChg "is_change" = true)
    (k_IsChg : PySem.W.keepIn K (.ref f_IsChg) = true)
    (a_CanF : PySem.W.nsIn K mainGlobals "can_follow" = some (some (.ref f_CanF)))
    (l_CanF : K.lookup f_CanF = some ⟨oc_CanF, od_CanF, .func (PySem.W.fnOf "can_follow" "can_follow" (defArgs sCanF) (defBody sCanF) (defScope sCanF) .none kV_CanF dc_CanF pm_CanF an_CanF cd_CanF ct_CanF), sl_CanF⟩)
    (c_CanF : PySem.W.codeIn K cd_CanF "can_follow" = true)
    (k_CanF : PySem.W.keepIn K (.ref f_CanF) = true)
    (a_ChChg : PySem.W.nsIn K mainGlobals "check_changes" = some (some (.ref f_ChChg)))
    (l_ChChg : K.lookup f_ChChg = some ⟨oc_ChChg, od_ChChg, .func (PySem.W.fnOf "check_changes" "check_changes" (defArgs sChChg) (defBody sChChg) (defScope sChChg) .none kV_ChChg dc_ChChg pm_ChChg an_ChChg cd_ChChg ct_ChChg), sl_ChChg⟩)
    (c_ChChg : PySem.W.codeIn K cd_ChChg "check_changes" = true)
    (k_ChChg : PySem.W.keepIn K (.ref f_ChChg) = true)
    (a_Cell : PySem.W.nsIn K mainGlobals "_law_cell" = some (some (.ref f_Cell)))
    (l_Cell : K.lookup f_Cell = some ⟨oc_Cell, od_Cell, .func (PySem.W.fnOf "_law_cell" "_law_cell" (defArgs sCell) (defBody sCell) (defScope sCell) .none kV_Cell dc_Cell pm_Cell an_Cell cd_Cell ct_Cell), sl_Cell⟩)
    (c_Cell : PySem.W.codeIn K cd_Cell "_law_cell" = true)
    (k_Cell : PySem.W.keepIn K (.ref f_Cell) = true)
    (a_Pool : PySem.W.nsIn K mainGlobals "_law_pool" = some (some (.ref f_Pool)))
    (l_Pool : K.lookup f_Pool = some ⟨oc_Pool, od_Pool, .func (PySem.W.fnOf "_law_pool" "_law_pool" (defArgs sPool) (defBody sPool) (defScope sPool) .none kV_Pool dc_Pool pm_Pool an_Pool cd_Pool ct_Pool), sl_Pool⟩)
    (c_Pool : PySem.W.codeIn K cd_Pool "_law_pool" = true)
    (k_Pool : PySem.W.keepIn K (.ref f_Pool) = true)
    (a_Draw : PySem.W.nsIn K mainGlobals "_law_draw" = some (some (.ref f_Draw)))
    (l_Draw : K.lookup f_Draw = some ⟨oc_Draw, od_Draw, .func (PySem.W.fnOf "_law_draw" "_law_draw" (defArgs sDraw) (defBody sDraw) (defScope sDraw) .none kV_Draw dc_Draw pm_Draw an_Draw cd_Draw ct_Draw), sl_Draw⟩)
    (c_Draw : PySem.W.codeIn K cd_Draw "_law_draw" = true)
    (k_Draw : PySem.W.keepIn K (.ref f_Draw) = true)
    (a_Calls : PySem.W.nsIn K mainGlobals "_law_calls" = some (some (.ref f_Calls)))
    (l_Calls : K.lookup f_Calls = some ⟨oc_Calls, od_Calls, .func (PySem.W.fnOf "_law_calls" "_law_calls" (defArgs sCalls) (defBody sCalls) (defScope sCalls) .none kV_Calls dc_Calls pm_Calls an_Calls cd_Calls ct_Calls), sl_Calls⟩)
    (c_Calls : PySem.W.codeIn K cd_Calls "_law_calls" = true)
    (k_Calls : PySem.W.keepIn K (.ref f_Calls) = true)
    (a_First : PySem.W.nsIn K mainGlobals "_law_first" = some (some (.ref f_First)))
    (l_First : K.lookup f_First = some ⟨oc_First, od_First, .func (PySem.W.fnOf "_law_first" "_law_first" (defArgs sFirst) (defBody sFirst) (defScope sFirst) .none kV_First dc_First pm_First an_First cd_First ct_First), sl_First⟩)
    (c_First : PySem.W.codeIn K cd_First "_law_first" = true)
    (k_First : PySem.W.keepIn K (.ref f_First) = true)
    (a_Gap : PySem.W.nsIn K mainGlobals "_law_gap" = some (some (.ref f_Gap)))
    (l_Gap : K.lookup f_Gap = some ⟨oc_Gap, od_Gap, .func (PySem.W.fnOf "_law_gap" "_law_gap" (defArgs sGap) (defBody sGap) (defScope sGap) .none kV_Gap dc_Gap pm_Gap an_Gap cd_Gap ct_Gap), sl_Gap⟩)
    (c_Gap : PySem.W.codeIn K cd_Gap "_law_gap" = true)
    (k_Gap : PySem.W.keepIn K (.ref f_Gap) = true)
    (a_Tabl : PySem.W.nsIn K mainGlobals "_law_tabled" = some (some (.ref f_Tabl)))
    (l_Tabl : K.lookup f_Tabl = some ⟨oc_Tabl, od_Tabl, .func (PySem.W.fnOf "_law_tabled" "_law_tabled" (defArgs sTabl) (defBody sTabl) (defScope sTabl) .none kV_Tabl dc_Tabl pm_Tabl an_Tabl cd_Tabl ct_Tabl), sl_Tabl⟩)
    (c_Tabl : PySem.W.codeIn K cd_Tabl "_law_tabled" = true)
    (k_Tabl : PySem.W.keepIn K (.ref f_Tabl) = true)
    (a_Told : PySem.W.nsIn K mainGlobals "_law_told" = some (some (.ref f_Told)))
    (l_Told : K.lookup f_Told = some ⟨oc_Told, od_Told, .func (PySem.W.fnOf "_law_told" "_law_told" (defArgs sTold) (defBody sTold) (defScope sTold) .none kV_Told dc_Told pm_Told an_Told cd_Told ct_Told), sl_Told⟩)
    (c_Told : PySem.W.codeIn K cd_Told "_law_told" = true)
    (k_Told : PySem.W.keepIn K (.ref f_Told) = true)
    (a_Col : PySem.W.nsIn K mainGlobals "_law_column" = some (some (.ref f_Col)))
    (l_Col : K.lookup f_Col = some ⟨oc_Col, od_Col, .func (PySem.W.fnOf "_law_column" "_law_column" (defArgs sCol) (defBody sCol) (defScope sCol) .none kV_Col dc_Col pm_Col an_Col cd_Col ct_Col), sl_Col⟩)
    (c_Col : PySem.W.codeIn K cd_Col "_law_column" = true)
    (k_Col : PySem.W.keepIn K (.ref f_Col) = true)
    (a_Rows : PySem.W.nsIn K mainGlobals "_law_rows" = some (some (.ref f_Rows)))
    (l_Rows : K.lookup f_Rows = some ⟨oc_Rows, od_Rows, .func (PySem.W.fnOf "_law_rows" "_law_rows" (defArgs sRows) (defBody sRows) (defScope sRows) .none kV_Rows dc_Rows pm_Rows an_Rows cd_Rows ct_Rows), sl_Rows⟩)
    (c_Rows : PySem.W.codeIn K cd_Rows "_law_rows" = true)
    (k_Rows : PySem.W.keepIn K (.ref f_Rows) = true)
    (a_Size : PySem.W.nsIn K mainGlobals "_law_size" = some (some (.ref f_Size)))
    (l_Size : K.lookup f_Size = some ⟨oc_Size, od_Size, .func (PySem.W.fnOf "_law_size" "_law_size" (defArgs sSize) (defBody sSize) (defScope sSize) .none kV_Size dc_Size pm_Size an_Size cd_Size ct_Size), sl_Size⟩)
    (c_Size : PySem.W.codeIn K cd_Size "_law_size" = true)
    (k_Size : PySem.W.keepIn K (.ref f_Size) = true)
    (a_Right : PySem.W.nsIn K mainGlobals "_law_right" = some (some (.ref f_Right)))
    (l_Right : K.lookup f_Right = some ⟨oc_Right, od_Right, .func (PySem.W.fnOf "_law_right" "_law_right" (defArgs sRight) (defBody sRight) (defScope sRight) .none kV_Right dc_Right pm_Right an_Right cd_Right ct_Right), sl_Right⟩)
    (c_Right : PySem.W.codeIn K cd_Right "_law_right" = true)
    (k_Right : PySem.W.keepIn K (.ref f_Right) = true)
    (a_Law : PySem.W.nsIn K mainGlobals "law" = some (some (.ref f_Law)))
    (l_Law : K.lookup f_Law = some ⟨oc_Law, od_Law, .func (PySem.W.fnOf "law" "law" (defArgs sLaw) (defBody sLaw) (defScope sLaw) .none kV_Law dc_Law pm_Law an_Law cd_Law ct_Law), sl_Law⟩)
    (c_Law : PySem.W.codeIn K cd_Law "law" = true)
    (k_Law : PySem.W.keepIn K (.ref f_Law) = true)
    (z_abs : PySem.W.nsIn K mainGlobals "abs" = some none)
    (z_all : PySem.W.nsIn K mainGlobals "all" = some none)
    (z_bool : PySem.W.nsIn K mainGlobals "bool" = some none)
    (z_divmod : PySem.W.nsIn K mainGlobals "divmod" = some none)
    (z_enumerate : PySem.W.nsIn K mainGlobals "enumerate" = some none)
    (z_int : PySem.W.nsIn K mainGlobals "int" = some none)
    (z_isinstance : PySem.W.nsIn K mainGlobals "isinstance" = some none)
    (z_len : PySem.W.nsIn K mainGlobals "len" = some none)
    (z_list : PySem.W.nsIn K mainGlobals "list" = some none)
    (z_max : PySem.W.nsIn K mainGlobals "max" = some none)
    (z_min : PySem.W.nsIn K mainGlobals "min" = some none)
    (z_range : PySem.W.nsIn K mainGlobals "range" = some none)
    (z_str : PySem.W.nsIn K mainGlobals "str" = some none)
    (z_tuple : PySem.W.nsIn K mainGlobals "tuple" = some none)
    (a_LONGEST_NAME : PySem.W.nsIn K mainGlobals "LONGEST_NAME" = some (some (.int 8 t_LONGEST_NAME)))
    (aC_Effect : PySem.W.nsIn K mainGlobals "Effect" = some (some (.ref C_Effect)))
    (pg_Effect : PySem.W.plainGet K C_Effect Str.empty = true)
    (hd_Effect : PySem.W.hasDictIn K C_Effect = true)
    (po_Effect : PySem.W.plainOver K C_Effect = true)
    (sa_Effect : PySem.W.findIn K (.ref C_Effect) "__setattr__" = some (some (.builtin "object.__setattr__")))
    (mk_Effect : PySem.W.makesIn K C_Effect = true)
    (kc_Effect : PySem.W.keepIn K (.ref C_Effect) = true)
    (ia_Effect : PySem.W.findIn K (.ref C_Effect) "__class__" = some (some (.builtin "object.__class__")))
    (in_Effect : PySem.W.specialIn K (.builtin "object.__class__") "__get__" = some (some (.builtin "getset_descriptor.__get__")))
    (it_Effect : PySem.W.takesIn K (.builtin "object.__class__") = some true)
    (im_Effect : PySem.W.mroIn K C_Effect (.type "object") = some true)
    (n_Effect_new_names : PySem.W.findIn K (.ref C_Effect) "new_names" = some none)
    (n_Effect_undone_count : PySem.W.findIn K (.ref C_Effect) "undone_count" = some none)
    (n_Effect_changes : PySem.W.findIn K (.ref C_Effect) "changes" = some none)
    (ai_Effect_init : PySem.W.findIn K (.ref C_Effect) "__init__" = some (some (.ref f_Effect_init)))
    (l_Effect_init : K.lookup f_Effect_init = some ⟨oc_Effect_init, od_Effect_init, .func (PySem.W.fnOf "__init__" "Effect.__init__" (defArgs sEInit) (defBody sEInit) (defScope sEInit) (.ref T_Effect_init) kV_Effect_init dc_Effect_init pm_Effect_init an_Effect_init cd_Effect_init ct_Effect_init), sl_Effect_init⟩)
    (c_Effect_init : PySem.W.codeIn K cd_Effect_init "Effect.__init__" = true)
    (k_Effect_init : PySem.W.keepIn K (.ref f_Effect_init) = true)
    (lT_Effect_init : K.lookup T_Effect_init = some oT_Effect_init)
    (oT_d_Effect_init : oT_Effect_init.data = .seq #[.ref e0_Effect_init, .int 0 w1_Effect_init, .ref e2_Effect_init] nT_Effect_init)
    (le0_Effect_init : K.lookup e0_Effect_init = some oe0_Effect_init)
    (ce0_Effect_init : oe0_Effect_init.cls = .type "tuple")
    (de0_Effect_init : oe0_Effect_init.data = .seq #[] ne0_Effect_init)
    (le2_Effect_init : K.lookup e2_Effect_init = some oe2_Effect_init)
    (ce2_Effect_init : oe2_Effect_init.cls = .type "tuple")
    (de2_Effect_init : oe2_Effect_init.data = .seq #[] ne2_Effect_init)
    (ii_Effect_init : PySem.W.isFn K (.ref f_Effect_init) = true)
    (me_Effect_table : PySem.W.findIn K (.ref C_Effect) "table" = some (some (.ref f_Effect_table)))
    (l_Effect_table : K.lookup f_Effect_table = some ⟨oc_Effect_table, od_Effect_table, .func (PySem.W.fnOf "table" "Effect.table" (defArgs sETab) (defBody sETab) (defScope sETab) .none kV_Effect_table dc_Effect_table pm_Effect_table an_Effect_table cd_Effect_table ct_Effect_table), sl_Effect_table⟩)
    (c_Effect_table : PySem.W.codeIn K cd_Effect_table "Effect.table" = true)
    (k_Effect_table : PySem.W.keepIn K (.ref f_Effect_table) = true)
    (mi_Effect_table : PySem.W.isFn K (.ref f_Effect_table) = true)
    (me_Effect_getitem : PySem.W.findIn K (.ref C_Effect) "__getitem__" = some (some (.ref f_Effect_getitem)))
    (l_Effect_getitem : K.lookup f_Effect_getitem = some ⟨oc_Effect_getitem, od_Effect_getitem, .func (PySem.W.fnOf "__getitem__" "Effect.__getitem__" (defArgs sEGet) (defBody sEGet) (defScope sEGet) .none kV_Effect_getitem dc_Effect_getitem pm_Effect_getitem an_Effect_getitem cd_Effect_getitem ct_Effect_getitem), sl_Effect_getitem⟩)
    (c_Effect_getitem : PySem.W.codeIn K cd_Effect_getitem "Effect.__getitem__" = true)
    (k_Effect_getitem : PySem.W.keepIn K (.ref f_Effect_getitem) = true)
    (mi_Effect_getitem : PySem.W.isFn K (.ref f_Effect_getitem) = true)
    (fi_Effect_getitem : PySem.W.fnIn K f_Effect_getitem = true) :
    ∃ fd : FuncData, (∀ (s : Shared) (v : Value), BindsTo s fd ⟨[v], []⟩ [("_law_script", v)]) ∧ ∀ base : Heap, K.In base → base.Ns mainGlobals mg → FnOk l.prog w K mg base CX0 12 fa fd ["_law_script"] (spLaw K) := by
  have e := hfa.symm.trans (PySem.W.mg_of X G a_Law)
  have e2 : f_Law = fa := by
    cases e
    rfl
  subst e2
  have F_IsInt := fun_mk (st := sIsInt) l_IsInt c_IsInt k_IsInt
  have b_IsInt := F_IsInt.binds (ps := pIsInt) fun _ _ _ _ _ _ us hl => match us, hl with | [_, _], _ => rfl
  have F_IsName := fun_mk (st := sIsName) l_IsName c_IsName k_IsName
  have b_IsName := F_IsName.binds (ps := pIsName) fun _ _ _ _ _ _ us hl => match us, hl with | [_], _ => rfl
  have F_IsAm := fun_mk (st := sIsAm) l_IsAm c_IsAm k_IsAm
  have b_IsAm := F_IsAm.binds (ps := pIsAm) fun _ _ _ _ _ _ us hl => match us, hl with | [_], _ => rfl
  have F_ChNames := fun_mk (st := sChNames) l_ChNames c_ChNames k_ChNames
  have b_ChNames := F_ChNames.binds (ps := pChNames) fun _ _ _ _ _ _ us hl => match us, hl with | [_], _ => rfl
  have F_ChLen := fun_mk (st := sChLen) l_ChLen c_ChLen k_ChLen
  have b_ChLen := F_ChLen.binds (ps := pChLen) fun _ _ _ _ _ _ us hl => match us, hl with | [_], _ => rfl
  have F_FstA := fun_mk (st := sFstA) l_FstA c_FstA k_FstA
  have b_FstA := F_FstA.binds (ps := pFstA) fun _ _ _ _ _ _ us hl => match us, hl with | [_, _], _ => rfl
  have F_ChCnt := fun_mk (st := sChCnt) l_ChCnt c_ChCnt k_ChCnt
  have b_ChCnt := F_ChCnt.binds (ps := pChCnt) fun _ _ _ _ _ _ us hl => match us, hl with | [_, _], _ => rfl
  have F_IsRun := fun_mk (st := sIsRun) l_IsRun c_IsRun k_IsRun
  have b_IsRun := F_IsRun.binds (ps := pIsRun) fun _ _ _ _ _ _ us hl => match us, hl with | [_, _, _], _ => rfl
  have F_IsLoss := fun_mk (st := sIsLoss) l_IsLoss c_IsLoss k_IsLoss
  have b_IsLoss := F_IsLoss.binds (ps := pIsLoss) fun _ _ _ _ _ _ us hl => match us, hl with | [_, _, _], _ => rfl
  have F_IsChg := fun_mk (st := sIsChg) l_IsChg c_IsChg k_IsChg
  have b_IsChg := F_IsChg.binds (ps := pIsChg) fun _ _ _ _ _ _ us hl => match us, hl with | [_, _], _ => rfl
  have F_CanF := fun_mk (st := sCanF) l_CanF c_CanF k_CanF
  have b_CanF := F_CanF.binds (ps := pCanF) fun _ _ _ _ _ _ us hl => match us, hl with | [_, _], _ => rfl
  have F_ChChg := fun_mk (st := sChChg) l_ChChg c_ChChg k_ChChg
  have b_ChChg := F_ChChg.binds (ps := pChChg) fun _ _ _ _ _ _ us hl => match us, hl with | [_, _], _ => rfl
  have F_Cell := fun_mk (st := sCell) l_Cell c_Cell k_Cell
  have b_Cell := F_Cell.binds (ps := pCell) fun _ _ _ _ _ _ us hl => match us, hl with | [_, _], _ => rfl
  have F_Pool := fun_mk (st := sPool) l_Pool c_Pool k_Pool
  have b_Pool := F_Pool.binds (ps := pPool) fun _ _ _ _ _ _ us hl => match us, hl with | [_], _ => rfl
  have F_Draw := fun_mk (st := sDraw) l_Draw c_Draw k_Draw
  have b_Draw := F_Draw.binds (ps := pDraw) fun _ _ _ _ _ _ us hl => match us, hl with | [_, _], _ => rfl
  have F_Calls := fun_mk (st := sCalls) l_Calls c_Calls k_Calls
  have b_Calls := F_Calls.binds (ps := pCalls) fun _ _ _ _ _ _ us hl => match us, hl with | [_, _], _ => rfl
  have F_First := fun_mk (st := sFirst) l_First c_First k_First
  have b_First := F_First.binds (ps := pFirst) fun _ _ _ _ _ _ us hl => match us, hl with | [_, _], _ => rfl
  have F_Gap := fun_mk (st := sGap) l_Gap c_Gap k_Gap
  have b_Gap := F_Gap.binds (ps := pGap) fun _ _ _ _ _ _ us hl => match us, hl with | [_, _], _ => rfl
  have F_Tabl := fun_mk (st := sTabl) l_Tabl c_Tabl k_Tabl
  have b_Tabl := F_Tabl.binds (ps := pTabl) fun _ _ _ _ _ _ us hl => match us, hl with | [_, _, _, _], _ => rfl
  have F_Told := fun_mk (st := sTold) l_Told c_Told k_Told
  have b_Told := F_Told.binds (ps := pTold) fun _ _ _ _ _ _ us hl => match us, hl with | [_, _], _ => rfl
  have F_Col := fun_mk (st := sCol) l_Col c_Col k_Col
  have b_Col := F_Col.binds (ps := pCol) fun _ _ _ _ _ _ us hl => match us, hl with | [_], _ => rfl
  have F_Rows := fun_mk (st := sRows) l_Rows c_Rows k_Rows
  have b_Rows := F_Rows.binds (ps := pRows) fun _ _ _ _ _ _ us hl => match us, hl with | [_, _], _ => rfl
  have F_Size := fun_mk (st := sSize) l_Size c_Size k_Size
  have b_Size := F_Size.binds (ps := pSize) fun _ _ _ _ _ _ us hl => match us, hl with | [_], _ => rfl
  have F_Right := fun_mk (st := sRight) l_Right c_Right k_Right
  have b_Right := F_Right.binds (ps := pRight) fun _ _ _ _ _ _ us hl => match us, hl with | [_], _ => rfl
  have F_Law := fun_mk (st := sLaw) l_Law c_Law k_Law
  have b_Law := F_Law.binds (ps := pLaw) fun _ _ _ _ _ _ us hl => match us, hl with | [_], _ => rfl
  have ie_Effect : PySem.W.kitOne K (.ref C_Effect) (.ref C_Effect) = some true := by
    unfold PySem.W.kitOne
    simp
  have cl_Effect : Cls K C_Effect := ⟨pg_Effect, hd_Effect, po_Effect, sa_Effect⟩
  have F_Effect_init : FunD K "__init__" "Effect.__init__" (defArgs sEInit) (defBody sEInit) (defScope sEInit) [V.ref e0_Effect_init, V.int 0, V.ref e2_Effect_init] [] f_Effect_init (PySem.W.fnOf "__init__" "Effect.__init__" (defArgs sEInit) (defBody sEInit) (defScope sEInit) (.ref T_Effect_init) kV_Effect_init dc_Effect_init pm_Effect_init an_Effect_init cd_Effect_init ct_Effect_init) := ⟨⟨_, _, _, _, _, _, _, _, _, _, rfl, l_Effect_init, c_Effect_init, .inr ⟨by simp, T_Effect_init, oT_Effect_init, [.ref e0_Effect_init, .int 0 w1_Effect_init, .ref e2_Effect_init], nT_Effect_init, rfl, lT_Effect_init, oT_d_Effect_init, .cons rfl (.cons ⟨_, rfl⟩ (.cons rfl (.nil)))⟩, .inl rfl⟩, k_Effect_init⟩
  obtain ⟨ds0_Effect_init, v0_Effect_init, b0_Effect_init⟩ := F_Effect_init.binds1 (ps := pEInit) 1 0 (by simp) rfl fun _ _ _ _ _ _ _ us its hu hi => match us, its, hu, hi with | [_], [_, _, _], _, _ => ⟨_, rfl, rfl⟩
  obtain ⟨ds1_Effect_init, v1_Effect_init, b1_Effect_init⟩ := F_Effect_init.binds1 (ps := pEInit) 2 1 (by simp) rfl fun _ _ _ _ _ _ _ us its hu hi => match us, its, hu, hi with | [_, _], [_, _, _], _, _ => ⟨_, rfl, rfl⟩
  obtain ⟨ds2_Effect_init, v2_Effect_init, b2_Effect_init⟩ := F_Effect_init.binds1 (ps := pEInit) 3 2 (by simp) rfl fun _ _ _ _ _ _ _ us its hu hi => match us, its, hu, hi with | [_, _, _], [_, _, _], _, _ => ⟨_, rfl, rfl⟩
  obtain ⟨ds3_Effect_init, v3_Effect_init, b3_Effect_init⟩ := F_Effect_init.binds1 (ps := pEInit) 4 3 (by simp) rfl fun _ _ _ _ _ _ _ us its hu hi => match us, its, hu, hi with | [_, _, _, _], [_, _, _], _, _ => ⟨_, rfl, rfl⟩
  have F_Effect_table : FunS K "table" "Effect.table" sETab ["self"] "lengths" f_Effect_table := ⟨⟨_, _, _, _, _, _, _, _, _, _, l_Effect_table, c_Effect_table, StX.bind_star1 (B := fun us => bindArgs (PySem.W.fnOf "table" "Effect.table" (defArgs sETab) (defBody sETab) (defScope sETab) .none kV_Effect_table dc_Effect_table pm_Effect_table an_Effect_table cd_Effect_table ct_Effect_table) ⟨us, []⟩) (fun a => rfl) (fun a r rs => rfl)⟩, k_Effect_table⟩
  have F_Effect_getitem : FunD K "__getitem__" "Effect.__getitem__" (defArgs sEGet) (defBody sEGet) (defScope sEGet) [] [] f_Effect_getitem (PySem.W.fnOf "__getitem__" "Effect.__getitem__" (defArgs sEGet) (defBody sEGet) (defScope sEGet) .none kV_Effect_getitem dc_Effect_getitem pm_Effect_getitem an_Effect_getitem cd_Effect_getitem ct_Effect_getitem) := ⟨⟨_, _, _, _, _, _, _, _, _, _, rfl, l_Effect_getitem, c_Effect_getitem, .inl ⟨rfl, rfl⟩, .inl rfl⟩, k_Effect_getitem⟩
  have b_Effect_getitem : Binds K (PySem.W.fnOf "__getitem__" "Effect.__getitem__" (defArgs sEGet) (defBody sEGet) (defScope sEGet) .none kV_Effect_getitem dc_Effect_getitem pm_Effect_getitem an_Effect_getitem cd_Effect_getitem ct_Effect_getitem) pEGet [] := F_Effect_getitem.bindsN fun _ _ _ _ _ _ us hl => match us, hl with | [_, _], _ => rfl
  let T : TX K mg := {
    f_is_integer := f_IsInt
    fd_is_integer := PySem.W.fnOf "is_integer" "is_integer" (defArgs sIsInt) (defBody sIsInt) (defScope sIsInt) .none kV_IsInt dc_IsInt pm_IsInt an_IsInt cd_IsInt ct_IsInt
    d_is_integer := ⟨F_IsInt, PySem.W.mg_of X G a_IsInt, b_IsInt⟩
    f_is_name := f_IsName
    fd_is_name := PySem.W.fnOf "is_name" "is_name" (defArgs sIsName) (defBody sIsName) (defScope sIsName) .none kV_IsName dc_IsName pm_IsName an_IsName cd_IsName ct_IsName
    d_is_name := ⟨F_IsName, PySem.W.mg_of X G a_IsName, b_IsName⟩
    f_is_amount := f_IsAm
    fd_is_amount := PySem.W.fnOf "is_amount" "is_amount" (defArgs sIsAm) (defBody sIsAm) (defScope sIsAm) .none kV_IsAm dc_IsAm pm_IsAm an_IsAm cd_IsAm ct_IsAm
    d_is_amount := ⟨F_IsAm, PySem.W.mg_of X G a_IsAm, b_IsAm⟩
    f_check_names := f_ChNames
    fd_check_names := PySem.W.fnOf "check_names" "check_names" (defArgs sChNames) (defBody sChNames) (defScope sChNames) .none kV_ChNames dc_ChNames pm_ChNames an_ChNames cd_ChNames ct_ChNames
    d_check_names := ⟨F_ChNames, PySem.W.mg_of X G a_ChNames, b_ChNames⟩
    f_check_length := f_ChLen
    fd_check_length := PySem.W.fnOf "check_length" "check_length" (defArgs sChLen) (defBody sChLen) (defScope sChLen) .none kV_ChLen dc_ChLen pm_ChLen an_ChLen cd_ChLen ct_ChLen
    d_check_length := ⟨F_ChLen, PySem.W.mg_of X G a_ChLen, b_ChLen⟩
    f_first_alike := f_FstA
    fd_first_alike := PySem.W.fnOf "first_alike" "first_alike" (defArgs sFstA) (defBody sFstA) (defScope sFstA) .none kV_FstA dc_FstA pm_FstA an_FstA cd_FstA ct_FstA
    d_first_alike := ⟨F_FstA, PySem.W.mg_of X G a_FstA, b_FstA⟩
    f_check_undone_count := f_ChCnt
    fd_check_undone_count := PySem.W.fnOf "check_undone_count" "check_undone_count" (defArgs sChCnt) (defBody sChCnt) (defScope sChCnt) .none kV_ChCnt dc_ChCnt pm_ChCnt an_ChCnt cd_ChCnt ct_ChCnt
    d_check_undone_count := ⟨F_ChCnt, PySem.W.mg_of X G a_ChCnt, b_ChCnt⟩
    f_is_run := f_IsRun
    fd_is_run := PySem.W.fnOf "is_run" "is_run" (defArgs sIsRun) (defBody sIsRun) (defScope sIsRun) .none kV_IsRun dc_IsRun pm_IsRun an_IsRun cd_IsRun ct_IsRun
    d_is_run := ⟨F_IsRun, PySem.W.mg_of X G a_IsRun, b_IsRun⟩
    f_is_loss := f_IsLoss
    fd_is_loss := PySem.W.fnOf "is_loss" "is_loss" (defArgs sIsLoss) (defBody sIsLoss) (defScope sIsLoss) .none kV_IsLoss dc_IsLoss pm_IsLoss an_IsLoss cd_IsLoss ct_IsLoss
    d_is_loss := ⟨F_IsLoss, PySem.W.mg_of X G a_IsLoss, b_IsLoss⟩
    f_is_change := f_IsChg
    fd_is_change := PySem.W.fnOf "is_change" "is_change" (defArgs sIsChg) (defBody sIsChg) (defScope sIsChg) .none kV_IsChg dc_IsChg pm_IsChg an_IsChg cd_IsChg ct_IsChg
    d_is_change := ⟨F_IsChg, PySem.W.mg_of X G a_IsChg, b_IsChg⟩
    f_can_follow := f_CanF
    fd_can_follow := PySem.W.fnOf "can_follow" "can_follow" (defArgs sCanF) (defBody sCanF) (defScope sCanF) .none kV_CanF dc_CanF pm_CanF an_CanF cd_CanF ct_CanF
    d_can_follow := ⟨F_CanF, PySem.W.mg_of X G a_CanF, b_CanF⟩
    f_check_changes := f_ChChg
    fd_check_changes := PySem.W.fnOf "check_changes" "check_changes" (defArgs sChChg) (defBody sChChg) (defScope sChChg) .none kV_ChChg dc_ChChg pm_ChChg an_ChChg cd_ChChg ct_ChChg
    d_check_changes := ⟨F_ChChg, PySem.W.mg_of X G a_ChChg, b_ChChg⟩
    f_law_cell := f_Cell
    fd_law_cell := PySem.W.fnOf "_law_cell" "_law_cell" (defArgs sCell) (defBody sCell) (defScope sCell) .none kV_Cell dc_Cell pm_Cell an_Cell cd_Cell ct_Cell
    d_law_cell := ⟨F_Cell, PySem.W.mg_of X G a_Cell, b_Cell⟩
    f_law_pool := f_Pool
    fd_law_pool := PySem.W.fnOf "_law_pool" "_law_pool" (defArgs sPool) (defBody sPool) (defScope sPool) .none kV_Pool dc_Pool pm_Pool an_Pool cd_Pool ct_Pool
    d_law_pool := ⟨F_Pool, PySem.W.mg_of X G a_Pool, b_Pool⟩
    f_law_draw := f_Draw
    fd_law_draw := PySem.W.fnOf "_law_draw" "_law_draw" (defArgs sDraw) (defBody sDraw) (defScope sDraw) .none kV_Draw dc_Draw pm_Draw an_Draw cd_Draw ct_Draw
    d_law_draw := ⟨F_Draw, PySem.W.mg_of X G a_Draw, b_Draw⟩
    f_law_calls := f_Calls
    fd_law_calls := PySem.W.fnOf "_law_calls" "_law_calls" (defArgs sCalls) (defBody sCalls) (defScope sCalls) .none kV_Calls dc_Calls pm_Calls an_Calls cd_Calls ct_Calls
    d_law_calls := ⟨F_Calls, PySem.W.mg_of X G a_Calls, b_Calls⟩
    f_law_first := f_First
    fd_law_first := PySem.W.fnOf "_law_first" "_law_first" (defArgs sFirst) (defBody sFirst) (defScope sFirst) .none kV_First dc_First pm_First an_First cd_First ct_First
    d_law_first := ⟨F_First, PySem.W.mg_of X G a_First, b_First⟩
    f_law_gap := f_Gap
    fd_law_gap := PySem.W.fnOf "_law_gap" "_law_gap" (defArgs sGap) (defBody sGap) (defScope sGap) .none kV_Gap dc_Gap pm_Gap an_Gap cd_Gap ct_Gap
    d_law_gap := ⟨F_Gap, PySem.W.mg_of X G a_Gap, b_Gap⟩
    f_law_tabled := f_Tabl
    fd_law_tabled := PySem.W.fnOf "_law_tabled" "_law_tabled" (defArgs sTabl) (defBody sTabl) (defScope sTabl) .none kV_Tabl dc_Tabl pm_Tabl an_Tabl cd_Tabl ct_Tabl
    d_law_tabled := ⟨F_Tabl, PySem.W.mg_of X G a_Tabl, b_Tabl⟩
    f_law_told := f_Told
    fd_law_told := PySem.W.fnOf "_law_told" "_law_told" (defArgs sTold) (defBody sTold) (defScope sTold) .none kV_Told dc_Told pm_Told an_Told cd_Told ct_Told
    d_law_told := ⟨F_Told, PySem.W.mg_of X G a_Told, b_Told⟩
    f_law_column := f_Col
    fd_law_column := PySem.W.fnOf "_law_column" "_law_column" (defArgs sCol) (defBody sCol) (defScope sCol) .none kV_Col dc_Col pm_Col an_Col cd_Col ct_Col
    d_law_column := ⟨F_Col, PySem.W.mg_of X G a_Col, b_Col⟩
    f_law_rows := f_Rows
    fd_law_rows := PySem.W.fnOf "_law_rows" "_law_rows" (defArgs sRows) (defBody sRows) (defScope sRows) .none kV_Rows dc_Rows pm_Rows an_Rows cd_Rows ct_Rows
    d_law_rows := ⟨F_Rows, PySem.W.mg_of X G a_Rows, b_Rows⟩
    f_law_size := f_Size
    fd_law_size := PySem.W.fnOf "_law_size" "_law_size" (defArgs sSize) (defBody sSize) (defScope sSize) .none kV_Size dc_Size pm_Size an_Size cd_Size ct_Size
    d_law_size := ⟨F_Size, PySem.W.mg_of X G a_Size, b_Size⟩
    f_law_right := f_Right
    fd_law_right := PySem.W.fnOf "_law_right" "_law_right" (defArgs sRight) (defBody sRight) (defScope sRight) .none kV_Right dc_Right pm_Right an_Right cd_Right ct_Right
    d_law_right := ⟨F_Right, PySem.W.mg_of X G a_Right, b_Right⟩
    f_law := f_Law
    fd_law := PySem.W.fnOf "law" "law" (defArgs sLaw) (defBody sLaw) (defScope sLaw) .none kV_Law dc_Law pm_Law an_Law cd_Law ct_Law
    d_law := ⟨F_Law, PySem.W.mg_of X G a_Law, b_Law⟩
    abs := PySem.W.mg_none_of X G z_abs
    all := PySem.W.mg_none_of X G z_all
    bool := PySem.W.mg_none_of X G z_bool
    divmod := PySem.W.mg_none_of X G z_divmod
    enumerate := PySem.W.mg_none_of X G z_enumerate
    int := PySem.W.mg_none_of X G z_int
    isinstance := PySem.W.mg_none_of X G z_isinstance
    len := PySem.W.mg_none_of X G z_len
    list := PySem.W.mg_none_of X G z_list
    max := PySem.W.mg_none_of X G z_max
    min := PySem.W.mg_none_of X G z_min
    range := PySem.W.mg_none_of X G z_range
    str := PySem.W.mg_none_of X G z_str
    tuple := PySem.W.mg_none_of X G z_tuple
    mLONGEST_NAME := ⟨_, PySem.W.mg_of X G a_LONGEST_NAME⟩
    C_Effect := C_Effect
    m_Effect := PySem.W.mg_of X G aC_Effect
    cl_Effect := cl_Effect
    is_Effect := ⟨cl_Effect, ia_Effect, in_Effect, it_Effect, im_Effect, ie_Effect⟩
    n_Effect_new_names := n_Effect_new_names
    n_Effect_undone_count := n_Effect_undone_count
    n_Effect_changes := n_Effect_changes
    f_Effect_init := f_Effect_init
    fd_Effect_init := PySem.W.fnOf "__init__" "Effect.__init__" (defArgs sEInit) (defBody sEInit) (defScope sEInit) (.ref T_Effect_init) kV_Effect_init dc_Effect_init pm_Effect_init an_Effect_init cd_Effect_init ct_Effect_init
    F_Effect_init := F_Effect_init
    e0_Effect_init := e0_Effect_init
    t0_Effect_init := fun H => .inr ⟨_, _, _, le0_Effect_init, ce0_Effect_init, de0_Effect_init, Nat.zero_le _, .nil⟩
    e2_Effect_init := e2_Effect_init
    t2_Effect_init := fun H => .inr ⟨_, _, _, le2_Effect_init, ce2_Effect_init, de2_Effect_init, Nat.zero_le _, .nil⟩
    ds0_Effect_init := ds0_Effect_init
    v0_Effect_init := v0_Effect_init
    b0_Effect_init := b0_Effect_init
    ds1_Effect_init := ds1_Effect_init
    v1_Effect_init := v1_Effect_init
    b1_Effect_init := b1_Effect_init
    ds2_Effect_init := ds2_Effect_init
    v2_Effect_init := v2_Effect_init
    b2_Effect_init := b2_Effect_init
    ds3_Effect_init := ds3_Effect_init
    v3_Effect_init := v3_Effect_init
    b3_Effect_init := b3_Effect_init
    mk_Effect := ⟨mk_Effect, ai_Effect_init, ii_Effect_init, kc_Effect⟩
    f_Effect_table := f_Effect_table
    F_Effect_table := F_Effect_table
    me_Effect_table := ⟨me_Effect_table, mi_Effect_table, k_Effect_table⟩
    f_Effect_getitem := f_Effect_getitem
    fd_Effect_getitem := PySem.W.fnOf "__getitem__" "Effect.__getitem__" (defArgs sEGet) (defBody sEGet) (defScope sEGet) .none kV_Effect_getitem dc_Effect_getitem pm_Effect_getitem an_Effect_getitem cd_Effect_getitem ct_Effect_getitem
    F_Effect_getitem := F_Effect_getitem
    b_Effect_getitem := b_Effect_getitem
    it_Effect := ⟨me_Effect_getitem, mi_Effect_getitem, fi_Effect_getitem⟩ }
  exact ⟨PySem.W.fnOf "law" "law" (defArgs sLaw) (defBody sLaw) (defScope sLaw) .none kV_Law dc_Law pm_Law an_Law cd_Law ct_Law, fun s v => .of_eq rfl, fun base _ _ => ok_law (P := l.prog) (w := w) (base := base) T⟩

end Und
open PySem PySem.W PyProof.Rows
set_option maxHeartbeats 0 in
theorem PySem.Challenge.cw_undotables_k29_tables_holds : PySem.Challenge.rw_undotables_k29_tables.Holds := by
  w_on
  o_law
  refine PySem.W.holds_open (q := HdU.QQ) (loose := HdU.lo) (XP := PySem.W.XL HdU.QQ [])
    (YP := (PySem.W.kHook HdU.KK HdU.KA HdU.eKA).says)
    HdU.left (PySem.W.kHook HdU.KK HdU.KA HdU.eKA).of (PySem.W.kHook HdU.KK HdU.KA HdU.eKA).keeps
    (fun s e => PySem.W.xl_of s (Bool.and_eq_true_iff.mp e).1) PySem.W.XL.keeps
    (by rfl) (by rfl) (by rfl)
    (fun s e => PySem.W.recFacts_of (Bool.and_eq_true_iff.mp e).2) (by rfl)
    (by first | assumption | decide +kernel) (by decide +kernel)
    ⟨rfl, rfl, rfl, rfl, rfl, by decide +kernel⟩ ?hw ?hc
  case hw => w_witness2
  k_fill
  refine L2.walk_ofB (l := PySem.Challenge.rw_undotables_k29_tables) (n := 63) (k := 12) (x := "_law_script") (CX := fun _ => L2.CX0) (sp := fun w => Und.spLaw _) rfl (by decide) rfl ⟨rfl, by decide, by decide⟩ (fun w h Y => PySem.W.kIn_of Y) ?F (fun _ _ a ns hl hb _ hS => ⟨a, ns, rfl, hS, hl, fun _ => rfl⟩) (fun _ _ _ _ _ h => h)
  case F =>
    intro w mg fa h KX G hmg
    refine' Und.all_mk KX G hmg ?a_IsInt ?l_IsInt ?c_IsInt ?k_IsInt ?a_IsName ?l_IsName ?c_IsName ?k_IsName ?a_IsAm ?l_IsAm ?c_IsAm ?k_IsAm ?a_ChNames ?l_ChNames ?c_ChNames ?k_ChNames ?a_ChLen ?l_ChLen ?c_ChLen ?k_ChLen ?a_FstA ?l_FstA ?c_FstA ?k_FstA ?a_ChCnt ?l_ChCnt ?c_ChCnt ?k_ChCnt ?a_IsRun ?l_IsRun ?c_IsRun ?k_IsRun ?a_IsLoss ?l_IsLoss ?c_IsLoss ?k_IsLoss ?a_IsChg ?l_IsChg ?c_IsChg ?k_IsChg ?a_CanF ?l_CanF ?c_CanF ?k_CanF ?a_ChChg ?l_ChChg ?c_ChChg ?k_ChChg ?a_Cell ?l_Cell ?c_Cell ?k_Cell ?a_Pool ?l_Pool ?c_Pool ?k_Pool ?a_Draw ?l_Draw ?c_Draw ?k_Draw ?a_Calls ?l_Calls ?c_Calls ?k_Calls ?a_First ?l_First ?c_First ?k_First ?a_Gap ?l_Gap ?c_Gap ?k_Gap ?a_Tabl ?l_Tabl ?c_Tabl ?k_Tabl ?a_Told ?l_Told ?c_Told ?k_Told ?a_Col ?l_Col ?c_Col ?k_Col ?a_Rows ?l_Rows ?c_Rows ?k_Rows ?a_Size ?l_Size ?c_Size ?k_Size ?a_Right ?l_Right ?c_Right ?k_Right ?a_Law ?l_Law ?c_Law ?k_Law ?z_abs ?z_all ?z_bool ?z_divmod ?z_enumerate ?z_int ?z_isinstance ?z_len ?z_list ?z_max ?z_min ?z_range ?z_str ?z_tuple ?a_LONGEST_NAME ?aC_Effect ?pg_Effect ?hd_Effect ?po_Effect ?sa_Effect ?mk_Effect ?kc_Effect ?ia_Effect ?in_Effect ?it_Effect ?im_Effect ?n_Effect_new_names ?n_Effect_undone_count ?n_Effect_changes ?ai_Effect_init ?l_Effect_init ?c_Effect_init ?k_Effect_init ?lT_Effect_init ?oT_d_Effect_init ?le0_Effect_init ?ce0_Effect_init ?de0_Effect_init ?le2_Effect_init ?ce2_Effect_init ?de2_Effect_init ?ii_Effect_init ?me_Effect_table ?l_Effect_table ?c_Effect_table ?k_Effect_table ?mi_Effect_table ?me_Effect_getitem ?l_Effect_getitem ?c_Effect_getitem ?k_Effect_getitem ?mi_Effect_getitem ?fi_Effect_getitem
    (case a_IsInt => k_is)
    (case l_IsInt => k_is)
    (case c_IsInt => k_is)
    (case k_IsInt => k_is)
    (case a_IsName => k_is)
    (case l_IsName => k_is)
    (case c_IsName => k_is)
    (case k_IsName => k_is)
    (case a_IsAm => k_is)
    (case l_IsAm => k_is)
    (case c_IsAm => k_is)
    (case k_IsAm => k_is)
    (case a_ChNames => k_is)
    (case l_ChNames => k_is)
    (case c_ChNames => k_is)
    (case k_ChNames => k_is)
    (case a_ChLen => k_is)
    (case l_ChLen => k_is)
    (case c_ChLen => k_is)
    (case k_ChLen => k_is)
    (case a_FstA => k_is)
    (case l_FstA => k_is)
    (case c_FstA => k_is)
    (case k_FstA => k_is)
    (case a_ChCnt => k_is)
    (case l_ChCnt => k_is)
    (case c_ChCnt => k_is)
    (case k_ChCnt => k_is)
    (case a_IsRun => k_is)
    (case l_IsRun => k_is)
    (case c_IsRun => k_is)
    (case k_IsRun => k_is)
    (case a_IsLoss => k_is)
    (case l_IsLoss => k_is)
    (case c_IsLoss => k_is)
    (case k_IsLoss => k_is)
    (case a_IsChg => k_is)
    (case l_IsChg => k_is)
    (case c_IsChg => k_is)
    (case k_IsChg => k_is)
    (case a_CanF => k_is)
    (case l_CanF => k_is)
    (case c_CanF => k_is)
    (case k_CanF => k_is)
    (case a_ChChg => k_is)
    (case l_ChChg => k_is)
    (case c_ChChg => k_is)
    (case k_ChChg => k_is)
    (case a_Cell => k_is)
    (case l_Cell => k_is)
    (case c_Cell => k_is)
    (case k_Cell => k_is)
    (case a_Pool => k_is)
    (case l_Pool => k_is)
    (case c_Pool => k_is)
    (case k_Pool => k_is)
    (case a_Draw => k_is)
    (case l_Draw => k_is)
    (case c_Draw => k_is)
    (case k_Draw => k_is)
    (case a_Calls => k_is)
    (case l_Calls => k_is)
    (case c_Calls => k_is)
    (case k_Calls => k_is)
    (case a_First => k_is)
    (case l_First => k_is)
    (case c_First => k_is)
    (case k_First => k_is)
    (case a_Gap => k_is)
    (case l_Gap => k_is)
    (case c_Gap => k_is)
    (case k_Gap => k_is)
    (case a_Tabl => k_is)
    (case l_Tabl => k_is)
    (case c_Tabl => k_is)
    (case k_Tabl => k_is)
    (case a_Told => k_is)
    (case l_Told => k_is)
    (case c_Told => k_is)
    (case k_Told => k_is)
    (case a_Col => k_is)
    (case l_Col => k_is)
    (case c_Col => k_is)
    (case k_Col => k_is)
    (case a_Rows => k_is)
    (case l_Rows => k_is)
    (case c_Rows => k_is)
    (case k_Rows => k_is)
    (case a_Size => k_is)
    (case l_Size => k_is)
    (case c_Size => k_is)
    (case k_Size => k_is)
    (case a_Right => k_is)
    (case l_Right => k_is)
    (case c_Right => k_is)
    (case k_Right => k_is)
    (case a_Law => k_is)
    (case l_Law => k_is)
    (case c_Law => k_is)
    (case k_Law => k_is)
    (case z_abs => k_is)
    (case z_all => k_is)
    (case z_bool => k_is)
    (case z_divmod => k_is)
    (case z_enumerate => k_is)
    (case z_int => k_is)
    (case z_isinstance => k_is)
    (case z_len => k_is)
    (case z_list => k_is)
    (case z_max => k_is)
    (case z_min => k_is)
    (case z_range => k_is)
    (case z_str => k_is)
    (case z_tuple => k_is)
    (case a_LONGEST_NAME => k_is)
    (case aC_Effect => k_is)
    (case pg_Effect => k_is)
    (case hd_Effect => k_is)
    (case po_Effect => k_is)
    (case sa_Effect => k_is)
    (case mk_Effect => k_is)
    (case kc_Effect => k_is)
    (case ia_Effect => k_is)
    (case in_Effect => k_is)
    (case it_Effect => k_is)
    (case im_Effect => k_is)
    (case n_Effect_new_names => k_is)
    (case n_Effect_undone_count => k_is)
    (case n_Effect_changes => k_is)
    (case ai_Effect_init => k_is)
    (case l_Effect_init => k_is)
    (case c_Effect_init => k_is)
    (case k_Effect_init => k_is)
    (case lT_Effect_init => k_is)
    (case oT_d_Effect_init => rfl)
    (case le0_Effect_init => k_is)
    (case ce0_Effect_init => rfl)
    (case de0_Effect_init => rfl)
    (case le2_Effect_init => k_is)
    (case ce2_Effect_init => rfl)
    (case de2_Effect_init => rfl)
    (case ii_Effect_init => k_is)
    (case me_Effect_table => k_is)
    (case l_Effect_table => k_is)
    (case c_Effect_table => k_is)
    (case k_Effect_table => k_is)
    (case mi_Effect_table => k_is)
    (case me_Effect_getitem => k_is)
    (case l_Effect_getitem => k_is)
    (case c_Effect_getitem => k_is)
    (case k_Effect_getitem => k_is)
    (case mi_Effect_getitem => k_is)
    (case fi_Effect_getitem => k_is)
